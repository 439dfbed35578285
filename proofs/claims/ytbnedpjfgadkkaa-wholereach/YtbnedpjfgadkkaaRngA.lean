/-
  rng: Mix, as the program and as the document has it.
-/
import Derived.Test.YtbnedpjfgadkkaaRows
import Derived.Test.YtbnedpjfgadkkaaLBase
import Derived.Test.YtbnedpjfgadkkaaLPh
import Derived.Test.YtbnedpjfgadkkaaRngM
import Derived.Laws.BitsAllLaws
namespace Go.Proofs.Ytbnedpjfgadkkaa
open Go.RowKit
set_option linter.unusedVariables false

theorem xsh_bits {z : Nat} (k : Nat) (h : z < 18446744073709551616) {p : Int} (hp : p = ((2 ^ k : Nat) : Int)) : bits BinOp.xor IntKind.u64 (z : Int) ((z : Int) / p) = ((xsh z k : Nat) : Int) := by
  subst hp
  have h2 : z / 2 ^ k < 18446744073709551616 := Nat.lt_of_le_of_lt (Nat.div_le_self _ _) h
  have e := u64_xor_nat z (z / 2 ^ k) h h2
  have e2 : ((z / 2 ^ k : Nat) : Int) = (z : Int) / ((2 ^ k : Nat) : Int) := by simp
  rw [e2] at e
  exact e

theorem mul_wrap (a c : Nat) {q : Int} (hq : q = (c : Int)) : IntKind.u64.wrap ((a : Int) * q) = ((mul64 a c : Nat) : Int) := by
  subst hq
  rw [IntKind.wrap_u64]
  unfold mul64
  simp

set_option maxRecDepth 100000 in
set_option maxHeartbeats 1000000 in
/-- MIX. -/
theorem mix_any (z : Nat) (hz : z < 18446744073709551616) (w : World) : Calls Try.prog 38 #[.int .u64 z] w fun e w' => e = .returned (.int .u64 (mix z : Nat)) ∧ w' = w := by
  have a1 := xsh_bits 30 hz (p := 1073741824) (by decide)
  have l1 := xsh_lt 30 hz
  have a2 := mul_wrap (xsh z 30) 13787848793156543929 (q := 13787848793156543929) rfl
  have l2 := mul64_lt (xsh z 30) 13787848793156543929
  have a3 := xsh_bits 27 l2 (p := 134217728) (by decide)
  have l3 := xsh_lt 27 l2
  have a4 := mul_wrap (xsh (mul64 (xsh z 30) 13787848793156543929) 27) 10723151780598845931 (q := 10723151780598845931) rfl
  have l4 := mul64_lt (xsh (mul64 (xsh z 30) 13787848793156543929) 27) 10723151780598845931
  have a5 := xsh_bits 31 l4 (p := 2147483648) (by decide)
  have hm : Hid (mix z = xsh (mul64 (xsh (mul64 (xsh z 30) 13787848793156543929) 27) 10723151780598845931) 31) := rfl
  generalize xsh z 30 = x1 at *
  generalize mul64 x1 13787848793156543929 = x2 at *
  generalize xsh x2 27 = x3 at *
  generalize mul64 x3 10723151780598845931 = x4 at *
  generalize xsh x4 31 = x5 at *
  rw [hm.out]
  clear hm
  go_enter Try.func38, Try.ntmps38
  go_wp2
  go_ret
  exact ⟨rfl, rfl⟩

set_option maxRecDepth 100000 in
set_option maxHeartbeats 1000000 in
/-- The document's Mix. -/
theorem rmix_any (z : Nat) (hz : z < 18446744073709551616) (w : World) : Calls Try.prog 44 #[.int .u64 z] w fun e w' => e = .returned (.int .u64 (mix z : Nat)) ∧ w' = w := by
  have a1 := xsh_bits 30 hz (p := 1073741824) (by decide)
  have l1 := xsh_lt 30 hz
  have a2 := mul_wrap (xsh z 30) 13787848793156543929 (q := 13787848793156543929) rfl
  have l2 := mul64_lt (xsh z 30) 13787848793156543929
  have a3 := xsh_bits 27 l2 (p := 134217728) (by decide)
  have l3 := xsh_lt 27 l2
  have a4 := mul_wrap (xsh (mul64 (xsh z 30) 13787848793156543929) 27) 10723151780598845931 (q := 10723151780598845931) rfl
  have l4 := mul64_lt (xsh (mul64 (xsh z 30) 13787848793156543929) 27) 10723151780598845931
  have a5 := xsh_bits 31 l4 (p := 2147483648) (by decide)
  have hm : Hid (mix z = xsh (mul64 (xsh (mul64 (xsh z 30) 13787848793156543929) 27) 10723151780598845931) 31) := rfl
  generalize xsh z 30 = x1 at *
  generalize mul64 x1 13787848793156543929 = x2 at *
  generalize xsh x2 27 = x3 at *
  generalize mul64 x3 10723151780598845931 = x4 at *
  generalize xsh x4 31 = x5 at *
  rw [hm.out]
  clear hm
  go_enter Try.func44, Try.ntmps44
  go_wp2
  go_ret
  exact ⟨rfl, rfl⟩

/-- A Rand at a block, and its state. -/
structure IsRand (w : World) (r s : Nat) : Prop where
  cell : w.cell? ⟨r, 0, none⟩ = some (.int .u64 (s : Int))
  fz : w.frozen? ⟨r, 0, none⟩ = false
  lt : s < 18446744073709551616

theorem IsRand.kept {w w' : World} {r s : Nat} (h : IsRand w r s) (hk : w'.heap[r]? = w.heap[r]?) : IsRand w' r s :=
  ⟨(World.cell?_of_block (a := ⟨r, 0, none⟩) hk).trans h.cell, (World.frozen?_of_block (a := ⟨r, 0, none⟩) hk).trans h.fz, h.lt⟩
theorem IsRand.below {w w' : World} {r s : Nat} (h : IsRand w r s) (hb : Below w.heap.size w w') : IsRand w' r s := h.kept (hb.block r (cell_block_lt h.cell))
theorem IsRand.keeps {w w' : World} {r s : Nat} {S : Nat → Prop} (h : IsRand w r s) (hb : KeepsBut S w w') (hS : ¬ S r) : IsRand w' r s := h.kept (hb.block r (cell_block_lt h.cell) hS)
theorem IsRand.set {w : World} {r s : Nat} (h : IsRand w r s) {t : Nat} (ht : t < 18446744073709551616) : IsRand (w.setCell ⟨r, 0, none⟩ (.int .u64 (t : Int))) r t :=
  ⟨World.cell?_setCell_same w _ _ h.cell, by have := h.fz; simpa using this, ht⟩

theorem addS_wrap (s : Nat) : IntKind.u64.wrap ((s : Int) + 11400714819323198485) = ((addS s : Nat) : Int) := by
  rw [IntKind.wrap_u64]
  unfold addS
  omega

set_option maxRecDepth 100000 in
set_option maxHeartbeats 1000000 in
/-- NEXT. -/
theorem rnd_next (r s : Nat) (w : World) (h : IsRand w r s) :
    Calls Try.prog 28 #[.pointer (some ⟨r, 0, none⟩)] w fun e w' => e = .returned (.int .u64 (mix (addS s) : Nat)) ∧ IsRand w' r (addS s) ∧ KeepsBut (fun k => k = r) w w' ∧ w'.heap.size = w.heap.size := by
  have hc := h.cell
  have hf := h.fz
  have a1 := addS_wrap s
  have R : Hid (IsRand (w.setCell ⟨r, 0, none⟩ (.int .u64 (addS s : Nat))) r (addS s)) := h.set (addS_lt s)
  have K : Hid (KeepsBut (fun k => k = r) w (w.setCell ⟨r, 0, none⟩ (.int .u64 (addS s : Nat)))) := KeepsBut.setCell _ _ _ _ rfl
  have HM : Hid (∀ W, Calls Try.prog 38 #[.int .u64 (addS s : Nat)] W fun e w' => e = .returned (.int .u64 (mix (addS s) : Nat)) ∧ w' = W) := fun W => mix_any _ (addS_lt s) W
  have hc2 := R.out.cell
  clear h
  generalize addS s = t at *
  go_enter Try.func28, Try.ntmps28
  go_wp2_with fail
  refine (HM.out _).mono ?_
  rintro e w1 ⟨rfl, rfl⟩
  go_wp2
  go_ret
  exact ⟨rfl, R.out, K.out, by simp [World.setCell]⟩

set_option maxRecDepth 100000 in
set_option maxHeartbeats 1000000 in
/-- The document's Next. -/
theorem rref_next (s : Nat) (w : World) :
    Calls Try.prog 30 #[.int .u64 s] w fun e w' => e = .returned (.tuple #[.int .u64 (addS s : Nat), .int .u64 (mix (addS s) : Nat)]) ∧ w' = w := by
  have a1 := addS_wrap s
  have HM : Hid (∀ W, Calls Try.prog 44 #[.int .u64 (addS s : Nat)] W fun e w' => e = .returned (.int .u64 (mix (addS s) : Nat)) ∧ w' = W) := fun W => rmix_any _ (addS_lt s) W
  generalize addS s = t at *
  go_enter Try.func30, Try.ntmps30
  go_wp2_with fail
  refine (HM.out _).mono ?_
  rintro e w1 ⟨rfl, rfl⟩
  go_wp2
  go_ret2
  exact ⟨rfl, rfl⟩

/-- Whole numbers of 64 bits in a slice. -/
def uv (x : Nat) : Value := .int .u64 (x : Int)
def Us (w : World) (v : Value) (l : List Nat) : Prop := Sl 1 w v l.length (l.map uv) ∧ ∀ x ∈ l, x < 18446744073709551616

theorem Us.below {w w' : World} {v : Value} {l : List Nat} (h : Us w v l) (hb : Below w.heap.size w w') : Us w' v l := ⟨Sl.below h.1 hb, h.2⟩

theorem map_uv_at (l : List Nat) (j : Nat) (h : j < l.length) : (l.map uv)[j]? = some (.int .u64 (l[j] : Int)) := by
  simp [h, uv]

theorem seed_next {l : List Nat} {k x : Nat} (hk : k < l.length) (hx : l[k] = x) : seedTo 0 (l.take (k + 1)) = seedStep (seedTo 0 (l.take k)) x := by
  rw [List.take_succ_eq_append_getElem hk, hx]
  exact foldl_snoc _ _ _ _

theorem seed_xor (s x : Nat) (hx : x < 18446744073709551616) : bits BinOp.xor IntKind.u64 ((addS s : Nat) : Int) (x : Int) = ((addS s ^^^ x : Nat) : Int) := u64_xor_nat _ _ (addS_lt s) hx
theorem seed_mix (s x : Nat) : mix (addS s ^^^ x) = seedStep s x := rfl
theorem seed_xor_lt (s x : Nat) (hx : x < 18446744073709551616) : addS s ^^^ x < 18446744073709551616 := Nat.xor_lt_two_pow (n := 64) (addS_lt s) hx

theorem rand_new (w : World) (t : TypeId) : IsRand (w.alloc (.cells #[.int .u64 0] t)) w.heap.size 0 := ⟨by simp, by simp, by decide⟩

end Go.Proofs.Ytbnedpjfgadkkaa
