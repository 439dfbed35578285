/-
  Texts that lie together: RngM RngA RngB RngC RngD RngS.
-/
import Derived.Test.YtkckbeekehecnaaGreatRows
import Derived.Test.YtkckbeekehecnaaGreatZBase
import Derived.Laws.BitsAllLaws
import Derived.Deep.CutRange
namespace Go.Proofs.YtkckbeekehecnaaGreat

section
/-
  Mixing numbers of 64 bits: mathematics.
-/

/-- A number put upon itself, shifted down. -/
def xsh (z k : Nat) : Nat := z ^^^ (z / 2 ^ k)
def mul64 (a c : Nat) : Nat := a * c % 18446744073709551616
def mix (z : Nat) : Nat := xsh (mul64 (xsh (mul64 (xsh z 30) 13787848793156543929) 27) 10723151780598845931) 31
def addS (s : Nat) : Nat := (s + 11400714819323198485) % 18446744073709551616

theorem xsh_lt {z : Nat} (k : Nat) (h : z < 18446744073709551616) : xsh z k < 18446744073709551616 := by
  have h2 : z / 2 ^ k < 2 ^ 64 := Nat.lt_of_le_of_lt (Nat.div_le_self _ _) h
  exact Nat.xor_lt_two_pow (n := 64) h h2

theorem mul64_lt (a c : Nat) : mul64 a c < 18446744073709551616 := Nat.mod_lt _ (by decide)
theorem mix_lt {z : Nat} : mix z < 18446744073709551616 := xsh_lt _ (mul64_lt _ _)
theorem addS_lt (s : Nat) : addS s < 18446744073709551616 := Nat.mod_lt _ (by decide)

/-- By each seed the state is another one. -/
def seedStep (s x : Nat) : Nat := mix (addS s ^^^ x)
def seedTo (s : Nat) (l : List Nat) : Nat := l.foldl seedStep s

theorem foldl_snoc {α β : Type} (f : β → α → β) (s : β) (l : List α) (x : α) : (l ++ [x]).foldl f s = f (l.foldl f s) x := by simp

theorem seedTo_lt {s : Nat} (h : s < 18446744073709551616) (l : List Nat) : seedTo s l < 18446744073709551616 := by
  induction l generalizing s with
  | nil => exact h
  | cons x l ih => exact ih mix_lt

theorem xsh_inj {x y : Nat} (k : Nat) (hk : 22 ≤ k) (hx : x < 2 ^ 64) (hy : y < 2 ^ 64) (h : xsh x k = xsh y k) : x = y := by
  have key : ∀ d : BitVec 64, d = d >>> k → d = 0#64 := by
    intro d hd
    have e : d = ((d >>> k) >>> k) >>> k := by rw [← hd, ← hd, ← hd]
    rw [e]
    apply BitVec.eq_of_getLsbD_eq
    intro i hi
    simp
    apply BitVec.getLsbD_of_ge
    omega
  have hb : BitVec.ofNat 64 x ^^^ BitVec.ofNat 64 x >>> k = BitVec.ofNat 64 y ^^^ BitVec.ofNat 64 y >>> k := by
    apply BitVec.eq_of_toNat_eq
    simp only [BitVec.toNat_xor, BitVec.toNat_ushiftRight, BitVec.toNat_ofNat, Nat.shiftRight_eq_div_pow]
    rw [Nat.mod_eq_of_lt hx, Nat.mod_eq_of_lt hy]
    exact h
  have hd : BitVec.ofNat 64 x ^^^ BitVec.ofNat 64 y = (BitVec.ofNat 64 x ^^^ BitVec.ofNat 64 y) >>> k := by
    generalize BitVec.ofNat 64 x = a at *
    generalize BitVec.ofNat 64 y = b at *
    rw [BitVec.ushiftRight_xor_distrib]
    have e1 : a ^^^ b = (a ^^^ a >>> k) ^^^ (b ^^^ a >>> k) := by
      apply BitVec.eq_of_getLsbD_eq
      intro i hi
      simp
      cases a.getLsbD (k + i) <;> cases b.getLsbD i <;> rfl
    rw [e1, hb]
    apply BitVec.eq_of_getLsbD_eq
    intro i hi
    simp
    cases a.getLsbD (k + i) <;> cases b.getLsbD i <;> cases b.getLsbD (k + i) <;> rfl
  have h0 := key _ hd
  have h1 : BitVec.ofNat 64 x = BitVec.ofNat 64 y := BitVec.xor_eq_zero_iff.1 h0
  have h2 := congrArg BitVec.toNat h1
  simp only [BitVec.toNat_ofNat, Nat.mod_eq_of_lt hx, Nat.mod_eq_of_lt hy] at h2
  exact h2

theorem mul_inj {x y c d : Nat} (hcd : c * d % 18446744073709551616 = 1) (hx : x < 18446744073709551616) (hy : y < 18446744073709551616) (h : mul64 x c = mul64 y c) : x = y := by
  have key : ∀ z, z < 18446744073709551616 → mul64 z c * d % 18446744073709551616 = z := by
    intro z hz
    unfold mul64
    rw [Nat.mod_mul_mod, Nat.mul_assoc, Nat.mul_mod, hcd, Nat.mul_one, Nat.mod_mod, Nat.mod_eq_of_lt hz]
  rw [← key x hx, ← key y hy, h]

theorem mix_inj {x y : Nat} (hx : x < 18446744073709551616) (hy : y < 18446744073709551616) (h : mix x = mix y) : x = y := by
  unfold mix at h
  have h1 := xsh_inj 31 (by decide) (mul64_lt _ _) (mul64_lt _ _) h
  have h2 := mul_inj (d := 3573116690164977347) (by decide) (xsh_lt _ (mul64_lt _ _)) (xsh_lt _ (mul64_lt _ _)) h1
  have h3 := xsh_inj 27 (by decide) (mul64_lt _ _) (mul64_lt _ _) h2
  have h4 := mul_inj (d := 10871156337175269513) (by decide) (xsh_lt _ hx) (xsh_lt _ hy) h3
  exact xsh_inj 30 (by decide) hx hy h4

end

section
/-
  rng: Mix, as the program and as the document has it.
-/
open Go.RowKit
set_option linter.unusedVariables false

theorem xsh_bits {z : Nat} (k : Nat) (h : z < 18446744073709551616) {p : Int} (hp : p = ((2 ^ k : Nat) : Int)) : bits BinOp.xor IntKind.u64 (z : Int) ((z : Int) / p) = ((xsh z k : Nat) : Int) := by
  subst hp
  have h2 : z / 2 ^ k < 18446744073709551616 := Nat.lt_of_le_of_lt (Nat.div_le_self _ _) h
  have e := u64_xor_nat z (z / 2 ^ k) h h2
  have e2 : ((z / 2 ^ k : Nat) : Int) = (z : Int) / ((2 ^ k : Nat) : Int) := by simp
  rw [e2] at e
  exact e

theorem mul_wrap (a c : Nat) {q : Int} (hq : q = (c : Int)) : IntKind.u64.wrap ((a : Int) * q) = ((mul64 a c : Nat) : Int) := by
  subst hq
  rw [IntKind.wrap_u64]
  unfold mul64
  simp

set_option maxRecDepth 100000 in
set_option maxHeartbeats 1000000 in
/-- MIX. -/
theorem mix_any (z : Nat) (hz : z < 18446744073709551616) (w : World) : Calls Tryz.prog 73 #[.int .u64 z] w fun e w' => e = .returned (.int .u64 (mix z : Nat)) ∧ w' = w := by
  have a1 := xsh_bits 30 hz (p := 1073741824) (by decide)
  have l1 := xsh_lt 30 hz
  have a2 := mul_wrap (xsh z 30) 13787848793156543929 (q := 13787848793156543929) rfl
  have l2 := mul64_lt (xsh z 30) 13787848793156543929
  have a3 := xsh_bits 27 l2 (p := 134217728) (by decide)
  have l3 := xsh_lt 27 l2
  have a4 := mul_wrap (xsh (mul64 (xsh z 30) 13787848793156543929) 27) 10723151780598845931 (q := 10723151780598845931) rfl
  have l4 := mul64_lt (xsh (mul64 (xsh z 30) 13787848793156543929) 27) 10723151780598845931
  have a5 := xsh_bits 31 l4 (p := 2147483648) (by decide)
  have hm : Hid (mix z = xsh (mul64 (xsh (mul64 (xsh z 30) 13787848793156543929) 27) 10723151780598845931) 31) := rfl
  generalize xsh z 30 = x1 at *
  generalize mul64 x1 13787848793156543929 = x2 at *
  generalize xsh x2 27 = x3 at *
  generalize mul64 x3 10723151780598845931 = x4 at *
  generalize xsh x4 31 = x5 at *
  rw [hm.out]
  clear hm
  go_enter Tryz.func73, Tryz.ntmps73
  go_wp2
  go_ret
  exact ⟨rfl, rfl⟩

set_option maxRecDepth 100000 in
set_option maxHeartbeats 1000000 in
/-- The document's Mix. -/
theorem rmix_any (z : Nat) (hz : z < 18446744073709551616) (w : World) : Calls Tryz.prog 51 #[.int .u64 z] w fun e w' => e = .returned (.int .u64 (mix z : Nat)) ∧ w' = w := by
  have a1 := xsh_bits 30 hz (p := 1073741824) (by decide)
  have l1 := xsh_lt 30 hz
  have a2 := mul_wrap (xsh z 30) 13787848793156543929 (q := 13787848793156543929) rfl
  have l2 := mul64_lt (xsh z 30) 13787848793156543929
  have a3 := xsh_bits 27 l2 (p := 134217728) (by decide)
  have l3 := xsh_lt 27 l2
  have a4 := mul_wrap (xsh (mul64 (xsh z 30) 13787848793156543929) 27) 10723151780598845931 (q := 10723151780598845931) rfl
  have l4 := mul64_lt (xsh (mul64 (xsh z 30) 13787848793156543929) 27) 10723151780598845931
  have a5 := xsh_bits 31 l4 (p := 2147483648) (by decide)
  have hm : Hid (mix z = xsh (mul64 (xsh (mul64 (xsh z 30) 13787848793156543929) 27) 10723151780598845931) 31) := rfl
  generalize xsh z 30 = x1 at *
  generalize mul64 x1 13787848793156543929 = x2 at *
  generalize xsh x2 27 = x3 at *
  generalize mul64 x3 10723151780598845931 = x4 at *
  generalize xsh x4 31 = x5 at *
  rw [hm.out]
  clear hm
  go_enter Tryz.func51, Tryz.ntmps51
  go_wp2
  go_ret
  exact ⟨rfl, rfl⟩

/-- A Rand at a block, and its state. -/
structure IsRand (w : World) (r s : Nat) : Prop where
  cell : w.cell? ⟨r, 0, none⟩ = some (.int .u64 (s : Int))
  fz : w.frozen? ⟨r, 0, none⟩ = false
  lt : s < 18446744073709551616

theorem IsRand.kept {w w' : World} {r s : Nat} (h : IsRand w r s) (hk : w'.heap[r]? = w.heap[r]?) : IsRand w' r s :=
  ⟨(World.cell?_of_block (a := ⟨r, 0, none⟩) hk).trans h.cell, (World.frozen?_of_block (a := ⟨r, 0, none⟩) hk).trans h.fz, h.lt⟩
theorem IsRand.below {w w' : World} {r s : Nat} (h : IsRand w r s) (hb : Below w.heap.size w w') : IsRand w' r s := h.kept (hb.block r (cell_block_lt h.cell))
theorem IsRand.keeps {w w' : World} {r s : Nat} {S : Nat → Prop} (h : IsRand w r s) (hb : KeepsBut S w w') (hS : ¬ S r) : IsRand w' r s := h.kept (hb.block r (cell_block_lt h.cell) hS)
theorem IsRand.set {w : World} {r s : Nat} (h : IsRand w r s) {t : Nat} (ht : t < 18446744073709551616) : IsRand (w.setCell ⟨r, 0, none⟩ (.int .u64 (t : Int))) r t :=
  ⟨World.cell?_setCell_same w _ _ h.cell, by have := h.fz; simpa using this, ht⟩

theorem addS_wrap (s : Nat) : IntKind.u64.wrap ((s : Int) + 11400714819323198485) = ((addS s : Nat) : Int) := by
  rw [IntKind.wrap_u64]
  unfold addS
  omega

set_option maxRecDepth 100000 in
set_option maxHeartbeats 1000000 in
/-- NEXT. -/
theorem rnd_next (r s : Nat) (w : World) (h : IsRand w r s) :
    Calls Tryz.prog 57 #[.pointer (some ⟨r, 0, none⟩)] w fun e w' => e = .returned (.int .u64 (mix (addS s) : Nat)) ∧ IsRand w' r (addS s) ∧ KeepsBut (fun k => k = r) w w' ∧ w'.heap.size = w.heap.size := by
  have hc := h.cell
  have hf := h.fz
  have a1 := addS_wrap s
  have R : Hid (IsRand (w.setCell ⟨r, 0, none⟩ (.int .u64 (addS s : Nat))) r (addS s)) := h.set (addS_lt s)
  have K : Hid (KeepsBut (fun k => k = r) w (w.setCell ⟨r, 0, none⟩ (.int .u64 (addS s : Nat)))) := KeepsBut.setCell _ _ _ _ rfl
  have HM : Hid (∀ W, Calls Tryz.prog 73 #[.int .u64 (addS s : Nat)] W fun e w' => e = .returned (.int .u64 (mix (addS s) : Nat)) ∧ w' = W) := fun W => mix_any _ (addS_lt s) W
  have hc2 := R.out.cell
  clear h
  generalize addS s = t at *
  go_enter Tryz.func57, Tryz.ntmps57
  go_wp2_with fail
  refine (HM.out _).mono ?_
  rintro e w1 ⟨rfl, rfl⟩
  go_wp2
  go_ret
  exact ⟨rfl, R.out, K.out, by simp [World.setCell]⟩

set_option maxRecDepth 100000 in
set_option maxHeartbeats 1000000 in
/-- The document's Next. -/
theorem rref_next (s : Nat) (w : World) :
    Calls Tryz.prog 26 #[.int .u64 s] w fun e w' => e = .returned (.tuple #[.int .u64 (addS s : Nat), .int .u64 (mix (addS s) : Nat)]) ∧ w' = w := by
  have a1 := addS_wrap s
  have HM : Hid (∀ W, Calls Tryz.prog 51 #[.int .u64 (addS s : Nat)] W fun e w' => e = .returned (.int .u64 (mix (addS s) : Nat)) ∧ w' = W) := fun W => rmix_any _ (addS_lt s) W
  generalize addS s = t at *
  go_enter Tryz.func26, Tryz.ntmps26
  go_wp2_with fail
  refine (HM.out _).mono ?_
  rintro e w1 ⟨rfl, rfl⟩
  go_wp2
  go_ret2
  exact ⟨rfl, rfl⟩

/-- Whole numbers of 64 bits in a slice. -/
def uv (x : Nat) : Value := .int .u64 (x : Int)
def Us (w : World) (v : Value) (l : List Nat) : Prop := Sl 1 w v l.length (l.map uv) ∧ ∀ x ∈ l, x < 18446744073709551616

theorem Us.below {w w' : World} {v : Value} {l : List Nat} (h : Us w v l) (hb : Below w.heap.size w w') : Us w' v l := ⟨Sl.below h.1 hb, h.2⟩

theorem map_uv_at (l : List Nat) (j : Nat) (h : j < l.length) : (l.map uv)[j]? = some (.int .u64 (l[j] : Int)) := by
  simp [h, uv]

theorem seed_next {l : List Nat} {k x : Nat} (hk : k < l.length) (hx : l[k] = x) : seedTo 0 (l.take (k + 1)) = seedStep (seedTo 0 (l.take k)) x := by
  rw [List.take_succ_eq_append_getElem hk, hx]
  exact foldl_snoc _ _ _ _

theorem seed_xor (s x : Nat) (hx : x < 18446744073709551616) : bits BinOp.xor IntKind.u64 ((addS s : Nat) : Int) (x : Int) = ((addS s ^^^ x : Nat) : Int) := u64_xor_nat _ _ (addS_lt s) hx
theorem seed_mix (s x : Nat) : mix (addS s ^^^ x) = seedStep s x := rfl
theorem seed_xor_lt (s x : Nat) (hx : x < 18446744073709551616) : addS s ^^^ x < 18446744073709551616 := Nat.xor_lt_two_pow (n := 64) (addS_lt s) hx

theorem rand_new (w : World) (t : TypeId) : IsRand (w.alloc (.cells #[.int .u64 0] t)) w.heap.size 0 := ⟨by simp, by simp, by decide⟩

end

section
/-
  rng: New and the document's Seed.
-/
open Go.RowKit
set_option linter.unusedVariables false

set_option maxRecDepth 100000 in
set_option maxHeartbeats 1000000 in
theorem rnew_some (b off cap : Nat) (l : List Nat) (w : World) (hlt : ∀ x ∈ l, x < 18446744073709551616) (hnc : l.length ≤ cap) (hcm : cap ≤ maxLen)
    (hcell : ∀ j u, (l.map uv)[j]? = some u → w.cell? ⟨b, off + j, none⟩ = some u) :
    Calls Tryz.prog 50 #[.slice (some ⟨b, off, none⟩) l.length cap] w fun e w' => e = .returned (.pointer (some ⟨w.heap.size, 0, none⟩)) ∧ IsRand w' w.heap.size (seedTo 0 l) ∧ Below w.heap.size w w' ∧ w'.heap.size = w.heap.size + 1 := by
  unfold maxLen at hcm
  obtain ⟨n, hn⟩ : ∃ n, l.length = n := ⟨_, rfl⟩
  have Hn : Hid (l.length = n) := hn
  have HC : Hid (∀ j u, (l.map uv)[j]? = some u → w.cell? ⟨b, off + j, none⟩ = some u) := hcell
  have HL : Hid (∀ x ∈ l, x < 18446744073709551616) := hlt
  rw [hn] at hnc ⊢
  clear hn hcell hlt
  go_enter Tryz.func50, Tryz.ntmps50
  go_wp2
  go_loopw [10] (fun i wr => ∃ (k : Nat), k ≤ n ∧ i = .int .i64 k ∧ IsRand wr w.heap.size (seedTo 0 (l.take k)) ∧ Below w.heap.size w wr ∧ wr.heap.size = w.heap.size + 1) (fun i _ => n - (intOf i).toNat)
  case atStart => exact ⟨0, by omega, rfl, rand_new _ _, below_alloc _ _, by simp⟩
  case round =>
    obtain ⟨k, hk, rfl, hr, hb, hs⟩ := hrel
    have HB : Hid (Below w.heap.size w wr ∧ wr.heap.size = w.heap.size + 1) := ⟨hb, hs⟩
    have HR : Hid (IsRand wr w.heap.size (seedTo 0 (l.take k))) := hr
    clear hr hb hs
    by_cases hlt : k < n
    · have hkl : k < l.length := by rw [Hn.out]; exact hlt
      obtain ⟨x, hx⟩ : ∃ x, l[k] = x := ⟨_, rfl⟩
      have hc0 := HC.out k _ (map_uv_at l k hkl)
      rw [hx] at hc0
      have hc := (HB.out.1.cell (cell_block_lt hc0)).trans hc0
      have hxl : Hid (x < 18446744073709551616) := HL.out x (hx ▸ List.getElem_mem hkl)
      have HN : Hid (seedTo 0 (l.take (k + 1)) = seedStep (seedTo 0 (l.take k)) x) := seed_next hkl hx
      have hcr := HR.out.cell
      have hfr := HR.out.fz
      have HS : Hid (∀ t : Nat, t < 18446744073709551616 → IsRand (wr.setCell ⟨w.heap.size, 0, none⟩ (.int .u64 (t : Int))) w.heap.size t) := fun t ht => HR.out.set ht
      clear hc0 hx HR
      generalize seedTo 0 (l.take k) = s at *
      have a1 := addS_wrap s
      have a2 := seed_xor s x hxl.out
      have HM : Hid (∀ W, Calls Tryz.prog 73 #[.int .u64 (addS s ^^^ x : Nat)] W fun e w' => e = .returned (.int .u64 (seedStep s x : Nat)) ∧ w' = W) := fun W => mix_any _ (seed_xor_lt s x hxl.out) W
      have HT : Hid (seedStep s x < 18446744073709551616) := mix_lt
      generalize seedStep s x = t at *
      generalize addS s ^^^ x = y at *
      generalize addS s = z at *
      go_wp2_with fail
      refine (HM.out _).mono ?_
      rintro e w1 ⟨rfl, rfl⟩
      go_wp2
      go_roundw
      case rel => exact ⟨k + 1, by omega, by go_num, by rw [HN.out]; exact HS.out t HT.out, HB.out.1.setCell (Nat.le_refl _) _, by simpa [World.setCell] using HB.out.2⟩
      case measure => simp [intOf]; omega
    · have hk2 : l.take k = l := List.take_of_length_le (by rw [Hn.out]; omega)
      rw [hk2] at HR
      go_wp2
      go_ret
      exact ⟨rfl, HR.out, HB.out⟩

set_option maxRecDepth 100000 in
set_option maxHeartbeats 1000000 in
theorem rnew_none (ao : Option Addr) (cap : Nat) (w : World) :
    Calls Tryz.prog 50 #[.slice ao 0 cap] w fun e w' => e = .returned (.pointer (some ⟨w.heap.size, 0, none⟩)) ∧ IsRand w' w.heap.size 0 ∧ Below w.heap.size w w' ∧ w'.heap.size = w.heap.size + 1 := by
  go_enter Tryz.func50, Tryz.ntmps50
  go_wp2
  go_loopw [10] (fun i wr => i = .int .i64 0 ∧ IsRand wr w.heap.size 0 ∧ Below w.heap.size w wr ∧ wr.heap.size = w.heap.size + 1) (fun i _ => 0)
  case atStart => exact ⟨rfl, rand_new _ _, below_alloc _ _, by simp⟩
  case round =>
    obtain ⟨rfl, hr, hb, hs⟩ := hrel
    have HR : Hid (IsRand wr w.heap.size 0 ∧ Below w.heap.size w wr ∧ wr.heap.size = w.heap.size + 1) := ⟨hr, hb, hs⟩
    clear hr hb hs
    go_wp2
    go_ret
    exact ⟨rfl, HR.out⟩

/-- NEW: of any seeds. -/
theorem rnew_any (v : Value) (l : List Nat) (w : World) (h : Us w v l) :
    Calls Tryz.prog 50 #[v] w fun e w' => e = .returned (.pointer (some ⟨w.heap.size, 0, none⟩)) ∧ IsRand w' w.heap.size (seedTo 0 l) ∧ Below w.heap.size w w' ∧ w'.heap.size = w.heap.size + 1 := by
  obtain ⟨⟨_, ao, cap, hv, h2, h3, _, h5⟩, hl⟩ := h
  subst hv
  rcases h5 with h0 | ⟨b, off, rfl, hc⟩
  · obtain rfl : l = [] := List.eq_nil_of_length_eq_zero h0
    exact rnew_none _ _ _
  · exact rnew_some b off cap l w hl h2 h3 hc

set_option maxRecDepth 100000 in
set_option maxHeartbeats 1000000 in
theorem rseed_some (b off cap : Nat) (l : List Nat) (w : World) (hlt : ∀ x ∈ l, x < 18446744073709551616) (hnc : l.length ≤ cap) (hcm : cap ≤ maxLen)
    (hcell : ∀ j u, (l.map uv)[j]? = some u → w.cell? ⟨b, off + j, none⟩ = some u) :
    Calls Tryz.prog 27 #[.slice (some ⟨b, off, none⟩) l.length cap] w fun e w' => e = .returned (.int .u64 (seedTo 0 l : Nat)) ∧ w' = w := by
  unfold maxLen at hcm
  obtain ⟨n, hn⟩ : ∃ n, l.length = n := ⟨_, rfl⟩
  have Hn : Hid (l.length = n) := hn
  have HC : Hid (∀ j u, (l.map uv)[j]? = some u → w.cell? ⟨b, off + j, none⟩ = some u) := hcell
  have HL : Hid (∀ x ∈ l, x < 18446744073709551616) := hlt
  rw [hn] at hnc ⊢
  clear hn hcell hlt
  go_enter Tryz.func27, Tryz.ntmps27
  go_wp2
  go_loop [3, 4] (fun s i => ∃ (k : Nat), k ≤ n ∧ i = .int .i64 k ∧ s = .int .u64 (seedTo 0 (l.take k) : Nat)) (fun _ i => n - (intOf i).toNat)
  case atStart => exact ⟨0, by omega, rfl, rfl⟩
  case round =>
    obtain ⟨k, hk, rfl, rfl⟩ := hrel
    by_cases hlt : k < n
    · have hkl : k < l.length := by rw [Hn.out]; exact hlt
      obtain ⟨x, hx⟩ : ∃ x, l[k] = x := ⟨_, rfl⟩
      have hc := HC.out k _ (map_uv_at l k hkl)
      rw [hx] at hc
      have hxl : Hid (x < 18446744073709551616) := HL.out x (hx ▸ List.getElem_mem hkl)
      have HN : Hid (seedTo 0 (l.take (k + 1)) = seedStep (seedTo 0 (l.take k)) x) := seed_next hkl hx
      clear hx
      generalize seedTo 0 (l.take k) = s at *
      have a1 := addS_wrap s
      have a2 := seed_xor s x hxl.out
      have HM : Hid (∀ W, Calls Tryz.prog 51 #[.int .u64 (addS s ^^^ x : Nat)] W fun e w' => e = .returned (.int .u64 (seedStep s x : Nat)) ∧ w' = W) := fun W => rmix_any _ (seed_xor_lt s x hxl.out) W
      generalize seedStep s x = t at *
      generalize addS s ^^^ x = y at *
      generalize addS s = z at *
      go_wp2_with fail
      refine (HM.out _).mono ?_
      rintro e w1 ⟨rfl, rfl⟩
      go_wp2
      go_round
      case rel => exact ⟨k + 1, by omega, by go_num, by rw [HN.out]⟩
      case measure => simp [intOf]; omega
    · have hk2 : l.take k = l := List.take_of_length_le (by rw [Hn.out]; omega)
      rw [hk2]
      go_wp2
      go_ret
      exact ⟨rfl, rfl⟩

set_option maxRecDepth 100000 in
set_option maxHeartbeats 1000000 in
theorem rseed_none (ao : Option Addr) (cap : Nat) (w : World) :
    Calls Tryz.prog 27 #[.slice ao 0 cap] w fun e w' => e = .returned (.int .u64 0) ∧ w' = w := by
  go_enter Tryz.func27, Tryz.ntmps27
  go_wp2
  go_loop [3, 4] (fun s i => i = .int .i64 0 ∧ s = .int .u64 0) (fun _ _ => 0)
  case atStart => exact ⟨rfl, rfl⟩
  case round =>
    obtain ⟨rfl, rfl⟩ := hrel
    go_wp2
    go_ret
    exact ⟨rfl, rfl⟩

/-- The document's Seed. -/
theorem rseed_any (v : Value) (l : List Nat) (w : World) (h : Us w v l) :
    Calls Tryz.prog 27 #[v] w fun e w' => e = .returned (.int .u64 (seedTo 0 l : Nat)) ∧ w' = w := by
  obtain ⟨⟨_, ao, cap, hv, h2, h3, _, h5⟩, hl⟩ := h
  subst hv
  rcases h5 with h0 | ⟨b, off, rfl, hc⟩
  · obtain rfl : l = [] := List.eq_nil_of_length_eq_zero h0
    exact rseed_none _ _ _
  · exact rseed_some b off cap l w hl h2 h3 hc

end

section
/-
  rng: Below.
-/
open Go.RowKit
set_option linter.unusedVariables false

/-- Numbers are drawn until one is fair: at most one more than are told. -/
def fairD (few : Nat) : Nat → Nat → Nat × Nat
  | 0, s => (addS s, mix (addS s))
  | k + 1, s => if mix (addS s) < few then fairD few k (addS s) else (addS s, mix (addS s))

def fewOf (m : Nat) : Nat := 18446744073709551616 % m

theorem fairD_zero (few s : Nat) : fairD few 0 s = (addS s, mix (addS s)) := rfl
theorem fairD_more (few k s : Nat) (h : mix (addS s) < few) : fairD few (k + 1) s = fairD few k (addS s) := by rw [fairD]; exact if_pos h
theorem fairD_done (few k s : Nat) (h : ¬ mix (addS s) < few) : fairD few k s = (addS s, mix (addS s)) := by
  cases k with
  | zero => rfl
  | succ k => rw [fairD]; exact if_neg h

theorem fairD_lt (few k s : Nat) : (fairD few k s).1 < 18446744073709551616 ∧ (fairD few k s).2 < 18446744073709551616 := by
  induction k generalizing s with
  | zero => exact ⟨addS_lt s, mix_lt⟩
  | succ k ih =>
    by_cases h : mix (addS s) < few
    · rw [fairD_more _ _ _ h]; exact ih _
    · rw [fairD_done _ _ _ h]; exact ⟨addS_lt s, mix_lt⟩

theorem few_neg {m : Nat} (h1 : 1 ≤ m) (h2 : m < 18446744073709551616) : (18446744073709551616 - m) % m = fewOf m := by
  unfold fewOf
  have := Nat.add_mod_right (18446744073709551616 - m) m
  rw [← this]
  congr 1
  omega

theorem few_ref {m : Nat} (h1 : 1 ≤ m) : (18446744073709551615 % m + 1) % m = fewOf m := by
  unfold fewOf
  rw [Nat.mod_add_mod]

/-- Below: the state behind it, and the number. -/
def belowD (s : Nat) (n : Int) : Nat × Int := if n < 1 then (s, 0) else ((fairD (fewOf n.toNat) 15 s).1, (((fairD (fewOf n.toNat) 15 s).2 % n.toNat : Nat) : Int))

theorem neg_rem {m : Nat} (h1 : 1 ≤ m) (h2 : m < 18446744073709551616) : IntKind.u64.wrap (-(m : Int)) = ((18446744073709551616 - m : Nat) : Int) := by
  rw [IntKind.wrap_u64]
  omega

/-- Behind k draws the state is s', and what is drawn last is Mix of it. -/
def FairT (few s k s' : Nat) : Prop := 1 ≤ k ∧ fairD few 15 s = if mix s' < few ∧ k < 16 then fairD few (15 - k) s' else (s', mix s')

theorem fairT_start (few s : Nat) : FairT few s 1 (addS s) := by
  refine ⟨by omega, ?_⟩
  by_cases h : mix (addS s) < few
  · rw [if_pos ⟨h, by omega⟩, fairD_more few 14 s h]
  · rw [if_neg (fun x => h x.1), fairD_done _ _ _ h]

theorem FairT.next {few s k s' : Nat} (h : FairT few s k s') (hd : mix s' < few) (hk : k < 16) : FairT few s (k + 1) (addS s') := by
  obtain ⟨h1, h2⟩ := h
  refine ⟨by omega, ?_⟩
  rw [if_pos ⟨hd, hk⟩] at h2
  rw [h2]
  by_cases h15 : k = 15
  · subst h15
    rw [if_neg (fun x => by omega), fairD_zero]
  · obtain ⟨j, hj⟩ : ∃ j, 15 - k = j + 1 := ⟨14 - k, by omega⟩
    have hj2 : 15 - (k + 1) = j := by omega
    rw [hj, hj2]
    by_cases h : mix (addS s') < few
    · rw [if_pos ⟨h, by omega⟩, fairD_more _ _ _ h]
    · rw [if_neg (fun x => h x.1), fairD_done _ _ _ h]

theorem FairT.done {few s k s' : Nat} (h : FairT few s k s') (hd : ¬ (mix s' < few ∧ k < 16)) : fairD few 15 s = (s', mix s') := by
  rw [h.2, if_neg hd]

set_option maxRecDepth 100000 in
set_option maxHeartbeats 1000000 in
/-- fair. -/
theorem fair_any (r s m : Nat) (w : World) (h : IsRand w r s) (h1 : 1 ≤ m) (h2 : m < 9223372036854775808) :
    Calls Tryz.prog 94 #[.pointer (some ⟨r, 0, none⟩), .int .u64 m] w fun e w' => e = .returned (.int .u64 ((fairD (fewOf m) 15 s).2 : Nat)) ∧ IsRand w' r (fairD (fewOf m) 15 s).1 ∧ KeepsBut (fun k => k = r) w w' ∧ w'.heap.size = w.heap.size := by
  have a1 := neg_rem h1 (by omega)
  have a2 := few_neg h1 (by omega)
  have HF : Hid (fewOf m < 9223372036854775808) := by
    have := Nat.mod_lt 18446744073709551616 (show 0 < m by omega)
    show 18446744073709551616 % m < _
    omega
  obtain ⟨M, hM⟩ : ∃ M, 18446744073709551616 - m = M := ⟨_, rfl⟩
  have a3 : (M : Int) % (m : Int) = (fewOf m : Nat) := by rw [← a2, hM]; simp
  rw [hM] at a1
  clear hM a2
  have HR : Hid (IsRand w r s) := h
  clear h
  generalize fewOf m = few at *
  go_enter Tryz.func94, Tryz.ntmps94
  go_wp2_with fail
  refine (rnd_next r s _ HR.out).mono ?_
  rintro e w1 ⟨rfl, hr1, hk1, hz1⟩
  have H1 : Hid (IsRand w1 r (addS s) ∧ KeepsBut (fun k => k = r) w w1 ∧ w1.heap.size = w.heap.size) := ⟨hr1, hk1, hz1⟩
  clear hr1 hk1 hz1
  have HT0 : Hid (FairT few s 1 (addS s)) := fairT_start few s
  generalize addS s = t1 at *
  have hl1 : Hid (mix t1 < 18446744073709551616) := mix_lt
  go_wp2
  go_loopw [6, 7] (fun d t wr => ∃ (s' k : Nat), t = .int .i64 k ∧ k ≤ 16 ∧ d = .int .u64 (mix s' : Nat) ∧ Hid (FairT few s k s') ∧ Hid (IsRand wr r s' ∧ KeepsBut (fun k => k = r) w wr ∧ wr.heap.size = w.heap.size)) (fun _ t _ => 16 - (intOf t).toNat)
  case atStart => exact ⟨t1, 1, rfl, by omega, rfl, HT0, H1⟩
  case round =>
    obtain ⟨s', k, rfl, hk, rfl, HT, HW⟩ := hrel
    by_cases hd : mix s' < few
    · have hd' : (mix s' : Int) < (few : Int) := by omega
      by_cases hk6 : k < 16
      · have HT2 : Hid (FairT few s (k + 1) (addS s')) := HT.out.next hd hk6
        clear HT HT0 H1
        go_wp2_with fail
        refine (rnd_next r s' _ HW.out.1).mono ?_
        rintro e w2 ⟨rfl, hr2, hk2, hz2⟩
        have H2 : Hid (IsRand w2 r (addS s') ∧ KeepsBut (fun k => k = r) w w2 ∧ w2.heap.size = w.heap.size) := ⟨hr2, HW.out.2.1.trans hk2, hz2.trans HW.out.2.2⟩
        clear hr2 hk2 hz2 HW
        generalize addS s' = t2 at *
        go_wp2
        go_roundw
        case rel => exact ⟨t2, k + 1, by go_num, by omega, rfl, HT2, H2⟩
        case measure => simp [intOf]; omega
      · have HE : Hid (fairD few 15 s = (s', mix s')) := HT.out.done (fun h => hk6 h.2)
        clear HT HT0 H1
        go_wp2
        go_ret
        rw [HE.out]
        exact ⟨rfl, HW.out⟩
    · have hd' : ¬ (mix s' : Int) < (few : Int) := by omega
      have HE : Hid (fairD few 15 s = (s', mix s')) := HT.out.done (fun h => hd h.1)
      clear HT HT0 H1
      go_wp2
      go_ret
      rw [HE.out]
      exact ⟨rfl, HW.out⟩

theorem belowD_none {s : Nat} {n : Int} (h : n < 1) : belowD s n = (s, 0) := if_pos h
theorem belowD_some {s : Nat} {n : Int} (h : ¬ n < 1) : belowD s n = ((fairD (fewOf n.toNat) 15 s).1, (((fairD (fewOf n.toNat) 15 s).2 % n.toNat : Nat) : Int)) := if_neg h

set_option maxRecDepth 100000 in
set_option maxHeartbeats 1000000 in
/-- BELOW. -/
theorem rbelow_any (r s : Nat) (n : Int) (w : World) (h : IsRand w r s) (hn : n < 9223372036854775808) :
    Calls Tryz.prog 72 #[.pointer (some ⟨r, 0, none⟩), .int .i64 n] w fun e w' => e = .returned (.int .i64 (belowD s n).2) ∧ IsRand w' r (belowD s n).1 ∧ KeepsBut (fun k => k = r) w w' ∧ w'.heap.size = w.heap.size := by
  by_cases h1 : n < 1
  · rw [belowD_none h1]
    have HR : Hid (IsRand w r s) := h
    clear h
    go_enter Tryz.func72, Tryz.ntmps72
    go_wp2
    go_ret
    exact ⟨rfl, HR.out, KeepsBut.refl _ _, rfl⟩
  · rw [belowD_some h1]
    obtain ⟨m, rfl⟩ : ∃ m : Nat, n = m := ⟨n.toNat, by omega⟩
    have hm : 1 ≤ m := by omega
    have hm2 : m < 9223372036854775808 := by omega
    have HC : Hid (∀ W, IsRand W r s → Calls Tryz.prog 94 #[.pointer (some ⟨r, 0, none⟩), .int .u64 m] W fun e w' => e = .returned (.int .u64 ((fairD (fewOf m) 15 s).2 : Nat)) ∧ IsRand w' r (fairD (fewOf m) 15 s).1 ∧ KeepsBut (fun k => k = r) W w' ∧ w'.heap.size = W.heap.size) := fun W hW => fair_any r s m W hW hm hm2
    rw [show ((m : Int)).toNat = m from Int.toNat_natCast m]
    have HR : Hid (IsRand w r s) := h
    clear h
    generalize fairD (fewOf m) 15 s = x at *
    obtain ⟨x1, x2⟩ := x
    have hlt : x2 % m < m := Nat.mod_lt _ (by omega)
    have a1 : (x2 : Int) % (m : Int) = ((x2 % m : Nat) : Int) := by simp
    generalize x2 % m = y at *
    go_enter Tryz.func72, Tryz.ntmps72
    go_wp2_with fail
    refine (HC.out _ HR.out).mono ?_
    rintro e w1 ⟨rfl, hr1, hk1, hz1⟩
    have H1 : Hid (IsRand w1 r x1 ∧ KeepsBut (fun k => k = r) w w1 ∧ w1.heap.size = w.heap.size) := ⟨hr1, hk1, hz1⟩
    clear hr1 hk1 hz1
    go_wp2
    go_ret
    exact ⟨rfl, H1.out⟩

/-- Behind k rounds of the document's loop: the state is s', what was drawn last x. -/
def FairR (few s k s' x : Nat) : Prop := (k ≤ 15 ∧ fairD few 15 s = fairD few (15 - k) s') ∨ (k = 16 ∧ fairD few 15 s = (s', x))

theorem fairR_start (few s : Nat) : FairR few s 0 s 0 := .inl ⟨by omega, by rw [Nat.sub_zero]⟩

theorem FairR.next {few s k s' x : Nat} (h : FairR few s k s' x) (hk : k < 16) (hd : mix (addS s') < few) : FairR few s (k + 1) (addS s') (mix (addS s')) := by
  rcases h with ⟨h1, h2⟩ | ⟨h1, h2⟩
  · by_cases h15 : k = 15
    · subst h15
      exact .inr ⟨rfl, h2⟩
    · obtain ⟨j, hj⟩ : ∃ j, 15 - k = j + 1 := ⟨14 - k, by omega⟩
      have hj2 : 15 - (k + 1) = j := by omega
      refine .inl ⟨by omega, ?_⟩
      rw [h2, hj, hj2, fairD_more _ _ _ hd]
  · omega

theorem FairR.done {few s k s' x : Nat} (h : FairR few s k s' x) (hk : k < 16) (hd : ¬ mix (addS s') < few) : fairD few 15 s = (addS s', mix (addS s')) := by
  rcases h with ⟨h1, h2⟩ | ⟨h1, h2⟩
  · rw [h2, fairD_done _ _ _ hd]
  · omega

theorem FairR.last {few s k s' x : Nat} (h : FairR few s k s' x) (hk : ¬ k < 16) : fairD few 15 s = (s', x) := by
  rcases h with ⟨h1, h2⟩ | ⟨h1, h2⟩
  · omega
  · exact h2

theorem ret_two {k k' : IntKind} {a b c d : Int} (h1 : a = b) (h2 : c = d) : Ending.returned (.tuple #[.int k a, .int k' c]) = .returned (.tuple #[.int k b, .int k' d]) := by rw [h1, h2]

end

section
/-
  rng: the document's Below.
-/
open Go.RowKit
set_option linter.unusedVariables false

def mod64 (X m : Nat) : Nat := X % m
theorem mod64_int (X m : Nat) : ((X : Nat) : Int) % (m : Int) = (mod64 X m : Nat) := (Int.natCast_emod X m).symm
theorem mod64_lt {X m : Nat} (h : 1 ≤ m) : mod64 X m < m := Nat.mod_lt _ h
theorem big_rem (m : Nat) : (18446744073709551615 : Int) % (m : Int) = (mod64 18446744073709551615 m : Nat) := mod64_int 18446744073709551615 m
theorem few_ref2 {m : Nat} (h1 : 1 ≤ m) : ((mod64 18446744073709551615 m : Int) + 1) % (m : Int) = (fewOf m : Nat) := by
  have e : fewOf m = (mod64 18446744073709551615 m + 1) % m := (few_ref h1).symm
  rw [e]
  generalize mod64 18446744073709551615 m = M
  simp

set_option maxRecDepth 100000 in
set_option maxHeartbeats 1000000 in
theorem rrbelow_some (s : Nat) (m : Nat) (w : World) (hm : 1 ≤ m) (hm2 : m < 9223372036854775808) (x1 x2 : Nat) (HX : Hid (fairD (fewOf m) 15 s = (x1, x2))) :
    Calls Tryz.prog 52 #[.int .u64 s, .int .i64 m] w fun e w' => e = .returned (.tuple #[.int .u64 (x1 : Nat), .int .i64 ((x2 % m : Nat) : Int)]) ∧ Below w.heap.size w w' := by
  have hMl : mod64 18446744073709551615 m < m := mod64_lt hm
  have A1 : Hid _ := big_rem m
  have A2 : Hid _ := few_ref2 hm
  have A4 : Hid (m < 9223372036854775808) := hm2
  have A5 : Hid (1 ≤ m) := hm
  have A6 : Hid (mod64 18446744073709551615 m < m) := hMl
  have B6 : IntKind.u64.wrap (m : Int) = m := by rw [IntKind.wrap_u64]; omega
  have h1 : ¬ (m : Int) < 1 := by omega
  generalize mod64 18446744073709551615 m = M at *
  clear hm2 hm hMl
  generalize fewOf m = few at *
  go_enter Tryz.func52, Tryz.ntmps52
  go_upto_region 4 with fail
  obtain ⟨X, hX⟩ : ∃ X : Int, X = 18446744073709551615 := ⟨_, rfl⟩
  rw [← hX]
  have B1 : X % (m : Int) = (M : Int) := by rw [hX]; exact A1.out
  have B2 := A2.out
  have B3 : (0 : Int) ≤ X := by rw [hX]; decide
  have B5 := A5.out
  obtain ⟨K, hK⟩ : ∃ K : Nat, M + 1 = K := ⟨_, rfl⟩
  have hK' : ((M : Int) + 1) = K := by rw [← hK]; simp
  have B4 : IntKind.u64.wrap ((M : Int) + 1) = (K : Int) := by
    have := A6.out
    have := A4.out
    rw [IntKind.wrap_u64]
    omega
  rw [hK'] at B2
  clear A1 A2 hX hK hK'
  go_upto_region 5 with fail
  clear A6
  go_wp2
  go_loop [0, 8, 9] (fun sv xv i => ∃ (k s' x : Nat), i = .int .i64 k ∧ k ≤ 16 ∧ sv = .int .u64 (s' : Nat) ∧ xv = .int .u64 (x : Nat) ∧ Hid (FairR few s k s' x)) (fun _ _ i => 16 - (intOf i).toNat)
  case atStart => exact ⟨0, s, 0, rfl, by omega, rfl, rfl, fairR_start few s⟩
  case round =>
    obtain ⟨k, s', x, rfl, hk, rfl, rfl, HT⟩ := hrel
    by_cases hk6 : k < 16
    · have HR : Hid (∀ W, Calls Tryz.prog 26 #[.int .u64 s'] W fun e w' => e = .returned (.tuple #[.int .u64 (addS s' : Nat), .int .u64 (mix (addS s') : Nat)]) ∧ w' = W) := fun W => rref_next s' W
      by_cases hd : mix (addS s') < few
      · have HT2 : Hid (FairR few s (k + 1) (addS s') (mix (addS s'))) := HT.out.next hk6 hd
        clear HT HX
        generalize mix (addS s') = y at *
        generalize addS s' = t at *
        have hd' : ¬ (y : Int) ≥ (few : Int) := by omega
        go_wp2_with fail
        refine (HR.out _).mono ?_
        rintro e w1 ⟨rfl, rfl⟩
        go_wp2
        go_round
        case rel => exact ⟨k + 1, t, y, by go_num, by omega, rfl, rfl, HT2⟩
        case measure => simp [intOf]; omega
      · have HE : Hid (fairD few 15 s = (addS s', mix (addS s'))) := HT.out.done hk6 hd
        have HE2 : Hid ((addS s', mix (addS s')) = (x1, x2)) := HE.out.symm.trans HX.out
        clear HT HX HE
        generalize mix (addS s') = y at *
        generalize addS s' = t at *
        have hd' : (y : Int) ≥ (few : Int) := by omega
        obtain ⟨rfl, rfl⟩ := Prod.mk.inj HE2.out
        clear HE2
        have hyl : y % m < m := Nat.mod_lt _ A5.out
        have a3 : (y : Int) % (m : Int) = ((y % m : Nat) : Int) := by simp
        have HA4 := A4.out
        generalize hz : y % m = z at *
        have Hz : Hid (y % m = z) := hz
        clear hz
        go_wp2_with fail
        refine (HR.out _).mono ?_
        rintro e w1 ⟨rfl, rfl⟩
        go_wp2_with fail
        go_region
        go_wp2
        go_ret2
        exact ⟨ret_two rfl (by rw [Hz.out]), below0 _⟩
    · have HE : Hid (fairD few 15 s = (s', x)) := HT.out.last hk6
      have HE2 : Hid ((s', x) = (x1, x2)) := HE.out.symm.trans HX.out
      clear HT HX HE
      obtain ⟨rfl, rfl⟩ := Prod.mk.inj HE2.out
      clear HE2
      have hyl : x % m < m := Nat.mod_lt _ A5.out
      have a3 : (x : Int) % (m : Int) = ((x % m : Nat) : Int) := by simp
      have HA4 := A4.out
      generalize hz : x % m = z at *
      have Hz : Hid (x % m = z) := hz
      clear hz
      go_wp2_with fail
      go_region
      go_wp2
      go_ret2
      exact ⟨ret_two rfl (by rw [Hz.out]), below0 _⟩

set_option maxRecDepth 100000 in
set_option maxHeartbeats 1000000 in
theorem rrbelow_none (s : Nat) (n : Int) (w : World) (h : n < 1) :
    Calls Tryz.prog 52 #[.int .u64 s, .int .i64 n] w fun e w' => e = .returned (.tuple #[.int .u64 (s : Nat), .int .i64 0]) ∧ Below w.heap.size w w' := by
  go_enter Tryz.func52, Tryz.ntmps52
  go_wp2
  go_ret2
  exact ⟨rfl, Below.refl _ _⟩

/-- The document's Below. -/
theorem rrbelow_any (s : Nat) (n : Int) (w : World) (hn : n < 9223372036854775808) :
    Calls Tryz.prog 52 #[.int .u64 s, .int .i64 n] w fun e w' => e = .returned (.tuple #[.int .u64 ((belowD s n).1 : Nat), .int .i64 (belowD s n).2]) ∧ Below w.heap.size w w' := by
  by_cases h1 : n < 1
  · rw [belowD_none h1]
    exact rrbelow_none s n w h1
  · rw [belowD_some h1]
    obtain ⟨m, rfl⟩ : ∃ m : Nat, n = m := ⟨n.toNat, by omega⟩
    rw [show ((m : Int)).toNat = m from Int.toNat_natCast m]
    have h2 : 1 ≤ m := by omega
    have h3 : m < 9223372036854775808 := by omega
    obtain ⟨x, hx⟩ : ∃ x, fairD (fewOf m) 15 s = x := ⟨_, rfl⟩
    rw [hx]
    obtain ⟨x1, x2⟩ := x
    exact rrbelow_some s m w h2 h3 x1 x2 hx

end

section
/-
  rng: the statements' own first look; RngMixes and RngApart.
-/
open Go.RowKit
set_option linter.unusedVariables false

theorem mix_first : mix (addS 0) = 16294208416658607535 := by decide
theorem below_one (s : Nat) : (belowD s 1).2 = 0 := by
  rw [belowD_some (by decide)]
  show (((fairD (fewOf (1 : Int).toNat) 15 s).2 % 1 : Nat) : Int) = 0
  rw [Nat.mod_one]
  rfl

theorem below_on {w w1 W : World} (h : Below w.heap.size w w1) (h2 : Below w1.heap.size w1 W) : Below w.heap.size w W := h.trans (h2.mono h.size)

theorem us_none (w : World) : Us w (.slice none 0 0) [] := ⟨⟨rfl, none, 0, rfl, Nat.le_refl _, by unfold maxLen; omega, by simp, .inl rfl⟩, by simp⟩
theorem us_one (w : World) (t : TypeId) (b : Nat) (hb : b = w.heap.size) : Us (w.alloc (.cells #[.int .u64 1] t)) (.slice (some ⟨b, 0, none⟩) 1 1) [1] := ⟨Sl.lit w [uv 1] t b 1 hb rfl (by simp), by simp⟩

theorem beq_beq {a b x y : Int} (h : ¬ a = b) (k : ¬ x = y) : ((a == b) == (x == y)) = true := by
  rw [beq_false_of_ne h, beq_false_of_ne k]
  rfl

theorem u64_nat {x : Int} (h : (Lit.int .u64 x).wf = true) : ∃ n : Nat, x = n ∧ n < 18446744073709551616 := by
  simp [Lit.wf, IntKind.min, IntKind.max, IntKind.bits, IntKind.signed] at h
  exact ⟨x.toNat, by omega, by omega⟩

theorem us_of {w : World} {v : Value} {l : List Int} (h1 : Sl 1 w v l.length (l.map (Value.int .u64))) (h2 : ∀ z ∈ l, (Lit.int .u64 z).wf = true) : ∃ s : List Nat, Us w v s := by
  refine ⟨l.map Int.toNat, ?_, ?_⟩
  · have e : (l.map Int.toNat).map uv = l.map (Value.int .u64) := by
      rw [List.map_map]
      apply List.map_congr_left
      intro z hz
      obtain ⟨n, rfl, _⟩ := u64_nat (h2 z hz)
      simp [uv]
    rw [e, List.length_map]
    exact h1
  · intro x hx
    obtain ⟨z, hz, rfl⟩ := List.mem_map.1 hx
    obtain ⟨n, rfl, hn⟩ := u64_nat (h2 z hz)
    simpa using hn

end

end Go.Proofs.YtkckbeekehecnaaGreat
