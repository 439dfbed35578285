/-
  Texts that lie together: RngM RngA RngB RngC RngD RngS.
-/
import Derived.Test.YtkckbeekehecnaaRows
import Derived.Test.YtkckbeekehecnaaZBase
import Derived.Laws.BitsAllLaws
import Derived.Deep.CutRange
namespace Go.Proofs.Ytkckbeekehecnaa

section
/-
  Mixing numbers of 64 bits: mathematics.
-/

/-- A number put upon itself, shifted down. -/
def xsh (z k : Nat) : Nat := z ^^^ (z / 2 ^ k)
def mul64 (a c : Nat) : Nat := a * c % 18446744073709551616
def mix (z : Nat) : Nat := xsh (mul64 (xsh (mul64 (xsh z 30) 13787848793156543929) 27) 10723151780598845931) 31
def addS (s : Nat) : Nat := (s + 11400714819323198485) % 18446744073709551616

theorem xsh_lt {z : Nat} (k : Nat) (h : z < 18446744073709551616) : xsh z k < 18446744073709551616 := by
  have h2 : z / 2 ^ k < 2 ^ 64 := Nat.lt_of_le_of_lt (Nat.div_le_self _ _) h
  exact Nat.xor_lt_two_pow (n := 64) h h2

theorem mul64_lt (a c : Nat) : mul64 a c < 18446744073709551616 := Nat.mod_lt _ (by decide)
theorem mix_lt {z : Nat} : mix z < 18446744073709551616 := xsh_lt _ (mul64_lt _ _)
theorem addS_lt (s : Nat) : addS s < 18446744073709551616 := Nat.mod_lt _ (by decide)

/-- By each seed the state is another one. -/
def seedStep (s x : Nat) : Nat := mix (addS s ^^^ x)
def seedTo (s : Nat) (l : List Nat) : Nat := l.foldl seedStep s

theorem foldl_snoc {α β : Type} (f : β → α → β) (s : β) (l : List α) (x : α) : (l ++ [x]).foldl f s = f (l.foldl f s) x := by simp

theorem seedTo_lt {s : Nat} (h : s < 18446744073709551616) (l : List Nat) : seedTo s l < 18446744073709551616 := by
  induction l generalizing s with
  | nil => exact h
  | cons x l ih => exact ih mix_lt

theorem xsh_inj {x y : Nat} (k : Nat) (hk : 22 ≤ k) (hx : x < 2 ^ 64) (hy : y < 2 ^ 64) (h : xsh x k = xsh y k) : x = y := by
  have key : ∀ d : BitVec 64, d = d >>> k → d = 0#64 := by
    intro d hd
    have e : d = ((d >>> k) >>> k) >>> k := by rw [← hd, ← hd, ← hd]
    rw [e]
    apply BitVec.eq_of_getLsbD_eq
    intro i hi
    simp
    apply BitVec.getLsbD_of_ge
    omega
  have hb : BitVec.ofNat 64 x ^^^ BitVec.ofNat 64 x >>> k = BitVec.ofNat 64 y ^^^ BitVec.ofNat 64 y >>> k := by
    apply BitVec.eq_of_toNat_eq
    simp only [BitVec.toNat_xor, BitVec.toNat_ushiftRight, BitVec.toNat_ofNat, Nat.shiftRight_eq_div_pow]
    rw [Nat.mod_eq_of_lt hx, Nat.mod_eq_of_lt hy]
    exact h
  have hd : BitVec.ofNat 64 x ^^^ BitVec.ofNat 64 y = (BitVec.ofNat 64 x ^^^ BitVec.ofNat 64 y) >>> k := by
    generalize BitVec.ofNat 64 x = a at *
    generalize BitVec.ofNat 64 y = b at *
    rw [BitVec.ushiftRight_xor_distrib]
    have e1 : a ^^^ b = (a ^^^ a >>> k) ^^^ (b ^^^ a >>> k) := by
      apply BitVec.eq_of_getLsbD_eq
      intro i hi
      simp
      cases a.getLsbD (k + i) <;> cases b.getLsbD i <;> rfl
    rw [e1, hb]
    apply BitVec.eq_of_getLsbD_eq
    intro i hi
    simp
    cases a.getLsbD (k + i) <;> cases b.getLsbD i <;> cases b.getLsbD (k + i) <;> rfl
  have h0 := key _ hd
  have h1 : BitVec.ofNat 64 x = BitVec.ofNat 64 y := BitVec.xor_eq_zero_iff.1 h0
  have h2 := congrArg BitVec.toNat h1
  simp only [BitVec.toNat_ofNat, Nat.mod_eq_of_lt hx, Nat.mod_eq_of_lt hy] at h2
  exact h2

theorem mul_inj {x y c d : Nat} (hcd : c * d % 18446744073709551616 = 1) (hx : x < 18446744073709551616) (hy : y < 18446744073709551616) (h : mul64 x c = mul64 y c) : x = y := by
  have key : ∀ z, z < 18446744073709551616 → mul64 z c * d % 18446744073709551616 = z := by
    intro z hz
    unfold mul64
    rw [Nat.mod_mul_mod, Nat.mul_assoc, Nat.mul_mod, hcd, Nat.mul_one, Nat.mod_mod, Nat.mod_eq_of_lt hz]
  rw [← key x hx, ← key y hy, h]

theorem mix_inj {x y : Nat} (hx : x < 18446744073709551616) (hy : y < 18446744073709551616) (h : mix x = mix y) : x = y := by
  unfold mix at h
  have h1 := xsh_inj 31 (by decide) (mul64_lt _ _) (mul64_lt _ _) h
  have h2 := mul_inj (d := 3573116690164977347) (by decide) (xsh_lt _ (mul64_lt _ _)) (xsh_lt _ (mul64_lt _ _)) h1
  have h3 := xsh_inj 27 (by decide) (mul64_lt _ _) (mul64_lt _ _) h2
  have h4 := mul_inj (d := 10871156337175269513) (by decide) (xsh_lt _ hx) (xsh_lt _ hy) h3
  exact xsh_inj 30 (by decide) hx hy h4

end

section
/-
  rng: Mix, as the program and as the document has it.
-/
open Go.RowKit
set_option linter.unusedVariables false

theorem xsh_bits {z : Nat} (k : Nat) (h : z < 18446744073709551616) {p : Int} (hp : p = ((2 ^ k : Nat) : Int)) : bits BinOp.xor IntKind.u64 (z : Int) ((z : Int) / p) = ((xsh z k : Nat) : Int) := by
  subst hp
  have h2 : z / 2 ^ k < 18446744073709551616 := Nat.lt_of_le_of_lt (Nat.div_le_self _ _) h
  have e := u64_xor_nat z (z / 2 ^ k) h h2
  have e2 : ((z / 2 ^ k : Nat) : Int) = (z : Int) / ((2 ^ k : Nat) : Int) := by simp
  rw [e2] at e
  exact e

theorem mul_wrap (a c : Nat) {q : Int} (hq : q = (c : Int)) : IntKind.u64.wrap ((a : Int) * q) = ((mul64 a c : Nat) : Int) := by
  subst hq
  rw [IntKind.wrap_u64]
  unfold mul64
  simp

/-- A Rand at a block, and its state. -/
structure IsRand (w : World) (r s : Nat) : Prop where
  cell : w.cell? ⟨r, 0, none⟩ = some (.int .u64 (s : Int))
  fz : w.frozen? ⟨r, 0, none⟩ = false
  lt : s < 18446744073709551616

theorem IsRand.kept {w w' : World} {r s : Nat} (h : IsRand w r s) (hk : w'.heap[r]? = w.heap[r]?) : IsRand w' r s :=
  ⟨(World.cell?_of_block (a := ⟨r, 0, none⟩) hk).trans h.cell, (World.frozen?_of_block (a := ⟨r, 0, none⟩) hk).trans h.fz, h.lt⟩
theorem IsRand.below {w w' : World} {r s : Nat} (h : IsRand w r s) (hb : Below w.heap.size w w') : IsRand w' r s := h.kept (hb.block r (cell_block_lt h.cell))
theorem IsRand.keeps {w w' : World} {r s : Nat} {S : Nat → Prop} (h : IsRand w r s) (hb : KeepsBut S w w') (hS : ¬ S r) : IsRand w' r s := h.kept (hb.block r (cell_block_lt h.cell) hS)
theorem IsRand.set {w : World} {r s : Nat} (h : IsRand w r s) {t : Nat} (ht : t < 18446744073709551616) : IsRand (w.setCell ⟨r, 0, none⟩ (.int .u64 (t : Int))) r t :=
  ⟨World.cell?_setCell_same w _ _ h.cell, by have := h.fz; simpa using this, ht⟩

theorem addS_wrap (s : Nat) : IntKind.u64.wrap ((s : Int) + 11400714819323198485) = ((addS s : Nat) : Int) := by
  rw [IntKind.wrap_u64]
  unfold addS
  omega

/-- Whole numbers of 64 bits in a slice. -/
def uv (x : Nat) : Value := .int .u64 (x : Int)
def Us (w : World) (v : Value) (l : List Nat) : Prop := Sl 1 w v l.length (l.map uv) ∧ ∀ x ∈ l, x < 18446744073709551616

theorem Us.below {w w' : World} {v : Value} {l : List Nat} (h : Us w v l) (hb : Below w.heap.size w w') : Us w' v l := ⟨Sl.below h.1 hb, h.2⟩

theorem map_uv_at (l : List Nat) (j : Nat) (h : j < l.length) : (l.map uv)[j]? = some (.int .u64 (l[j] : Int)) := by
  simp [h, uv]

theorem seed_next {l : List Nat} {k x : Nat} (hk : k < l.length) (hx : l[k] = x) : seedTo 0 (l.take (k + 1)) = seedStep (seedTo 0 (l.take k)) x := by
  rw [List.take_succ_eq_append_getElem hk, hx]
  exact foldl_snoc _ _ _ _

theorem seed_xor (s x : Nat) (hx : x < 18446744073709551616) : bits BinOp.xor IntKind.u64 ((addS s : Nat) : Int) (x : Int) = ((addS s ^^^ x : Nat) : Int) := u64_xor_nat _ _ (addS_lt s) hx
theorem seed_mix (s x : Nat) : mix (addS s ^^^ x) = seedStep s x := rfl
theorem seed_xor_lt (s x : Nat) (hx : x < 18446744073709551616) : addS s ^^^ x < 18446744073709551616 := Nat.xor_lt_two_pow (n := 64) (addS_lt s) hx

theorem rand_new (w : World) (t : TypeId) : IsRand (w.alloc (.cells #[.int .u64 0] t)) w.heap.size 0 := ⟨by simp, by simp, by decide⟩

end

section
/-
  rng: New and the document's Seed.
-/
open Go.RowKit
set_option linter.unusedVariables false

end

section
/-
  rng: Below.
-/
open Go.RowKit
set_option linter.unusedVariables false

/-- Numbers are drawn until one is fair: at most one more than are told. -/
def fairD (few : Nat) : Nat → Nat → Nat × Nat
  | 0, s => (addS s, mix (addS s))
  | k + 1, s => if mix (addS s) < few then fairD few k (addS s) else (addS s, mix (addS s))

def fewOf (m : Nat) : Nat := 18446744073709551616 % m

theorem fairD_zero (few s : Nat) : fairD few 0 s = (addS s, mix (addS s)) := rfl
theorem fairD_more (few k s : Nat) (h : mix (addS s) < few) : fairD few (k + 1) s = fairD few k (addS s) := by rw [fairD]; exact if_pos h
theorem fairD_done (few k s : Nat) (h : ¬ mix (addS s) < few) : fairD few k s = (addS s, mix (addS s)) := by
  cases k with
  | zero => rfl
  | succ k => rw [fairD]; exact if_neg h

theorem fairD_lt (few k s : Nat) : (fairD few k s).1 < 18446744073709551616 ∧ (fairD few k s).2 < 18446744073709551616 := by
  induction k generalizing s with
  | zero => exact ⟨addS_lt s, mix_lt⟩
  | succ k ih =>
    by_cases h : mix (addS s) < few
    · rw [fairD_more _ _ _ h]; exact ih _
    · rw [fairD_done _ _ _ h]; exact ⟨addS_lt s, mix_lt⟩

theorem few_neg {m : Nat} (h1 : 1 ≤ m) (h2 : m < 18446744073709551616) : (18446744073709551616 - m) % m = fewOf m := by
  unfold fewOf
  have := Nat.add_mod_right (18446744073709551616 - m) m
  rw [← this]
  congr 1
  omega

theorem few_ref {m : Nat} (h1 : 1 ≤ m) : (18446744073709551615 % m + 1) % m = fewOf m := by
  unfold fewOf
  rw [Nat.mod_add_mod]

/-- Below: the state behind it, and the number. -/
def belowD (s : Nat) (n : Int) : Nat × Int := if n < 1 then (s, 0) else ((fairD (fewOf n.toNat) 15 s).1, (((fairD (fewOf n.toNat) 15 s).2 % n.toNat : Nat) : Int))

theorem neg_rem {m : Nat} (h1 : 1 ≤ m) (h2 : m < 18446744073709551616) : IntKind.u64.wrap (-(m : Int)) = ((18446744073709551616 - m : Nat) : Int) := by
  rw [IntKind.wrap_u64]
  omega

/-- Behind k draws the state is s', and what is drawn last is Mix of it. -/
def FairT (few s k s' : Nat) : Prop := 1 ≤ k ∧ fairD few 15 s = if mix s' < few ∧ k < 16 then fairD few (15 - k) s' else (s', mix s')

theorem fairT_start (few s : Nat) : FairT few s 1 (addS s) := by
  refine ⟨by omega, ?_⟩
  by_cases h : mix (addS s) < few
  · rw [if_pos ⟨h, by omega⟩, fairD_more few 14 s h]
  · rw [if_neg (fun x => h x.1), fairD_done _ _ _ h]

theorem FairT.next {few s k s' : Nat} (h : FairT few s k s') (hd : mix s' < few) (hk : k < 16) : FairT few s (k + 1) (addS s') := by
  obtain ⟨h1, h2⟩ := h
  refine ⟨by omega, ?_⟩
  rw [if_pos ⟨hd, hk⟩] at h2
  rw [h2]
  by_cases h15 : k = 15
  · subst h15
    rw [if_neg (fun x => by omega), fairD_zero]
  · obtain ⟨j, hj⟩ : ∃ j, 15 - k = j + 1 := ⟨14 - k, by omega⟩
    have hj2 : 15 - (k + 1) = j := by omega
    rw [hj, hj2]
    by_cases h : mix (addS s') < few
    · rw [if_pos ⟨h, by omega⟩, fairD_more _ _ _ h]
    · rw [if_neg (fun x => h x.1), fairD_done _ _ _ h]

theorem FairT.done {few s k s' : Nat} (h : FairT few s k s') (hd : ¬ (mix s' < few ∧ k < 16)) : fairD few 15 s = (s', mix s') := by
  rw [h.2, if_neg hd]

theorem belowD_none {s : Nat} {n : Int} (h : n < 1) : belowD s n = (s, 0) := if_pos h
theorem belowD_some {s : Nat} {n : Int} (h : ¬ n < 1) : belowD s n = ((fairD (fewOf n.toNat) 15 s).1, (((fairD (fewOf n.toNat) 15 s).2 % n.toNat : Nat) : Int)) := if_neg h

/-- Behind k rounds of the document's loop: the state is s', what was drawn last x. -/
def FairR (few s k s' x : Nat) : Prop := (k ≤ 15 ∧ fairD few 15 s = fairD few (15 - k) s') ∨ (k = 16 ∧ fairD few 15 s = (s', x))

theorem fairR_start (few s : Nat) : FairR few s 0 s 0 := .inl ⟨by omega, by rw [Nat.sub_zero]⟩

theorem FairR.next {few s k s' x : Nat} (h : FairR few s k s' x) (hk : k < 16) (hd : mix (addS s') < few) : FairR few s (k + 1) (addS s') (mix (addS s')) := by
  rcases h with ⟨h1, h2⟩ | ⟨h1, h2⟩
  · by_cases h15 : k = 15
    · subst h15
      exact .inr ⟨rfl, h2⟩
    · obtain ⟨j, hj⟩ : ∃ j, 15 - k = j + 1 := ⟨14 - k, by omega⟩
      have hj2 : 15 - (k + 1) = j := by omega
      refine .inl ⟨by omega, ?_⟩
      rw [h2, hj, hj2, fairD_more _ _ _ hd]
  · omega

theorem FairR.done {few s k s' x : Nat} (h : FairR few s k s' x) (hk : k < 16) (hd : ¬ mix (addS s') < few) : fairD few 15 s = (addS s', mix (addS s')) := by
  rcases h with ⟨h1, h2⟩ | ⟨h1, h2⟩
  · rw [h2, fairD_done _ _ _ hd]
  · omega

theorem FairR.last {few s k s' x : Nat} (h : FairR few s k s' x) (hk : ¬ k < 16) : fairD few 15 s = (s', x) := by
  rcases h with ⟨h1, h2⟩ | ⟨h1, h2⟩
  · omega
  · exact h2

theorem ret_two {k k' : IntKind} {a b c d : Int} (h1 : a = b) (h2 : c = d) : Ending.returned (.tuple #[.int k a, .int k' c]) = .returned (.tuple #[.int k b, .int k' d]) := by rw [h1, h2]

end

section
/-
  rng: the document's Below.
-/
open Go.RowKit
set_option linter.unusedVariables false

def mod64 (X m : Nat) : Nat := X % m
theorem mod64_int (X m : Nat) : ((X : Nat) : Int) % (m : Int) = (mod64 X m : Nat) := (Int.natCast_emod X m).symm
theorem mod64_lt {X m : Nat} (h : 1 ≤ m) : mod64 X m < m := Nat.mod_lt _ h
theorem big_rem (m : Nat) : (18446744073709551615 : Int) % (m : Int) = (mod64 18446744073709551615 m : Nat) := mod64_int 18446744073709551615 m
theorem few_ref2 {m : Nat} (h1 : 1 ≤ m) : ((mod64 18446744073709551615 m : Int) + 1) % (m : Int) = (fewOf m : Nat) := by
  have e : fewOf m = (mod64 18446744073709551615 m + 1) % m := (few_ref h1).symm
  rw [e]
  generalize mod64 18446744073709551615 m = M
  simp

end

section
/-
  rng: the statements' own first look; RngMixes and RngApart.
-/
open Go.RowKit
set_option linter.unusedVariables false

theorem mix_first : mix (addS 0) = 16294208416658607535 := by decide
theorem below_one (s : Nat) : (belowD s 1).2 = 0 := by
  rw [belowD_some (by decide)]
  show (((fairD (fewOf (1 : Int).toNat) 15 s).2 % 1 : Nat) : Int) = 0
  rw [Nat.mod_one]
  rfl

theorem below_on {w w1 W : World} (h : Below w.heap.size w w1) (h2 : Below w1.heap.size w1 W) : Below w.heap.size w W := h.trans (h2.mono h.size)

theorem us_none (w : World) : Us w (.slice none 0 0) [] := ⟨⟨rfl, none, 0, rfl, Nat.le_refl _, by unfold maxLen; omega, by simp, .inl rfl⟩, by simp⟩
theorem us_one (w : World) (t : TypeId) (b : Nat) (hb : b = w.heap.size) : Us (w.alloc (.cells #[.int .u64 1] t)) (.slice (some ⟨b, 0, none⟩) 1 1) [1] := ⟨Sl.lit w [uv 1] t b 1 hb rfl (by simp), by simp⟩

theorem beq_beq {a b x y : Int} (h : ¬ a = b) (k : ¬ x = y) : ((a == b) == (x == y)) = true := by
  rw [beq_false_of_ne h, beq_false_of_ne k]
  rfl

theorem u64_nat {x : Int} (h : (Lit.int .u64 x).wf = true) : ∃ n : Nat, x = n ∧ n < 18446744073709551616 := by
  simp [Lit.wf, IntKind.min, IntKind.max, IntKind.bits, IntKind.signed] at h
  exact ⟨x.toNat, by omega, by omega⟩

theorem us_of {w : World} {v : Value} {l : List Int} (h1 : Sl 1 w v l.length (l.map (Value.int .u64))) (h2 : ∀ z ∈ l, (Lit.int .u64 z).wf = true) : ∃ s : List Nat, Us w v s := by
  refine ⟨l.map Int.toNat, ?_, ?_⟩
  · have e : (l.map Int.toNat).map uv = l.map (Value.int .u64) := by
      rw [List.map_map]
      apply List.map_congr_left
      intro z hz
      obtain ⟨n, rfl, _⟩ := u64_nat (h2 z hz)
      simp [uv]
    rw [e, List.length_map]
    exact h1
  · intro x hx
    obtain ⟨z, hz, rfl⟩ := List.mem_map.1 hx
    obtain ⟨n, rfl, hn⟩ := u64_nat (h2 z hz)
    simpa using hn

end

end Go.Proofs.Ytkckbeekehecnaa
