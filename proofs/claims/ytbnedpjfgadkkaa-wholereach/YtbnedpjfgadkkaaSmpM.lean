/-
  sample: what is drawn, in plain words; sorted, and put in one by one. No program.
-/
import Derived.Test.YtbnedpjfgadkkaaRngC
namespace Go.Proofs.Ytbnedpjfgadkkaa
open Go.RowKit
set_option linter.unusedVariables false

theorem belowD_at (s : Nat) (n : Int) : 0 ≤ (belowD s n).2 ∧ (1 ≤ n → (belowD s n).2 < n) ∧ (n < 1 → (belowD s n).2 = 0) := by
  by_cases h1 : n < 1
  · rw [belowD_none h1]
    exact ⟨Int.le_refl _, fun h => by omega, fun _ => rfl⟩
  · rw [belowD_some h1]
    generalize (fairD (fewOf n.toNat) 15 s).2 = X
    have := Nat.mod_lt X (show n.toNat > 0 by omega)
    exact ⟨by omega, fun _ => by omega, fun h => absurd h h1⟩
theorem belowD_lt {s : Nat} {n : Int} (h : 1 ≤ n) : 0 ≤ (belowD s n).2 ∧ (belowD s n).2 < n := ⟨(belowD_at s n).1, (belowD_at s n).2.1 h⟩

/-- A number is drawn below j + 1; if it was taken, j is taken. -/
def pickD (j : Int) (p : Nat × List Int) : Nat × List Int :=
  ((belowD p.1 (j + 1)).1, p.2 ++ [if (belowD p.1 (j + 1)).2 ∈ p.2 then j else (belowD p.1 (j + 1)).2])

/-- i numbers are drawn, from a on. -/
def picks (s : Nat) (a : Int) : Nat → Nat × List Int
  | 0 => (s, [])
  | i + 1 => pickD (a + i) (picks s a i)

theorem picks_length (s : Nat) (a : Int) (i : Nat) : (picks s a i).2.length = i := by
  induction i with
  | zero => rfl
  | succ i ih => simp [picks, pickD, ih]

theorem mem_picks {s : Nat} {a : Int} (ha : 0 ≤ a) {i : Nat} {x : Int} (h : x ∈ (picks s a i).2) : 0 ≤ x ∧ x < a + i := by
  induction i with
  | zero => simp [picks] at h
  | succ i ih =>
    simp only [picks, pickD, List.mem_append, List.mem_singleton] at h
    rcases h with h | h
    · have := ih h
      omega
    · split at h
      · omega
      · have := belowD_lt (s := (picks s a i).1) (n := a + i + 1) (by omega)
        omega

theorem nodup_picks {s : Nat} {a : Int} (ha : 0 ≤ a) (i : Nat) : (picks s a i).2.Nodup := by
  induction i with
  | zero => simp [picks]
  | succ i ih =>
    simp only [picks, pickD]
    rw [List.nodup_append]
    refine ⟨ih, by simp, ?_⟩
    intro x hx y hy e
    simp only [List.mem_singleton] at hy
    subst hy
    subst e
    split at hx
    · have := (mem_picks ha hx).2
      omega
    · rename_i hn
      exact hn hx

/-- A number among some that rise. -/
def insI (n : Int) : List Int → List Int
  | [] => [n]
  | x :: l => if n < x then n :: x :: l else x :: insI n l

def leI (x y : Int) : Bool := decide (x ≤ y)
def sortI (l : List Int) : List Int := l.mergeSort leI

theorem sortI_perm (l : List Int) : (sortI l).Perm l := List.mergeSort_perm l leI
theorem sortI_length (l : List Int) : (sortI l).length = l.length := (sortI_perm l).length_eq
theorem mem_sortI {l : List Int} {x : Int} : x ∈ sortI l ↔ x ∈ l := (sortI_perm l).mem_iff
theorem sortI_sorted (l : List Int) : (sortI l).Pairwise (· ≤ ·) := by
  have := List.pairwise_mergeSort (le := leI) (fun a b c h1 h2 => by simp [leI] at *; omega) (fun a b => by simp [leI]; omega) l
  exact this.imp (by simp [leI])

theorem sorted_unique {l m : List Int} (hp : l.Perm m) (hl : l.Pairwise (· ≤ ·)) (hm : m.Pairwise (· ≤ ·)) : l = m :=
  hp.eq_of_pairwise (fun a b _ _ h1 h2 => by omega) hl hm

theorem insI_perm (n : Int) (l : List Int) : (insI n l).Perm (n :: l) := by
  induction l with
  | nil => exact List.Perm.refl _
  | cons x l ih =>
    unfold insI
    split
    · exact List.Perm.refl _
    · exact (ih.cons x).trans (List.Perm.swap n x l)

theorem insI_sorted (n : Int) {l : List Int} (h : l.Pairwise (· ≤ ·)) : (insI n l).Pairwise (· ≤ ·) := by
  induction l with
  | nil => simp [insI]
  | cons x l ih =>
    rw [List.pairwise_cons] at h
    unfold insI
    split
    · rename_i hx
      rw [List.pairwise_cons, List.pairwise_cons]
      refine ⟨?_, h⟩
      intro y hy
      rcases List.mem_cons.1 hy with rfl | hy
      · omega
      · have := h.1 y hy
        omega
    · rename_i hx
      rw [List.pairwise_cons]
      refine ⟨?_, ih h.2⟩
      intro y hy
      have := (insI_perm n l).mem_iff.1 hy
      rcases List.mem_cons.1 this with rfl | hy
      · omega
      · exact h.1 y hy

theorem insI_sortI (x : Int) (l : List Int) : insI x (sortI l) = sortI (l ++ [x]) := by
  refine sorted_unique ?_ (insI_sorted x (sortI_sorted l)) (sortI_sorted _)
  have h1 := (insI_perm x (sortI l)).trans ((sortI_perm l).cons x)
  have h2 : (x :: l).Perm (l ++ [x]) := by simpa using (List.perm_append_comm (l₁ := [x]) (l₂ := l))
  exact (h1.trans h2).trans (sortI_perm _).symm

theorem insI_length (n : Int) (l : List Int) : (insI n l).length = l.length + 1 := (insI_perm n l).length_eq

/-- How many are drawn. -/
def howMany (b m : Int) : Nat := if m < 1 ∨ b < 1 then 0 else (min m b).toNat

theorem howMany_le (b m : Int) : (howMany b m : Int) ≤ max b 0 := by unfold howMany; split <;> omega
theorem howMany_none {b m : Int} (h : m < 1 ∨ b < 1) : howMany b m = 0 := if_pos h
theorem howMany_some {b m : Int} (h : ¬ (m < 1 ∨ b < 1)) : howMany b m = (min m b).toNat := if_neg h

/-- All that is drawn: the state behind it, and the numbers, rising. -/
def someD (s : Nat) (b m : Int) : Nat × List Int := ((picks s (b - howMany b m) (howMany b m)).1, sortI (picks s (b - howMany b m) (howMany b m)).2)

theorem someD_length (s : Nat) (b m : Int) : (someD s b m).2.length = howMany b m := by
  unfold someD
  rw [sortI_length, picks_length]

theorem someD_mem {s : Nat} {b m x : Int} (h : x ∈ (someD s b m).2) : 0 ≤ x ∧ x < b := by
  unfold someD at h
  have h0 := howMany_le b m
  by_cases hb : b < 1
  · rw [howMany_none (.inr hb)] at h
    simp [picks, sortI] at h
  · have := mem_picks (by omega) (mem_sortI.1 h)
    omega

theorem someD_sorted (s : Nat) (b m : Int) : (someD s b m).2.Pairwise (· ≤ ·) := sortI_sorted _
theorem someD_nodup (s : Nat) (b m : Int) : (someD s b m).2.Nodup := by
  have h0 := howMany_le b m
  by_cases hb : b < 1
  · unfold someD
    rw [howMany_none (.inr hb)]
    simp [picks, sortI]
  · unfold someD
    exact (sortI_perm _).nodup_iff.2 (nodup_picks (by omega) _)

theorem someD_rises (s : Nat) (b m : Int) : (someD s b m).2.Pairwise (· < ·) := by
  have h1 := someD_sorted s b m
  have h2 := someD_nodup s b m
  exact (List.pairwise_and_iff.2 ⟨h1, h2⟩).imp (fun ⟨a, b⟩ => by omega)

theorem someD_none {s : Nat} {b m : Int} (h : m < 1 ∨ b < 1) : someD s b m = (s, []) := by
  unfold someD
  rw [howMany_none h]
  simp [picks, sortI]

end Go.Proofs.Ytbnedpjfgadkkaa
