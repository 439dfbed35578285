/-
  SampleAll: what is reckoned: of all numbers but one each is left out by some seed.
-/
import Derived.Test.YthlladpappldbaaSmpM
namespace Go.Proofs.Ythlladpappldbaa
set_option linter.unusedVariables false

def outOk (sd n : Nat) : Bool := (List.range n).all fun i => (List.range 200).any fun s => !(decide ((i : Int) ∈ (picks (seedTo 0 [sd, s]) 1 (n - 1)).2))

theorem out_all : ((List.range 64).all fun sd => (List.range 6).all fun n => outOk sd (n + 1)) = true := by decide +kernel

theorem out_at {sd n i : Nat} (hs : sd < 64) (h1 : 1 ≤ n) (h6 : n ≤ 6) (hi : i < n) : ∃ s, s < 200 ∧ (i : Int) ∉ (picks (seedTo 0 [sd, s]) 1 (n - 1)).2 := by
  have h := out_all
  rw [List.all_eq_true] at h
  have h2 := h sd (List.mem_range.2 hs)
  rw [List.all_eq_true] at h2
  have h3 := h2 (n - 1) (List.mem_range.2 (by omega))
  rw [show n - 1 + 1 = n by omega] at h3
  unfold outOk at h3
  rw [List.all_eq_true] at h3
  have h4 := h3 i (List.mem_range.2 hi)
  rw [List.any_eq_true] at h4
  obtain ⟨s, hs2, h5⟩ := h4
  refine ⟨s, List.mem_range.1 hs2, ?_⟩
  intro hm
  rw [decide_eq_true hm] at h5
  cases h5

/-- What is drawn by two seeds, all but one. -/
def outL (sd n s : Nat) : List Int := (someD (seedTo 0 [sd, s]) (n : Int) ((n : Int) - 1)).2

theorem mem_outL {sd n s : Nat} (h1 : 1 ≤ n) (x : Int) : x ∈ outL sd n s ↔ x ∈ (picks (seedTo 0 [sd, s]) 1 (n - 1)).2 := by
  have hk : howMany (n : Int) ((n : Int) - 1) = n - 1 := by unfold howMany; split <;> omega
  unfold outL someD
  rw [hk, mem_sortI, show (n : Int) - ((n - 1 : Nat) : Int) = 1 by omega]

/-- How often a number was left out. -/
def cntO (L : Nat → List Int) (i : Nat) : Nat → Nat
  | 0 => 0
  | k + 1 => cntO L i k + if (i : Int) ∈ L k then 0 else 1

theorem cntO_le (L : Nat → List Int) (i k : Nat) : cntO L i k ≤ k := by
  induction k with
  | zero => exact Nat.le_refl _
  | succ k ih => unfold cntO; split <;> omega

theorem cntO_pos {L : Nat → List Int} {i s : Nat} (h : (i : Int) ∉ L s) : ∀ k, s < k → 0 < cntO L i k := by
  intro k
  induction k with
  | zero => intro h; omega
  | succ k ih =>
    intro hk
    unfold cntO
    by_cases e : s = k
    · subst e
      rw [if_neg h]
      omega
    · have := ih (by omega)
      omega

theorem cntO_all {sd n i : Nat} (hs : sd < 64) (h1 : 1 ≤ n) (h6 : n ≤ 6) (hi : i < n) : 0 < cntO (outL sd n) i 200 := by
  obtain ⟨s, h2, h3⟩ := out_at hs h1 h6 hi
  exact cntO_pos (fun e => h3 ((mem_outL h1 _).1 e)) 200 h2

/-- The row of counts: the first j of them are those behind k + 1, the others behind k. -/
def outTo (L : Nat → List Int) (n k j : Nat) : List Int := (List.range n).map fun i => if i < j then (cntO L i (k + 1) : Int) else (cntO L i k : Int)

theorem outTo_length (L : Nat → List Int) (n k j : Nat) : (outTo L n k j).length = n := by simp [outTo]
theorem outTo_start (L : Nat → List Int) (n : Nat) : outTo L n 0 0 = List.replicate n 0 := by
  apply List.ext_getElem
  · simp [outTo]
  · intro i h1 h2
    simp [outTo, cntO]
theorem outTo_turn (L : Nat → List Int) (n k : Nat) : outTo L n k n = outTo L n (k + 1) 0 := by
  unfold outTo
  apply List.map_congr_left
  intro i hi
  have := List.mem_range.1 hi
  simp [this]
theorem outTo_at (L : Nat → List Int) (n k j : Nat) (h : j < n) : (outTo L n k j)[j]? = some (cntO L j k : Int) := by
  simp [outTo, h]
theorem outTo_in {L : Nat → List Int} {n k j : Nat} (h : j < n) (hm : (j : Int) ∈ L k) : outTo L n k (j + 1) = outTo L n k j := by
  unfold outTo
  apply List.map_congr_left
  intro i hi
  by_cases e : i = j
  · subst e
    simp [cntO, hm]
  · by_cases h2 : i < j
    · rw [if_pos h2, if_pos (by omega)]
    · rw [if_neg h2, if_neg (by omega)]
theorem outTo_out {L : Nat → List Int} {n k j : Nat} (h : j < n) (hm : (j : Int) ∉ L k) : outTo L n k (j + 1) = (outTo L n k j).set j ((cntO L j k : Int) + 1) := by
  apply List.ext_getElem
  · simp [outTo]
  · intro i h1 h2
    by_cases e : i = j
    · subst e
      simp [outTo, cntO, hm]
    · rw [List.getElem_set_ne (by omega)]
      simp only [outTo, List.getElem_map, List.getElem_range]
      by_cases h2 : i < j
      · rw [if_pos h2, if_pos (by omega)]
      · rw [if_neg h2, if_neg (by omega)]
theorem outTo_last {L : Nat → List Int} {n k j : Nat} (h : j < n) : (outTo L n k 0)[j]? = some (cntO L j k : Int) := by
  simp [outTo, h]

end Go.Proofs.Ythlladpappldbaa
