/-
  compose: endsAt, agree, Right.
-/
import Derived.Test.YtkcijbejngnalaaGreatCoR
import Derived.Test.YtkcijbejngnalaaGreatCoA
namespace Go.Proofs.YtkcijbejngnalaaGreat
open Go.RowKit
set_option linter.unusedVariables false

/-- Whether something is so, as it is told. -/
def TellsP (P : Prop) (e : Ending) : Prop := ∃ b : Bool, e = .returned (.bool b) ∧ (b = true ↔ P)
theorem tells_no {P : Prop} {e : Ending} (h : e = .returned (.bool false)) (hp : ¬ P) : TellsP P e := ⟨false, h, ⟨fun h => by simp at h, fun h => absurd h hp⟩⟩
theorem tells_yes {P : Prop} {e : Ending} (h : e = .returned (.bool true)) (hp : P) : TellsP P e := ⟨true, h, ⟨fun _ => hp, fun _ => rfl⟩⟩

theorem elemParts : Tryz.prog.underlying 50 = some (.slice (Tryz.prog.elem 50)) := by kernel_rfl
theorem sizeParts (W : World) : (sizeOf (Tryz.prog.elem 50)).run Tryz.prog W = .ok 1 W := by
  have he : Tryz.prog.elem 50 = 25 := by kernel_rfl
  obtain ⟨i0, hi, hz0, hz1, hz2⟩ := infoBs_parts
  rw [he]
  simp [sizeOf, typeInfo, hi, hz1]

/-- The first of some slices. -/
theorem Sl.take {w : World} {ao : Option Addr} {n c N : Nat} {cs : List Value} (h : Sl 1 w (.slice ao n c) n cs) (hN : N ≤ n) : Sl 1 w (.slice ao N c) N (cs.take N) := by
  obtain ⟨h1, a, c', hv, h2, h3, h4, h5⟩ := h
  injection hv with e1 e2 e3
  subst e1; subst e3
  refine ⟨by simp; omega, ao, c, rfl, by omega, h3, h4, ?_⟩
  rcases h5 with h0 | ⟨b, off, hao, hc⟩
  · exact .inl (by omega)
  · refine .inr ⟨b, off, hao, fun j u hj => hc j u ?_⟩
    rw [List.getElem?_take] at hj
    split at hj
    · exact hj
    · cases hj
theorem Parts.take {w : World} {vs : List Value} {ls : List (List UInt8)} (h : Parts w vs ls) (N : Nat) : Parts w (vs.take N) (ls.take N) := by
  refine ⟨by rw [List.length_take, List.length_take, h.1], fun i v p hv hp => ?_⟩
  rw [List.getElem?_take] at hv hp
  split at hv
  · rw [if_pos (by assumption)] at hp
    exact h.2 i v p hv hp
  · cases hv

theorem RwOk.at {N A j : Nat} {rows : List (List Int)} (h : RwOk N A rows) (hj : j < A) : ∃ r, rows[j]? = some r ∧ r.length ≤ N ∧ (∀ i ∈ r, 0 ≤ i ∧ i < (N : Int)) ∧ eqOf N rows j = r ++ [(N : Int) + (j : Int)] := by
  obtain ⟨r, hr⟩ : ∃ r, rows[j]? = some r := ⟨_, List.getElem?_eq_getElem (by rw [h.1]; exact hj)⟩
  exact ⟨r, hr, (h.2 j r hr).1, (h.2 j r hr).2, by unfold eqOf; simp [List.getD, hr]⟩
theorem agree_next {N B j : Nat} {rows : List (List Int)} {ls : List (List UInt8)} (h : ∀ i, i < j → EqAt N B rows ls i) (hj : EqAt N B rows ls j) : ∀ i, i < j + 1 → EqAt N B rows ls i := by
  intro i hi
  by_cases e : i = j
  · rw [e]; exact hj
  · exact h i (by omega)

end Go.Proofs.YtkcijbejngnalaaGreat
