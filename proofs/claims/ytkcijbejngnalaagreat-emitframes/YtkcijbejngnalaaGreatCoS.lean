/-
  compose: what the statements' speaks says.
-/
import Derived.Test.YtkcijbejngnalaaGreatCoE
import Derived.Test.YtkcijbejngnalaaGreatZOut
namespace Go.Proofs.YtkcijbejngnalaaGreat
open Go.RowKit
set_option linter.unusedVariables false

theorem may_small {N B Q E F : Int} {n q A : Nat} (h : PrOk N B Q E F n q A) (hN : N ≤ 61) : A ≤ 1000000 := by
  obtain ⟨h1, h2, h3, h4, h5, h6⟩ := h.may
  have r := share_range (N := N) (Q := Q) (E := E) ⟨h1.1, h1.2⟩ h3 h4
  have k1 : 55 * Q * E * N ≤ 440000 * 61 := Int.mul_le_mul r.1.2 hN (by omega) (by omega)
  have e := h.ea
  unfold aux at e
  omega

theorem pr_two : PrOk ((2 : Nat) : Int) 1 ((1 : Nat) : Int) 900 2 2 1 1 := ⟨by unfold May; decide, rfl, rfl, by decide⟩
theorem has_two (S : Nat) : hasR S 1 1 2 = [[0, 1]] := by
  show addAll (hasR S 1 1 1) (ofD S 1 1 1) _ = _
  rw [of_one, has_one]
  rfl
theorem comp_two (S : Nat) : compD 2 1 (hasR S 1 1 2) [6, 3] = [[6], [3], [5]] := by
  rw [has_two]
  decide

/-- A row of three blocks, and what each is. -/
def Three (W : World) (b : Nat) (v0 v1 v2 : Value) (x0 x1 x2 : List UInt8) : Prop := Sl 1 W (.slice (some ⟨b, 0, none⟩) 3 3) [v0, v1, v2].length [v0, v1, v2] ∧ Parts W [v0, v1, v2] [x0, x1, x2]
theorem parts_three {w : World} {v0 v1 v2 : Value} {x0 x1 x2 : List UInt8} (h0 : Bs w v0 x0) (h1 : Bs w v1 x1) (h2 : Bs w v2 x2) : Parts w [v0, v1, v2] [x0, x1, x2] := by
  refine ⟨rfl, fun i u p hu hp => ?_⟩
  have hi : i < 3 := by have := (List.getElem?_eq_some_iff.1 hu).1; simpa using this
  match i, hi with
  | 0, _ => simp at hu hp; subst hu; subst hp; exact h0
  | 1, _ => simp at hu hp; subst hu; subst hp; exact h1
  | 2, _ => simp at hu hp; subst hu; subst hp; exact h2
theorem ok_02 : OkOf 1 [[6], [3], [5]] [0, 2] := by
  intro i hi
  simp at hi
  rcases hi with rfl | rfl
  · exact ⟨0, [6], rfl, rfl, rfl⟩
  · exact ⟨2, [5], rfl, rfl, rfl⟩

end Go.Proofs.YtkcijbejngnalaaGreat
