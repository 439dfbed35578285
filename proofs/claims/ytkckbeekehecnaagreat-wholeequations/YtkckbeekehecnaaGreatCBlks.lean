/-
  ComposeBlocks.
-/
import Derived.Test.YtkckbeekehecnaaGreatZQ
import Derived.Test.YtkckbeekehecnaaGreatZBase
namespace Go.Proofs.YtkckbeekehecnaaGreat
open Go.RowKit
set_option linter.unusedVariables false

theorem pr_nat {N B Q E F : Int} (h : May N B Q E F) : ∃ n b q A : Nat, N = (n : Int) ∧ B = (b : Int) ∧ Q = (q : Int) ∧ PrOk (n : Int) (b : Int) (q : Int) E F n q A := by
  obtain ⟨n, q, A, h1⟩ := PrOk.of h
  have hB := h.2.1
  obtain ⟨b, hb⟩ := Int.eq_ofNat_of_zero_le (show 0 ≤ B by omega)
  refine ⟨n, b, q, A, h1.en, hb, h1.eq, ?_⟩
  have e1 := h1.en
  have e2 := h1.eq
  subst e1; subst e2; subst hb
  exact h1

end Go.Proofs.YtkckbeekehecnaaGreat
