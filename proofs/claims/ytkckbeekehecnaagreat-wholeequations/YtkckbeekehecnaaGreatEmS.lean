/-
  emit: the statements' small and speaks.
-/
import Derived.Test.YtkckbeekehecnaaGreatEmC
import Derived.Test.YtkckbeekehecnaaGreatCBlks
namespace Go.Proofs.YtkckbeekehecnaaGreat
open Go.RowKit
set_option linter.unusedVariables false

def smallP (N B Q E F : Int) (n : Nat) : Prop := May N B Q E F ∧ N ≤ 60 ∧ B ≤ 60 ∧ F ≤ 200 ∧ (n : Int) ≤ N * B

theorem pr_e1 : PrOk ((1 : Nat) : Int) ((2 : Nat) : Int) ((1 : Nat) : Int) ((1000 : Nat) : Int) ((2 : Nat) : Int) 1 1 1 := ⟨by unfold May; decide, rfl, rfl, by decide⟩
theorem comp_e1 (S : Nat) : compD 1 2 (hasR S 1 1 1) [5, 6] = [[5, 6], [5, 6]] := by
  rw [has_one]
  decide
theorem mayH_e1 : MayH 1 2 1 1000 2 2 := ⟨⟨by omega, by omega, by omega, by omega, by omega, by decide⟩, by decide, by decide⟩
/-- Blocks of a check block are there. -/
theorem Chk.ok {F E S K id k N B A : Nat} {l : List Int} {rows : List (List Int)} {o : List UInt8} (hc : Chk F E S K id k l) (hr : RwOk N A rows) (hK : K = N + A) : OkOf B (compD N B rows o) l :=
  okOf_below (compD_mem hr) (by rw [compD_length, hr.1]; exact fun i hi => by have := hc.mem hi; omega)

end Go.Proofs.YtkckbeekehecnaaGreat
