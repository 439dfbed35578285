/-
  degree: the statements' own first look.
-/
import Derived.Test.YtbnedpjfgadkkaaDegE
import Derived.Deep.QuietTactic
import Derived.BigQuiet
namespace Go.Proofs.Ytbnedpjfgadkkaa
open Go.RowKit
set_option linter.unusedVariables false

theorem may_nat {N B Q E F : Int} (h : May N B Q E F) : ∃ e f : Nat, E = e ∧ F = f ∧ MayD f e := by
  obtain ⟨-, -, -, h4, h5, h6⟩ := h
  obtain ⟨e, rfl⟩ := Int.eq_ofNat_of_zero_le (show 0 ≤ E by omega)
  obtain ⟨f, rfl⟩ := Int.eq_ofNat_of_zero_le (show 0 ≤ F by omega)
  refine ⟨e, f, rfl, rfl, by omega, by omega, by omega, by omega, ?_⟩
  have a : ((1000 : Nat) : Int) < ((f * e : Nat) : Int) := by rw [Int.natCast_mul]; exact h6
  omega

theorem may_two : May 1 1 1 ((1000 : Nat) : Int) ((2 : Nat) : Int) := ⟨by omega, by omega, by omega, by omega, by omega, by decide⟩
theorem mayD_two : MayD 2 1000 := ⟨by decide, by decide, by decide, by decide, by decide⟩
theorem below_two : belowN 2 1000 1 = 4611686018427387904 := by decide
theorem degat_one {d : Nat} (h : DegAt 2 1000 4611686018427387903 d) : d = 1 :=
  h.uniq ⟨by omega, by omega, fun i h1 h2 => by omega, fun _ => by rw [below_two]; decide⟩
theorem degat_two {d : Nat} (h : DegAt 2 1000 4611686018427387904 d) : d = 2 :=
  h.uniq ⟨by omega, by omega, fun i h1 h2 => by
    obtain rfl : i = 1 := by omega
    rw [below_two]
    exact Nat.le_refl _, fun h => by omega⟩

end Go.Proofs.Ytbnedpjfgadkkaa
