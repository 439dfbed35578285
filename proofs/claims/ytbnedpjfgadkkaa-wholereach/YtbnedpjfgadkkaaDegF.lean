/-
  degree: a number's degree, named ahead.
-/
import Derived.Test.YtbnedpjfgadkkaaDegS
namespace Go.Proofs.Ytbnedpjfgadkkaa
open Go.RowKit
set_option linter.unusedVariables false

theorem deg_or (F E u : Nat) (h : 2 ≤ F) : ∀ k, k < F → (∀ i, 1 ≤ i → i ≤ k → belowN F E i ≤ u) ∨ ∃ d, DegAt F E u d := by
  intro k
  induction k with
  | zero => intro _; exact .inl (fun i h1 h2 => by omega)
  | succ k ih =>
    intro hk
    rcases ih (by omega) with h1 | h1
    · by_cases hb : u < belowN F E (k + 1)
      · exact .inr ⟨k + 1, by omega, by omega, fun i a b => h1 i a (by omega), fun _ => hb⟩
      · refine .inl fun i a b => ?_
        by_cases e : i = k + 1
        · rw [e]; omega
        · exact h1 i a (by omega)
    · exact .inr h1

theorem deg_is {F E : Nat} (u : Nat) (h : 2 ≤ F) : ∃ d, DegAt F E u d := by
  rcases deg_or F E u h (F - 1) (by omega) with h1 | h1
  · exact ⟨F, by omega, Nat.le_refl _, fun i a b => h1 i a (by omega), fun c => by omega⟩
  · exact h1

theorem dof_at {F E u d : Nat} (hd : DegAt F E u d) (a : Nat) (w : World) (h : IsDT w a F E) (hm : MayD F E) (hu : u < 18446744073709551616) :
    Calls Try.prog 27 #[.pointer (some ⟨a, 0, none⟩), .int .u64 (u : Nat)] w fun e w' => e = .returned (.int .i64 (d : Nat)) ∧ Below w.heap.size w w' := by
  refine (dof_any a F E u w h hm hu).mono ?_
  rintro e w' ⟨c, rfl, hc, hb⟩
  rw [hc.uniq hd]
  exact ⟨rfl, hb⟩

theorem rdof_at {F E u d : Nat} (hd : DegAt F E u d) (N B Q : Int) (w : World) (hm : MayD F E) :
    Calls Try.prog 33 #[.agg #[.int .i64 N, .int .i64 B, .int .i64 Q, .int .i64 (E : Nat), .int .i64 (F : Nat)], .int .u64 (u : Nat)] w fun e w' => e = .returned (.int .i64 (d : Nat)) ∧ Below w.heap.size w w' := by
  refine (rdof_any N B Q F E u w hm).mono ?_
  rintro e w' ⟨c, rfl, hc, hb⟩
  rw [hc.uniq hd]
  exact ⟨rfl, hb⟩

end Go.Proofs.Ytbnedpjfgadkkaa
