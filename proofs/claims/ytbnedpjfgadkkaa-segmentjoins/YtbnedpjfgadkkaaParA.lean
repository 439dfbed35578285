/-
  The walks of package params: within, Check; and of the document's May.
-/
import Derived.Test.YtbnedpjfgadkkaaRows
import Derived.Test.YtbnedpjfgadkkaaLBase
namespace Go.Proofs.Ytbnedpjfgadkkaa
open Go.RowKit
set_option linter.unusedVariables false

/-- Params that may be. -/
def May (N B Q E F : Int) : Prop := (1 ≤ N ∧ N ≤ 1048576) ∧ (1 ≤ B ∧ B ≤ 65535) ∧ (1 ≤ Q ∧ Q ≤ 8) ∧ (1 ≤ E ∧ E ≤ 1000) ∧ (2 ≤ F ∧ F ≤ 4096) ∧ 1000 < F * E

def decMay (N B Q E F : Int) : Decidable (May N B Q E F) := inferInstanceAs (Decidable ((1 ≤ N ∧ N ≤ 1048576) ∧ (1 ≤ B ∧ B ≤ 65535) ∧ (1 ≤ Q ∧ Q ≤ 8) ∧ (1 ≤ E ∧ E ≤ 1000) ∧ (2 ≤ F ∧ F ≤ 4096) ∧ 1000 < F * E))

theorem within_yes (n a b : Int) (w : World) (h : a ≤ n ∧ n ≤ b) : Calls Try.prog 49 #[.int .i64 n, .int .i64 a, .int .i64 b] w fun e w' => e = .returned (.bool true) ∧ w' = w := by
  obtain ⟨h1, h2⟩ := h
  go_enter Try.func49, Try.ntmps49
  go_wp2
  go_ret
  exact ⟨rfl, rfl⟩

theorem within_no (n a b : Int) (w : World) (h : ¬ (a ≤ n ∧ n ≤ b)) : Calls Try.prog 49 #[.int .i64 n, .int .i64 a, .int .i64 b] w fun e w' => e = .returned (.bool false) ∧ w' = w := by
  by_cases h1 : a ≤ n
  · have h2 : ¬ n ≤ b := fun h2 => h ⟨h1, h2⟩
    clear h
    go_enter Try.func49, Try.ntmps49
    go_wp2
    go_ret
    exact ⟨rfl, rfl⟩
  · clear h
    go_enter Try.func49, Try.ntmps49
    go_wp2
    go_ret
    exact ⟨rfl, rfl⟩

theorem mul_range {E F : Int} (hE : 1 ≤ E ∧ E ≤ 1000) (hF : 2 ≤ F ∧ F ≤ 4096) : 0 ≤ F * E ∧ F * E ≤ 4096000 := by
  have h1 : F * E ≤ 4096 * 1000 := Int.mul_le_mul hF.2 hE.2 (by omega) (by omega)
  have h2 : 0 ≤ F * E := Int.mul_nonneg (by omega) (by omega)
  omega

/-- The error's number of Params. -/
def mayE (N B Q E F : Int) : Int := @ite Int (May N B Q E F) (decMay N B Q E F) 0 1

theorem mayE_no {N B Q E F : Int} (h : ¬ May N B Q E F) : mayE N B Q E F = 1 := if_neg h
theorem mayE_yes {N B Q E F : Int} (h : May N B Q E F) : mayE N B Q E F = 0 := if_pos h

set_option maxRecDepth 100000 in
set_option maxHeartbeats 1000000 in
/-- CHECK. -/
theorem pcheck_any (N B Q E F : Int) (w : World) : Calls Try.prog 34 #[.agg #[.int .i64 N, .int .i64 B, .int .i64 Q, .int .i64 E, .int .i64 F]] w fun e w' => e = .returned (.int .i64 (mayE N B Q E F)) ∧ Below w.heap.size w w' := by
  by_cases hN : 1 ≤ N ∧ N ≤ 1048576
  · by_cases hB : 1 ≤ B ∧ B ≤ 65535
    · by_cases hQ : 1 ≤ Q ∧ Q ≤ 8
      · by_cases hE : 1 ≤ E ∧ E ≤ 1000
        · by_cases hF : 2 ≤ F ∧ F ≤ 4096
          · have hm := mul_range hE hF
            obtain ⟨P, hP⟩ : ∃ P, F * E = P := ⟨_, rfl⟩
            rw [hP] at hm
            obtain ⟨hm1, hm2⟩ := hm
            have hwr : IntKind.i64.wrap (F * E) = P := by rw [hP, IntKind.wrap_i64]; omega
            have HP : Hid (F * E = P) := hP
            clear hP
            go_enter Try.func34, Try.ntmps34
            go_wp2_with fail
            refine (within_yes N 1 1048576 _ hN).mono ?_
            rintro e w1 ⟨rfl, rfl⟩
            go_wp2_with fail
            refine (within_yes B 1 65535 _ hB).mono ?_
            rintro e w1 ⟨rfl, rfl⟩
            go_wp2_with fail
            refine (within_yes Q 1 8 _ hQ).mono ?_
            rintro e w1 ⟨rfl, rfl⟩
            go_wp2_with fail
            refine (within_yes E 1 1000 _ hE).mono ?_
            rintro e w1 ⟨rfl, rfl⟩
            go_wp2_with fail
            refine (within_yes F 2 4096 _ hF).mono ?_
            rintro e w1 ⟨rfl, rfl⟩
            by_cases h1000 : P ≤ 1000
            · go_wp2
              go_ret
              exact ⟨by rw [mayE_no (by rintro ⟨-, -, -, -, -, h⟩; rw [HP.out] at h; omega)]; rfl, below_alloc _ _⟩
            · go_wp2
              go_ret
              exact ⟨by rw [mayE_yes ⟨hN, hB, hQ, hE, hF, by rw [HP.out]; omega⟩]; rfl, below_alloc _ _⟩
          · rw [mayE_no (fun h => hF h.2.2.2.2.1)]
            go_enter Try.func34, Try.ntmps34
            go_wp2_with fail
            refine (within_yes N 1 1048576 _ hN).mono ?_
            rintro e w1 ⟨rfl, rfl⟩
            go_wp2_with fail
            refine (within_yes B 1 65535 _ hB).mono ?_
            rintro e w1 ⟨rfl, rfl⟩
            go_wp2_with fail
            refine (within_yes Q 1 8 _ hQ).mono ?_
            rintro e w1 ⟨rfl, rfl⟩
            go_wp2_with fail
            refine (within_yes E 1 1000 _ hE).mono ?_
            rintro e w1 ⟨rfl, rfl⟩
            go_wp2_with fail
            refine (within_no F 2 4096 _ hF).mono ?_
            rintro e w1 ⟨rfl, rfl⟩
            go_wp2
            go_ret
            exact ⟨rfl, below_alloc _ _⟩
        · rw [mayE_no (fun h => hE h.2.2.2.1)]
          go_enter Try.func34, Try.ntmps34
          go_wp2_with fail
          refine (within_yes N 1 1048576 _ hN).mono ?_
          rintro e w1 ⟨rfl, rfl⟩
          go_wp2_with fail
          refine (within_yes B 1 65535 _ hB).mono ?_
          rintro e w1 ⟨rfl, rfl⟩
          go_wp2_with fail
          refine (within_yes Q 1 8 _ hQ).mono ?_
          rintro e w1 ⟨rfl, rfl⟩
          go_wp2_with fail
          refine (within_no E 1 1000 _ hE).mono ?_
          rintro e w1 ⟨rfl, rfl⟩
          go_wp2
          go_ret
          exact ⟨rfl, below_alloc _ _⟩
      · rw [mayE_no (fun h => hQ h.2.2.1)]
        go_enter Try.func34, Try.ntmps34
        go_wp2_with fail
        refine (within_yes N 1 1048576 _ hN).mono ?_
        rintro e w1 ⟨rfl, rfl⟩
        go_wp2_with fail
        refine (within_yes B 1 65535 _ hB).mono ?_
        rintro e w1 ⟨rfl, rfl⟩
        go_wp2_with fail
        refine (within_no Q 1 8 _ hQ).mono ?_
        rintro e w1 ⟨rfl, rfl⟩
        go_wp2
        go_ret
        exact ⟨rfl, below_alloc _ _⟩
    · rw [mayE_no (fun h => hB h.2.1)]
      go_enter Try.func34, Try.ntmps34
      go_wp2_with fail
      refine (within_yes N 1 1048576 _ hN).mono ?_
      rintro e w1 ⟨rfl, rfl⟩
      go_wp2_with fail
      refine (within_no B 1 65535 _ hB).mono ?_
      rintro e w1 ⟨rfl, rfl⟩
      go_wp2
      go_ret
      exact ⟨rfl, below_alloc _ _⟩
  · rw [mayE_no (fun h => hN h.1)]
    go_enter Try.func34, Try.ntmps34
    go_wp2_with fail
    refine (within_no N 1 1048576 _ hN).mono ?_
    rintro e w1 ⟨rfl, rfl⟩
    go_wp2
    go_ret
    exact ⟨rfl, below_alloc _ _⟩


set_option maxRecDepth 100000 in
set_option maxHeartbeats 1000000 in
/-- The document's May, where they may be. -/
theorem rmay_yes (N B Q E F : Int) (w : World) (h : May N B Q E F) : Calls Try.prog 13 #[.agg #[.int .i64 N, .int .i64 B, .int .i64 Q, .int .i64 E, .int .i64 F]] w fun e w' => e = .returned (.bool true) ∧ Below w.heap.size w w' := by
  obtain ⟨⟨hN1, hN2⟩, ⟨hB1, hB2⟩, ⟨hQ1, hQ2⟩, hE, hF, hm⟩ := h
  have hr := mul_range hE hF
  obtain ⟨P, hP⟩ : ∃ P, F * E = P := ⟨_, rfl⟩
  rw [hP] at hr hm
  obtain ⟨hm1, hm2⟩ := hr
  have hwr : IntKind.i64.wrap (F * E) = P := by rw [hP, IntKind.wrap_i64]; omega
  obtain ⟨hE1, hE2⟩ := hE
  obtain ⟨hF1, hF2⟩ := hF
  clear hP
  go_enter Try.func13, Try.ntmps13
  go_wp2
  go_ret
  exact ⟨rfl, below_alloc _ _⟩

set_option maxRecDepth 100000 in
set_option maxHeartbeats 1000000 in
/-- The document's May, where they may not be. -/
theorem rmay_no (N B Q E F : Int) (w : World) (h : ¬ May N B Q E F) : Calls Try.prog 13 #[.agg #[.int .i64 N, .int .i64 B, .int .i64 Q, .int .i64 E, .int .i64 F]] w fun e w' => e = .returned (.bool false) ∧ Below w.heap.size w w' := by
  by_cases hN1 : N < 1
  · clear h
    go_enter Try.func13, Try.ntmps13
    go_wp2
    go_ret
    exact ⟨rfl, below_alloc _ _⟩
  by_cases hN2 : N > 1048576
  · clear h
    go_enter Try.func13, Try.ntmps13
    go_wp2
    go_ret
    exact ⟨rfl, below_alloc _ _⟩
  by_cases hB1 : B < 1
  · clear h
    go_enter Try.func13, Try.ntmps13
    go_wp2
    go_ret
    exact ⟨rfl, below_alloc _ _⟩
  by_cases hB2 : B > 65535
  · clear h
    go_enter Try.func13, Try.ntmps13
    go_wp2
    go_ret
    exact ⟨rfl, below_alloc _ _⟩
  by_cases hQ1 : Q < 1
  · clear h
    go_enter Try.func13, Try.ntmps13
    go_wp2
    go_ret
    exact ⟨rfl, below_alloc _ _⟩
  by_cases hQ2 : Q > 8
  · clear h
    go_enter Try.func13, Try.ntmps13
    go_wp2
    go_ret
    exact ⟨rfl, below_alloc _ _⟩
  by_cases hE1 : E < 1
  · clear h
    go_enter Try.func13, Try.ntmps13
    go_wp2
    go_ret
    exact ⟨rfl, below_alloc _ _⟩
  by_cases hE2 : E > 1000
  · clear h
    go_enter Try.func13, Try.ntmps13
    go_wp2
    go_ret
    exact ⟨rfl, below_alloc _ _⟩
  by_cases hF1 : F < 2
  · clear h
    go_enter Try.func13, Try.ntmps13
    go_wp2
    go_ret
    exact ⟨rfl, below_alloc _ _⟩
  by_cases hF2 : F > 4096
  · clear h
    go_enter Try.func13, Try.ntmps13
    go_wp2
    go_ret
    exact ⟨rfl, below_alloc _ _⟩
  have hr := mul_range (E := E) (F := F) (by omega) (by omega)
  have hm : ¬ 1000 < F * E := fun hm => h ⟨by omega, by omega, by omega, by omega, by omega, hm⟩
  obtain ⟨P, hP⟩ : ∃ P, F * E = P := ⟨_, rfl⟩
  rw [hP] at hr hm
  obtain ⟨hm1, hm2⟩ := hr
  have hwr : IntKind.i64.wrap (F * E) = P := by rw [hP, IntKind.wrap_i64]; omega
  clear hP h
  go_enter Try.func13, Try.ntmps13
  go_wp2
  go_ret
  exact ⟨rfl, below_alloc _ _⟩

/-- The document's May. -/
theorem rmay_any (N B Q E F : Int) (w : World) : Calls Try.prog 13 #[.agg #[.int .i64 N, .int .i64 B, .int .i64 Q, .int .i64 E, .int .i64 F]] w fun e w' => e = .returned (.bool (@decide (May N B Q E F) (decMay N B Q E F))) ∧ Below w.heap.size w w' := by
  by_cases h : May N B Q E F
  · rw [@decide_eq_true _ (decMay N B Q E F) h]
    exact rmay_yes N B Q E F w h
  · rw [@decide_eq_false _ (decMay N B Q E F) h]
    exact rmay_no N B Q E F w h

end Go.Proofs.Ytbnedpjfgadkkaa
