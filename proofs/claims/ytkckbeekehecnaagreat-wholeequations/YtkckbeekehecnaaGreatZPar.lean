/-
  Texts that lie together: ParA ParB.
-/
import Derived.Test.YtkckbeekehecnaaGreatRows
import Derived.Test.YtkckbeekehecnaaGreatZBase
namespace Go.Proofs.YtkckbeekehecnaaGreat

section
/-
  The walks of package params: within, Check; and of the document's May.
-/
open Go.RowKit
set_option linter.unusedVariables false

/-- Params that may be. -/
def May (N B Q E F : Int) : Prop := (1 ≤ N ∧ N ≤ 1048576) ∧ (1 ≤ B ∧ B ≤ 65535) ∧ (1 ≤ Q ∧ Q ≤ 8) ∧ (1 ≤ E ∧ E ≤ 1000) ∧ (2 ≤ F ∧ F ≤ 4096) ∧ 1000 < F * E

def decMay (N B Q E F : Int) : Decidable (May N B Q E F) := inferInstanceAs (Decidable ((1 ≤ N ∧ N ≤ 1048576) ∧ (1 ≤ B ∧ B ≤ 65535) ∧ (1 ≤ Q ∧ Q ≤ 8) ∧ (1 ≤ E ∧ E ≤ 1000) ∧ (2 ≤ F ∧ F ≤ 4096) ∧ 1000 < F * E))

theorem within_yes (n a b : Int) (w : World) (h : a ≤ n ∧ n ≤ b) : Calls Tryz.prog 48 #[.int .i64 n, .int .i64 a, .int .i64 b] w fun e w' => e = .returned (.bool true) ∧ w' = w := by
  obtain ⟨h1, h2⟩ := h
  go_enter Tryz.func48, Tryz.ntmps48
  go_wp2
  go_ret
  exact ⟨rfl, rfl⟩

theorem within_no (n a b : Int) (w : World) (h : ¬ (a ≤ n ∧ n ≤ b)) : Calls Tryz.prog 48 #[.int .i64 n, .int .i64 a, .int .i64 b] w fun e w' => e = .returned (.bool false) ∧ w' = w := by
  by_cases h1 : a ≤ n
  · have h2 : ¬ n ≤ b := fun h2 => h ⟨h1, h2⟩
    clear h
    go_enter Tryz.func48, Tryz.ntmps48
    go_wp2
    go_ret
    exact ⟨rfl, rfl⟩
  · clear h
    go_enter Tryz.func48, Tryz.ntmps48
    go_wp2
    go_ret
    exact ⟨rfl, rfl⟩

theorem mul_range {E F : Int} (hE : 1 ≤ E ∧ E ≤ 1000) (hF : 2 ≤ F ∧ F ≤ 4096) : 0 ≤ F * E ∧ F * E ≤ 4096000 := by
  have h1 : F * E ≤ 4096 * 1000 := Int.mul_le_mul hF.2 hE.2 (by omega) (by omega)
  have h2 : 0 ≤ F * E := Int.mul_nonneg (by omega) (by omega)
  omega

/-- The error's number of Params. -/
def mayE (N B Q E F : Int) : Int := @ite Int (May N B Q E F) (decMay N B Q E F) 0 1

theorem mayE_no {N B Q E F : Int} (h : ¬ May N B Q E F) : mayE N B Q E F = 1 := if_neg h
theorem mayE_yes {N B Q E F : Int} (h : May N B Q E F) : mayE N B Q E F = 0 := if_pos h

set_option maxRecDepth 100000 in
set_option maxHeartbeats 1000000 in
/-- CHECK. -/
theorem pcheck_any (N B Q E F : Int) (w : World) : Calls Tryz.prog 23 #[.agg #[.int .i64 N, .int .i64 B, .int .i64 Q, .int .i64 E, .int .i64 F]] w fun e w' => e = .returned (.int .i64 (mayE N B Q E F)) ∧ Below w.heap.size w w' := by
  by_cases hN : 1 ≤ N ∧ N ≤ 1048576
  · by_cases hB : 1 ≤ B ∧ B ≤ 65535
    · by_cases hQ : 1 ≤ Q ∧ Q ≤ 8
      · by_cases hE : 1 ≤ E ∧ E ≤ 1000
        · by_cases hF : 2 ≤ F ∧ F ≤ 4096
          · have hm := mul_range hE hF
            obtain ⟨P, hP⟩ : ∃ P, F * E = P := ⟨_, rfl⟩
            rw [hP] at hm
            obtain ⟨hm1, hm2⟩ := hm
            have hwr : IntKind.i64.wrap (F * E) = P := by rw [hP, IntKind.wrap_i64]; omega
            have HP : Hid (F * E = P) := hP
            clear hP
            go_enter Tryz.func23, Tryz.ntmps23
            go_wp2_with fail
            refine (within_yes N 1 1048576 _ hN).mono ?_
            rintro e w1 ⟨rfl, rfl⟩
            go_wp2_with fail
            refine (within_yes B 1 65535 _ hB).mono ?_
            rintro e w1 ⟨rfl, rfl⟩
            go_wp2_with fail
            refine (within_yes Q 1 8 _ hQ).mono ?_
            rintro e w1 ⟨rfl, rfl⟩
            go_wp2_with fail
            refine (within_yes E 1 1000 _ hE).mono ?_
            rintro e w1 ⟨rfl, rfl⟩
            go_wp2_with fail
            refine (within_yes F 2 4096 _ hF).mono ?_
            rintro e w1 ⟨rfl, rfl⟩
            by_cases h1000 : P ≤ 1000
            · go_wp2
              go_ret
              exact ⟨by rw [mayE_no (by rintro ⟨-, -, -, -, -, h⟩; rw [HP.out] at h; omega)]; rfl, below_alloc _ _⟩
            · go_wp2
              go_ret
              exact ⟨by rw [mayE_yes ⟨hN, hB, hQ, hE, hF, by rw [HP.out]; omega⟩]; rfl, below_alloc _ _⟩
          · rw [mayE_no (fun h => hF h.2.2.2.2.1)]
            go_enter Tryz.func23, Tryz.ntmps23
            go_wp2_with fail
            refine (within_yes N 1 1048576 _ hN).mono ?_
            rintro e w1 ⟨rfl, rfl⟩
            go_wp2_with fail
            refine (within_yes B 1 65535 _ hB).mono ?_
            rintro e w1 ⟨rfl, rfl⟩
            go_wp2_with fail
            refine (within_yes Q 1 8 _ hQ).mono ?_
            rintro e w1 ⟨rfl, rfl⟩
            go_wp2_with fail
            refine (within_yes E 1 1000 _ hE).mono ?_
            rintro e w1 ⟨rfl, rfl⟩
            go_wp2_with fail
            refine (within_no F 2 4096 _ hF).mono ?_
            rintro e w1 ⟨rfl, rfl⟩
            go_wp2
            go_ret
            exact ⟨rfl, below_alloc _ _⟩
        · rw [mayE_no (fun h => hE h.2.2.2.1)]
          go_enter Tryz.func23, Tryz.ntmps23
          go_wp2_with fail
          refine (within_yes N 1 1048576 _ hN).mono ?_
          rintro e w1 ⟨rfl, rfl⟩
          go_wp2_with fail
          refine (within_yes B 1 65535 _ hB).mono ?_
          rintro e w1 ⟨rfl, rfl⟩
          go_wp2_with fail
          refine (within_yes Q 1 8 _ hQ).mono ?_
          rintro e w1 ⟨rfl, rfl⟩
          go_wp2_with fail
          refine (within_no E 1 1000 _ hE).mono ?_
          rintro e w1 ⟨rfl, rfl⟩
          go_wp2
          go_ret
          exact ⟨rfl, below_alloc _ _⟩
      · rw [mayE_no (fun h => hQ h.2.2.1)]
        go_enter Tryz.func23, Tryz.ntmps23
        go_wp2_with fail
        refine (within_yes N 1 1048576 _ hN).mono ?_
        rintro e w1 ⟨rfl, rfl⟩
        go_wp2_with fail
        refine (within_yes B 1 65535 _ hB).mono ?_
        rintro e w1 ⟨rfl, rfl⟩
        go_wp2_with fail
        refine (within_no Q 1 8 _ hQ).mono ?_
        rintro e w1 ⟨rfl, rfl⟩
        go_wp2
        go_ret
        exact ⟨rfl, below_alloc _ _⟩
    · rw [mayE_no (fun h => hB h.2.1)]
      go_enter Tryz.func23, Tryz.ntmps23
      go_wp2_with fail
      refine (within_yes N 1 1048576 _ hN).mono ?_
      rintro e w1 ⟨rfl, rfl⟩
      go_wp2_with fail
      refine (within_no B 1 65535 _ hB).mono ?_
      rintro e w1 ⟨rfl, rfl⟩
      go_wp2
      go_ret
      exact ⟨rfl, below_alloc _ _⟩
  · rw [mayE_no (fun h => hN h.1)]
    go_enter Tryz.func23, Tryz.ntmps23
    go_wp2_with fail
    refine (within_no N 1 1048576 _ hN).mono ?_
    rintro e w1 ⟨rfl, rfl⟩
    go_wp2
    go_ret
    exact ⟨rfl, below_alloc _ _⟩


set_option maxRecDepth 100000 in
set_option maxHeartbeats 1000000 in
/-- The document's May, where they may be. -/
theorem rmay_yes (N B Q E F : Int) (w : World) (h : May N B Q E F) : Calls Tryz.prog 5 #[.agg #[.int .i64 N, .int .i64 B, .int .i64 Q, .int .i64 E, .int .i64 F]] w fun e w' => e = .returned (.bool true) ∧ Below w.heap.size w w' := by
  obtain ⟨⟨hN1, hN2⟩, ⟨hB1, hB2⟩, ⟨hQ1, hQ2⟩, hE, hF, hm⟩ := h
  have hr := mul_range hE hF
  obtain ⟨P, hP⟩ : ∃ P, F * E = P := ⟨_, rfl⟩
  rw [hP] at hr hm
  obtain ⟨hm1, hm2⟩ := hr
  have hwr : IntKind.i64.wrap (F * E) = P := by rw [hP, IntKind.wrap_i64]; omega
  obtain ⟨hE1, hE2⟩ := hE
  obtain ⟨hF1, hF2⟩ := hF
  clear hP
  go_enter Tryz.func5, Tryz.ntmps5
  go_wp2
  go_ret
  exact ⟨rfl, below_alloc _ _⟩

set_option maxRecDepth 100000 in
set_option maxHeartbeats 1000000 in
/-- The document's May, where they may not be. -/
theorem rmay_no (N B Q E F : Int) (w : World) (h : ¬ May N B Q E F) : Calls Tryz.prog 5 #[.agg #[.int .i64 N, .int .i64 B, .int .i64 Q, .int .i64 E, .int .i64 F]] w fun e w' => e = .returned (.bool false) ∧ Below w.heap.size w w' := by
  by_cases hN1 : N < 1
  · clear h
    go_enter Tryz.func5, Tryz.ntmps5
    go_wp2
    go_ret
    exact ⟨rfl, below_alloc _ _⟩
  by_cases hN2 : N > 1048576
  · clear h
    go_enter Tryz.func5, Tryz.ntmps5
    go_wp2
    go_ret
    exact ⟨rfl, below_alloc _ _⟩
  by_cases hB1 : B < 1
  · clear h
    go_enter Tryz.func5, Tryz.ntmps5
    go_wp2
    go_ret
    exact ⟨rfl, below_alloc _ _⟩
  by_cases hB2 : B > 65535
  · clear h
    go_enter Tryz.func5, Tryz.ntmps5
    go_wp2
    go_ret
    exact ⟨rfl, below_alloc _ _⟩
  by_cases hQ1 : Q < 1
  · clear h
    go_enter Tryz.func5, Tryz.ntmps5
    go_wp2
    go_ret
    exact ⟨rfl, below_alloc _ _⟩
  by_cases hQ2 : Q > 8
  · clear h
    go_enter Tryz.func5, Tryz.ntmps5
    go_wp2
    go_ret
    exact ⟨rfl, below_alloc _ _⟩
  by_cases hE1 : E < 1
  · clear h
    go_enter Tryz.func5, Tryz.ntmps5
    go_wp2
    go_ret
    exact ⟨rfl, below_alloc _ _⟩
  by_cases hE2 : E > 1000
  · clear h
    go_enter Tryz.func5, Tryz.ntmps5
    go_wp2
    go_ret
    exact ⟨rfl, below_alloc _ _⟩
  by_cases hF1 : F < 2
  · clear h
    go_enter Tryz.func5, Tryz.ntmps5
    go_wp2
    go_ret
    exact ⟨rfl, below_alloc _ _⟩
  by_cases hF2 : F > 4096
  · clear h
    go_enter Tryz.func5, Tryz.ntmps5
    go_wp2
    go_ret
    exact ⟨rfl, below_alloc _ _⟩
  have hr := mul_range (E := E) (F := F) (by omega) (by omega)
  have hm : ¬ 1000 < F * E := fun hm => h ⟨by omega, by omega, by omega, by omega, by omega, hm⟩
  obtain ⟨P, hP⟩ : ∃ P, F * E = P := ⟨_, rfl⟩
  rw [hP] at hr hm
  obtain ⟨hm1, hm2⟩ := hr
  have hwr : IntKind.i64.wrap (F * E) = P := by rw [hP, IntKind.wrap_i64]; omega
  clear hP h
  go_enter Tryz.func5, Tryz.ntmps5
  go_wp2
  go_ret
  exact ⟨rfl, below_alloc _ _⟩

/-- The document's May. -/
theorem rmay_any (N B Q E F : Int) (w : World) : Calls Tryz.prog 5 #[.agg #[.int .i64 N, .int .i64 B, .int .i64 Q, .int .i64 E, .int .i64 F]] w fun e w' => e = .returned (.bool (@decide (May N B Q E F) (decMay N B Q E F))) ∧ Below w.heap.size w w' := by
  by_cases h : May N B Q E F
  · rw [@decide_eq_true _ (decMay N B Q E F) h]
    exact rmay_yes N B Q E F w h
  · rw [@decide_eq_false _ (decMay N B Q E F) h]
    exact rmay_no N B Q E F w h

end

section
/-
  The walks of package params: Auxiliary, All, Most, places, Blocks, Edges, Work; the document's May and Auxiliary.
-/
open Go.RowKit
set_option linter.unusedVariables false

/-- How many auxiliary blocks. -/
def aux (N Q E : Int) : Int := max Q ((55 * Q * E * N + 99999) / 100000)

theorem share_range {N Q E : Int} (hN : 1 ≤ N ∧ N ≤ 1048576) (hQ : 1 ≤ Q ∧ Q ≤ 8) (hE : 1 ≤ E ∧ E ≤ 1000) :
    (0 ≤ 55 * Q * E ∧ 55 * Q * E ≤ 440000) ∧ (0 ≤ 55 * Q * E * N ∧ 55 * Q * E * N ≤ 461373440000) := by
  have h1 : 55 * Q * E ≤ 440 * 1000 := Int.mul_le_mul (by omega) hE.2 (by omega) (by omega)
  have h2 : 0 ≤ 55 * Q * E := Int.mul_nonneg (by omega) (by omega)
  have h3 : 55 * Q * E * N ≤ 440000 * 1048576 := Int.mul_le_mul (by omega) hN.2 (by omega) (by omega)
  have h4 : 0 ≤ 55 * Q * E * N := Int.mul_nonneg (by omega) (by omega)
  omega

theorem aux_range {N Q E : Int} (hN : 1 ≤ N ∧ N ≤ 1048576) (hQ : 1 ≤ Q ∧ Q ≤ 8) (hE : 1 ≤ E ∧ E ≤ 1000) : Q ≤ aux N Q E ∧ aux N Q E ≤ 5000000 := by
  have h := share_range hN hQ hE
  unfold aux
  omega

theorem pair_range {a b A B : Int} (ha : 0 ≤ a ∧ a ≤ A) (hb : 0 ≤ b ∧ b ≤ B) : 0 ≤ a * b ∧ a * b ≤ A * B :=
  ⟨Int.mul_nonneg ha.1 hb.1, Int.mul_le_mul ha.2 hb.2 hb.1 (Int.le_trans ha.1 ha.2)⟩

/-- A block of five numbers, as a box lies. -/
def Five (W : World) (b : Nat) (N B Q E F : Int) : Prop := W.cell? ⟨b, 0, none⟩ = some (.int .i64 N) ∧ W.cell? ⟨b, 1, none⟩ = some (.int .i64 B) ∧ W.cell? ⟨b, 2, none⟩ = some (.int .i64 Q) ∧ W.cell? ⟨b, 3, none⟩ = some (.int .i64 E) ∧ W.cell? ⟨b, 4, none⟩ = some (.int .i64 F)

theorem Five.below {W W' : World} {b : Nat} {N B Q E F : Int} (h : Five W b N B Q E F) (hb : Below W.heap.size W W') : Five W' b N B Q E F := by
  obtain ⟨h0, h1, h2, h3, h4⟩ := h
  exact ⟨(hb.cell (cell_block_lt h0)).trans h0, (hb.cell (cell_block_lt h1)).trans h1, (hb.cell (cell_block_lt h2)).trans h2, (hb.cell (cell_block_lt h3)).trans h3, (hb.cell (cell_block_lt h4)).trans h4⟩

theorem five_new (w : World) (t : TypeId) (N B Q E F : Int) : Five (w.alloc (.cells #[.int .i64 N, .int .i64 B, .int .i64 Q, .int .i64 E, .int .i64 F] t)) w.heap.size N B Q E F := by
  refine ⟨?_, ?_, ?_, ?_, ?_⟩ <;> simp

set_option maxRecDepth 100000 in
set_option maxHeartbeats 1000000 in
/-- AUXILIARY. -/
theorem aux_any (N B Q E F : Int) (w : World) (hN : 1 ≤ N ∧ N ≤ 1048576) (hQ : 1 ≤ Q ∧ Q ≤ 8) (hE : 1 ≤ E ∧ E ≤ 1000) : Calls Tryz.prog 24 #[.agg #[.int .i64 N, .int .i64 B, .int .i64 Q, .int .i64 E, .int .i64 F]] w fun e w' => e = .returned (.int .i64 (aux N Q E)) ∧ Below w.heap.size w w' := by
  have hr := share_range hN hQ hE
  obtain ⟨X, hX⟩ : ∃ X, 55 * Q * E = X := ⟨_, rfl⟩
  rw [hX] at hr
  obtain ⟨Y, hY⟩ : ∃ Y, X * N = Y := ⟨_, rfl⟩
  rw [hY] at hr
  obtain ⟨⟨r1, r2⟩, r3, r4⟩ := hr
  have k1 : IntKind.i64.wrap (55 * Q * E) = X := by rw [hX, IntKind.wrap_i64]; omega
  have k2 : IntKind.i64.wrap (X * N) = Y := by rw [hY, IntKind.wrap_i64]; omega
  have hA : Hid (aux N Q E = max Q ((Y + 99999) / 100000)) := by unfold Hid aux; rw [hX, hY]
  clear hX hY hN hE
  obtain ⟨hQ1, hQ2⟩ := hQ
  have hmx := max2 Q ((Y + 99999) / 100000)
  rw [hA.out]
  clear hA
  go_enter Tryz.func24, Tryz.ntmps24
  go_wp2
  all_goals
    go_ret
    exact ⟨ret_int (by omega), below_alloc _ _⟩

theorem below_mid {w w1 W : World} (h : Below w.heap.size w w1) (h2 : Below w1.heap.size w1 W) : Below w.heap.size w W := h.trans (h2.mono h.size)

set_option maxRecDepth 100000 in
set_option maxHeartbeats 1000000 in
/-- ALL. -/
theorem all_any (N B Q E F : Int) (w : World) (hN : 1 ≤ N ∧ N ≤ 1048576) (hQ : 1 ≤ Q ∧ Q ≤ 8) (hE : 1 ≤ E ∧ E ≤ 1000) : Calls Tryz.prog 45 #[.agg #[.int .i64 N, .int .i64 B, .int .i64 Q, .int .i64 E, .int .i64 F]] w fun e w' => e = .returned (.int .i64 (N + aux N Q E)) ∧ Below w.heap.size w w' := by
  have hr := aux_range hN hQ hE
  have HA0 : Hid (∀ W, Calls Tryz.prog 24 #[.agg #[.int .i64 N, .int .i64 B, .int .i64 Q, .int .i64 E, .int .i64 F]] W fun e w' => e = .returned (.int .i64 (aux N Q E)) ∧ Below W.heap.size W w') := fun W => aux_any N B Q E F W hN hQ hE
  generalize aux N Q E = A at *
  obtain ⟨hr1, hr2⟩ := hr
  obtain ⟨hN1, hN2⟩ := hN
  obtain ⟨hQ1, hQ2⟩ := hQ
  clear hE
  go_enter Tryz.func45, Tryz.ntmps45
  go_wp2
  obtain ⟨w1, q, hw1, hq, hX, hF⟩ : ∃ w1 q, w1 = w.alloc (.cells #[.int .i64 N, .int .i64 B, .int .i64 Q, .int .i64 E, .int .i64 F] 23) ∧ q = w.heap.size ∧ Below w.heap.size w w1 ∧ Five w1 q N B Q E F := ⟨_, _, rfl, rfl, below_alloc _ _, five_new _ _ _ _ _ _ _⟩
  rw [← hw1, ← hq]
  have X1 : Hid (Below w.heap.size w w1) := hX
  have BX : Hid (∀ W, Below w1.heap.size w1 W → Five W q N B Q E F) := fun W hW => hF.below hW
  have HA : Hid (∀ W, Below w1.heap.size w1 W → Calls Tryz.prog 24 #[.agg #[.int .i64 N, .int .i64 B, .int .i64 Q, .int .i64 E, .int .i64 F]] W fun e w' => ∃ v, e = .returned v ∧ IsV (.int .i64 A) v w' ∧ Below W.heap.size W w') := fun W hW => calls_below (HA0.out W)
  clear HA0 hw1 hq hX hF
  refine wp_region_any (by kernel_rfl) ?_
  obtain ⟨gs, hgs⟩ : ∃ gs : List (Value → World → Prop), gs = [IsV (.pointer (some ⟨q, 0, none⟩)), IsV (.int .i64 N), IsV (.agg #[.int .i64 N, .int .i64 B, .int .i64 Q, .int .i64 E, .int .i64 F]), IsV (.int .i64 A), IsV (.int .i64 (N + A)), IsV (.int .i64 (N + A))] := ⟨_, rfl⟩
  have g0 : Hid (gs[0]? = some (IsV (.pointer (some ⟨q, 0, none⟩)))) := by unfold Hid; rw [hgs]; rfl
  have g1 : Hid (gs[1]? = some (IsV (.int .i64 N))) := by unfold Hid; rw [hgs]; rfl
  have g2 : Hid (gs[2]? = some (IsV (.agg #[.int .i64 N, .int .i64 B, .int .i64 Q, .int .i64 E, .int .i64 F]))) := by unfold Hid; rw [hgs]; rfl
  have g3 : Hid (gs[3]? = some (IsV (.int .i64 A))) := by unfold Hid; rw [hgs]; rfl
  have g4 : Hid (gs[4]? = some (IsV (.int .i64 (N + A)))) := by unfold Hid; rw [hgs]; rfl
  have g5 : Hid (gs[5]? = some (IsV (.int .i64 (N + A)))) := by unfold Hid; rw [hgs]; rfl
  have gk : Hid (∀ p ∈ gs, Stays p) := by
    unfold Hid
    rw [hgs]
    simp only [List.forall_mem_cons]
    exact ⟨stays_v _, stays_v _, stays_v _, stays_v _, stays_v _, stays_v _, by simp⟩
  clear hgs
  refine wpAny_inv (fun listed ac W => ∃ xv : Nat → Value, ac = ⟨#[Value.agg #[Value.int IntKind.i64 N, Value.int IntKind.i64 B, Value.int IntKind.i64 Q, Value.int IntKind.i64 E, Value.int IntKind.i64 F], Value.pointer (some { block := q, off := 0 }), xv 5, xv 0, xv 1, xv 2, xv 3, xv 4], []⟩ ∧ Below w1.heap.size w1 W ∧ Lst gs listed xv W) (by kernel_rfl) ?_ ?_ _ _ _ _ (by kernel_rfl) (of_decide_eq_true (by kernel_rfl)) ⟨fun j => if j = 5 then Value.int IntKind.i64 (0 : Int) else undef, rfl, below0 _, Lst.start _ _ _ _⟩
  · rintro listed ac W ⟨xv, rfl, hb, hG⟩ i hi hd
    have hin : i < 6 := hi
    clear hi
    have hcase : i = 0 ∨ i = 1 ∨ i = 2 ∨ i = 3 ∨ i = 4 ∨ i = 5 := by omega
    rcases hcase with rfl | rfl | rfl | rfl | rfl | rfl
    · refine wpOp_step rfl (fun K' hK => ?_)
      clear hd hin
      go_simp
      exact hK _ _ ⟨updV xv 0 (.pointer (some ⟨q, 0, none⟩)), by simp [updV], hb, hG.same gk.out g0.out _ rfl⟩
    · refine wpOp_step rfl (fun K' hK => ?_)
      simp [Region.binds] at hd
      have e0 : xv 0 = .pointer (some ⟨q, 0, none⟩) := hG.get g0.out (by simp [hd])
      obtain ⟨c0, c1, c2, c3, c4⟩ := BX.out W hb
      clear hd hin
      go_simp
      exact hK _ _ ⟨updV xv 1 (.int .i64 N), by simp [updV, e0], hb, hG.same gk.out g1.out _ rfl⟩
    · refine wpOp_step rfl (fun K' hK => ?_)
      obtain ⟨c0, c1, c2, c3, c4⟩ := BX.out W hb
      clear hd hin
      go_simp
      exact hK _ _ ⟨updV xv 2 (.agg #[.int .i64 N, .int .i64 B, .int .i64 Q, .int .i64 E, .int .i64 F]), by simp [updV], hb, hG.same gk.out g2.out _ rfl⟩
    · refine wpOp_step rfl (fun K' hK => ?_)
      simp [Region.binds] at hd
      have e2 : xv 2 = .agg #[.int .i64 N, .int .i64 B, .int .i64 Q, .int .i64 E, .int .i64 F] := hG.get g2.out (by simp [hd])
      clear hd hin
      go_simp
      refine (HA.out W hb).mono ?_
      rintro e w' ⟨v, rfl, hv, hb'⟩
      go_wp2_with fail
      exact ⟨updV xv 3 v, by simp [updV, e2], hb.trans (hb'.mono hb.size), hG.step gk.out hb' g3.out v hv⟩
    · refine wpOp_step rfl (fun K' hK => ?_)
      simp [Region.binds] at hd
      have e1 : xv 1 = .int .i64 N := hG.get g1.out (by simp [hd])
      have e3 : xv 3 = .int .i64 A := hG.get g3.out (by simp [hd])
      have wr : IntKind.i64.wrap (N + A) = N + A := by rw [IntKind.wrap_i64]; omega
      clear hd hin
      go_simp
      exact hK _ _ ⟨updV xv 4 (.int .i64 (N + A)), by simp [updV, e1, e3], hb, hG.same gk.out g4.out _ rfl⟩
    · refine wpOp_step rfl (fun K' hK => ?_)
      simp [Region.binds] at hd
      have e4 : xv 4 = .int .i64 (N + A) := hG.get g4.out (by simp [hd])
      clear hd hin
      go_simp
      exact hK _ _ ⟨updV xv 5 (.int .i64 (N + A)), by simp [updV, e4], hb, hG.same gk.out g5.out _ rfl⟩
  · rintro listed ac W ⟨xv, rfl, hb, hG⟩ hall
    have e5 : xv 5 = .int .i64 (N + A) := hG.get g5.out (hall 5 (by decide))
    have XW : Hid (Below w1.heap.size w1 W) := hb
    clear hall hG hb gk g0 g1 g2 g3 g4 g5
    rw [e5]
    clear e5
    go_wp2
    go_ret
    exact ⟨rfl, below_mid X1.out XW.out⟩

theorem most_range {N B : Int} (hN : 1 ≤ N ∧ N ≤ 1048576) (hB : 1 ≤ B ∧ B ≤ 65535) : IntKind.i64.wrap (N * B) = N * B ∧ N ≤ N * B ∧ N * B ≤ 68718428160 := by
  have h1 := pair_range (a := N) (b := B) (A := 1048576) (B := 65535) (by omega) (by omega)
  have h2 : N * 1 ≤ N * B := Int.mul_le_mul_of_nonneg_left hB.1 (by omega)
  refine ⟨?_, by omega, by omega⟩
  rw [IntKind.wrap_i64]
  omega

set_option maxRecDepth 100000 in
set_option maxHeartbeats 1000000 in
/-- MOST. -/
theorem most_any (N B Q E F : Int) (w : World) (hN : 1 ≤ N ∧ N ≤ 1048576) (hB : 1 ≤ B ∧ B ≤ 65535) : Calls Tryz.prog 47 #[.agg #[.int .i64 N, .int .i64 B, .int .i64 Q, .int .i64 E, .int .i64 F]] w fun e w' => e = .returned (.int .i64 (N * B)) ∧ Below w.heap.size w w' := by
  have hr := (most_range hN hB).1
  obtain ⟨P, hP⟩ : ∃ P, N * B = P := ⟨_, rfl⟩
  have k1 : IntKind.i64.wrap (N * B) = P := by rw [hr, hP]
  rw [hP]
  clear hP hr hN hB
  go_enter Tryz.func47, Tryz.ntmps47
  go_wp2
  go_ret
  exact ⟨rfl, below_alloc _ _⟩

set_option maxRecDepth 100000 in
set_option maxHeartbeats 1000000 in
/-- The document's Auxiliary. -/
theorem raux_any (N B Q E F : Int) (w : World) (hN : 1 ≤ N ∧ N ≤ 1048576) (hQ : 1 ≤ Q ∧ Q ≤ 8) (hE : 1 ≤ E ∧ E ≤ 1000) : Calls Tryz.prog 29 #[.agg #[.int .i64 N, .int .i64 B, .int .i64 Q, .int .i64 E, .int .i64 F]] w fun e w' => e = .returned (.int .i64 (aux N Q E)) ∧ Below w.heap.size w w' := by
  have hr := share_range hN hQ hE
  obtain ⟨X, hX⟩ : ∃ X, 55 * Q * E = X := ⟨_, rfl⟩
  rw [hX] at hr
  obtain ⟨Y, hY⟩ : ∃ Y, X * N = Y := ⟨_, rfl⟩
  rw [hY] at hr
  obtain ⟨⟨r1, r2⟩, r3, r4⟩ := hr
  have k1 : IntKind.i64.wrap (55 * Q * E) = X := by rw [hX, IntKind.wrap_i64]; omega
  have k2 : IntKind.i64.wrap (X * N) = Y := by rw [hY, IntKind.wrap_i64]; omega
  have hA : Hid (aux N Q E = max Q ((Y + 99999) / 100000)) := by unfold Hid aux; rw [hX, hY]
  clear hX hY hN hE
  obtain ⟨hQ1, hQ2⟩ := hQ
  rw [hA.out]
  clear hA
  go_enter Tryz.func29, Tryz.ntmps29
  go_wp2
  all_goals
    go_ret
    exact ⟨ret_int (by omega), below_alloc _ _⟩

end

end Go.Proofs.YtkckbeekehecnaaGreat
