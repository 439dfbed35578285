/-
  The walks of package params: Auxiliary, All, Most, places, Blocks, Edges, Work; the document's May and Auxiliary.
-/
import Derived.Test.YtijonjiioeahhaaParA
import Derived.Test.YtijonjiioeahhaaLSlice
import Derived.Test.YtijonjiioeahhaaLOrd
namespace Go.Proofs.Ytijonjiioeahhaa
open Go.RowKit
set_option linter.unusedVariables false

/-- How many auxiliary blocks. -/
def aux (N Q E : Int) : Int := max Q ((55 * Q * E * N + 99999) / 100000)

theorem share_range {N Q E : Int} (hN : 1 ≤ N ∧ N ≤ 1048576) (hQ : 1 ≤ Q ∧ Q ≤ 8) (hE : 1 ≤ E ∧ E ≤ 1000) :
    (0 ≤ 55 * Q * E ∧ 55 * Q * E ≤ 440000) ∧ (0 ≤ 55 * Q * E * N ∧ 55 * Q * E * N ≤ 461373440000) := by
  have h1 : 55 * Q * E ≤ 440 * 1000 := Int.mul_le_mul (by omega) hE.2 (by omega) (by omega)
  have h2 : 0 ≤ 55 * Q * E := Int.mul_nonneg (by omega) (by omega)
  have h3 : 55 * Q * E * N ≤ 440000 * 1048576 := Int.mul_le_mul (by omega) hN.2 (by omega) (by omega)
  have h4 : 0 ≤ 55 * Q * E * N := Int.mul_nonneg (by omega) (by omega)
  omega

theorem aux_range {N Q E : Int} (hN : 1 ≤ N ∧ N ≤ 1048576) (hQ : 1 ≤ Q ∧ Q ≤ 8) (hE : 1 ≤ E ∧ E ≤ 1000) : Q ≤ aux N Q E ∧ aux N Q E ≤ 5000000 := by
  have h := share_range hN hQ hE
  unfold aux
  omega

theorem pair_range {a b A B : Int} (ha : 0 ≤ a ∧ a ≤ A) (hb : 0 ≤ b ∧ b ≤ B) : 0 ≤ a * b ∧ a * b ≤ A * B :=
  ⟨Int.mul_nonneg ha.1 hb.1, Int.mul_le_mul ha.2 hb.2 hb.1 (Int.le_trans ha.1 ha.2)⟩

/-- A block of five numbers, as a box lies. -/
def Five (W : World) (b : Nat) (N B Q E F : Int) : Prop := W.cell? ⟨b, 0, none⟩ = some (.int .i64 N) ∧ W.cell? ⟨b, 1, none⟩ = some (.int .i64 B) ∧ W.cell? ⟨b, 2, none⟩ = some (.int .i64 Q) ∧ W.cell? ⟨b, 3, none⟩ = some (.int .i64 E) ∧ W.cell? ⟨b, 4, none⟩ = some (.int .i64 F)

theorem Five.below {W W' : World} {b : Nat} {N B Q E F : Int} (h : Five W b N B Q E F) (hb : Below W.heap.size W W') : Five W' b N B Q E F := by
  obtain ⟨h0, h1, h2, h3, h4⟩ := h
  exact ⟨(hb.cell (cell_block_lt h0)).trans h0, (hb.cell (cell_block_lt h1)).trans h1, (hb.cell (cell_block_lt h2)).trans h2, (hb.cell (cell_block_lt h3)).trans h3, (hb.cell (cell_block_lt h4)).trans h4⟩

theorem five_new (w : World) (t : TypeId) (N B Q E F : Int) : Five (w.alloc (.cells #[.int .i64 N, .int .i64 B, .int .i64 Q, .int .i64 E, .int .i64 F] t)) w.heap.size N B Q E F := by
  refine ⟨?_, ?_, ?_, ?_, ?_⟩ <;> simp

set_option maxRecDepth 100000 in
set_option maxHeartbeats 1000000 in
/-- AUXILIARY. -/
theorem aux_any (N B Q E F : Int) (w : World) (hN : 1 ≤ N ∧ N ≤ 1048576) (hQ : 1 ≤ Q ∧ Q ≤ 8) (hE : 1 ≤ E ∧ E ≤ 1000) : Calls Try.prog 35 #[.agg #[.int .i64 N, .int .i64 B, .int .i64 Q, .int .i64 E, .int .i64 F]] w fun e w' => e = .returned (.int .i64 (aux N Q E)) ∧ Below w.heap.size w w' := by
  have hr := share_range hN hQ hE
  obtain ⟨X, hX⟩ : ∃ X, 55 * Q * E = X := ⟨_, rfl⟩
  rw [hX] at hr
  obtain ⟨Y, hY⟩ : ∃ Y, X * N = Y := ⟨_, rfl⟩
  rw [hY] at hr
  obtain ⟨⟨r1, r2⟩, r3, r4⟩ := hr
  have k1 : IntKind.i64.wrap (55 * Q * E) = X := by rw [hX, IntKind.wrap_i64]; omega
  have k2 : IntKind.i64.wrap (X * N) = Y := by rw [hY, IntKind.wrap_i64]; omega
  have hA : Hid (aux N Q E = max Q ((Y + 99999) / 100000)) := by unfold Hid aux; rw [hX, hY]
  clear hX hY hN hE
  obtain ⟨hQ1, hQ2⟩ := hQ
  have hmx := max2 Q ((Y + 99999) / 100000)
  rw [hA.out]
  clear hA
  go_enter Try.func35, Try.ntmps35
  go_wp2
  all_goals
    go_ret
    exact ⟨ret_int (by omega), below_alloc _ _⟩

theorem below_mid {w w1 W : World} (h : Below w.heap.size w w1) (h2 : Below w1.heap.size w1 W) : Below w.heap.size w W := h.trans (h2.mono h.size)

set_option maxRecDepth 100000 in
set_option maxHeartbeats 1000000 in
/-- ALL. -/
theorem all_any (N B Q E F : Int) (w : World) (hN : 1 ≤ N ∧ N ≤ 1048576) (hQ : 1 ≤ Q ∧ Q ≤ 8) (hE : 1 ≤ E ∧ E ≤ 1000) : Calls Try.prog 36 #[.agg #[.int .i64 N, .int .i64 B, .int .i64 Q, .int .i64 E, .int .i64 F]] w fun e w' => e = .returned (.int .i64 (N + aux N Q E)) ∧ Below w.heap.size w w' := by
  have hr := aux_range hN hQ hE
  have HA0 : Hid (∀ W, Calls Try.prog 35 #[.agg #[.int .i64 N, .int .i64 B, .int .i64 Q, .int .i64 E, .int .i64 F]] W fun e w' => e = .returned (.int .i64 (aux N Q E)) ∧ Below W.heap.size W w') := fun W => aux_any N B Q E F W hN hQ hE
  generalize aux N Q E = A at *
  obtain ⟨hr1, hr2⟩ := hr
  obtain ⟨hN1, hN2⟩ := hN
  obtain ⟨hQ1, hQ2⟩ := hQ
  clear hE
  go_enter Try.func36, Try.ntmps36
  go_wp2
  obtain ⟨w1, q, hw1, hq, hX, hF⟩ : ∃ w1 q, w1 = w.alloc (.cells #[.int .i64 N, .int .i64 B, .int .i64 Q, .int .i64 E, .int .i64 F] 50) ∧ q = w.heap.size ∧ Below w.heap.size w w1 ∧ Five w1 q N B Q E F := ⟨_, _, rfl, rfl, below_alloc _ _, five_new _ _ _ _ _ _ _⟩
  rw [← hw1, ← hq]
  have X1 : Hid (Below w.heap.size w w1) := hX
  have BX : Hid (∀ W, Below w1.heap.size w1 W → Five W q N B Q E F) := fun W hW => hF.below hW
  have HA : Hid (∀ W, Below w1.heap.size w1 W → Calls Try.prog 35 #[.agg #[.int .i64 N, .int .i64 B, .int .i64 Q, .int .i64 E, .int .i64 F]] W fun e w' => ∃ v, e = .returned v ∧ IsV (.int .i64 A) v w' ∧ Below W.heap.size W w') := fun W hW => calls_below (HA0.out W)
  clear HA0 hw1 hq hX hF
  refine wp_region_any (by kernel_rfl) ?_
  obtain ⟨gs, hgs⟩ : ∃ gs : List (Value → World → Prop), gs = [IsV (.pointer (some ⟨q, 0, none⟩)), IsV (.int .i64 N), IsV (.agg #[.int .i64 N, .int .i64 B, .int .i64 Q, .int .i64 E, .int .i64 F]), IsV (.int .i64 A), IsV (.int .i64 (N + A)), IsV (.int .i64 (N + A))] := ⟨_, rfl⟩
  have g0 : Hid (gs[0]? = some (IsV (.pointer (some ⟨q, 0, none⟩)))) := by unfold Hid; rw [hgs]; rfl
  have g1 : Hid (gs[1]? = some (IsV (.int .i64 N))) := by unfold Hid; rw [hgs]; rfl
  have g2 : Hid (gs[2]? = some (IsV (.agg #[.int .i64 N, .int .i64 B, .int .i64 Q, .int .i64 E, .int .i64 F]))) := by unfold Hid; rw [hgs]; rfl
  have g3 : Hid (gs[3]? = some (IsV (.int .i64 A))) := by unfold Hid; rw [hgs]; rfl
  have g4 : Hid (gs[4]? = some (IsV (.int .i64 (N + A)))) := by unfold Hid; rw [hgs]; rfl
  have g5 : Hid (gs[5]? = some (IsV (.int .i64 (N + A)))) := by unfold Hid; rw [hgs]; rfl
  have gk : Hid (∀ p ∈ gs, Stays p) := by
    unfold Hid
    rw [hgs]
    simp only [List.forall_mem_cons]
    exact ⟨stays_v _, stays_v _, stays_v _, stays_v _, stays_v _, stays_v _, by simp⟩
  clear hgs
  refine wpAny_inv (fun listed ac W => ∃ xv : Nat → Value, ac = ⟨#[Value.agg #[Value.int IntKind.i64 N, Value.int IntKind.i64 B, Value.int IntKind.i64 Q, Value.int IntKind.i64 E, Value.int IntKind.i64 F], Value.pointer (some { block := q, off := 0 }), xv 5, xv 0, xv 1, xv 2, xv 3, xv 4], []⟩ ∧ Below w1.heap.size w1 W ∧ Lst gs listed xv W) (by kernel_rfl) ?_ ?_ _ _ _ _ (by kernel_rfl) (of_decide_eq_true (by kernel_rfl)) ⟨fun j => if j = 5 then Value.int IntKind.i64 (0 : Int) else undef, rfl, below0 _, Lst.start _ _ _ _⟩
  · rintro listed ac W ⟨xv, rfl, hb, hG⟩ i hi hd
    have hin : i < 6 := hi
    clear hi
    have hcase : i = 0 ∨ i = 1 ∨ i = 2 ∨ i = 3 ∨ i = 4 ∨ i = 5 := by omega
    rcases hcase with rfl | rfl | rfl | rfl | rfl | rfl
    · refine wpOp_step rfl (fun K' hK => ?_)
      clear hd hin
      go_simp
      exact hK _ _ ⟨updV xv 0 (.pointer (some ⟨q, 0, none⟩)), by simp [updV], hb, hG.same gk.out g0.out _ rfl⟩
    · refine wpOp_step rfl (fun K' hK => ?_)
      simp [Region.binds] at hd
      have e0 : xv 0 = .pointer (some ⟨q, 0, none⟩) := hG.get g0.out (by simp [hd])
      obtain ⟨c0, c1, c2, c3, c4⟩ := BX.out W hb
      clear hd hin
      go_simp
      exact hK _ _ ⟨updV xv 1 (.int .i64 N), by simp [updV, e0], hb, hG.same gk.out g1.out _ rfl⟩
    · refine wpOp_step rfl (fun K' hK => ?_)
      obtain ⟨c0, c1, c2, c3, c4⟩ := BX.out W hb
      clear hd hin
      go_simp
      exact hK _ _ ⟨updV xv 2 (.agg #[.int .i64 N, .int .i64 B, .int .i64 Q, .int .i64 E, .int .i64 F]), by simp [updV], hb, hG.same gk.out g2.out _ rfl⟩
    · refine wpOp_step rfl (fun K' hK => ?_)
      simp [Region.binds] at hd
      have e2 : xv 2 = .agg #[.int .i64 N, .int .i64 B, .int .i64 Q, .int .i64 E, .int .i64 F] := hG.get g2.out (by simp [hd])
      clear hd hin
      go_simp
      refine (HA.out W hb).mono ?_
      rintro e w' ⟨v, rfl, hv, hb'⟩
      go_wp2_with fail
      exact ⟨updV xv 3 v, by simp [updV, e2], hb.trans (hb'.mono hb.size), hG.step gk.out hb' g3.out v hv⟩
    · refine wpOp_step rfl (fun K' hK => ?_)
      simp [Region.binds] at hd
      have e1 : xv 1 = .int .i64 N := hG.get g1.out (by simp [hd])
      have e3 : xv 3 = .int .i64 A := hG.get g3.out (by simp [hd])
      have wr : IntKind.i64.wrap (N + A) = N + A := by rw [IntKind.wrap_i64]; omega
      clear hd hin
      go_simp
      exact hK _ _ ⟨updV xv 4 (.int .i64 (N + A)), by simp [updV, e1, e3], hb, hG.same gk.out g4.out _ rfl⟩
    · refine wpOp_step rfl (fun K' hK => ?_)
      simp [Region.binds] at hd
      have e4 : xv 4 = .int .i64 (N + A) := hG.get g4.out (by simp [hd])
      clear hd hin
      go_simp
      exact hK _ _ ⟨updV xv 5 (.int .i64 (N + A)), by simp [updV, e4], hb, hG.same gk.out g5.out _ rfl⟩
  · rintro listed ac W ⟨xv, rfl, hb, hG⟩ hall
    have e5 : xv 5 = .int .i64 (N + A) := hG.get g5.out (hall 5 (by decide))
    have XW : Hid (Below w1.heap.size w1 W) := hb
    clear hall hG hb gk g0 g1 g2 g3 g4 g5
    rw [e5]
    clear e5
    go_wp2
    go_ret
    exact ⟨rfl, below_mid X1.out XW.out⟩

theorem most_range {N B : Int} (hN : 1 ≤ N ∧ N ≤ 1048576) (hB : 1 ≤ B ∧ B ≤ 65535) : IntKind.i64.wrap (N * B) = N * B ∧ N ≤ N * B ∧ N * B ≤ 68718428160 := by
  have h1 := pair_range (a := N) (b := B) (A := 1048576) (B := 65535) (by omega) (by omega)
  have h2 : N * 1 ≤ N * B := Int.mul_le_mul_of_nonneg_left hB.1 (by omega)
  refine ⟨?_, by omega, by omega⟩
  rw [IntKind.wrap_i64]
  omega

set_option maxRecDepth 100000 in
set_option maxHeartbeats 1000000 in
/-- MOST. -/
theorem most_any (N B Q E F : Int) (w : World) (hN : 1 ≤ N ∧ N ≤ 1048576) (hB : 1 ≤ B ∧ B ≤ 65535) : Calls Try.prog 37 #[.agg #[.int .i64 N, .int .i64 B, .int .i64 Q, .int .i64 E, .int .i64 F]] w fun e w' => e = .returned (.int .i64 (N * B)) ∧ Below w.heap.size w w' := by
  have hr := (most_range hN hB).1
  obtain ⟨P, hP⟩ : ∃ P, N * B = P := ⟨_, rfl⟩
  have k1 : IntKind.i64.wrap (N * B) = P := by rw [hr, hP]
  rw [hP]
  clear hP hr hN hB
  go_enter Try.func37, Try.ntmps37
  go_wp2
  go_ret
  exact ⟨rfl, below_alloc _ _⟩

set_option maxRecDepth 100000 in
set_option maxHeartbeats 1000000 in
/-- BLOCKS. -/
theorem blocks_any (N B Q E F h : Int) (w : World) (hN : 1 ≤ N ∧ N ≤ 1048576) (hQ : 1 ≤ Q ∧ Q ≤ 8) (hE : 1 ≤ E ∧ E ≤ 1000) (hh : 0 ≤ h ∧ h ≤ 1048576) : Calls Try.prog 38 #[.agg #[.int .i64 N, .int .i64 B, .int .i64 Q, .int .i64 E, .int .i64 F], .int .i64 h] w fun e w' => e = .returned (.int .i64 (N + 2 * aux N Q E + h + 1)) ∧ Below w.heap.size w w' := by
  have hr := aux_range hN hQ hE
  have HA0 : Hid (∀ W, Calls Try.prog 35 #[.agg #[.int .i64 N, .int .i64 B, .int .i64 Q, .int .i64 E, .int .i64 F]] W fun e w' => e = .returned (.int .i64 (aux N Q E)) ∧ Below W.heap.size W w') := fun W => aux_any N B Q E F W hN hQ hE
  generalize aux N Q E = A at *
  obtain ⟨hr1, hr2⟩ := hr
  obtain ⟨hN1, hN2⟩ := hN
  obtain ⟨hQ1, hQ2⟩ := hQ
  obtain ⟨hh1, hh2⟩ := hh
  clear hE
  go_enter Try.func38, Try.ntmps38
  go_wp2
  obtain ⟨w1, q, hw1, hq, hX, hF⟩ : ∃ w1 q, w1 = w.alloc (.cells #[.int .i64 N, .int .i64 B, .int .i64 Q, .int .i64 E, .int .i64 F] 50) ∧ q = w.heap.size ∧ Below w.heap.size w w1 ∧ Five w1 q N B Q E F := ⟨_, _, rfl, rfl, below_alloc _ _, five_new _ _ _ _ _ _ _⟩
  rw [← hw1, ← hq]
  have X1 : Hid (Below w.heap.size w w1) := hX
  have BX : Hid (∀ W, Below w1.heap.size w1 W → Five W q N B Q E F) := fun W hW => hF.below hW
  have HA : Hid (∀ W, Below w1.heap.size w1 W → Calls Try.prog 35 #[.agg #[.int .i64 N, .int .i64 B, .int .i64 Q, .int .i64 E, .int .i64 F]] W fun e w' => ∃ v, e = .returned v ∧ IsV (.int .i64 A) v w' ∧ Below W.heap.size W w') := fun W hW => calls_below (HA0.out W)
  clear HA0 hw1 hq hX hF
  refine wp_region_any (by kernel_rfl) ?_
  obtain ⟨gs, hgs⟩ : ∃ gs : List (Value → World → Prop), gs = [IsV (.pointer (some ⟨q, 0, none⟩)), IsV (.int .i64 N), IsV (.agg #[.int .i64 N, .int .i64 B, .int .i64 Q, .int .i64 E, .int .i64 F]), IsV (.int .i64 A), IsV (.int .i64 ((2 : Int) * A)), IsV (.int .i64 (N + ((2 : Int) * A))), IsV (Value.int IntKind.i64 h), IsV (.int .i64 ((N + ((2 : Int) * A)) + h)), IsV (.int .i64 (((N + ((2 : Int) * A)) + h) + (1 : Int))), IsV (.int .i64 (((N + ((2 : Int) * A)) + h) + (1 : Int)))] := ⟨_, rfl⟩
  have g0 : Hid (gs[0]? = some (IsV (.pointer (some ⟨q, 0, none⟩)))) := by unfold Hid; rw [hgs]; rfl
  have g1 : Hid (gs[1]? = some (IsV (.int .i64 N))) := by unfold Hid; rw [hgs]; rfl
  have g2 : Hid (gs[2]? = some (IsV (.agg #[.int .i64 N, .int .i64 B, .int .i64 Q, .int .i64 E, .int .i64 F]))) := by unfold Hid; rw [hgs]; rfl
  have g3 : Hid (gs[3]? = some (IsV (.int .i64 A))) := by unfold Hid; rw [hgs]; rfl
  have g4 : Hid (gs[4]? = some (IsV (.int .i64 ((2 : Int) * A)))) := by unfold Hid; rw [hgs]; rfl
  have g5 : Hid (gs[5]? = some (IsV (.int .i64 (N + ((2 : Int) * A))))) := by unfold Hid; rw [hgs]; rfl
  have g6 : Hid (gs[6]? = some (IsV (Value.int IntKind.i64 h))) := by unfold Hid; rw [hgs]; rfl
  have g7 : Hid (gs[7]? = some (IsV (.int .i64 ((N + ((2 : Int) * A)) + h)))) := by unfold Hid; rw [hgs]; rfl
  have g8 : Hid (gs[8]? = some (IsV (.int .i64 (((N + ((2 : Int) * A)) + h) + (1 : Int))))) := by unfold Hid; rw [hgs]; rfl
  have g9 : Hid (gs[9]? = some (IsV (.int .i64 (((N + ((2 : Int) * A)) + h) + (1 : Int))))) := by unfold Hid; rw [hgs]; rfl
  have gk : Hid (∀ p ∈ gs, Stays p) := by
    unfold Hid
    rw [hgs]
    simp only [List.forall_mem_cons]
    exact ⟨stays_v _, stays_v _, stays_v _, stays_v _, stays_v _, stays_v _, stays_v _, stays_v _, stays_v _, stays_v _, by simp⟩
  clear hgs
  refine wpAny_inv (fun listed ac W => ∃ xv : Nat → Value, ac = ⟨#[Value.agg #[Value.int IntKind.i64 N, Value.int IntKind.i64 B, Value.int IntKind.i64 Q, Value.int IntKind.i64 E, Value.int IntKind.i64 F], Value.int IntKind.i64 h, Value.pointer (some { block := q, off := 0 }), undef, xv 9, xv 0, xv 1, xv 2, xv 3, xv 4, xv 5, xv 6, xv 7, xv 8], []⟩ ∧ Below w1.heap.size w1 W ∧ Lst gs listed xv W) (by kernel_rfl) ?_ ?_ _ _ _ _ (by kernel_rfl) (of_decide_eq_true (by kernel_rfl)) ⟨fun j => if j = 9 then Value.int IntKind.i64 (0 : Int) else undef, rfl, below0 _, Lst.start _ _ _ _⟩
  · rintro listed ac W ⟨xv, rfl, hb, hG⟩ i hi hd
    have hin : i < 10 := hi
    clear hi
    have hcase : i = 0 ∨ i = 1 ∨ i = 2 ∨ i = 3 ∨ i = 4 ∨ i = 5 ∨ i = 6 ∨ i = 7 ∨ i = 8 ∨ i = 9 := by omega
    rcases hcase with rfl | rfl | rfl | rfl | rfl | rfl | rfl | rfl | rfl | rfl
    · refine wpOp_step rfl (fun K' hK => ?_)
      clear hd hin
      go_simp
      exact hK _ _ ⟨updV xv 0 (.pointer (some ⟨q, 0, none⟩)), by simp [updV], hb, hG.same gk.out g0.out _ rfl⟩
    · refine wpOp_step rfl (fun K' hK => ?_)
      simp [Region.binds] at hd
      have e0 : xv 0 = .pointer (some ⟨q, 0, none⟩) := hG.get g0.out (by simp [hd])
      obtain ⟨c0, c1, c2, c3, c4⟩ := BX.out W hb
      clear hd hin
      go_simp
      exact hK _ _ ⟨updV xv 1 (.int .i64 N), by simp [updV, e0], hb, hG.same gk.out g1.out _ rfl⟩
    · refine wpOp_step rfl (fun K' hK => ?_)
      obtain ⟨c0, c1, c2, c3, c4⟩ := BX.out W hb
      clear hd hin
      go_simp
      exact hK _ _ ⟨updV xv 2 (.agg #[.int .i64 N, .int .i64 B, .int .i64 Q, .int .i64 E, .int .i64 F]), by simp [updV], hb, hG.same gk.out g2.out _ rfl⟩
    · refine wpOp_step rfl (fun K' hK => ?_)
      simp [Region.binds] at hd
      have e2 : xv 2 = .agg #[.int .i64 N, .int .i64 B, .int .i64 Q, .int .i64 E, .int .i64 F] := hG.get g2.out (by simp [hd])
      clear hd hin
      go_simp
      refine (HA.out W hb).mono ?_
      rintro e w' ⟨v, rfl, hv, hb'⟩
      go_wp2_with fail
      exact ⟨updV xv 3 v, by simp [updV, e2], hb.trans (hb'.mono hb.size), hG.step gk.out hb' g3.out v hv⟩
    · refine wpOp_step rfl (fun K' hK => ?_)
      simp [Region.binds] at hd
      have e3 : xv 3 = .int .i64 A := hG.get g3.out (by simp [hd])
      have wr : IntKind.i64.wrap ((2 : Int) * A) = (2 : Int) * A := by rw [IntKind.wrap_i64]; omega
      clear hd hin
      go_simp
      exact hK _ _ ⟨updV xv 4 (.int .i64 ((2 : Int) * A)), by simp [updV, e3], hb, hG.same gk.out g4.out _ rfl⟩
    · refine wpOp_step rfl (fun K' hK => ?_)
      simp [Region.binds] at hd
      have e1 : xv 1 = .int .i64 N := hG.get g1.out (by simp [hd])
      have e4 : xv 4 = .int .i64 ((2 : Int) * A) := hG.get g4.out (by simp [hd])
      have wr : IntKind.i64.wrap (N + ((2 : Int) * A)) = N + ((2 : Int) * A) := by rw [IntKind.wrap_i64]; omega
      clear hd hin
      go_simp
      exact hK _ _ ⟨updV xv 5 (.int .i64 (N + ((2 : Int) * A))), by simp [updV, e1, e4], hb, hG.same gk.out g5.out _ rfl⟩
    · refine wpOp_step rfl (fun K' hK => ?_)
      clear hd hin
      go_simp
      exact hK _ _ ⟨updV xv 6 (Value.int IntKind.i64 h), by simp [updV], hb, hG.same gk.out g6.out _ rfl⟩
    · refine wpOp_step rfl (fun K' hK => ?_)
      simp [Region.binds] at hd
      have e5 : xv 5 = .int .i64 (N + ((2 : Int) * A)) := hG.get g5.out (by simp [hd])
      have e6 : xv 6 = Value.int IntKind.i64 h := hG.get g6.out (by simp [hd])
      have wr : IntKind.i64.wrap ((N + ((2 : Int) * A)) + h) = (N + ((2 : Int) * A)) + h := by rw [IntKind.wrap_i64]; omega
      clear hd hin
      go_simp
      exact hK _ _ ⟨updV xv 7 (.int .i64 ((N + ((2 : Int) * A)) + h)), by simp [updV, e5, e6], hb, hG.same gk.out g7.out _ rfl⟩
    · refine wpOp_step rfl (fun K' hK => ?_)
      simp [Region.binds] at hd
      have e7 : xv 7 = .int .i64 ((N + ((2 : Int) * A)) + h) := hG.get g7.out (by simp [hd])
      have wr : IntKind.i64.wrap (((N + ((2 : Int) * A)) + h) + (1 : Int)) = ((N + ((2 : Int) * A)) + h) + (1 : Int) := by rw [IntKind.wrap_i64]; omega
      clear hd hin
      go_simp
      exact hK _ _ ⟨updV xv 8 (.int .i64 (((N + ((2 : Int) * A)) + h) + (1 : Int))), by simp [updV, e7], hb, hG.same gk.out g8.out _ rfl⟩
    · refine wpOp_step rfl (fun K' hK => ?_)
      simp [Region.binds] at hd
      have e8 : xv 8 = .int .i64 (((N + ((2 : Int) * A)) + h) + (1 : Int)) := hG.get g8.out (by simp [hd])
      clear hd hin
      go_simp
      exact hK _ _ ⟨updV xv 9 (.int .i64 (((N + ((2 : Int) * A)) + h) + (1 : Int))), by simp [updV, e8], hb, hG.same gk.out g9.out _ rfl⟩
  · rintro listed ac W ⟨xv, rfl, hb, hG⟩ hall
    have e9 : xv 9 = .int .i64 (((N + ((2 : Int) * A)) + h) + (1 : Int)) := hG.get g9.out (hall 9 (by decide))
    have XW : Hid (Below w1.heap.size w1 W) := hb
    clear hall hG hb gk g0 g1 g2 g3 g4 g5 g6 g7 g8 g9
    rw [e9]
    clear e9
    go_wp2
    go_ret
    exact ⟨rfl, below_mid X1.out XW.out⟩

set_option maxRecDepth 100000 in
set_option maxHeartbeats 1000000 in
/-- places. -/
theorem places_any (N B Q E F h : Int) (w : World) (hN : 1 ≤ N ∧ N ≤ 1048576) (hQ : 1 ≤ Q ∧ Q ≤ 8) (hE : 1 ≤ E ∧ E ≤ 1000) (hF : 2 ≤ F ∧ F ≤ 4096) (hh : 0 ≤ h ∧ h ≤ 1048576) : Calls Try.prog 59 #[.agg #[.int .i64 N, .int .i64 B, .int .i64 Q, .int .i64 E, .int .i64 F], .int .i64 h] w fun e w' => e = .returned (.int .i64 (Q * N + aux N Q E + h * F)) ∧ Below w.heap.size w w' := by
  have hr := aux_range hN hQ hE
  have HA0 : Hid (∀ W, Calls Try.prog 35 #[.agg #[.int .i64 N, .int .i64 B, .int .i64 Q, .int .i64 E, .int .i64 F]] W fun e w' => e = .returned (.int .i64 (aux N Q E)) ∧ Below W.heap.size W w') := fun W => aux_any N B Q E F W hN hQ hE
  generalize aux N Q E = A at *
  have hqn := pair_range (a := Q) (b := N) (A := 8) (B := 1048576) (by omega) (by omega)
  have hhf := pair_range (a := h) (b := F) (A := 1048576) (B := 4096) (by omega) (by omega)
  have k1 : IntKind.i64.wrap (Q * N) = Q * N := by rw [IntKind.wrap_i64]; omega
  have k2 : IntKind.i64.wrap (h * F) = h * F := by rw [IntKind.wrap_i64]; omega
  obtain ⟨QN, hQN⟩ : ∃ x, Q * N = x := ⟨_, rfl⟩
  obtain ⟨HF, hHF⟩ : ∃ x, h * F = x := ⟨_, rfl⟩
  rw [hQN] at hqn ⊢
  rw [hHF] at hhf ⊢
  rw [hQN] at k1
  rw [hHF] at k2
  have K1 : Hid (IntKind.i64.wrap (Q * N) = QN) := by unfold Hid; rw [hQN]; exact k1
  have K2 : Hid (IntKind.i64.wrap (h * F) = HF) := by unfold Hid; rw [hHF]; exact k2
  clear hQN hHF k1 k2
  obtain ⟨hr1, hr2⟩ := hr
  obtain ⟨hN1, hN2⟩ := hN
  obtain ⟨hQ1, hQ2⟩ := hQ
  obtain ⟨hh1, hh2⟩ := hh
  obtain ⟨hqn1, hqn2⟩ := hqn
  obtain ⟨hhf1, hhf2⟩ := hhf
  clear hE
  go_enter Try.func59, Try.ntmps59
  go_wp2
  obtain ⟨w1, q, hw1, hq, hX, hF⟩ : ∃ w1 q, w1 = w.alloc (.cells #[.int .i64 N, .int .i64 B, .int .i64 Q, .int .i64 E, .int .i64 F] 50) ∧ q = w.heap.size ∧ Below w.heap.size w w1 ∧ Five w1 q N B Q E F := ⟨_, _, rfl, rfl, below_alloc _ _, five_new _ _ _ _ _ _ _⟩
  rw [← hw1, ← hq]
  have X1 : Hid (Below w.heap.size w w1) := hX
  have BX : Hid (∀ W, Below w1.heap.size w1 W → Five W q N B Q E F) := fun W hW => hF.below hW
  have HA : Hid (∀ W, Below w1.heap.size w1 W → Calls Try.prog 35 #[.agg #[.int .i64 N, .int .i64 B, .int .i64 Q, .int .i64 E, .int .i64 F]] W fun e w' => ∃ v, e = .returned v ∧ IsV (.int .i64 A) v w' ∧ Below W.heap.size W w') := fun W hW => calls_below (HA0.out W)
  clear HA0 hw1 hq hX hF
  refine wp_region_any (by kernel_rfl) ?_
  obtain ⟨gs, hgs⟩ : ∃ gs : List (Value → World → Prop), gs = [IsV (.pointer (some ⟨q, 2, none⟩)), IsV (.int .i64 Q), IsV (.pointer (some ⟨q, 0, none⟩)), IsV (.int .i64 N), IsV (.int .i64 QN), IsV (.agg #[.int .i64 N, .int .i64 B, .int .i64 Q, .int .i64 E, .int .i64 F]), IsV (.int .i64 A), IsV (.int .i64 (QN + A)), IsV (Value.int IntKind.i64 h), IsV (.pointer (some ⟨q, 4, none⟩)), IsV (.int .i64 F), IsV (.int .i64 HF), IsV (.int .i64 ((QN + A) + HF)), IsV (.int .i64 ((QN + A) + HF))] := ⟨_, rfl⟩
  have g0 : Hid (gs[0]? = some (IsV (.pointer (some ⟨q, 2, none⟩)))) := by unfold Hid; rw [hgs]; rfl
  have g1 : Hid (gs[1]? = some (IsV (.int .i64 Q))) := by unfold Hid; rw [hgs]; rfl
  have g2 : Hid (gs[2]? = some (IsV (.pointer (some ⟨q, 0, none⟩)))) := by unfold Hid; rw [hgs]; rfl
  have g3 : Hid (gs[3]? = some (IsV (.int .i64 N))) := by unfold Hid; rw [hgs]; rfl
  have g4 : Hid (gs[4]? = some (IsV (.int .i64 QN))) := by unfold Hid; rw [hgs]; rfl
  have g5 : Hid (gs[5]? = some (IsV (.agg #[.int .i64 N, .int .i64 B, .int .i64 Q, .int .i64 E, .int .i64 F]))) := by unfold Hid; rw [hgs]; rfl
  have g6 : Hid (gs[6]? = some (IsV (.int .i64 A))) := by unfold Hid; rw [hgs]; rfl
  have g7 : Hid (gs[7]? = some (IsV (.int .i64 (QN + A)))) := by unfold Hid; rw [hgs]; rfl
  have g8 : Hid (gs[8]? = some (IsV (Value.int IntKind.i64 h))) := by unfold Hid; rw [hgs]; rfl
  have g9 : Hid (gs[9]? = some (IsV (.pointer (some ⟨q, 4, none⟩)))) := by unfold Hid; rw [hgs]; rfl
  have g10 : Hid (gs[10]? = some (IsV (.int .i64 F))) := by unfold Hid; rw [hgs]; rfl
  have g11 : Hid (gs[11]? = some (IsV (.int .i64 HF))) := by unfold Hid; rw [hgs]; rfl
  have g12 : Hid (gs[12]? = some (IsV (.int .i64 ((QN + A) + HF)))) := by unfold Hid; rw [hgs]; rfl
  have g13 : Hid (gs[13]? = some (IsV (.int .i64 ((QN + A) + HF)))) := by unfold Hid; rw [hgs]; rfl
  have gk : Hid (∀ p ∈ gs, Stays p) := by
    unfold Hid
    rw [hgs]
    simp only [List.forall_mem_cons]
    exact ⟨stays_v _, stays_v _, stays_v _, stays_v _, stays_v _, stays_v _, stays_v _, stays_v _, stays_v _, stays_v _, stays_v _, stays_v _, stays_v _, stays_v _, by simp⟩
  clear hgs
  refine wpAny_inv (fun listed ac W => ∃ xv : Nat → Value, ac = ⟨#[Value.agg #[Value.int IntKind.i64 N, Value.int IntKind.i64 B, Value.int IntKind.i64 Q, Value.int IntKind.i64 E, Value.int IntKind.i64 F], Value.int IntKind.i64 h, Value.pointer (some { block := q, off := 0 }), undef, xv 13, xv 0, xv 1, xv 2, xv 3, xv 4, xv 5, xv 6, xv 7, xv 8, xv 9, xv 10, xv 11, xv 12], []⟩ ∧ Below w1.heap.size w1 W ∧ Lst gs listed xv W) (by kernel_rfl) ?_ ?_ _ _ _ _ (by kernel_rfl) (of_decide_eq_true (by kernel_rfl)) ⟨fun j => if j = 13 then Value.int IntKind.i64 (0 : Int) else undef, rfl, below0 _, Lst.start _ _ _ _⟩
  · rintro listed ac W ⟨xv, rfl, hb, hG⟩ i hi hd
    have hin : i < 14 := hi
    clear hi
    have hcase : i = 0 ∨ i = 1 ∨ i = 2 ∨ i = 3 ∨ i = 4 ∨ i = 5 ∨ i = 6 ∨ i = 7 ∨ i = 8 ∨ i = 9 ∨ i = 10 ∨ i = 11 ∨ i = 12 ∨ i = 13 := by omega
    rcases hcase with rfl | rfl | rfl | rfl | rfl | rfl | rfl | rfl | rfl | rfl | rfl | rfl | rfl | rfl
    · refine wpOp_step rfl (fun K' hK => ?_)
      clear hd hin
      go_simp
      exact hK _ _ ⟨updV xv 0 (.pointer (some ⟨q, 2, none⟩)), by simp [updV], hb, hG.same gk.out g0.out _ rfl⟩
    · refine wpOp_step rfl (fun K' hK => ?_)
      simp [Region.binds] at hd
      have e0 : xv 0 = .pointer (some ⟨q, 2, none⟩) := hG.get g0.out (by simp [hd])
      obtain ⟨c0, c1, c2, c3, c4⟩ := BX.out W hb
      clear hd hin
      go_simp
      exact hK _ _ ⟨updV xv 1 (.int .i64 Q), by simp [updV, e0], hb, hG.same gk.out g1.out _ rfl⟩
    · refine wpOp_step rfl (fun K' hK => ?_)
      clear hd hin
      go_simp
      exact hK _ _ ⟨updV xv 2 (.pointer (some ⟨q, 0, none⟩)), by simp [updV], hb, hG.same gk.out g2.out _ rfl⟩
    · refine wpOp_step rfl (fun K' hK => ?_)
      simp [Region.binds] at hd
      have e2 : xv 2 = .pointer (some ⟨q, 0, none⟩) := hG.get g2.out (by simp [hd])
      obtain ⟨c0, c1, c2, c3, c4⟩ := BX.out W hb
      clear hd hin
      go_simp
      exact hK _ _ ⟨updV xv 3 (.int .i64 N), by simp [updV, e2], hb, hG.same gk.out g3.out _ rfl⟩
    · refine wpOp_step rfl (fun K' hK => ?_)
      simp [Region.binds] at hd
      have e1 : xv 1 = .int .i64 Q := hG.get g1.out (by simp [hd])
      have e3 : xv 3 = .int .i64 N := hG.get g3.out (by simp [hd])
      have wr := K1.out
      clear hd hin
      go_simp
      exact hK _ _ ⟨updV xv 4 (.int .i64 QN), by simp [updV, e1, e3], hb, hG.same gk.out g4.out _ rfl⟩
    · refine wpOp_step rfl (fun K' hK => ?_)
      obtain ⟨c0, c1, c2, c3, c4⟩ := BX.out W hb
      clear hd hin
      go_simp
      exact hK _ _ ⟨updV xv 5 (.agg #[.int .i64 N, .int .i64 B, .int .i64 Q, .int .i64 E, .int .i64 F]), by simp [updV], hb, hG.same gk.out g5.out _ rfl⟩
    · refine wpOp_step rfl (fun K' hK => ?_)
      simp [Region.binds] at hd
      have e5 : xv 5 = .agg #[.int .i64 N, .int .i64 B, .int .i64 Q, .int .i64 E, .int .i64 F] := hG.get g5.out (by simp [hd])
      clear hd hin
      go_simp
      refine (HA.out W hb).mono ?_
      rintro e w' ⟨v, rfl, hv, hb'⟩
      go_wp2_with fail
      exact ⟨updV xv 6 v, by simp [updV, e5], hb.trans (hb'.mono hb.size), hG.step gk.out hb' g6.out v hv⟩
    · refine wpOp_step rfl (fun K' hK => ?_)
      simp [Region.binds] at hd
      have e4 : xv 4 = .int .i64 QN := hG.get g4.out (by simp [hd])
      have e6 : xv 6 = .int .i64 A := hG.get g6.out (by simp [hd])
      have wr : IntKind.i64.wrap (QN + A) = QN + A := by rw [IntKind.wrap_i64]; omega
      clear hd hin
      go_simp
      exact hK _ _ ⟨updV xv 7 (.int .i64 (QN + A)), by simp [updV, e4, e6], hb, hG.same gk.out g7.out _ rfl⟩
    · refine wpOp_step rfl (fun K' hK => ?_)
      clear hd hin
      go_simp
      exact hK _ _ ⟨updV xv 8 (Value.int IntKind.i64 h), by simp [updV], hb, hG.same gk.out g8.out _ rfl⟩
    · refine wpOp_step rfl (fun K' hK => ?_)
      clear hd hin
      go_simp
      exact hK _ _ ⟨updV xv 9 (.pointer (some ⟨q, 4, none⟩)), by simp [updV], hb, hG.same gk.out g9.out _ rfl⟩
    · refine wpOp_step rfl (fun K' hK => ?_)
      simp [Region.binds] at hd
      have e9 : xv 9 = .pointer (some ⟨q, 4, none⟩) := hG.get g9.out (by simp [hd])
      obtain ⟨c0, c1, c2, c3, c4⟩ := BX.out W hb
      clear hd hin
      go_simp
      exact hK _ _ ⟨updV xv 10 (.int .i64 F), by simp [updV, e9], hb, hG.same gk.out g10.out _ rfl⟩
    · refine wpOp_step rfl (fun K' hK => ?_)
      simp [Region.binds] at hd
      have e8 : xv 8 = Value.int IntKind.i64 h := hG.get g8.out (by simp [hd])
      have e10 : xv 10 = .int .i64 F := hG.get g10.out (by simp [hd])
      have wr := K2.out
      clear hd hin
      go_simp
      exact hK _ _ ⟨updV xv 11 (.int .i64 HF), by simp [updV, e8, e10], hb, hG.same gk.out g11.out _ rfl⟩
    · refine wpOp_step rfl (fun K' hK => ?_)
      simp [Region.binds] at hd
      have e7 : xv 7 = .int .i64 (QN + A) := hG.get g7.out (by simp [hd])
      have e11 : xv 11 = .int .i64 HF := hG.get g11.out (by simp [hd])
      have wr : IntKind.i64.wrap ((QN + A) + HF) = (QN + A) + HF := by rw [IntKind.wrap_i64]; omega
      clear hd hin
      go_simp
      exact hK _ _ ⟨updV xv 12 (.int .i64 ((QN + A) + HF)), by simp [updV, e7, e11], hb, hG.same gk.out g12.out _ rfl⟩
    · refine wpOp_step rfl (fun K' hK => ?_)
      simp [Region.binds] at hd
      have e12 : xv 12 = .int .i64 ((QN + A) + HF) := hG.get g12.out (by simp [hd])
      clear hd hin
      go_simp
      exact hK _ _ ⟨updV xv 13 (.int .i64 ((QN + A) + HF)), by simp [updV, e12], hb, hG.same gk.out g13.out _ rfl⟩
  · rintro listed ac W ⟨xv, rfl, hb, hG⟩ hall
    have e13 : xv 13 = .int .i64 ((QN + A) + HF) := hG.get g13.out (hall 13 (by decide))
    have XW : Hid (Below w1.heap.size w1 W) := hb
    clear hall hG hb gk g0 g1 g2 g3 g4 g5 g6 g7 g8 g9 g10 g11 g12 g13
    rw [e13]
    clear e13
    go_wp2
    go_ret
    exact ⟨rfl, below_mid X1.out XW.out⟩

set_option maxRecDepth 100000 in
set_option maxHeartbeats 1000000 in
/-- EDGES. -/
theorem edges_any (N B Q E F h : Int) (w : World) (hN : 1 ≤ N ∧ N ≤ 1048576) (hQ : 1 ≤ Q ∧ Q ≤ 8) (hE : 1 ≤ E ∧ E ≤ 1000) (hF : 2 ≤ F ∧ F ≤ 4096) (hh : 0 ≤ h ∧ h ≤ 1048576) : Calls Try.prog 39 #[.agg #[.int .i64 N, .int .i64 B, .int .i64 Q, .int .i64 E, .int .i64 F], .int .i64 h] w fun e w' => e = .returned (.int .i64 (Q * N + aux N Q E + h * F)) ∧ Below w.heap.size w w' := by
  have HP : Hid (∀ W, Calls Try.prog 59 #[.agg #[.int .i64 N, .int .i64 B, .int .i64 Q, .int .i64 E, .int .i64 F], .int .i64 h] W fun e w' => e = .returned (.int .i64 (Q * N + aux N Q E + h * F)) ∧ Below W.heap.size W w') := fun W => places_any N B Q E F h W hN hQ hE hF hh
  generalize Q * N + aux N Q E + h * F = A at *
  clear hN hQ hE hF hh
  go_enter Try.func39, Try.ntmps39
  go_wp2_with fail
  refine (HP.out _).mono ?_
  rintro e w1 ⟨rfl, hb⟩
  have X1 : Hid (Below w.heap.size w w1) := below_mid (below_alloc _ _) hb
  clear hb
  go_wp2
  go_ret
  exact ⟨rfl, X1.out⟩

set_option maxRecDepth 100000 in
set_option maxHeartbeats 1000000 in
/-- WORK. -/
theorem work_any (N B Q E F h : Int) (w : World) (hN : 1 ≤ N ∧ N ≤ 1048576) (hQ : 1 ≤ Q ∧ Q ≤ 8) (hE : 1 ≤ E ∧ E ≤ 1000) (hF : 2 ≤ F ∧ F ≤ 4096) (hh : 0 ≤ h ∧ h ≤ 1048576) : Calls Try.prog 40 #[.agg #[.int .i64 N, .int .i64 B, .int .i64 Q, .int .i64 E, .int .i64 F], .int .i64 h] w fun e w' => e = .returned (.int .i64 (Q * N + aux N Q E + h * F)) ∧ Below w.heap.size w w' := by
  have HP : Hid (∀ W, Calls Try.prog 59 #[.agg #[.int .i64 N, .int .i64 B, .int .i64 Q, .int .i64 E, .int .i64 F], .int .i64 h] W fun e w' => e = .returned (.int .i64 (Q * N + aux N Q E + h * F)) ∧ Below W.heap.size W w') := fun W => places_any N B Q E F h W hN hQ hE hF hh
  generalize Q * N + aux N Q E + h * F = A at *
  clear hN hQ hE hF hh
  go_enter Try.func40, Try.ntmps40
  go_wp2_with fail
  refine (HP.out _).mono ?_
  rintro e w1 ⟨rfl, hb⟩
  have X1 : Hid (Below w.heap.size w w1) := below_mid (below_alloc _ _) hb
  clear hb
  go_wp2
  go_ret
  exact ⟨rfl, X1.out⟩

set_option maxRecDepth 100000 in
set_option maxHeartbeats 1000000 in
/-- The document's Auxiliary. -/
theorem raux_any (N B Q E F : Int) (w : World) (hN : 1 ≤ N ∧ N ≤ 1048576) (hQ : 1 ≤ Q ∧ Q ≤ 8) (hE : 1 ≤ E ∧ E ≤ 1000) : Calls Try.prog 34 #[.agg #[.int .i64 N, .int .i64 B, .int .i64 Q, .int .i64 E, .int .i64 F]] w fun e w' => e = .returned (.int .i64 (aux N Q E)) ∧ Below w.heap.size w w' := by
  have hr := share_range hN hQ hE
  obtain ⟨X, hX⟩ : ∃ X, 55 * Q * E = X := ⟨_, rfl⟩
  rw [hX] at hr
  obtain ⟨Y, hY⟩ : ∃ Y, X * N = Y := ⟨_, rfl⟩
  rw [hY] at hr
  obtain ⟨⟨r1, r2⟩, r3, r4⟩ := hr
  have k1 : IntKind.i64.wrap (55 * Q * E) = X := by rw [hX, IntKind.wrap_i64]; omega
  have k2 : IntKind.i64.wrap (X * N) = Y := by rw [hY, IntKind.wrap_i64]; omega
  have hA : Hid (aux N Q E = max Q ((Y + 99999) / 100000)) := by unfold Hid aux; rw [hX, hY]
  clear hX hY hN hE
  obtain ⟨hQ1, hQ2⟩ := hQ
  rw [hA.out]
  clear hA
  go_enter Try.func34, Try.ntmps34
  go_wp2
  all_goals
    go_ret
    exact ⟨ret_int (by omega), below_alloc _ _⟩

end Go.Proofs.Ytijonjiioeahhaa
