/-
  The walk of the statement ParamsGrow.
-/
import Derived.Test.YtijonjiioeahhaaParS
namespace Go.Proofs.Ytijonjiioeahhaa
open Go.RowKit
set_option linter.unusedVariables false

theorem mul_mono {a b c d : Int} (h1 : a ≤ b) (h2 : c ≤ d) (ha : 0 ≤ a) (hc : 0 ≤ c) : a * c ≤ b * d := Int.mul_le_mul h1 h2 hc (Int.le_trans ha h1)

theorem aux_mono {N Q E N' Q' E' : Int} (hN : 0 ≤ N) (hQ : 0 ≤ Q) (hE : 0 ≤ E) (h1 : N ≤ N') (h2 : Q ≤ Q') (h3 : E ≤ E') : aux N Q E ≤ aux N' Q' E' := by
  have k1 : 55 * Q * E ≤ 55 * Q' * E' := mul_mono (by omega) h3 (by omega) hE
  have k0 : 0 ≤ 55 * Q * E := Int.mul_nonneg (by omega) hE
  have k2 : 55 * Q * E * N ≤ 55 * Q' * E' * N' := mul_mono k1 h1 k0 hN
  unfold aux
  omega

set_option maxRecDepth 100000 in
set_option maxHeartbeats 4000000 in
theorem paramsGrow_walk (N B Q E F a b c : Int) (w : World) (hw : Ok .i64 N ∧ Ok .i64 B ∧ Ok .i64 Q ∧ Ok .i64 E ∧ Ok .i64 F) (hw2 : Ok .u8 a ∧ Ok .u8 b ∧ Ok .u8 c) :
    Calls Try.prog 6 #[.agg #[.int .i64 N, .int .i64 B, .int .i64 Q, .int .i64 E, .int .i64 F], .agg #[.int .u8 a, .int .u8 b, .int .u8 c]] w fun e w' => e = .returned (.bool true) ∧ Below w.heap.size w w' := by
  obtain ⟨ha, hb, hc⟩ := hw2
  obtain ⟨ha1, ha2⟩ : 0 ≤ a ∧ a ≤ 255 := bounds_u8 ha
  obtain ⟨hb1, hb2⟩ : 0 ≤ b ∧ b ≤ 255 := bounds_u8 hb
  obtain ⟨hc1, hc2⟩ : 0 ≤ c ∧ c ≤ 255 := bounds_u8 hc
  clear hw ha hb hc
  go_enter Try.func6, Try.ntmps6
  go_wp2_with fail
  refine (speaks5_any _).mono ?_
  rintro e w1 ⟨rfl, hb1⟩
  have B1 : Hid (Below w.heap.size w w1) := below_mid ((below_alloc _ _).alloc (by simp) _) hb1
  have F1 : Hid (Five w1 w.heap.size N B Q E F) := ((five_new w _ N B Q E F).below (below_alloc _ _)).below hb1
  have T1 : Hid (w1.cell? ⟨w.heap.size + 1, 0, none⟩ = some (.int .u8 a) ∧ w1.cell? ⟨w.heap.size + 1, 1, none⟩ = some (.int .u8 b) ∧ w1.cell? ⟨w.heap.size + 1, 2, none⟩ = some (.int .u8 c)) := by
    refine ⟨?_, ?_, ?_⟩ <;> (rw [hb1.cell (by simp)]; simp)
  clear hb1
  obtain ⟨c0, c1, c2, c3, c4⟩ := F1.out
  obtain ⟨t0, t1, t2⟩ := T1.out
  have hlt1 : w.heap.size + 1 < w1.heap.size := cell_block_lt t0
  have hlt0 : w.heap.size < w1.heap.size := cell_block_lt c0
  obtain ⟨N', hN'⟩ : ∃ x, IntKind.i64.wrap (N + a) = x := ⟨_, rfl⟩
  obtain ⟨Q', hQ'⟩ : ∃ x, IntKind.i64.wrap (Q + b % 8) = x := ⟨_, rfl⟩
  obtain ⟨E', hE'⟩ : ∃ x, IntKind.i64.wrap (E + c) = x := ⟨_, rfl⟩
  go_wp2_with fail
  by_cases hm : May N B Q E F
  · refine (rmay_yes N B Q E F _ hm).mono ?_
    rintro e w2 ⟨rfl, hb2⟩
    have B2 : Hid (Below w.heap.size w w2) := below_mid B1.out (below_mid (below_alloc _ _) hb2)
    have F2 : Hid (Five w2 w.heap.size N B Q E F) := (F1.out.below (below_alloc _ _)).below hb2
    have G2 : Hid (Five w2 w1.heap.size N' B Q' E' F) := (five_new w1 _ N' B Q' E' F).below hb2
    clear hb2 B1 F1 T1 c0 c1 c2 c3 c4 t0 t1 t2 hlt0 hlt1
    obtain ⟨q0, hq0⟩ : ∃ q, w.heap.size = q := ⟨_, rfl⟩
    obtain ⟨q1, hq1⟩ : ∃ q, w1.heap.size = q := ⟨_, rfl⟩
    rw [hq0] at F2
    rw [hq1] at G2
    obtain ⟨c0, c1, c2, c3, c4⟩ := G2.out
    by_cases hm' : May N' B Q' E' F
    · go_wp2_with fail
      refine (rmay_yes N' B Q' E' F _ hm').mono ?_
      rintro e w3 ⟨rfl, hb3⟩
      have B3 : Hid (Below w.heap.size w w3) := below_mid B2.out hb3
      have F3 : Hid (Five w3 q0 N B Q E F) := F2.out.below hb3
      have G3 : Hid (Five w3 q1 N' B Q' E' F) := G2.out.below hb3
      clear hb3 B2 F2 G2 c0 c1 c2 c3 c4
      obtain ⟨hN, hB, hQ, hE, hF, -⟩ := hm
      obtain ⟨hN2, hB2, hQ2, hE2, hF2, -⟩ := hm'
      have e1 : N' = N + a := by rw [← hN', IntKind.wrap_i64]; omega
      have e2 : Q ≤ Q' := by rw [← hQ', IntKind.wrap_i64]; omega
      have e3 : E' = E + c := by rw [← hE', IntKind.wrap_i64]; omega
      have hmono := aux_mono (N := N) (Q := Q) (E := E) (N' := N') (Q' := Q') (E' := E') (by omega) (by omega) (by omega) (by omega) e2 (by omega)
      have hNN : N ≤ N' := by omega
      have hr := aux_range hN hQ hE
      have hr2 := aux_range hN2 hQ2 hE2
      have A0 : Hid (∀ W, Calls Try.prog 35 #[.agg #[.int .i64 N, .int .i64 B, .int .i64 Q, .int .i64 E, .int .i64 F]] W fun e w' => e = .returned (.int .i64 (aux N Q E)) ∧ Below W.heap.size W w') := fun W => aux_any N B Q E F W hN hQ hE
      have A1 : Hid (∀ W, Calls Try.prog 36 #[.agg #[.int .i64 N, .int .i64 B, .int .i64 Q, .int .i64 E, .int .i64 F]] W fun e w' => e = .returned (.int .i64 (N + aux N Q E)) ∧ Below W.heap.size W w') := fun W => all_any N B Q E F W hN hQ hE
      have A2 : Hid (∀ W, Calls Try.prog 35 #[.agg #[.int .i64 N', .int .i64 B, .int .i64 Q', .int .i64 E', .int .i64 F]] W fun e w' => e = .returned (.int .i64 (aux N' Q' E')) ∧ Below W.heap.size W w') := fun W => aux_any N' B Q' E' F W hN2 hQ2 hE2
      have A3 : Hid (∀ W, Calls Try.prog 36 #[.agg #[.int .i64 N', .int .i64 B, .int .i64 Q', .int .i64 E', .int .i64 F]] W fun e w' => e = .returned (.int .i64 (N' + aux N' Q' E')) ∧ Below W.heap.size W w') := fun W => all_any N' B Q' E' F W hN2 hQ2 hE2
      generalize aux N Q E = A at *
      generalize aux N' Q' E' = A' at *
      obtain ⟨r1, r2⟩ := hr
      obtain ⟨r3, r4⟩ := hr2
      obtain ⟨n1, n2⟩ := hN2
      obtain ⟨n3, n4⟩ := hN
      have hA1 : 1 ≤ A := by omega
      have hA2 : 1 ≤ A' := by omega
      clear hE' hN' hQ' e1 e2 e3 hB hQ hE hF hB2 hQ2 hE2 hF2 ha1 ha2 hb1 hb2 hc1 hc2
      go_wp2
      clear hq0 hq1
      have BX : Hid (∀ W, Below w3.heap.size w3 W → Five W q0 N B Q E F) := fun W hW => F3.out.below hW
      have BY : Hid (∀ W, Below w3.heap.size w3 W → Five W q1 N' B Q' E' F) := fun W hW => G3.out.below hW
      have C0 : Hid (∀ W, Below w3.heap.size w3 W → Calls Try.prog 35 #[.agg #[.int .i64 N, .int .i64 B, .int .i64 Q, .int .i64 E, .int .i64 F]] W fun e w' => ∃ v, e = .returned v ∧ IsV (.int .i64 (A)) v w' ∧ Below W.heap.size W w') := fun W hW => calls_below (A0.out W)
      have C1 : Hid (∀ W, Below w3.heap.size w3 W → Calls Try.prog 36 #[.agg #[.int .i64 N, .int .i64 B, .int .i64 Q, .int .i64 E, .int .i64 F]] W fun e w' => ∃ v, e = .returned v ∧ IsV (.int .i64 (N + A)) v w' ∧ Below W.heap.size W w') := fun W hW => calls_below (A1.out W)
      have C2 : Hid (∀ W, Below w3.heap.size w3 W → Calls Try.prog 35 #[.agg #[.int .i64 N', .int .i64 B, .int .i64 Q', .int .i64 E', .int .i64 F]] W fun e w' => ∃ v, e = .returned v ∧ IsV (.int .i64 (A')) v w' ∧ Below W.heap.size W w') := fun W hW => calls_below (A2.out W)
      have C3 : Hid (∀ W, Below w3.heap.size w3 W → Calls Try.prog 36 #[.agg #[.int .i64 N', .int .i64 B, .int .i64 Q', .int .i64 E', .int .i64 F]] W fun e w' => ∃ v, e = .returned v ∧ IsV (.int .i64 (N' + A')) v w' ∧ Below W.heap.size W w') := fun W hW => calls_below (A3.out W)
      have hlt : N + A < N' + A' + 1 := by omega
      refine wp_region_any (by kernel_rfl) ?_
      obtain ⟨gs, hgs⟩ : ∃ gs : List (Value → World → Prop), gs = [IsV (.agg #[.int .i64 N, .int .i64 B, .int .i64 Q, .int .i64 E, .int .i64 F]), IsV (.int .i64 A), IsV (.agg #[.int .i64 N', .int .i64 B, .int .i64 Q', .int .i64 E', .int .i64 F]), IsV (.int .i64 A'), IsV (.bool true), IsV (.bool true), IsV (.agg #[.int .i64 N, .int .i64 B, .int .i64 Q, .int .i64 E, .int .i64 F]), IsV (.int .i64 A), IsV (.pointer (some ⟨q0, 2, none⟩)), IsV (.int .i64 Q), IsV (.bool true), IsV (.bool true), IsV (.bool true), IsV (.agg #[.int .i64 N, .int .i64 B, .int .i64 Q, .int .i64 E, .int .i64 F]), IsV (.int .i64 (N + A)), IsV (.agg #[.int .i64 N', .int .i64 B, .int .i64 Q', .int .i64 E', .int .i64 F]), IsV (.int .i64 (N' + A')), IsV (.int .i64 ((N' + A') + 1)), IsV (.bool true), IsV (.bool true), IsV (.bool true)] := ⟨_, rfl⟩
      have g0 : Hid (gs[0]? = some (IsV (.agg #[.int .i64 N, .int .i64 B, .int .i64 Q, .int .i64 E, .int .i64 F]))) := by unfold Hid; rw [hgs]; rfl
      have g1 : Hid (gs[1]? = some (IsV (.int .i64 A))) := by unfold Hid; rw [hgs]; rfl
      have g2 : Hid (gs[2]? = some (IsV (.agg #[.int .i64 N', .int .i64 B, .int .i64 Q', .int .i64 E', .int .i64 F]))) := by unfold Hid; rw [hgs]; rfl
      have g3 : Hid (gs[3]? = some (IsV (.int .i64 A'))) := by unfold Hid; rw [hgs]; rfl
      have g4 : Hid (gs[4]? = some (IsV (.bool true))) := by unfold Hid; rw [hgs]; rfl
      have g5 : Hid (gs[5]? = some (IsV (.bool true))) := by unfold Hid; rw [hgs]; rfl
      have g6 : Hid (gs[6]? = some (IsV (.agg #[.int .i64 N, .int .i64 B, .int .i64 Q, .int .i64 E, .int .i64 F]))) := by unfold Hid; rw [hgs]; rfl
      have g7 : Hid (gs[7]? = some (IsV (.int .i64 A))) := by unfold Hid; rw [hgs]; rfl
      have g8 : Hid (gs[8]? = some (IsV (.pointer (some ⟨q0, 2, none⟩)))) := by unfold Hid; rw [hgs]; rfl
      have g9 : Hid (gs[9]? = some (IsV (.int .i64 Q))) := by unfold Hid; rw [hgs]; rfl
      have g10 : Hid (gs[10]? = some (IsV (.bool true))) := by unfold Hid; rw [hgs]; rfl
      have g11 : Hid (gs[11]? = some (IsV (.bool true))) := by unfold Hid; rw [hgs]; rfl
      have g12 : Hid (gs[12]? = some (IsV (.bool true))) := by unfold Hid; rw [hgs]; rfl
      have g13 : Hid (gs[13]? = some (IsV (.agg #[.int .i64 N, .int .i64 B, .int .i64 Q, .int .i64 E, .int .i64 F]))) := by unfold Hid; rw [hgs]; rfl
      have g14 : Hid (gs[14]? = some (IsV (.int .i64 (N + A)))) := by unfold Hid; rw [hgs]; rfl
      have g15 : Hid (gs[15]? = some (IsV (.agg #[.int .i64 N', .int .i64 B, .int .i64 Q', .int .i64 E', .int .i64 F]))) := by unfold Hid; rw [hgs]; rfl
      have g16 : Hid (gs[16]? = some (IsV (.int .i64 (N' + A')))) := by unfold Hid; rw [hgs]; rfl
      have g17 : Hid (gs[17]? = some (IsV (.int .i64 ((N' + A') + 1)))) := by unfold Hid; rw [hgs]; rfl
      have g18 : Hid (gs[18]? = some (IsV (.bool true))) := by unfold Hid; rw [hgs]; rfl
      have g19 : Hid (gs[19]? = some (IsV (.bool true))) := by unfold Hid; rw [hgs]; rfl
      have g20 : Hid (gs[20]? = some (IsV (.bool true))) := by unfold Hid; rw [hgs]; rfl
      have gk : Hid (∀ p ∈ gs, Stays p) := by
        unfold Hid
        rw [hgs]
        simp only [List.forall_mem_cons]
        exact ⟨stays_v _, stays_v _, stays_v _, stays_v _, stays_v _, stays_v _, stays_v _, stays_v _, stays_v _, stays_v _, stays_v _, stays_v _, stays_v _, stays_v _, stays_v _, stays_v _, stays_v _, stays_v _, stays_v _, stays_v _, stays_v _, by simp⟩
      clear hgs
      refine wpAny_inv (fun listed ac W => ∃ xv : Nat → Value, ac = ⟨#[Value.agg #[Value.int IntKind.i64 N, Value.int IntKind.i64 B, Value.int IntKind.i64 Q, Value.int IntKind.i64 E, Value.int IntKind.i64 F], Value.agg #[Value.int IntKind.u8 a, Value.int IntKind.u8 b, Value.int IntKind.u8 c], Value.pointer (some { block := q0, off := 0 }), Value.pointer (some { block := q0 + 1, off := 0 }), xv 20, Value.pointer (some { block := q1, off := 0 }), Value.bool true, Value.bool false, Value.agg #[Value.int IntKind.i64 N, Value.int IntKind.i64 B, Value.int IntKind.i64 Q, Value.int IntKind.i64 E, Value.int IntKind.i64 F], Value.pointer (some { block := q1, off := 0 }), Value.int IntKind.i64 N, Value.pointer (some { block := q0 + 1, off := 0 }), Value.int IntKind.u8 a, Value.int IntKind.i64 a, Value.int IntKind.i64 N', Value.pointer (some { block := q1, off := 0 }), Value.pointer (some { block := q1, off := 2 }), Value.int IntKind.i64 Q, Value.pointer (some { block := q0 + 1, off := 1 }), Value.int IntKind.u8 b, Value.int IntKind.i64 b, Value.int IntKind.i64 (b % (8 : Int)), Value.int IntKind.i64 Q', Value.pointer (some { block := q1, off := 2 }), Value.pointer (some { block := q1, off := 3 }), Value.int IntKind.i64 E, Value.pointer (some { block := q0 + 1, off := 2 }), Value.int IntKind.u8 c, Value.int IntKind.i64 c, Value.int IntKind.i64 E', Value.pointer (some { block := q1, off := 3 }), Value.agg #[Value.int IntKind.i64 N, Value.int IntKind.i64 B, Value.int IntKind.i64 Q, Value.int IntKind.i64 E, Value.int IntKind.i64 F], Value.bool true, Value.bool false, Value.bool false, Value.agg #[Value.int IntKind.i64 N', Value.int IntKind.i64 B, Value.int IntKind.i64 Q', Value.int IntKind.i64 E', Value.int IntKind.i64 F], Value.bool true, Value.bool false, Value.bool false, xv 0, xv 1, xv 2, xv 3, xv 4, xv 5, xv 6, xv 7, xv 8, xv 9, xv 10, xv 11, xv 12, xv 13, xv 14, xv 15, xv 16, xv 17, xv 18, xv 19], []⟩ ∧ Below w3.heap.size w3 W ∧ Lst gs listed xv W) (by kernel_rfl) ?_ ?_ _ _ _ _ (by kernel_rfl) (of_decide_eq_true (by kernel_rfl)) ⟨fun j => if j = 20 then Value.bool false else undef, rfl, below0 _, Lst.start _ _ _ _⟩
      · rintro listed ac W ⟨xv, rfl, hb, hG⟩ i hi hd
        have hin : i < 21 := hi
        clear hi
        have hcase : i = 0 ∨ i = 1 ∨ i = 2 ∨ i = 3 ∨ i = 4 ∨ i = 5 ∨ i = 6 ∨ i = 7 ∨ i = 8 ∨ i = 9 ∨ i = 10 ∨ i = 11 ∨ i = 12 ∨ i = 13 ∨ i = 14 ∨ i = 15 ∨ i = 16 ∨ i = 17 ∨ i = 18 ∨ i = 19 ∨ i = 20 := by omega
        rcases hcase with rfl | rfl | rfl | rfl | rfl | rfl | rfl | rfl | rfl | rfl | rfl | rfl | rfl | rfl | rfl | rfl | rfl | rfl | rfl | rfl | rfl
        · refine wpOp_step rfl (fun K' hK => ?_)
          obtain ⟨c0, c1, c2, c3, c4⟩ := BX.out W hb
          clear hd hin
          go_simp
          exact hK _ _ ⟨updV xv 0 (.agg #[.int .i64 N, .int .i64 B, .int .i64 Q, .int .i64 E, .int .i64 F]), by simp [updV], hb, hG.same gk.out g0.out _ rfl⟩
        · refine wpOp_step rfl (fun K' hK => ?_)
          simp [Region.binds] at hd
          have e0 : xv 0 = .agg #[.int .i64 N, .int .i64 B, .int .i64 Q, .int .i64 E, .int .i64 F] := hG.get g0.out (by simp [hd])
          clear hd hin
          go_simp
          refine (C0.out W hb).mono ?_
          rintro e w' ⟨v, rfl, hv, hb'⟩
          go_wp2_with fail
          exact ⟨updV xv 1 v, by simp [updV, e0], hb.trans (hb'.mono hb.size), hG.step gk.out hb' g1.out v hv⟩
        · refine wpOp_step rfl (fun K' hK => ?_)
          obtain ⟨c0, c1, c2, c3, c4⟩ := BY.out W hb
          clear hd hin
          go_simp
          exact hK _ _ ⟨updV xv 2 (.agg #[.int .i64 N', .int .i64 B, .int .i64 Q', .int .i64 E', .int .i64 F]), by simp [updV], hb, hG.same gk.out g2.out _ rfl⟩
        · refine wpOp_step rfl (fun K' hK => ?_)
          simp [Region.binds] at hd
          have e2 : xv 2 = .agg #[.int .i64 N', .int .i64 B, .int .i64 Q', .int .i64 E', .int .i64 F] := hG.get g2.out (by simp [hd])
          clear hd hin
          go_simp
          refine (C2.out W hb).mono ?_
          rintro e w' ⟨v, rfl, hv, hb'⟩
          go_wp2_with fail
          exact ⟨updV xv 3 v, by simp [updV, e2], hb.trans (hb'.mono hb.size), hG.step gk.out hb' g3.out v hv⟩
        · refine wpOp_step rfl (fun K' hK => ?_)
          simp [Region.binds] at hd
          have e1 : xv 1 = .int .i64 A := hG.get g1.out (by simp [hd])
          have e3 : xv 3 = .int .i64 A' := hG.get g3.out (by simp [hd])
          clear hd hin
          go_simp
          exact hK _ _ ⟨updV xv 4 (.bool true), by simp [updV, e1, e3], hb, hG.same gk.out g4.out _ rfl⟩
        · refine wpOp_step rfl (fun K' hK => ?_)
          simp [Region.binds] at hd
          have e4 : xv 4 = .bool true := hG.get g4.out (by simp [hd])
          clear hd hin
          go_simp
          exact hK _ _ ⟨updV xv 5 (.bool true), by simp [updV, e4], hb, hG.same gk.out g5.out _ rfl⟩
        · refine wpOp_step rfl (fun K' hK => ?_)
          simp [Region.binds] at hd
          have e5 : xv 5 = .bool true := hG.get g5.out (by simp [hd])
          obtain ⟨c0, c1, c2, c3, c4⟩ := BX.out W hb
          clear hd hin
          go_simp
          exact hK _ _ ⟨updV xv 6 (.agg #[.int .i64 N, .int .i64 B, .int .i64 Q, .int .i64 E, .int .i64 F]), by simp [updV, e5], hb, hG.same gk.out g6.out _ rfl⟩
        · refine wpOp_step rfl (fun K' hK => ?_)
          simp [Region.binds] at hd
          have e6 : xv 6 = .agg #[.int .i64 N, .int .i64 B, .int .i64 Q, .int .i64 E, .int .i64 F] := hG.get g6.out (by simp [hd])
          have e5 : xv 5 = .bool true := hG.get g5.out (by simp [hd])
          clear hd hin
          go_simp
          refine (C0.out W hb).mono ?_
          rintro e w' ⟨v, rfl, hv, hb'⟩
          go_wp2_with fail
          exact ⟨updV xv 7 v, by simp [updV, e6, e5], hb.trans (hb'.mono hb.size), hG.step gk.out hb' g7.out v hv⟩
        · refine wpOp_step rfl (fun K' hK => ?_)
          simp [Region.binds] at hd
          have e5 : xv 5 = .bool true := hG.get g5.out (by simp [hd])
          clear hd hin
          go_simp
          exact hK _ _ ⟨updV xv 8 (.pointer (some ⟨q0, 2, none⟩)), by simp [updV, e5], hb, hG.same gk.out g8.out _ rfl⟩
        · refine wpOp_step rfl (fun K' hK => ?_)
          simp [Region.binds] at hd
          have e8 : xv 8 = .pointer (some ⟨q0, 2, none⟩) := hG.get g8.out (by simp [hd])
          have e5 : xv 5 = .bool true := hG.get g5.out (by simp [hd])
          obtain ⟨c0, c1, c2, c3, c4⟩ := BX.out W hb
          clear hd hin
          go_simp
          exact hK _ _ ⟨updV xv 9 (.int .i64 Q), by simp [updV, e8, e5], hb, hG.same gk.out g9.out _ rfl⟩
        · refine wpOp_step rfl (fun K' hK => ?_)
          simp [Region.binds] at hd
          have e7 : xv 7 = .int .i64 A := hG.get g7.out (by simp [hd])
          have e9 : xv 9 = .int .i64 Q := hG.get g9.out (by simp [hd])
          have e5 : xv 5 = .bool true := hG.get g5.out (by simp [hd])
          clear hd hin
          go_simp
          exact hK _ _ ⟨updV xv 10 (.bool true), by simp [updV, e7, e9, e5], hb, hG.same gk.out g10.out _ rfl⟩
        · refine wpOp_step rfl (fun K' hK => ?_)
          simp [Region.binds] at hd
          have e5 : xv 5 = .bool true := hG.get g5.out (by simp [hd])
          have e10 : xv 10 = .bool true := hG.get g10.out (by simp [hd])
          clear hd hin
          go_simp
          exact hK _ _ ⟨updV xv 11 (.bool true), by simp [updV, e5, e10], hb, hG.same gk.out g11.out _ rfl⟩
        · refine wpOp_step rfl (fun K' hK => ?_)
          simp [Region.binds] at hd
          have e11 : xv 11 = .bool true := hG.get g11.out (by simp [hd])
          clear hd hin
          go_simp
          exact hK _ _ ⟨updV xv 12 (.bool true), by simp [updV, e11], hb, hG.same gk.out g12.out _ rfl⟩
        · refine wpOp_step rfl (fun K' hK => ?_)
          simp [Region.binds] at hd
          have e12 : xv 12 = .bool true := hG.get g12.out (by simp [hd])
          obtain ⟨c0, c1, c2, c3, c4⟩ := BX.out W hb
          clear hd hin
          go_simp
          exact hK _ _ ⟨updV xv 13 (.agg #[.int .i64 N, .int .i64 B, .int .i64 Q, .int .i64 E, .int .i64 F]), by simp [updV, e12], hb, hG.same gk.out g13.out _ rfl⟩
        · refine wpOp_step rfl (fun K' hK => ?_)
          simp [Region.binds] at hd
          have e13 : xv 13 = .agg #[.int .i64 N, .int .i64 B, .int .i64 Q, .int .i64 E, .int .i64 F] := hG.get g13.out (by simp [hd])
          have e12 : xv 12 = .bool true := hG.get g12.out (by simp [hd])
          clear hd hin
          go_simp
          refine (C1.out W hb).mono ?_
          rintro e w' ⟨v, rfl, hv, hb'⟩
          go_wp2_with fail
          exact ⟨updV xv 14 v, by simp [updV, e13, e12], hb.trans (hb'.mono hb.size), hG.step gk.out hb' g14.out v hv⟩
        · refine wpOp_step rfl (fun K' hK => ?_)
          simp [Region.binds] at hd
          have e12 : xv 12 = .bool true := hG.get g12.out (by simp [hd])
          obtain ⟨c0, c1, c2, c3, c4⟩ := BY.out W hb
          clear hd hin
          go_simp
          exact hK _ _ ⟨updV xv 15 (.agg #[.int .i64 N', .int .i64 B, .int .i64 Q', .int .i64 E', .int .i64 F]), by simp [updV, e12], hb, hG.same gk.out g15.out _ rfl⟩
        · refine wpOp_step rfl (fun K' hK => ?_)
          simp [Region.binds] at hd
          have e15 : xv 15 = .agg #[.int .i64 N', .int .i64 B, .int .i64 Q', .int .i64 E', .int .i64 F] := hG.get g15.out (by simp [hd])
          have e12 : xv 12 = .bool true := hG.get g12.out (by simp [hd])
          clear hd hin
          go_simp
          refine (C3.out W hb).mono ?_
          rintro e w' ⟨v, rfl, hv, hb'⟩
          go_wp2_with fail
          exact ⟨updV xv 16 v, by simp [updV, e15, e12], hb.trans (hb'.mono hb.size), hG.step gk.out hb' g16.out v hv⟩
        · refine wpOp_step rfl (fun K' hK => ?_)
          simp [Region.binds] at hd
          have e16 : xv 16 = .int .i64 (N' + A') := hG.get g16.out (by simp [hd])
          have e12 : xv 12 = .bool true := hG.get g12.out (by simp [hd])
          have wr : IntKind.i64.wrap ((N' + A') + 1) = (N' + A') + 1 := by rw [IntKind.wrap_i64]; omega
          clear hd hin
          go_simp
          exact hK _ _ ⟨updV xv 17 (.int .i64 ((N' + A') + 1)), by simp [updV, e16, e12], hb, hG.same gk.out g17.out _ rfl⟩
        · refine wpOp_step rfl (fun K' hK => ?_)
          simp [Region.binds] at hd
          have e14 : xv 14 = .int .i64 (N + A) := hG.get g14.out (by simp [hd])
          have e17 : xv 17 = .int .i64 ((N' + A') + 1) := hG.get g17.out (by simp [hd])
          have e12 : xv 12 = .bool true := hG.get g12.out (by simp [hd])
          clear hd hin
          go_simp
          exact hK _ _ ⟨updV xv 18 (.bool true), by simp [updV, e14, e17, e12], hb, hG.same gk.out g18.out _ rfl⟩
        · refine wpOp_step rfl (fun K' hK => ?_)
          simp [Region.binds] at hd
          have e12 : xv 12 = .bool true := hG.get g12.out (by simp [hd])
          have e18 : xv 18 = .bool true := hG.get g18.out (by simp [hd])
          clear hd hin
          go_simp
          exact hK _ _ ⟨updV xv 19 (.bool true), by simp [updV, e12, e18], hb, hG.same gk.out g19.out _ rfl⟩
        · refine wpOp_step rfl (fun K' hK => ?_)
          simp [Region.binds] at hd
          have e19 : xv 19 = .bool true := hG.get g19.out (by simp [hd])
          clear hd hin
          go_simp
          exact hK _ _ ⟨updV xv 20 (.bool true), by simp [updV, e19], hb, hG.same gk.out g20.out _ rfl⟩
      · rintro listed ac W ⟨xv, rfl, hb, hG⟩ hall
        have e20 : xv 20 = .bool true := hG.get g20.out (hall 20 (by decide))
        have XW : Hid (Below w3.heap.size w3 W) := hb
        clear hall hG hb gk g0 g1 g2 g3 g4 g5 g6 g7 g8 g9 g10 g11 g12 g13 g14 g15 g16 g17 g18 g19 g20
        rw [e20]
        clear e20
        have B5 : Hid (Below w.heap.size w W) := below_mid B3.out XW.out
        go_wp2
        go_ret
        exact ⟨rfl, B5.out⟩
    · go_wp2_with fail
      refine (rmay_no N' B Q' E' F _ hm').mono ?_
      rintro e w3 ⟨rfl, hb3⟩
      have B3 : Hid (Below w.heap.size w w3) := below_mid B2.out hb3
      clear hb3 B2 F2 G2 c0 c1 c2 c3 c4 hm hm'
      go_wp2
      go_ret
      exact ⟨rfl, B3.out⟩
  · refine (rmay_no N B Q E F _ hm).mono ?_
    rintro e w2 ⟨rfl, hb2⟩
    have B2 : Hid (Below w.heap.size w w2) := below_mid B1.out (below_mid (below_alloc _ _) hb2)
    clear hb2 B1 F1 T1 c0 c1 c2 c3 c4 t0 t1 t2 hlt0 hlt1 hm
    go_wp2
    go_ret
    exact ⟨rfl, B2.out⟩

end Go.Proofs.Ytijonjiioeahhaa
