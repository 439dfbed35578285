/-
  The walk of the statement ParamsCounts.
-/
import Derived.Test.YtijonjiioeahhaaParS
namespace Go.Proofs.Ytijonjiioeahhaa
open Go.RowKit
set_option linter.unusedVariables false

set_option maxRecDepth 100000 in
set_option maxHeartbeats 2000000 in
theorem paramsCounts_walk (N B Q E F h c : Int) (w : World) (hw : Ok .i64 N ∧ Ok .i64 B ∧ Ok .i64 Q ∧ Ok .i64 E ∧ Ok .i64 F) (hh : (Lit.int .i64 h).wf = true) (hc : (Lit.int .i64 c).wf = true) :
    Calls Try.prog 5 #[.agg #[.int .i64 N, .int .i64 B, .int .i64 Q, .int .i64 E, .int .i64 F], .int .i64 h, .int .i64 c] w fun e w' => e = .returned (.bool true) ∧ Below w.heap.size w w' := by
  clear hw hh hc
  go_enter Try.func5, Try.ntmps5
  go_wp2_with fail
  refine (speaks5_any _).mono ?_
  rintro e w1 ⟨rfl, hb1⟩
  have B1 : Hid (Below w.heap.size w w1) := below_mid (below_alloc _ _) hb1
  have F1 : Hid (Five w1 w.heap.size N B Q E F) := (five_new w _ N B Q E F).below hb1
  clear hb1
  obtain ⟨c0, c1, c2, c3, c4⟩ := F1.out
  by_cases hm : May N B Q E F
  · go_wp2_with fail
    refine (rmay_yes N B Q E F _ hm).mono ?_
    rintro e w2 ⟨rfl, hb2⟩
    have B2 : Hid (Below w.heap.size w w2) := below_mid B1.out hb2
    have F2 : Hid (Five w2 w.heap.size N B Q E F) := F1.out.below hb2
    clear hb2 B1 F1 c0 c1 c2 c3 c4
    by_cases h0 : h < 0
    · clear hm
      go_wp2
      go_ret
      exact ⟨rfl, B2.out⟩
    by_cases h1 : h > 1048576
    · clear hm
      go_wp2
      go_ret
      exact ⟨rfl, B2.out⟩
    by_cases k0 : c < 0
    · clear hm
      go_wp2
      go_ret
      exact ⟨rfl, B2.out⟩
    by_cases k1 : c > 1048576
    · clear hm
      go_wp2
      go_ret
      exact ⟨rfl, B2.out⟩
    obtain ⟨hN, hB, hQ, hE, hF, -⟩ := hm
    obtain ⟨c0, c1, c2, c3, c4⟩ := F2.out
    go_wp2_with fail
    refine (raux_any N B Q E F _ hN hQ hE).mono ?_
    rintro e w3 ⟨rfl, hb3⟩
    have B3 : Hid (Below w.heap.size w w3) := below_mid B2.out hb3
    have F3 : Hid (Five w3 w.heap.size N B Q E F) := F2.out.below hb3
    clear hb3 B2 F2 c0 c1 c2 c3 c4
    obtain ⟨q, hq⟩ : ∃ q, w.heap.size = q := ⟨_, rfl⟩
    rw [hq] at F3
    have hh : 0 ≤ h ∧ h ≤ 1048576 := by omega
    have hk : 0 ≤ c ∧ c ≤ 1048576 := by omega
    have hr := aux_range hN hQ hE
    have hmr := most_range hN hB
    have hqn := pair_range (a := Q) (b := N) (A := 8) (B := 1048576) (by omega) (by omega)
    have hhf := pair_range (a := h) (b := F) (A := 1048576) (B := 4096) (by omega) (by omega)
    have hcf := pair_range (a := c) (b := F) (A := 1048576) (B := 4096) (by omega) (by omega)
    have A0 : Hid (∀ W, Calls Try.prog 35 #[.agg #[.int .i64 N, .int .i64 B, .int .i64 Q, .int .i64 E, .int .i64 F]] W fun e w' => e = .returned (.int .i64 (aux N Q E)) ∧ Below W.heap.size W w') := fun W => aux_any N B Q E F W hN hQ hE
    have A1 : Hid (∀ W, Calls Try.prog 36 #[.agg #[.int .i64 N, .int .i64 B, .int .i64 Q, .int .i64 E, .int .i64 F]] W fun e w' => e = .returned (.int .i64 (N + aux N Q E)) ∧ Below W.heap.size W w') := fun W => all_any N B Q E F W hN hQ hE
    have A2 : Hid (∀ W, Calls Try.prog 37 #[.agg #[.int .i64 N, .int .i64 B, .int .i64 Q, .int .i64 E, .int .i64 F]] W fun e w' => e = .returned (.int .i64 (N * B)) ∧ Below W.heap.size W w') := fun W => most_any N B Q E F W hN hB
    have A3 : Hid (∀ W, Calls Try.prog 38 #[.agg #[.int .i64 N, .int .i64 B, .int .i64 Q, .int .i64 E, .int .i64 F], .int .i64 h] W fun e w' => e = .returned (.int .i64 (N + 2 * aux N Q E + h + 1)) ∧ Below W.heap.size W w') := fun W => blocks_any N B Q E F h W hN hQ hE hh
    have A4 : Hid (∀ W, Calls Try.prog 39 #[.agg #[.int .i64 N, .int .i64 B, .int .i64 Q, .int .i64 E, .int .i64 F], .int .i64 h] W fun e w' => e = .returned (.int .i64 (Q * N + aux N Q E + h * F)) ∧ Below W.heap.size W w') := fun W => edges_any N B Q E F h W hN hQ hE hF hh
    have A5 : Hid (∀ W, Calls Try.prog 40 #[.agg #[.int .i64 N, .int .i64 B, .int .i64 Q, .int .i64 E, .int .i64 F], .int .i64 c] W fun e w' => e = .returned (.int .i64 (Q * N + aux N Q E + c * F)) ∧ Below W.heap.size W w') := fun W => work_any N B Q E F c W hN hQ hE hF hk
    have K0 : IntKind.i64.wrap (Q * N) = Q * N := by rw [IntKind.wrap_i64]; omega
    have K1 : IntKind.i64.wrap (h * F) = h * F := by rw [IntKind.wrap_i64]; omega
    have K2 : IntKind.i64.wrap (c * F) = c * F := by rw [IntKind.wrap_i64]; omega
    obtain ⟨K3, hm1, hm2⟩ := hmr
    obtain ⟨QN, hQN⟩ : ∃ x, x = Q * N := ⟨_, rfl⟩
    obtain ⟨HF, hHF⟩ : ∃ x, x = h * F := ⟨_, rfl⟩
    obtain ⟨CF, hCF⟩ : ∃ x, x = c * F := ⟨_, rfl⟩
    obtain ⟨P, hP⟩ : ∃ x, x = N * B := ⟨_, rfl⟩
    have E0 : Hid (IntKind.i64.wrap (Q * N) = QN) := by unfold Hid; rw [hQN]; exact K0
    have E1 : Hid (IntKind.i64.wrap (h * F) = HF) := by unfold Hid; rw [hHF]; exact K1
    have E2 : Hid (IntKind.i64.wrap (c * F) = CF) := by unfold Hid; rw [hCF]; exact K2
    have E3 : Hid (IntKind.i64.wrap (N * B) = P) := by unfold Hid; rw [hP]; exact K3
    rw [← hQN] at A4 A5 hqn
    rw [← hHF] at A4 hhf
    rw [← hCF] at A5 hcf
    rw [← hP] at A2 hm1 hm2
    clear hQN hHF hCF hP K0 K1 K2 K3
    generalize aux N Q E = A at *
    obtain ⟨hr1, hr2⟩ := hr
    obtain ⟨hN1, hN2⟩ := hN
    obtain ⟨hB1, hB2⟩ := hB
    obtain ⟨hQ1, hQ2⟩ := hQ
    obtain ⟨hF1, hF2⟩ := hF
    obtain ⟨hh1, hh2⟩ := hh
    obtain ⟨hk1, hk2⟩ := hk
    obtain ⟨hqn1, hqn2⟩ := hqn
    obtain ⟨hhf1, hhf2⟩ := hhf
    obtain ⟨hcf1, hcf2⟩ := hcf
    clear hE h0 h1 k0 k1
    go_wp2
    clear hq
    have BX : Hid (∀ W, Below w3.heap.size w3 W → Five W q N B Q E F) := fun W hW => F3.out.below hW
    have C0 : Hid (∀ W, Below w3.heap.size w3 W → Calls Try.prog 35 #[.agg #[.int .i64 N, .int .i64 B, .int .i64 Q, .int .i64 E, .int .i64 F]] W fun e w' => ∃ v, e = .returned v ∧ IsV (.int .i64 (A)) v w' ∧ Below W.heap.size W w') := fun W hW => calls_below (A0.out W)
    have C1 : Hid (∀ W, Below w3.heap.size w3 W → Calls Try.prog 36 #[.agg #[.int .i64 N, .int .i64 B, .int .i64 Q, .int .i64 E, .int .i64 F]] W fun e w' => ∃ v, e = .returned v ∧ IsV (.int .i64 (N + A)) v w' ∧ Below W.heap.size W w') := fun W hW => calls_below (A1.out W)
    have C2 : Hid (∀ W, Below w3.heap.size w3 W → Calls Try.prog 37 #[.agg #[.int .i64 N, .int .i64 B, .int .i64 Q, .int .i64 E, .int .i64 F]] W fun e w' => ∃ v, e = .returned v ∧ IsV (.int .i64 (P)) v w' ∧ Below W.heap.size W w') := fun W hW => calls_below (A2.out W)
    refine wp_region_any (by kernel_rfl) ?_
    obtain ⟨gs, hgs⟩ : ∃ gs : List (Value → World → Prop), gs = [IsV (.agg #[.int .i64 N, .int .i64 B, .int .i64 Q, .int .i64 E, .int .i64 F]), IsV (.int .i64 A), IsV (Value.int IntKind.i64 A), IsV (.bool false), IsV (.bool false), IsV (.agg #[.int .i64 N, .int .i64 B, .int .i64 Q, .int .i64 E, .int .i64 F]), IsV (.int .i64 (N + A)), IsV (.pointer (some ⟨q, 0, none⟩)), IsV (.int .i64 N), IsV (Value.int IntKind.i64 A), IsV (.int .i64 (N + A)), IsV (.bool false), IsV (.bool false), IsV (.bool false), IsV (.agg #[.int .i64 N, .int .i64 B, .int .i64 Q, .int .i64 E, .int .i64 F]), IsV (.int .i64 P), IsV (.pointer (some ⟨q, 0, none⟩)), IsV (.int .i64 N), IsV (.pointer (some ⟨q, 1, none⟩)), IsV (.int .i64 B), IsV (.int .i64 P), IsV (.bool false), IsV (.bool false)] := ⟨_, rfl⟩
    have g0 : Hid (gs[0]? = some (IsV (.agg #[.int .i64 N, .int .i64 B, .int .i64 Q, .int .i64 E, .int .i64 F]))) := by unfold Hid; rw [hgs]; rfl
    have g1 : Hid (gs[1]? = some (IsV (.int .i64 A))) := by unfold Hid; rw [hgs]; rfl
    have g2 : Hid (gs[2]? = some (IsV (Value.int IntKind.i64 A))) := by unfold Hid; rw [hgs]; rfl
    have g3 : Hid (gs[3]? = some (IsV (.bool false))) := by unfold Hid; rw [hgs]; rfl
    have g4 : Hid (gs[4]? = some (IsV (.bool false))) := by unfold Hid; rw [hgs]; rfl
    have g5 : Hid (gs[5]? = some (IsV (.agg #[.int .i64 N, .int .i64 B, .int .i64 Q, .int .i64 E, .int .i64 F]))) := by unfold Hid; rw [hgs]; rfl
    have g6 : Hid (gs[6]? = some (IsV (.int .i64 (N + A)))) := by unfold Hid; rw [hgs]; rfl
    have g7 : Hid (gs[7]? = some (IsV (.pointer (some ⟨q, 0, none⟩)))) := by unfold Hid; rw [hgs]; rfl
    have g8 : Hid (gs[8]? = some (IsV (.int .i64 N))) := by unfold Hid; rw [hgs]; rfl
    have g9 : Hid (gs[9]? = some (IsV (Value.int IntKind.i64 A))) := by unfold Hid; rw [hgs]; rfl
    have g10 : Hid (gs[10]? = some (IsV (.int .i64 (N + A)))) := by unfold Hid; rw [hgs]; rfl
    have g11 : Hid (gs[11]? = some (IsV (.bool false))) := by unfold Hid; rw [hgs]; rfl
    have g12 : Hid (gs[12]? = some (IsV (.bool false))) := by unfold Hid; rw [hgs]; rfl
    have g13 : Hid (gs[13]? = some (IsV (.bool false))) := by unfold Hid; rw [hgs]; rfl
    have g14 : Hid (gs[14]? = some (IsV (.agg #[.int .i64 N, .int .i64 B, .int .i64 Q, .int .i64 E, .int .i64 F]))) := by unfold Hid; rw [hgs]; rfl
    have g15 : Hid (gs[15]? = some (IsV (.int .i64 P))) := by unfold Hid; rw [hgs]; rfl
    have g16 : Hid (gs[16]? = some (IsV (.pointer (some ⟨q, 0, none⟩)))) := by unfold Hid; rw [hgs]; rfl
    have g17 : Hid (gs[17]? = some (IsV (.int .i64 N))) := by unfold Hid; rw [hgs]; rfl
    have g18 : Hid (gs[18]? = some (IsV (.pointer (some ⟨q, 1, none⟩)))) := by unfold Hid; rw [hgs]; rfl
    have g19 : Hid (gs[19]? = some (IsV (.int .i64 B))) := by unfold Hid; rw [hgs]; rfl
    have g20 : Hid (gs[20]? = some (IsV (.int .i64 P))) := by unfold Hid; rw [hgs]; rfl
    have g21 : Hid (gs[21]? = some (IsV (.bool false))) := by unfold Hid; rw [hgs]; rfl
    have g22 : Hid (gs[22]? = some (IsV (.bool false))) := by unfold Hid; rw [hgs]; rfl
    have gk : Hid (∀ p ∈ gs, Stays p) := by
      unfold Hid
      rw [hgs]
      simp only [List.forall_mem_cons]
      exact ⟨stays_v _, stays_v _, stays_v _, stays_v _, stays_v _, stays_v _, stays_v _, stays_v _, stays_v _, stays_v _, stays_v _, stays_v _, stays_v _, stays_v _, stays_v _, stays_v _, stays_v _, stays_v _, stays_v _, stays_v _, stays_v _, stays_v _, stays_v _, by simp⟩
    clear hgs
    refine wpAny_inv (fun listed ac W => ∃ xv : Nat → Value, ac = ⟨#[Value.agg #[Value.int IntKind.i64 N, Value.int IntKind.i64 B, Value.int IntKind.i64 Q, Value.int IntKind.i64 E, Value.int IntKind.i64 F], Value.int IntKind.i64 h, Value.int IntKind.i64 c, Value.pointer (some { block := q, off := 0 }), undef, undef, Value.bool false, Value.int IntKind.i64 A, Value.bool true, Value.bool false, Value.agg #[Value.int IntKind.i64 N, Value.int IntKind.i64 B, Value.int IntKind.i64 Q, Value.int IntKind.i64 E, Value.int IntKind.i64 F], Value.bool true, Value.bool false, Value.bool false, Value.int IntKind.i64 h, Value.bool (decide (h < (0 : Int))), Value.bool (decide (h < (0 : Int))), Value.bool (decide (h < (0 : Int))), Value.int IntKind.i64 h, Value.bool (decide ((1048576 : Int) < h)), Value.bool (decide (h < (0 : Int)) || decide ((1048576 : Int) < h)), Value.bool (decide (h < (0 : Int)) || decide ((1048576 : Int) < h)), Value.int IntKind.i64 c, Value.bool (decide (c < (0 : Int))), Value.bool (decide (h < (0 : Int)) || decide ((1048576 : Int) < h) || decide (c < (0 : Int))), Value.bool (decide (h < (0 : Int)) || decide ((1048576 : Int) < h) || decide (c < (0 : Int))), Value.int IntKind.i64 c, Value.bool (decide ((1048576 : Int) < c)), Value.bool (decide (h < (0 : Int)) || decide ((1048576 : Int) < h) || decide (c < (0 : Int)) || decide ((1048576 : Int) < c)), Value.agg #[Value.int IntKind.i64 N, Value.int IntKind.i64 B, Value.int IntKind.i64 Q, Value.int IntKind.i64 E, Value.int IntKind.i64 F], Value.int IntKind.i64 A, xv 0, xv 1, xv 2, xv 3, xv 4, xv 5, xv 6, xv 7, xv 8, xv 9, xv 10, xv 11, xv 12, xv 13, xv 14, xv 15, xv 16, xv 17, xv 18, xv 19, xv 20, xv 21, xv 22, undef, undef, undef, undef, undef, undef, undef, undef, undef, undef, undef, undef, undef, undef, undef, undef, undef, undef, undef, undef, undef, undef, undef, undef, undef, undef, undef, undef, undef, undef, undef, undef, undef, undef, undef, undef, undef, undef, undef, undef, undef, undef, undef, undef, undef, undef, undef, undef], []⟩ ∧ Below w3.heap.size w3 W ∧ Lst gs listed xv W) (by kernel_rfl) ?_ ?_ _ _ _ _ (by kernel_rfl) (of_decide_eq_true (by kernel_rfl)) ⟨fun j => undef, rfl, below0 _, Lst.start _ _ _ _⟩
    · rintro listed ac W ⟨xv, rfl, hb, hG⟩ i hi hd
      have hin : i < 23 := hi
      clear hi
      have hcase : i = 0 ∨ i = 1 ∨ i = 2 ∨ i = 3 ∨ i = 4 ∨ i = 5 ∨ i = 6 ∨ i = 7 ∨ i = 8 ∨ i = 9 ∨ i = 10 ∨ i = 11 ∨ i = 12 ∨ i = 13 ∨ i = 14 ∨ i = 15 ∨ i = 16 ∨ i = 17 ∨ i = 18 ∨ i = 19 ∨ i = 20 ∨ i = 21 ∨ i = 22 := by omega
      rcases hcase with rfl | rfl | rfl | rfl | rfl | rfl | rfl | rfl | rfl | rfl | rfl | rfl | rfl | rfl | rfl | rfl | rfl | rfl | rfl | rfl | rfl | rfl | rfl
      · refine wpOp_step rfl (fun K' hK => ?_)
        obtain ⟨c0, c1, c2, c3, c4⟩ := BX.out W hb
        clear hd hin
        go_simp
        exact hK _ _ ⟨updV xv 0 (.agg #[.int .i64 N, .int .i64 B, .int .i64 Q, .int .i64 E, .int .i64 F]), by simp [updV], hb, hG.same gk.out g0.out _ rfl⟩
      · refine wpOp_step rfl (fun K' hK => ?_)
        simp [Region.binds] at hd
        have e0 : xv 0 = .agg #[.int .i64 N, .int .i64 B, .int .i64 Q, .int .i64 E, .int .i64 F] := hG.get g0.out (by simp [hd])
        clear hd hin
        go_simp
        refine (C0.out W hb).mono ?_
        rintro e w' ⟨v, rfl, hv, hb'⟩
        go_wp2_with fail
        exact ⟨updV xv 1 v, by simp [updV, e0], hb.trans (hb'.mono hb.size), hG.step gk.out hb' g1.out v hv⟩
      · refine wpOp_step rfl (fun K' hK => ?_)
        clear hd hin
        go_simp
        exact hK _ _ ⟨updV xv 2 (Value.int IntKind.i64 A), by simp [updV], hb, hG.same gk.out g2.out _ rfl⟩
      · refine wpOp_step rfl (fun K' hK => ?_)
        simp [Region.binds] at hd
        have e1 : xv 1 = .int .i64 A := hG.get g1.out (by simp [hd])
        have e2 : xv 2 = Value.int IntKind.i64 A := hG.get g2.out (by simp [hd])
        clear hd hin
        go_simp
        exact hK _ _ ⟨updV xv 3 (.bool false), by simp [updV, e1, e2], hb, hG.same gk.out g3.out _ rfl⟩
      · refine wpOp_step rfl (fun K' hK => ?_)
        simp [Region.binds] at hd
        have e3 : xv 3 = .bool false := hG.get g3.out (by simp [hd])
        clear hd hin
        go_simp
        exact hK _ _ ⟨updV xv 4 (.bool false), by simp [updV, e3], hb, hG.same gk.out g4.out _ rfl⟩
      · refine wpOp_step rfl (fun K' hK => ?_)
        simp [Region.binds] at hd
        have e4 : xv 4 = .bool false := hG.get g4.out (by simp [hd])
        obtain ⟨c0, c1, c2, c3, c4⟩ := BX.out W hb
        clear hd hin
        go_simp
        exact hK _ _ ⟨updV xv 5 (.agg #[.int .i64 N, .int .i64 B, .int .i64 Q, .int .i64 E, .int .i64 F]), by simp [updV, e4], hb, hG.same gk.out g5.out _ rfl⟩
      · refine wpOp_step rfl (fun K' hK => ?_)
        simp [Region.binds] at hd
        have e5 : xv 5 = .agg #[.int .i64 N, .int .i64 B, .int .i64 Q, .int .i64 E, .int .i64 F] := hG.get g5.out (by simp [hd])
        have e4 : xv 4 = .bool false := hG.get g4.out (by simp [hd])
        clear hd hin
        go_simp
        refine (C1.out W hb).mono ?_
        rintro e w' ⟨v, rfl, hv, hb'⟩
        go_wp2_with fail
        exact ⟨updV xv 6 v, by simp [updV, e5, e4], hb.trans (hb'.mono hb.size), hG.step gk.out hb' g6.out v hv⟩
      · refine wpOp_step rfl (fun K' hK => ?_)
        simp [Region.binds] at hd
        have e4 : xv 4 = .bool false := hG.get g4.out (by simp [hd])
        clear hd hin
        go_simp
        exact hK _ _ ⟨updV xv 7 (.pointer (some ⟨q, 0, none⟩)), by simp [updV, e4], hb, hG.same gk.out g7.out _ rfl⟩
      · refine wpOp_step rfl (fun K' hK => ?_)
        simp [Region.binds] at hd
        have e7 : xv 7 = .pointer (some ⟨q, 0, none⟩) := hG.get g7.out (by simp [hd])
        have e4 : xv 4 = .bool false := hG.get g4.out (by simp [hd])
        obtain ⟨c0, c1, c2, c3, c4⟩ := BX.out W hb
        clear hd hin
        go_simp
        exact hK _ _ ⟨updV xv 8 (.int .i64 N), by simp [updV, e7, e4], hb, hG.same gk.out g8.out _ rfl⟩
      · refine wpOp_step rfl (fun K' hK => ?_)
        simp [Region.binds] at hd
        have e4 : xv 4 = .bool false := hG.get g4.out (by simp [hd])
        clear hd hin
        go_simp
        exact hK _ _ ⟨updV xv 9 (Value.int IntKind.i64 A), by simp [updV, e4], hb, hG.same gk.out g9.out _ rfl⟩
      · refine wpOp_step rfl (fun K' hK => ?_)
        simp [Region.binds] at hd
        have e8 : xv 8 = .int .i64 N := hG.get g8.out (by simp [hd])
        have e9 : xv 9 = Value.int IntKind.i64 A := hG.get g9.out (by simp [hd])
        have e4 : xv 4 = .bool false := hG.get g4.out (by simp [hd])
        have wr : IntKind.i64.wrap (N + A) = N + A := by rw [IntKind.wrap_i64]; omega
        clear hd hin
        go_simp
        exact hK _ _ ⟨updV xv 10 (.int .i64 (N + A)), by simp [updV, e8, e9, e4], hb, hG.same gk.out g10.out _ rfl⟩
      · refine wpOp_step rfl (fun K' hK => ?_)
        simp [Region.binds] at hd
        have e6 : xv 6 = .int .i64 (N + A) := hG.get g6.out (by simp [hd])
        have e10 : xv 10 = .int .i64 (N + A) := hG.get g10.out (by simp [hd])
        have e4 : xv 4 = .bool false := hG.get g4.out (by simp [hd])
        clear hd hin
        go_simp
        exact hK _ _ ⟨updV xv 11 (.bool false), by simp [updV, e6, e10, e4], hb, hG.same gk.out g11.out _ rfl⟩
      · refine wpOp_step rfl (fun K' hK => ?_)
        simp [Region.binds] at hd
        have e4 : xv 4 = .bool false := hG.get g4.out (by simp [hd])
        have e11 : xv 11 = .bool false := hG.get g11.out (by simp [hd])
        clear hd hin
        go_simp
        exact hK _ _ ⟨updV xv 12 (.bool false), by simp [updV, e4, e11], hb, hG.same gk.out g12.out _ rfl⟩
      · refine wpOp_step rfl (fun K' hK => ?_)
        simp [Region.binds] at hd
        have e12 : xv 12 = .bool false := hG.get g12.out (by simp [hd])
        clear hd hin
        go_simp
        exact hK _ _ ⟨updV xv 13 (.bool false), by simp [updV, e12], hb, hG.same gk.out g13.out _ rfl⟩
      · refine wpOp_step rfl (fun K' hK => ?_)
        simp [Region.binds] at hd
        have e13 : xv 13 = .bool false := hG.get g13.out (by simp [hd])
        obtain ⟨c0, c1, c2, c3, c4⟩ := BX.out W hb
        clear hd hin
        go_simp
        exact hK _ _ ⟨updV xv 14 (.agg #[.int .i64 N, .int .i64 B, .int .i64 Q, .int .i64 E, .int .i64 F]), by simp [updV, e13], hb, hG.same gk.out g14.out _ rfl⟩
      · refine wpOp_step rfl (fun K' hK => ?_)
        simp [Region.binds] at hd
        have e14 : xv 14 = .agg #[.int .i64 N, .int .i64 B, .int .i64 Q, .int .i64 E, .int .i64 F] := hG.get g14.out (by simp [hd])
        have e13 : xv 13 = .bool false := hG.get g13.out (by simp [hd])
        clear hd hin
        go_simp
        refine (C2.out W hb).mono ?_
        rintro e w' ⟨v, rfl, hv, hb'⟩
        go_wp2_with fail
        exact ⟨updV xv 15 v, by simp [updV, e14, e13], hb.trans (hb'.mono hb.size), hG.step gk.out hb' g15.out v hv⟩
      · refine wpOp_step rfl (fun K' hK => ?_)
        simp [Region.binds] at hd
        have e13 : xv 13 = .bool false := hG.get g13.out (by simp [hd])
        clear hd hin
        go_simp
        exact hK _ _ ⟨updV xv 16 (.pointer (some ⟨q, 0, none⟩)), by simp [updV, e13], hb, hG.same gk.out g16.out _ rfl⟩
      · refine wpOp_step rfl (fun K' hK => ?_)
        simp [Region.binds] at hd
        have e16 : xv 16 = .pointer (some ⟨q, 0, none⟩) := hG.get g16.out (by simp [hd])
        have e13 : xv 13 = .bool false := hG.get g13.out (by simp [hd])
        obtain ⟨c0, c1, c2, c3, c4⟩ := BX.out W hb
        clear hd hin
        go_simp
        exact hK _ _ ⟨updV xv 17 (.int .i64 N), by simp [updV, e16, e13], hb, hG.same gk.out g17.out _ rfl⟩
      · refine wpOp_step rfl (fun K' hK => ?_)
        simp [Region.binds] at hd
        have e13 : xv 13 = .bool false := hG.get g13.out (by simp [hd])
        clear hd hin
        go_simp
        exact hK _ _ ⟨updV xv 18 (.pointer (some ⟨q, 1, none⟩)), by simp [updV, e13], hb, hG.same gk.out g18.out _ rfl⟩
      · refine wpOp_step rfl (fun K' hK => ?_)
        simp [Region.binds] at hd
        have e18 : xv 18 = .pointer (some ⟨q, 1, none⟩) := hG.get g18.out (by simp [hd])
        have e13 : xv 13 = .bool false := hG.get g13.out (by simp [hd])
        obtain ⟨c0, c1, c2, c3, c4⟩ := BX.out W hb
        clear hd hin
        go_simp
        exact hK _ _ ⟨updV xv 19 (.int .i64 B), by simp [updV, e18, e13], hb, hG.same gk.out g19.out _ rfl⟩
      · refine wpOp_step rfl (fun K' hK => ?_)
        simp [Region.binds] at hd
        have e17 : xv 17 = .int .i64 N := hG.get g17.out (by simp [hd])
        have e19 : xv 19 = .int .i64 B := hG.get g19.out (by simp [hd])
        have e13 : xv 13 = .bool false := hG.get g13.out (by simp [hd])
        have wr := E3.out
        clear hd hin
        go_simp
        exact hK _ _ ⟨updV xv 20 (.int .i64 P), by simp [updV, e17, e19, e13], hb, hG.same gk.out g20.out _ rfl⟩
      · refine wpOp_step rfl (fun K' hK => ?_)
        simp [Region.binds] at hd
        have e15 : xv 15 = .int .i64 P := hG.get g15.out (by simp [hd])
        have e20 : xv 20 = .int .i64 P := hG.get g20.out (by simp [hd])
        have e13 : xv 13 = .bool false := hG.get g13.out (by simp [hd])
        clear hd hin
        go_simp
        exact hK _ _ ⟨updV xv 21 (.bool false), by simp [updV, e15, e20, e13], hb, hG.same gk.out g21.out _ rfl⟩
      · refine wpOp_step rfl (fun K' hK => ?_)
        simp [Region.binds] at hd
        have e13 : xv 13 = .bool false := hG.get g13.out (by simp [hd])
        have e21 : xv 21 = .bool false := hG.get g21.out (by simp [hd])
        clear hd hin
        go_simp
        exact hK _ _ ⟨updV xv 22 (.bool false), by simp [updV, e13, e21], hb, hG.same gk.out g22.out _ rfl⟩
    · rintro listed ac W ⟨xv, rfl, hb, hG⟩ hall
      have e22 : xv 22 = .bool false := hG.get g22.out (hall 22 (by decide))
      have XW : Hid (Below w3.heap.size w3 W) := hb
      clear hall hG hb gk g0 g1 g2 g3 g4 g5 g6 g7 g8 g9 g10 g11 g12 g13 g14 g15 g16 g17 g18 g19 g20 g21 g22
      rw [e22]
      clear e22
      have B4 : Hid (Below w.heap.size w W) := below_mid B3.out XW.out
      have F4 : Hid (Five W q N B Q E F) := F3.out.below XW.out
      clear BX C0 C1 C2 B3 F3 XW E3
      generalize W = w5 at *
      go_wp2
      have BX : Hid (∀ W, Below w5.heap.size w5 W → Five W q N B Q E F) := fun W hW => F4.out.below hW
      have C3 : Hid (∀ W, Below w5.heap.size w5 W → Calls Try.prog 38 #[.agg #[.int .i64 N, .int .i64 B, .int .i64 Q, .int .i64 E, .int .i64 F], .int .i64 h] W fun e w' => ∃ v, e = .returned v ∧ IsV (.int .i64 (N + 2 * A + h + 1)) v w' ∧ Below W.heap.size W w') := fun W hW => calls_below (A3.out W)
      have C4 : Hid (∀ W, Below w5.heap.size w5 W → Calls Try.prog 39 #[.agg #[.int .i64 N, .int .i64 B, .int .i64 Q, .int .i64 E, .int .i64 F], .int .i64 h] W fun e w' => ∃ v, e = .returned v ∧ IsV (.int .i64 (QN + A + HF)) v w' ∧ Below W.heap.size W w') := fun W hW => calls_below (A4.out W)
      have C5 : Hid (∀ W, Below w5.heap.size w5 W → Calls Try.prog 40 #[.agg #[.int .i64 N, .int .i64 B, .int .i64 Q, .int .i64 E, .int .i64 F], .int .i64 c] W fun e w' => ∃ v, e = .returned v ∧ IsV (.int .i64 (QN + A + CF)) v w' ∧ Below W.heap.size W w') := fun W hW => calls_below (A5.out W)
      refine wp_region_any (by kernel_rfl) ?_
      obtain ⟨gs, hgs⟩ : ∃ gs : List (Value → World → Prop), gs = [IsV (.agg #[.int .i64 N, .int .i64 B, .int .i64 Q, .int .i64 E, .int .i64 F]), IsV (Value.int IntKind.i64 h), IsV (.int .i64 (((N + (2 * A)) + h) + 1)), IsV (.pointer (some ⟨q, 0, none⟩)), IsV (.int .i64 N), IsV (Value.int IntKind.i64 A), IsV (.int .i64 (2 * A)), IsV (.int .i64 (N + (2 * A))), IsV (Value.int IntKind.i64 h), IsV (.int .i64 ((N + (2 * A)) + h)), IsV (.int .i64 (((N + (2 * A)) + h) + 1)), IsV (.bool true), IsV (.bool true), IsV (.agg #[.int .i64 N, .int .i64 B, .int .i64 Q, .int .i64 E, .int .i64 F]), IsV (Value.int IntKind.i64 h), IsV (.int .i64 ((QN + A) + HF)), IsV (.pointer (some ⟨q, 2, none⟩)), IsV (.int .i64 Q), IsV (.pointer (some ⟨q, 0, none⟩)), IsV (.int .i64 N), IsV (.int .i64 QN), IsV (Value.int IntKind.i64 A), IsV (.int .i64 (QN + A)), IsV (Value.int IntKind.i64 h), IsV (.pointer (some ⟨q, 4, none⟩)), IsV (.int .i64 F), IsV (.int .i64 HF), IsV (.int .i64 ((QN + A) + HF)), IsV (.bool true), IsV (.bool true), IsV (.bool true), IsV (.agg #[.int .i64 N, .int .i64 B, .int .i64 Q, .int .i64 E, .int .i64 F]), IsV (Value.int IntKind.i64 c), IsV (.int .i64 ((QN + A) + CF)), IsV (.pointer (some ⟨q, 2, none⟩)), IsV (.int .i64 Q), IsV (.pointer (some ⟨q, 0, none⟩)), IsV (.int .i64 N), IsV (.int .i64 QN), IsV (Value.int IntKind.i64 A), IsV (.int .i64 (QN + A)), IsV (Value.int IntKind.i64 c), IsV (.pointer (some ⟨q, 4, none⟩)), IsV (.int .i64 F), IsV (.int .i64 CF), IsV (.int .i64 ((QN + A) + CF)), IsV (.bool true), IsV (.bool true), IsV (.bool true)] := ⟨_, rfl⟩
      have g0 : Hid (gs[0]? = some (IsV (.agg #[.int .i64 N, .int .i64 B, .int .i64 Q, .int .i64 E, .int .i64 F]))) := by unfold Hid; rw [hgs]; rfl
      have g1 : Hid (gs[1]? = some (IsV (Value.int IntKind.i64 h))) := by unfold Hid; rw [hgs]; rfl
      have g2 : Hid (gs[2]? = some (IsV (.int .i64 (((N + (2 * A)) + h) + 1)))) := by unfold Hid; rw [hgs]; rfl
      have g3 : Hid (gs[3]? = some (IsV (.pointer (some ⟨q, 0, none⟩)))) := by unfold Hid; rw [hgs]; rfl
      have g4 : Hid (gs[4]? = some (IsV (.int .i64 N))) := by unfold Hid; rw [hgs]; rfl
      have g5 : Hid (gs[5]? = some (IsV (Value.int IntKind.i64 A))) := by unfold Hid; rw [hgs]; rfl
      have g6 : Hid (gs[6]? = some (IsV (.int .i64 (2 * A)))) := by unfold Hid; rw [hgs]; rfl
      have g7 : Hid (gs[7]? = some (IsV (.int .i64 (N + (2 * A))))) := by unfold Hid; rw [hgs]; rfl
      have g8 : Hid (gs[8]? = some (IsV (Value.int IntKind.i64 h))) := by unfold Hid; rw [hgs]; rfl
      have g9 : Hid (gs[9]? = some (IsV (.int .i64 ((N + (2 * A)) + h)))) := by unfold Hid; rw [hgs]; rfl
      have g10 : Hid (gs[10]? = some (IsV (.int .i64 (((N + (2 * A)) + h) + 1)))) := by unfold Hid; rw [hgs]; rfl
      have g11 : Hid (gs[11]? = some (IsV (.bool true))) := by unfold Hid; rw [hgs]; rfl
      have g12 : Hid (gs[12]? = some (IsV (.bool true))) := by unfold Hid; rw [hgs]; rfl
      have g13 : Hid (gs[13]? = some (IsV (.agg #[.int .i64 N, .int .i64 B, .int .i64 Q, .int .i64 E, .int .i64 F]))) := by unfold Hid; rw [hgs]; rfl
      have g14 : Hid (gs[14]? = some (IsV (Value.int IntKind.i64 h))) := by unfold Hid; rw [hgs]; rfl
      have g15 : Hid (gs[15]? = some (IsV (.int .i64 ((QN + A) + HF)))) := by unfold Hid; rw [hgs]; rfl
      have g16 : Hid (gs[16]? = some (IsV (.pointer (some ⟨q, 2, none⟩)))) := by unfold Hid; rw [hgs]; rfl
      have g17 : Hid (gs[17]? = some (IsV (.int .i64 Q))) := by unfold Hid; rw [hgs]; rfl
      have g18 : Hid (gs[18]? = some (IsV (.pointer (some ⟨q, 0, none⟩)))) := by unfold Hid; rw [hgs]; rfl
      have g19 : Hid (gs[19]? = some (IsV (.int .i64 N))) := by unfold Hid; rw [hgs]; rfl
      have g20 : Hid (gs[20]? = some (IsV (.int .i64 QN))) := by unfold Hid; rw [hgs]; rfl
      have g21 : Hid (gs[21]? = some (IsV (Value.int IntKind.i64 A))) := by unfold Hid; rw [hgs]; rfl
      have g22 : Hid (gs[22]? = some (IsV (.int .i64 (QN + A)))) := by unfold Hid; rw [hgs]; rfl
      have g23 : Hid (gs[23]? = some (IsV (Value.int IntKind.i64 h))) := by unfold Hid; rw [hgs]; rfl
      have g24 : Hid (gs[24]? = some (IsV (.pointer (some ⟨q, 4, none⟩)))) := by unfold Hid; rw [hgs]; rfl
      have g25 : Hid (gs[25]? = some (IsV (.int .i64 F))) := by unfold Hid; rw [hgs]; rfl
      have g26 : Hid (gs[26]? = some (IsV (.int .i64 HF))) := by unfold Hid; rw [hgs]; rfl
      have g27 : Hid (gs[27]? = some (IsV (.int .i64 ((QN + A) + HF)))) := by unfold Hid; rw [hgs]; rfl
      have g28 : Hid (gs[28]? = some (IsV (.bool true))) := by unfold Hid; rw [hgs]; rfl
      have g29 : Hid (gs[29]? = some (IsV (.bool true))) := by unfold Hid; rw [hgs]; rfl
      have g30 : Hid (gs[30]? = some (IsV (.bool true))) := by unfold Hid; rw [hgs]; rfl
      have g31 : Hid (gs[31]? = some (IsV (.agg #[.int .i64 N, .int .i64 B, .int .i64 Q, .int .i64 E, .int .i64 F]))) := by unfold Hid; rw [hgs]; rfl
      have g32 : Hid (gs[32]? = some (IsV (Value.int IntKind.i64 c))) := by unfold Hid; rw [hgs]; rfl
      have g33 : Hid (gs[33]? = some (IsV (.int .i64 ((QN + A) + CF)))) := by unfold Hid; rw [hgs]; rfl
      have g34 : Hid (gs[34]? = some (IsV (.pointer (some ⟨q, 2, none⟩)))) := by unfold Hid; rw [hgs]; rfl
      have g35 : Hid (gs[35]? = some (IsV (.int .i64 Q))) := by unfold Hid; rw [hgs]; rfl
      have g36 : Hid (gs[36]? = some (IsV (.pointer (some ⟨q, 0, none⟩)))) := by unfold Hid; rw [hgs]; rfl
      have g37 : Hid (gs[37]? = some (IsV (.int .i64 N))) := by unfold Hid; rw [hgs]; rfl
      have g38 : Hid (gs[38]? = some (IsV (.int .i64 QN))) := by unfold Hid; rw [hgs]; rfl
      have g39 : Hid (gs[39]? = some (IsV (Value.int IntKind.i64 A))) := by unfold Hid; rw [hgs]; rfl
      have g40 : Hid (gs[40]? = some (IsV (.int .i64 (QN + A)))) := by unfold Hid; rw [hgs]; rfl
      have g41 : Hid (gs[41]? = some (IsV (Value.int IntKind.i64 c))) := by unfold Hid; rw [hgs]; rfl
      have g42 : Hid (gs[42]? = some (IsV (.pointer (some ⟨q, 4, none⟩)))) := by unfold Hid; rw [hgs]; rfl
      have g43 : Hid (gs[43]? = some (IsV (.int .i64 F))) := by unfold Hid; rw [hgs]; rfl
      have g44 : Hid (gs[44]? = some (IsV (.int .i64 CF))) := by unfold Hid; rw [hgs]; rfl
      have g45 : Hid (gs[45]? = some (IsV (.int .i64 ((QN + A) + CF)))) := by unfold Hid; rw [hgs]; rfl
      have g46 : Hid (gs[46]? = some (IsV (.bool true))) := by unfold Hid; rw [hgs]; rfl
      have g47 : Hid (gs[47]? = some (IsV (.bool true))) := by unfold Hid; rw [hgs]; rfl
      have g48 : Hid (gs[48]? = some (IsV (.bool true))) := by unfold Hid; rw [hgs]; rfl
      have gk : Hid (∀ p ∈ gs, Stays p) := by
        unfold Hid
        rw [hgs]
        simp only [List.forall_mem_cons]
        exact ⟨stays_v _, stays_v _, stays_v _, stays_v _, stays_v _, stays_v _, stays_v _, stays_v _, stays_v _, stays_v _, stays_v _, stays_v _, stays_v _, stays_v _, stays_v _, stays_v _, stays_v _, stays_v _, stays_v _, stays_v _, stays_v _, stays_v _, stays_v _, stays_v _, stays_v _, stays_v _, stays_v _, stays_v _, stays_v _, stays_v _, stays_v _, stays_v _, stays_v _, stays_v _, stays_v _, stays_v _, stays_v _, stays_v _, stays_v _, stays_v _, stays_v _, stays_v _, stays_v _, stays_v _, stays_v _, stays_v _, stays_v _, stays_v _, stays_v _, by simp⟩
      clear hgs
      refine wpAny_inv (fun listed ac Wb => ∃ xvb : Nat → Value, ac = ⟨#[Value.agg #[Value.int IntKind.i64 N, Value.int IntKind.i64 B, Value.int IntKind.i64 Q, Value.int IntKind.i64 E, Value.int IntKind.i64 F], Value.int IntKind.i64 h, Value.int IntKind.i64 c, Value.pointer (some { block := q, off := 0 }), undef, undef, xvb 48, Value.int IntKind.i64 A, Value.bool true, Value.bool false, Value.agg #[Value.int IntKind.i64 N, Value.int IntKind.i64 B, Value.int IntKind.i64 Q, Value.int IntKind.i64 E, Value.int IntKind.i64 F], Value.bool true, Value.bool false, Value.bool false, Value.int IntKind.i64 h, Value.bool (decide (h < (0 : Int))), Value.bool (decide (h < (0 : Int))), Value.bool (decide (h < (0 : Int))), Value.int IntKind.i64 h, Value.bool (decide ((1048576 : Int) < h)), Value.bool (decide (h < (0 : Int)) || decide ((1048576 : Int) < h)), Value.bool (decide (h < (0 : Int)) || decide ((1048576 : Int) < h)), Value.int IntKind.i64 c, Value.bool (decide (c < (0 : Int))), Value.bool (decide (h < (0 : Int)) || decide ((1048576 : Int) < h) || decide (c < (0 : Int))), Value.bool (decide (h < (0 : Int)) || decide ((1048576 : Int) < h) || decide (c < (0 : Int))), Value.int IntKind.i64 c, Value.bool (decide ((1048576 : Int) < c)), Value.bool (decide (h < (0 : Int)) || decide ((1048576 : Int) < h) || decide (c < (0 : Int)) || decide ((1048576 : Int) < c)), Value.agg #[Value.int IntKind.i64 N, Value.int IntKind.i64 B, Value.int IntKind.i64 Q, Value.int IntKind.i64 E, Value.int IntKind.i64 F], Value.int IntKind.i64 A, xv 0, xv 1, xv 2, xv 3, xv 4, xv 5, xv 6, xv 7, xv 8, xv 9, xv 10, xv 11, xv 12, xv 13, xv 14, xv 15, xv 16, xv 17, xv 18, xv 19, xv 20, xv 21, Value.bool false, xvb 0, xvb 1, xvb 2, xvb 3, xvb 4, xvb 5, xvb 6, xvb 7, xvb 8, xvb 9, xvb 10, xvb 11, xvb 12, xvb 13, xvb 14, xvb 15, xvb 16, xvb 17, xvb 18, xvb 19, xvb 20, xvb 21, xvb 22, xvb 23, xvb 24, xvb 25, xvb 26, xvb 27, xvb 28, xvb 29, xvb 30, xvb 31, xvb 32, xvb 33, xvb 34, xvb 35, xvb 36, xvb 37, xvb 38, xvb 39, xvb 40, xvb 41, xvb 42, xvb 43, xvb 44, xvb 45, xvb 46, xvb 47], []⟩ ∧ Below w5.heap.size w5 Wb ∧ Lst gs listed xvb Wb) (by kernel_rfl) ?_ ?_ _ _ _ _ (by kernel_rfl) (of_decide_eq_true (by kernel_rfl)) ⟨fun j => if j = 48 then Value.bool false else undef, rfl, below0 _, Lst.start _ _ _ _⟩
      · rintro listed ac Wb ⟨xvb, rfl, hb, hG⟩ i hi hd
        have hin : i < 49 := hi
        clear hi
        have hcase : i = 0 ∨ i = 1 ∨ i = 2 ∨ i = 3 ∨ i = 4 ∨ i = 5 ∨ i = 6 ∨ i = 7 ∨ i = 8 ∨ i = 9 ∨ i = 10 ∨ i = 11 ∨ i = 12 ∨ i = 13 ∨ i = 14 ∨ i = 15 ∨ i = 16 ∨ i = 17 ∨ i = 18 ∨ i = 19 ∨ i = 20 ∨ i = 21 ∨ i = 22 ∨ i = 23 ∨ i = 24 ∨ i = 25 ∨ i = 26 ∨ i = 27 ∨ i = 28 ∨ i = 29 ∨ i = 30 ∨ i = 31 ∨ i = 32 ∨ i = 33 ∨ i = 34 ∨ i = 35 ∨ i = 36 ∨ i = 37 ∨ i = 38 ∨ i = 39 ∨ i = 40 ∨ i = 41 ∨ i = 42 ∨ i = 43 ∨ i = 44 ∨ i = 45 ∨ i = 46 ∨ i = 47 ∨ i = 48 := by omega
        rcases hcase with rfl | rfl | rfl | rfl | rfl | rfl | rfl | rfl | rfl | rfl | rfl | rfl | rfl | rfl | rfl | rfl | rfl | rfl | rfl | rfl | rfl | rfl | rfl | rfl | rfl | rfl | rfl | rfl | rfl | rfl | rfl | rfl | rfl | rfl | rfl | rfl | rfl | rfl | rfl | rfl | rfl | rfl | rfl | rfl | rfl | rfl | rfl | rfl | rfl
        · refine wpOp_step rfl (fun K' hK => ?_)
          obtain ⟨c0, c1, c2, c3, c4⟩ := BX.out Wb hb
          clear hd hin
          go_simp
          exact hK _ _ ⟨updV xvb 0 (.agg #[.int .i64 N, .int .i64 B, .int .i64 Q, .int .i64 E, .int .i64 F]), by simp [updV], hb, hG.same gk.out g0.out _ rfl⟩
        · refine wpOp_step rfl (fun K' hK => ?_)
          clear hd hin
          go_simp
          exact hK _ _ ⟨updV xvb 1 (Value.int IntKind.i64 h), by simp [updV], hb, hG.same gk.out g1.out _ rfl⟩
        · refine wpOp_step rfl (fun K' hK => ?_)
          simp [Region.binds] at hd
          have e0 : xvb 0 = .agg #[.int .i64 N, .int .i64 B, .int .i64 Q, .int .i64 E, .int .i64 F] := hG.get g0.out (by simp [hd])
          have e1 : xvb 1 = Value.int IntKind.i64 h := hG.get g1.out (by simp [hd])
          clear hd hin
          go_simp
          refine (C3.out Wb hb).mono ?_
          rintro e w' ⟨v, rfl, hv, hb'⟩
          go_wp2_with fail
          exact ⟨updV xvb 2 v, by simp [updV, e0, e1], hb.trans (hb'.mono hb.size), hG.step gk.out hb' g2.out v hv⟩
        · refine wpOp_step rfl (fun K' hK => ?_)
          clear hd hin
          go_simp
          exact hK _ _ ⟨updV xvb 3 (.pointer (some ⟨q, 0, none⟩)), by simp [updV], hb, hG.same gk.out g3.out _ rfl⟩
        · refine wpOp_step rfl (fun K' hK => ?_)
          simp [Region.binds] at hd
          have e3 : xvb 3 = .pointer (some ⟨q, 0, none⟩) := hG.get g3.out (by simp [hd])
          obtain ⟨c0, c1, c2, c3, c4⟩ := BX.out Wb hb
          clear hd hin
          go_simp
          exact hK _ _ ⟨updV xvb 4 (.int .i64 N), by simp [updV, e3], hb, hG.same gk.out g4.out _ rfl⟩
        · refine wpOp_step rfl (fun K' hK => ?_)
          clear hd hin
          go_simp
          exact hK _ _ ⟨updV xvb 5 (Value.int IntKind.i64 A), by simp [updV], hb, hG.same gk.out g5.out _ rfl⟩
        · refine wpOp_step rfl (fun K' hK => ?_)
          simp [Region.binds] at hd
          have e5 : xvb 5 = Value.int IntKind.i64 A := hG.get g5.out (by simp [hd])
          have wr : IntKind.i64.wrap (2 * A) = 2 * A := by rw [IntKind.wrap_i64]; omega
          clear hd hin
          go_simp
          exact hK _ _ ⟨updV xvb 6 (.int .i64 (2 * A)), by simp [updV, e5], hb, hG.same gk.out g6.out _ rfl⟩
        · refine wpOp_step rfl (fun K' hK => ?_)
          simp [Region.binds] at hd
          have e4 : xvb 4 = .int .i64 N := hG.get g4.out (by simp [hd])
          have e6 : xvb 6 = .int .i64 (2 * A) := hG.get g6.out (by simp [hd])
          have wr : IntKind.i64.wrap (N + (2 * A)) = N + (2 * A) := by rw [IntKind.wrap_i64]; omega
          clear hd hin
          go_simp
          exact hK _ _ ⟨updV xvb 7 (.int .i64 (N + (2 * A))), by simp [updV, e4, e6], hb, hG.same gk.out g7.out _ rfl⟩
        · refine wpOp_step rfl (fun K' hK => ?_)
          clear hd hin
          go_simp
          exact hK _ _ ⟨updV xvb 8 (Value.int IntKind.i64 h), by simp [updV], hb, hG.same gk.out g8.out _ rfl⟩
        · refine wpOp_step rfl (fun K' hK => ?_)
          simp [Region.binds] at hd
          have e7 : xvb 7 = .int .i64 (N + (2 * A)) := hG.get g7.out (by simp [hd])
          have e8 : xvb 8 = Value.int IntKind.i64 h := hG.get g8.out (by simp [hd])
          have wr : IntKind.i64.wrap ((N + (2 * A)) + h) = (N + (2 * A)) + h := by rw [IntKind.wrap_i64]; omega
          clear hd hin
          go_simp
          exact hK _ _ ⟨updV xvb 9 (.int .i64 ((N + (2 * A)) + h)), by simp [updV, e7, e8], hb, hG.same gk.out g9.out _ rfl⟩
        · refine wpOp_step rfl (fun K' hK => ?_)
          simp [Region.binds] at hd
          have e9 : xvb 9 = .int .i64 ((N + (2 * A)) + h) := hG.get g9.out (by simp [hd])
          have wr : IntKind.i64.wrap (((N + (2 * A)) + h) + 1) = ((N + (2 * A)) + h) + 1 := by rw [IntKind.wrap_i64]; omega
          clear hd hin
          go_simp
          exact hK _ _ ⟨updV xvb 10 (.int .i64 (((N + (2 * A)) + h) + 1)), by simp [updV, e9], hb, hG.same gk.out g10.out _ rfl⟩
        · refine wpOp_step rfl (fun K' hK => ?_)
          simp [Region.binds] at hd
          have e2 : xvb 2 = .int .i64 (((N + (2 * A)) + h) + 1) := hG.get g2.out (by simp [hd])
          have e10 : xvb 10 = .int .i64 (((N + (2 * A)) + h) + 1) := hG.get g10.out (by simp [hd])
          clear hd hin
          go_simp
          exact hK _ _ ⟨updV xvb 11 (.bool true), by simp [updV, e2, e10], hb, hG.same gk.out g11.out _ rfl⟩
        · refine wpOp_step rfl (fun K' hK => ?_)
          simp [Region.binds] at hd
          have e11 : xvb 11 = .bool true := hG.get g11.out (by simp [hd])
          clear hd hin
          go_simp
          exact hK _ _ ⟨updV xvb 12 (.bool true), by simp [updV, e11], hb, hG.same gk.out g12.out _ rfl⟩
        · refine wpOp_step rfl (fun K' hK => ?_)
          simp [Region.binds] at hd
          have e12 : xvb 12 = .bool true := hG.get g12.out (by simp [hd])
          obtain ⟨c0, c1, c2, c3, c4⟩ := BX.out Wb hb
          clear hd hin
          go_simp
          exact hK _ _ ⟨updV xvb 13 (.agg #[.int .i64 N, .int .i64 B, .int .i64 Q, .int .i64 E, .int .i64 F]), by simp [updV, e12], hb, hG.same gk.out g13.out _ rfl⟩
        · refine wpOp_step rfl (fun K' hK => ?_)
          simp [Region.binds] at hd
          have e12 : xvb 12 = .bool true := hG.get g12.out (by simp [hd])
          clear hd hin
          go_simp
          exact hK _ _ ⟨updV xvb 14 (Value.int IntKind.i64 h), by simp [updV, e12], hb, hG.same gk.out g14.out _ rfl⟩
        · refine wpOp_step rfl (fun K' hK => ?_)
          simp [Region.binds] at hd
          have e13 : xvb 13 = .agg #[.int .i64 N, .int .i64 B, .int .i64 Q, .int .i64 E, .int .i64 F] := hG.get g13.out (by simp [hd])
          have e14 : xvb 14 = Value.int IntKind.i64 h := hG.get g14.out (by simp [hd])
          have e12 : xvb 12 = .bool true := hG.get g12.out (by simp [hd])
          clear hd hin
          go_simp
          refine (C4.out Wb hb).mono ?_
          rintro e w' ⟨v, rfl, hv, hb'⟩
          go_wp2_with fail
          exact ⟨updV xvb 15 v, by simp [updV, e13, e14, e12], hb.trans (hb'.mono hb.size), hG.step gk.out hb' g15.out v hv⟩
        · refine wpOp_step rfl (fun K' hK => ?_)
          simp [Region.binds] at hd
          have e12 : xvb 12 = .bool true := hG.get g12.out (by simp [hd])
          clear hd hin
          go_simp
          exact hK _ _ ⟨updV xvb 16 (.pointer (some ⟨q, 2, none⟩)), by simp [updV, e12], hb, hG.same gk.out g16.out _ rfl⟩
        · refine wpOp_step rfl (fun K' hK => ?_)
          simp [Region.binds] at hd
          have e16 : xvb 16 = .pointer (some ⟨q, 2, none⟩) := hG.get g16.out (by simp [hd])
          have e12 : xvb 12 = .bool true := hG.get g12.out (by simp [hd])
          obtain ⟨c0, c1, c2, c3, c4⟩ := BX.out Wb hb
          clear hd hin
          go_simp
          exact hK _ _ ⟨updV xvb 17 (.int .i64 Q), by simp [updV, e16, e12], hb, hG.same gk.out g17.out _ rfl⟩
        · refine wpOp_step rfl (fun K' hK => ?_)
          simp [Region.binds] at hd
          have e12 : xvb 12 = .bool true := hG.get g12.out (by simp [hd])
          clear hd hin
          go_simp
          exact hK _ _ ⟨updV xvb 18 (.pointer (some ⟨q, 0, none⟩)), by simp [updV, e12], hb, hG.same gk.out g18.out _ rfl⟩
        · refine wpOp_step rfl (fun K' hK => ?_)
          simp [Region.binds] at hd
          have e18 : xvb 18 = .pointer (some ⟨q, 0, none⟩) := hG.get g18.out (by simp [hd])
          have e12 : xvb 12 = .bool true := hG.get g12.out (by simp [hd])
          obtain ⟨c0, c1, c2, c3, c4⟩ := BX.out Wb hb
          clear hd hin
          go_simp
          exact hK _ _ ⟨updV xvb 19 (.int .i64 N), by simp [updV, e18, e12], hb, hG.same gk.out g19.out _ rfl⟩
        · refine wpOp_step rfl (fun K' hK => ?_)
          simp [Region.binds] at hd
          have e17 : xvb 17 = .int .i64 Q := hG.get g17.out (by simp [hd])
          have e19 : xvb 19 = .int .i64 N := hG.get g19.out (by simp [hd])
          have e12 : xvb 12 = .bool true := hG.get g12.out (by simp [hd])
          have wr := E0.out
          clear hd hin
          go_simp
          exact hK _ _ ⟨updV xvb 20 (.int .i64 QN), by simp [updV, e17, e19, e12], hb, hG.same gk.out g20.out _ rfl⟩
        · refine wpOp_step rfl (fun K' hK => ?_)
          simp [Region.binds] at hd
          have e12 : xvb 12 = .bool true := hG.get g12.out (by simp [hd])
          clear hd hin
          go_simp
          exact hK _ _ ⟨updV xvb 21 (Value.int IntKind.i64 A), by simp [updV, e12], hb, hG.same gk.out g21.out _ rfl⟩
        · refine wpOp_step rfl (fun K' hK => ?_)
          simp [Region.binds] at hd
          have e20 : xvb 20 = .int .i64 QN := hG.get g20.out (by simp [hd])
          have e21 : xvb 21 = Value.int IntKind.i64 A := hG.get g21.out (by simp [hd])
          have e12 : xvb 12 = .bool true := hG.get g12.out (by simp [hd])
          have wr : IntKind.i64.wrap (QN + A) = QN + A := by rw [IntKind.wrap_i64]; omega
          clear hd hin
          go_simp
          exact hK _ _ ⟨updV xvb 22 (.int .i64 (QN + A)), by simp [updV, e20, e21, e12], hb, hG.same gk.out g22.out _ rfl⟩
        · refine wpOp_step rfl (fun K' hK => ?_)
          simp [Region.binds] at hd
          have e12 : xvb 12 = .bool true := hG.get g12.out (by simp [hd])
          clear hd hin
          go_simp
          exact hK _ _ ⟨updV xvb 23 (Value.int IntKind.i64 h), by simp [updV, e12], hb, hG.same gk.out g23.out _ rfl⟩
        · refine wpOp_step rfl (fun K' hK => ?_)
          simp [Region.binds] at hd
          have e12 : xvb 12 = .bool true := hG.get g12.out (by simp [hd])
          clear hd hin
          go_simp
          exact hK _ _ ⟨updV xvb 24 (.pointer (some ⟨q, 4, none⟩)), by simp [updV, e12], hb, hG.same gk.out g24.out _ rfl⟩
        · refine wpOp_step rfl (fun K' hK => ?_)
          simp [Region.binds] at hd
          have e24 : xvb 24 = .pointer (some ⟨q, 4, none⟩) := hG.get g24.out (by simp [hd])
          have e12 : xvb 12 = .bool true := hG.get g12.out (by simp [hd])
          obtain ⟨c0, c1, c2, c3, c4⟩ := BX.out Wb hb
          clear hd hin
          go_simp
          exact hK _ _ ⟨updV xvb 25 (.int .i64 F), by simp [updV, e24, e12], hb, hG.same gk.out g25.out _ rfl⟩
        · refine wpOp_step rfl (fun K' hK => ?_)
          simp [Region.binds] at hd
          have e23 : xvb 23 = Value.int IntKind.i64 h := hG.get g23.out (by simp [hd])
          have e25 : xvb 25 = .int .i64 F := hG.get g25.out (by simp [hd])
          have e12 : xvb 12 = .bool true := hG.get g12.out (by simp [hd])
          have wr := E1.out
          clear hd hin
          go_simp
          exact hK _ _ ⟨updV xvb 26 (.int .i64 HF), by simp [updV, e23, e25, e12], hb, hG.same gk.out g26.out _ rfl⟩
        · refine wpOp_step rfl (fun K' hK => ?_)
          simp [Region.binds] at hd
          have e22 : xvb 22 = .int .i64 (QN + A) := hG.get g22.out (by simp [hd])
          have e26 : xvb 26 = .int .i64 HF := hG.get g26.out (by simp [hd])
          have e12 : xvb 12 = .bool true := hG.get g12.out (by simp [hd])
          have wr : IntKind.i64.wrap ((QN + A) + HF) = (QN + A) + HF := by rw [IntKind.wrap_i64]; omega
          clear hd hin
          go_simp
          exact hK _ _ ⟨updV xvb 27 (.int .i64 ((QN + A) + HF)), by simp [updV, e22, e26, e12], hb, hG.same gk.out g27.out _ rfl⟩
        · refine wpOp_step rfl (fun K' hK => ?_)
          simp [Region.binds] at hd
          have e15 : xvb 15 = .int .i64 ((QN + A) + HF) := hG.get g15.out (by simp [hd])
          have e27 : xvb 27 = .int .i64 ((QN + A) + HF) := hG.get g27.out (by simp [hd])
          have e12 : xvb 12 = .bool true := hG.get g12.out (by simp [hd])
          clear hd hin
          go_simp
          exact hK _ _ ⟨updV xvb 28 (.bool true), by simp [updV, e15, e27, e12], hb, hG.same gk.out g28.out _ rfl⟩
        · refine wpOp_step rfl (fun K' hK => ?_)
          simp [Region.binds] at hd
          have e12 : xvb 12 = .bool true := hG.get g12.out (by simp [hd])
          have e28 : xvb 28 = .bool true := hG.get g28.out (by simp [hd])
          clear hd hin
          go_simp
          exact hK _ _ ⟨updV xvb 29 (.bool true), by simp [updV, e12, e28], hb, hG.same gk.out g29.out _ rfl⟩
        · refine wpOp_step rfl (fun K' hK => ?_)
          simp [Region.binds] at hd
          have e29 : xvb 29 = .bool true := hG.get g29.out (by simp [hd])
          clear hd hin
          go_simp
          exact hK _ _ ⟨updV xvb 30 (.bool true), by simp [updV, e29], hb, hG.same gk.out g30.out _ rfl⟩
        · refine wpOp_step rfl (fun K' hK => ?_)
          simp [Region.binds] at hd
          have e30 : xvb 30 = .bool true := hG.get g30.out (by simp [hd])
          obtain ⟨c0, c1, c2, c3, c4⟩ := BX.out Wb hb
          clear hd hin
          go_simp
          exact hK _ _ ⟨updV xvb 31 (.agg #[.int .i64 N, .int .i64 B, .int .i64 Q, .int .i64 E, .int .i64 F]), by simp [updV, e30], hb, hG.same gk.out g31.out _ rfl⟩
        · refine wpOp_step rfl (fun K' hK => ?_)
          simp [Region.binds] at hd
          have e30 : xvb 30 = .bool true := hG.get g30.out (by simp [hd])
          clear hd hin
          go_simp
          exact hK _ _ ⟨updV xvb 32 (Value.int IntKind.i64 c), by simp [updV, e30], hb, hG.same gk.out g32.out _ rfl⟩
        · refine wpOp_step rfl (fun K' hK => ?_)
          simp [Region.binds] at hd
          have e31 : xvb 31 = .agg #[.int .i64 N, .int .i64 B, .int .i64 Q, .int .i64 E, .int .i64 F] := hG.get g31.out (by simp [hd])
          have e32 : xvb 32 = Value.int IntKind.i64 c := hG.get g32.out (by simp [hd])
          have e30 : xvb 30 = .bool true := hG.get g30.out (by simp [hd])
          clear hd hin
          go_simp
          refine (C5.out Wb hb).mono ?_
          rintro e w' ⟨v, rfl, hv, hb'⟩
          go_wp2_with fail
          exact ⟨updV xvb 33 v, by simp [updV, e31, e32, e30], hb.trans (hb'.mono hb.size), hG.step gk.out hb' g33.out v hv⟩
        · refine wpOp_step rfl (fun K' hK => ?_)
          simp [Region.binds] at hd
          have e30 : xvb 30 = .bool true := hG.get g30.out (by simp [hd])
          clear hd hin
          go_simp
          exact hK _ _ ⟨updV xvb 34 (.pointer (some ⟨q, 2, none⟩)), by simp [updV, e30], hb, hG.same gk.out g34.out _ rfl⟩
        · refine wpOp_step rfl (fun K' hK => ?_)
          simp [Region.binds] at hd
          have e34 : xvb 34 = .pointer (some ⟨q, 2, none⟩) := hG.get g34.out (by simp [hd])
          have e30 : xvb 30 = .bool true := hG.get g30.out (by simp [hd])
          obtain ⟨c0, c1, c2, c3, c4⟩ := BX.out Wb hb
          clear hd hin
          go_simp
          exact hK _ _ ⟨updV xvb 35 (.int .i64 Q), by simp [updV, e34, e30], hb, hG.same gk.out g35.out _ rfl⟩
        · refine wpOp_step rfl (fun K' hK => ?_)
          simp [Region.binds] at hd
          have e30 : xvb 30 = .bool true := hG.get g30.out (by simp [hd])
          clear hd hin
          go_simp
          exact hK _ _ ⟨updV xvb 36 (.pointer (some ⟨q, 0, none⟩)), by simp [updV, e30], hb, hG.same gk.out g36.out _ rfl⟩
        · refine wpOp_step rfl (fun K' hK => ?_)
          simp [Region.binds] at hd
          have e36 : xvb 36 = .pointer (some ⟨q, 0, none⟩) := hG.get g36.out (by simp [hd])
          have e30 : xvb 30 = .bool true := hG.get g30.out (by simp [hd])
          obtain ⟨c0, c1, c2, c3, c4⟩ := BX.out Wb hb
          clear hd hin
          go_simp
          exact hK _ _ ⟨updV xvb 37 (.int .i64 N), by simp [updV, e36, e30], hb, hG.same gk.out g37.out _ rfl⟩
        · refine wpOp_step rfl (fun K' hK => ?_)
          simp [Region.binds] at hd
          have e35 : xvb 35 = .int .i64 Q := hG.get g35.out (by simp [hd])
          have e37 : xvb 37 = .int .i64 N := hG.get g37.out (by simp [hd])
          have e30 : xvb 30 = .bool true := hG.get g30.out (by simp [hd])
          have wr := E0.out
          clear hd hin
          go_simp
          exact hK _ _ ⟨updV xvb 38 (.int .i64 QN), by simp [updV, e35, e37, e30], hb, hG.same gk.out g38.out _ rfl⟩
        · refine wpOp_step rfl (fun K' hK => ?_)
          simp [Region.binds] at hd
          have e30 : xvb 30 = .bool true := hG.get g30.out (by simp [hd])
          clear hd hin
          go_simp
          exact hK _ _ ⟨updV xvb 39 (Value.int IntKind.i64 A), by simp [updV, e30], hb, hG.same gk.out g39.out _ rfl⟩
        · refine wpOp_step rfl (fun K' hK => ?_)
          simp [Region.binds] at hd
          have e38 : xvb 38 = .int .i64 QN := hG.get g38.out (by simp [hd])
          have e39 : xvb 39 = Value.int IntKind.i64 A := hG.get g39.out (by simp [hd])
          have e30 : xvb 30 = .bool true := hG.get g30.out (by simp [hd])
          have wr : IntKind.i64.wrap (QN + A) = QN + A := by rw [IntKind.wrap_i64]; omega
          clear hd hin
          go_simp
          exact hK _ _ ⟨updV xvb 40 (.int .i64 (QN + A)), by simp [updV, e38, e39, e30], hb, hG.same gk.out g40.out _ rfl⟩
        · refine wpOp_step rfl (fun K' hK => ?_)
          simp [Region.binds] at hd
          have e30 : xvb 30 = .bool true := hG.get g30.out (by simp [hd])
          clear hd hin
          go_simp
          exact hK _ _ ⟨updV xvb 41 (Value.int IntKind.i64 c), by simp [updV, e30], hb, hG.same gk.out g41.out _ rfl⟩
        · refine wpOp_step rfl (fun K' hK => ?_)
          simp [Region.binds] at hd
          have e30 : xvb 30 = .bool true := hG.get g30.out (by simp [hd])
          clear hd hin
          go_simp
          exact hK _ _ ⟨updV xvb 42 (.pointer (some ⟨q, 4, none⟩)), by simp [updV, e30], hb, hG.same gk.out g42.out _ rfl⟩
        · refine wpOp_step rfl (fun K' hK => ?_)
          simp [Region.binds] at hd
          have e42 : xvb 42 = .pointer (some ⟨q, 4, none⟩) := hG.get g42.out (by simp [hd])
          have e30 : xvb 30 = .bool true := hG.get g30.out (by simp [hd])
          obtain ⟨c0, c1, c2, c3, c4⟩ := BX.out Wb hb
          clear hd hin
          go_simp
          exact hK _ _ ⟨updV xvb 43 (.int .i64 F), by simp [updV, e42, e30], hb, hG.same gk.out g43.out _ rfl⟩
        · refine wpOp_step rfl (fun K' hK => ?_)
          simp [Region.binds] at hd
          have e41 : xvb 41 = Value.int IntKind.i64 c := hG.get g41.out (by simp [hd])
          have e43 : xvb 43 = .int .i64 F := hG.get g43.out (by simp [hd])
          have e30 : xvb 30 = .bool true := hG.get g30.out (by simp [hd])
          have wr := E2.out
          clear hd hin
          go_simp
          exact hK _ _ ⟨updV xvb 44 (.int .i64 CF), by simp [updV, e41, e43, e30], hb, hG.same gk.out g44.out _ rfl⟩
        · refine wpOp_step rfl (fun K' hK => ?_)
          simp [Region.binds] at hd
          have e40 : xvb 40 = .int .i64 (QN + A) := hG.get g40.out (by simp [hd])
          have e44 : xvb 44 = .int .i64 CF := hG.get g44.out (by simp [hd])
          have e30 : xvb 30 = .bool true := hG.get g30.out (by simp [hd])
          have wr : IntKind.i64.wrap ((QN + A) + CF) = (QN + A) + CF := by rw [IntKind.wrap_i64]; omega
          clear hd hin
          go_simp
          exact hK _ _ ⟨updV xvb 45 (.int .i64 ((QN + A) + CF)), by simp [updV, e40, e44, e30], hb, hG.same gk.out g45.out _ rfl⟩
        · refine wpOp_step rfl (fun K' hK => ?_)
          simp [Region.binds] at hd
          have e33 : xvb 33 = .int .i64 ((QN + A) + CF) := hG.get g33.out (by simp [hd])
          have e45 : xvb 45 = .int .i64 ((QN + A) + CF) := hG.get g45.out (by simp [hd])
          have e30 : xvb 30 = .bool true := hG.get g30.out (by simp [hd])
          clear hd hin
          go_simp
          exact hK _ _ ⟨updV xvb 46 (.bool true), by simp [updV, e33, e45, e30], hb, hG.same gk.out g46.out _ rfl⟩
        · refine wpOp_step rfl (fun K' hK => ?_)
          simp [Region.binds] at hd
          have e30 : xvb 30 = .bool true := hG.get g30.out (by simp [hd])
          have e46 : xvb 46 = .bool true := hG.get g46.out (by simp [hd])
          clear hd hin
          go_simp
          exact hK _ _ ⟨updV xvb 47 (.bool true), by simp [updV, e30, e46], hb, hG.same gk.out g47.out _ rfl⟩
        · refine wpOp_step rfl (fun K' hK => ?_)
          simp [Region.binds] at hd
          have e47 : xvb 47 = .bool true := hG.get g47.out (by simp [hd])
          clear hd hin
          go_simp
          exact hK _ _ ⟨updV xvb 48 (.bool true), by simp [updV, e47], hb, hG.same gk.out g48.out _ rfl⟩
      · rintro listed ac Wb ⟨xvb, rfl, hb, hG⟩ hall
        have e48 : xvb 48 = .bool true := hG.get g48.out (hall 48 (by decide))
        have XW : Hid (Below w5.heap.size w5 Wb) := hb
        clear hall hG hb gk g0 g1 g2 g3 g4 g5 g6 g7 g8 g9 g10 g11 g12 g13 g14 g15 g16 g17 g18 g19 g20 g21 g22 g23 g24 g25 g26 g27 g28 g29 g30 g31 g32 g33 g34 g35 g36 g37 g38 g39 g40 g41 g42 g43 g44 g45 g46 g47 g48
        rw [e48]
        clear e48
        have B5 : Hid (Below w.heap.size w Wb) := below_mid B4.out XW.out
        go_wp2
        go_ret
        exact ⟨rfl, B5.out⟩
  · go_wp2_with fail
    refine (rmay_no N B Q E F _ hm).mono ?_
    rintro e w2 ⟨rfl, hb2⟩
    have B2 : Hid (Below w.heap.size w w2) := below_mid B1.out hb2
    clear hb2 B1 F1 c0 c1 c2 c3 c4 hm
    go_wp2
    go_ret
    exact ⟨rfl, B2.out⟩

end Go.Proofs.Ytijonjiioeahhaa
