/-
  DegreeDraws.
-/
import Derived.Test.YtecohgmllmddhaaDegF
import Derived.Test.YtecohgmllmddhaaRngS
import Derived.Test.YtecohgmllmddhaaLOrd
namespace Go.Proofs.Ytecohgmllmddhaa
open Go.RowKit
set_option linter.unusedVariables false

set_option maxRecDepth 100000 in
set_option maxHeartbeats 1000000 in
theorem degreeDraws_no (N B Q E F : Int) (u : Nat) (w : World) (h : ¬ May N B Q E F) :
    Calls Try.prog 9 #[.agg #[.int .i64 N, .int .i64 B, .int .i64 Q, .int .i64 E, .int .i64 F], .int .u64 (u : Nat)] w fun e w' => e = .returned (.bool true) ∧ Below w.heap.size w w' := by
  have H : Hid (¬ May N B Q E F) := h
  clear h
  go_enter Try.func9, Try.ntmps9
  go_wp2_with fail
  refine (speaks8_any _).mono ?_
  rintro e w1 ⟨rfl, hb1⟩
  have B1 : Hid (Below w.heap.size w w1) := below_mid (below_alloc _ _) hb1
  have F1 : Hid (Five w1 w.heap.size N B Q E F) := (five_new w _ N B Q E F).below hb1
  clear hb1
  obtain ⟨c0, c1, c2, c3, c4⟩ := F1.out
  go_wp2_with fail
  refine (rmay_no N B Q E F _ H.out).mono ?_
  rintro e w3 ⟨rfl, hb3⟩
  have B3 : Hid (Below w.heap.size w w3) := below_mid B1.out hb3
  clear hb3 B1 F1 c0 c1 c2 c3 c4
  go_wp2
  go_ret
  exact ⟨rfl, B3.out⟩

set_option maxRecDepth 100000 in
set_option maxHeartbeats 1000000 in
theorem degreeDraws_yes (N B Q : Int) (E F u : Nat) (w : World) (h : May N B Q E F) (hm : MayD F E) (hu : u < 18446744073709551616) :
    Calls Try.prog 9 #[.agg #[.int .i64 N, .int .i64 B, .int .i64 Q, .int .i64 (E : Nat), .int .i64 (F : Nat)], .int .u64 (u : Nat)] w fun e w' => e = .returned (.bool true) ∧ Below w.heap.size w w' := by
  have H : Hid (May N B Q E F) := h
  obtain ⟨d, hd⟩ := deg_is (E := E) u hm.f2
  have HC : Hid (∀ a W, IsDT W a F E → Calls Try.prog 33 #[.pointer (some ⟨a, 0, none⟩), .int .u64 (u : Nat)] W fun e w' => e = .returned (.int .i64 (d : Nat)) ∧ Below W.heap.size W w') := fun a W hW => dof_at hd a W hW hm hu
  have HR : Hid (∀ W, Calls Try.prog 34 #[.agg #[.int .i64 N, .int .i64 B, .int .i64 Q, .int .i64 (E : Nat), .int .i64 (F : Nat)], .int .u64 (u : Nat)] W fun e w' => e = .returned (.int .i64 (d : Nat)) ∧ Below W.heap.size W w') := fun W => rdof_at hd N B Q W hm
  clear h hm hu hd
  go_enter Try.func9, Try.ntmps9
  go_wp2_with fail
  refine (speaks8_any _).mono ?_
  rintro e w1 ⟨rfl, hb1⟩
  have B1 : Hid (Below w.heap.size w w1) := below_mid (below_alloc _ _) hb1
  have F1 : Hid (Five w1 w.heap.size N B Q E F) := (five_new w _ N B Q E F).below hb1
  clear hb1
  obtain ⟨c0, c1, c2, c3, c4⟩ := F1.out
  go_wp2_with fail
  refine (rmay_yes N B Q E F _ H.out).mono ?_
  rintro e w2 ⟨rfl, hb2⟩
  have B2 : Hid (Below w.heap.size w w2) := below_mid B1.out hb2
  have F2 : Hid (Five w2 w.heap.size N B Q E F) := F1.out.below hb2
  clear hb2 B1 F1 c0 c1 c2 c3 c4
  obtain ⟨c0, c1, c2, c3, c4⟩ := F2.out
  by_cases hf : F ≤ 200
  · go_wp2_with fail
    refine (dnew_yes N B Q E F _ H.out).mono ?_
    rintro e w3 ⟨a, -, rfl, hd3, hb3⟩
    have B3 : Hid (Below w.heap.size w w3) := below_mid B2.out hb3
    have F3 : Hid (Five w3 w.heap.size N B Q E F) := F2.out.below hb3
    have D3 : Hid (IsDT w3 a F E) := hd3
    clear hb3 hd3 B2 F2 c0 c1 c2 c3 c4
    obtain ⟨c0, c1, c2, c3, c4⟩ := F3.out
    have BX : Hid (∀ W, Below w3.heap.size w3 W → W.cell? ⟨w.heap.size, 0, none⟩ = some (.int .i64 N) ∧ W.cell? ⟨w.heap.size, 1, none⟩ = some (.int .i64 B) ∧ W.cell? ⟨w.heap.size, 2, none⟩ = some (.int .i64 Q) ∧ W.cell? ⟨w.heap.size, 3, none⟩ = some (.int .i64 (E : Int)) ∧ W.cell? ⟨w.heap.size, 4, none⟩ = some (.int .i64 (F : Int))) := fun W hW => F3.out.below hW
    have CO : Hid (∀ W, Below w3.heap.size w3 W → Calls Try.prog 33 #[.pointer (some ⟨a, 0, none⟩), .int .u64 (u : Int)] W fun e w' => ∃ v, e = .returned v ∧ IsV (.int .i64 (d : Int)) v w' ∧ Below W.heap.size W w') := fun W hW => calls_below (HC.out a W (D3.out.below hW))
    have CR : Hid (∀ W, Below w3.heap.size w3 W → Calls Try.prog 34 #[.agg #[.int .i64 N, .int .i64 B, .int .i64 Q, .int .i64 (E : Int), .int .i64 (F : Int)], .int .u64 (u : Int)] W fun e w' => ∃ v, e = .returned v ∧ IsV (.int .i64 (d : Int)) v w' ∧ Below W.heap.size W w') := fun W hW => calls_below (HR.out W)
    go_wp2_with fail
    refine wp_region_any (by kernel_rfl) ?_
    obtain ⟨gs, hgs⟩ : ∃ gs : List (Value → World → Prop), gs = [IsV (Value.int IntKind.i64 (0 : Int)), IsV (.bool true), IsV (.bool true), IsV (Value.pointer (some { block := a, off := 0 })), IsV (.bool true), IsV (.bool true), IsV (.bool true), IsV (Value.pointer (some { block := a, off := 0 })), IsV (Value.int IntKind.u64 ↑u), IsV (.int .i64 (d : Int)), IsV (.agg #[.int .i64 N, .int .i64 B, .int .i64 Q, .int .i64 (E : Int), .int .i64 (F : Int)]), IsV (Value.int IntKind.u64 ↑u), IsV (.int .i64 (d : Int)), IsV (.bool true), IsV (.bool true), IsV (.bool true)] := ⟨_, rfl⟩
    have g0 : Hid (gs[0]? = some (IsV (Value.int IntKind.i64 (0 : Int)))) := by unfold Hid; rw [hgs]; rfl
    have g1 : Hid (gs[1]? = some (IsV (.bool true))) := by unfold Hid; rw [hgs]; rfl
    have g2 : Hid (gs[2]? = some (IsV (.bool true))) := by unfold Hid; rw [hgs]; rfl
    have g3 : Hid (gs[3]? = some (IsV (Value.pointer (some { block := a, off := 0 })))) := by unfold Hid; rw [hgs]; rfl
    have g4 : Hid (gs[4]? = some (IsV (.bool true))) := by unfold Hid; rw [hgs]; rfl
    have g5 : Hid (gs[5]? = some (IsV (.bool true))) := by unfold Hid; rw [hgs]; rfl
    have g6 : Hid (gs[6]? = some (IsV (.bool true))) := by unfold Hid; rw [hgs]; rfl
    have g7 : Hid (gs[7]? = some (IsV (Value.pointer (some { block := a, off := 0 })))) := by unfold Hid; rw [hgs]; rfl
    have g8 : Hid (gs[8]? = some (IsV (Value.int IntKind.u64 ↑u))) := by unfold Hid; rw [hgs]; rfl
    have g9 : Hid (gs[9]? = some (IsV (.int .i64 (d : Int)))) := by unfold Hid; rw [hgs]; rfl
    have g10 : Hid (gs[10]? = some (IsV (.agg #[.int .i64 N, .int .i64 B, .int .i64 Q, .int .i64 (E : Int), .int .i64 (F : Int)]))) := by unfold Hid; rw [hgs]; rfl
    have g11 : Hid (gs[11]? = some (IsV (Value.int IntKind.u64 ↑u))) := by unfold Hid; rw [hgs]; rfl
    have g12 : Hid (gs[12]? = some (IsV (.int .i64 (d : Int)))) := by unfold Hid; rw [hgs]; rfl
    have g13 : Hid (gs[13]? = some (IsV (.bool true))) := by unfold Hid; rw [hgs]; rfl
    have g14 : Hid (gs[14]? = some (IsV (.bool true))) := by unfold Hid; rw [hgs]; rfl
    have g15 : Hid (gs[15]? = some (IsV (.bool true))) := by unfold Hid; rw [hgs]; rfl
    have gk : Hid (∀ p ∈ gs, Stays p) := by
      unfold Hid
      rw [hgs]
      simp only [List.forall_mem_cons]
      exact ⟨stays_v _, stays_v _, stays_v _, stays_v _, stays_v _, stays_v _, stays_v _, stays_v _, stays_v _, stays_v _, stays_v _, stays_v _, stays_v _, stays_v _, stays_v _, stays_v _, by simp⟩
    clear hgs
    refine wpAny_inv (fun listed ac W => ∃ xv : Nat → Value, ac = ⟨#[Value.agg #[Value.int IntKind.i64 N, Value.int IntKind.i64 B, Value.int IntKind.i64 Q, Value.int IntKind.i64 ↑E, Value.int IntKind.i64 ↑F], Value.int IntKind.u64 ↑u, Value.pointer (some { block := w.heap.size, off := 0 }), undef, xv 15, Value.pointer (some { block := a, off := 0 }), Value.int IntKind.i64 (0 : Int), Value.bool true, Value.bool false, Value.agg #[Value.int IntKind.i64 N, Value.int IntKind.i64 B, Value.int IntKind.i64 Q, Value.int IntKind.i64 ↑E, Value.int IntKind.i64 ↑F], Value.bool true, Value.bool false, Value.bool false, Value.pointer (some { block := w.heap.size, off := 4 }), Value.int IntKind.i64 ↑F, Value.bool (decide ((200 : Int) < ↑F)), Value.bool (decide ((200 : Int) < ↑F)), Value.tuple #[Value.pointer (some { block := a, off := 0 }), Value.int IntKind.i64 (0 : Int)], Value.agg #[Value.int IntKind.i64 N, Value.int IntKind.i64 B, Value.int IntKind.i64 Q, Value.int IntKind.i64 ↑E, Value.int IntKind.i64 ↑F], Value.tuple #[Value.pointer (some { block := a, off := 0 }), Value.int IntKind.i64 (0 : Int)], Value.pointer (some { block := a, off := 0 }), Value.int IntKind.i64 (0 : Int), xv 0, xv 1, xv 2, xv 3, xv 4, xv 5, xv 6, xv 7, xv 8, xv 9, xv 10, xv 11, xv 12, xv 13, xv 14], []⟩ ∧ Below w3.heap.size w3 W ∧ Lst gs listed xv W) (by kernel_rfl) ?_ ?_ _ _ _ _ (by kernel_rfl) (of_decide_eq_true (by kernel_rfl)) ⟨fun j => if j = 15 then Value.bool false else undef, rfl, below0 _, Lst.start _ _ _ _⟩
    · rintro listed ac W ⟨xv, rfl, hb, hG⟩ i hi hd
      have hin : i < 16 := hi
      clear hi
      have hcase : i = 0 ∨ i = 1 ∨ i = 2 ∨ i = 3 ∨ i = 4 ∨ i = 5 ∨ i = 6 ∨ i = 7 ∨ i = 8 ∨ i = 9 ∨ i = 10 ∨ i = 11 ∨ i = 12 ∨ i = 13 ∨ i = 14 ∨ i = 15 := by omega
      rcases hcase with rfl | rfl | rfl | rfl | rfl | rfl | rfl | rfl | rfl | rfl | rfl | rfl | rfl | rfl | rfl | rfl
      · refine wpOp_step rfl (fun K' hK => ?_)
        clear hd hin
        go_simp
        exact hK _ _ ⟨updV xv 0 (Value.int IntKind.i64 (0 : Int)), by simp [updV], hb, hG.same gk.out g0.out _ rfl⟩
      · refine wpOp_step rfl (fun K' hK => ?_)
        simp [Region.binds] at hd
        have e0 : xv 0 = Value.int IntKind.i64 (0 : Int) := hG.get g0.out (by simp [hd])
        clear hd hin
        go_simp
        exact hK _ _ ⟨updV xv 1 (.bool true), by simp [updV, e0], hb, hG.same gk.out g1.out _ rfl⟩
      · refine wpOp_step rfl (fun K' hK => ?_)
        simp [Region.binds] at hd
        have e1 : xv 1 = .bool true := hG.get g1.out (by simp [hd])
        clear hd hin
        go_simp
        exact hK _ _ ⟨updV xv 2 (.bool true), by simp [updV, e1], hb, hG.same gk.out g2.out _ rfl⟩
      · refine wpOp_step rfl (fun K' hK => ?_)
        simp [Region.binds] at hd
        have e2 : xv 2 = .bool true := hG.get g2.out (by simp [hd])
        clear hd hin
        go_simp
        exact hK _ _ ⟨updV xv 3 (Value.pointer (some { block := a, off := 0 })), by simp [updV, e2], hb, hG.same gk.out g3.out _ rfl⟩
      · refine wpOp_step rfl (fun K' hK => ?_)
        simp [Region.binds] at hd
        have e3 : xv 3 = Value.pointer (some { block := a, off := 0 }) := hG.get g3.out (by simp [hd])
        have e2 : xv 2 = .bool true := hG.get g2.out (by simp [hd])
        clear hd hin
        go_simp
        exact hK _ _ ⟨updV xv 4 (.bool true), by simp [updV, e3, e2], hb, hG.same gk.out g4.out _ rfl⟩
      · refine wpOp_step rfl (fun K' hK => ?_)
        simp [Region.binds] at hd
        have e2 : xv 2 = .bool true := hG.get g2.out (by simp [hd])
        have e4 : xv 4 = .bool true := hG.get g4.out (by simp [hd])
        clear hd hin
        go_simp
        exact hK _ _ ⟨updV xv 5 (.bool true), by simp [updV, e2, e4], hb, hG.same gk.out g5.out _ rfl⟩
      · refine wpOp_step rfl (fun K' hK => ?_)
        simp [Region.binds] at hd
        have e5 : xv 5 = .bool true := hG.get g5.out (by simp [hd])
        clear hd hin
        go_simp
        exact hK _ _ ⟨updV xv 6 (.bool true), by simp [updV, e5], hb, hG.same gk.out g6.out _ rfl⟩
      · refine wpOp_step rfl (fun K' hK => ?_)
        simp [Region.binds] at hd
        have e6 : xv 6 = .bool true := hG.get g6.out (by simp [hd])
        clear hd hin
        go_simp
        exact hK _ _ ⟨updV xv 7 (Value.pointer (some { block := a, off := 0 })), by simp [updV, e6], hb, hG.same gk.out g7.out _ rfl⟩
      · refine wpOp_step rfl (fun K' hK => ?_)
        simp [Region.binds] at hd
        have e6 : xv 6 = .bool true := hG.get g6.out (by simp [hd])
        clear hd hin
        go_simp
        exact hK _ _ ⟨updV xv 8 (Value.int IntKind.u64 ↑u), by simp [updV, e6], hb, hG.same gk.out g8.out _ rfl⟩
      · refine wpOp_step rfl (fun K' hK => ?_)
        simp [Region.binds] at hd
        have e7 : xv 7 = Value.pointer (some { block := a, off := 0 }) := hG.get g7.out (by simp [hd])
        have e8 : xv 8 = Value.int IntKind.u64 ↑u := hG.get g8.out (by simp [hd])
        have e6 : xv 6 = .bool true := hG.get g6.out (by simp [hd])
        clear hd hin
        go_simp
        refine (CO.out W hb).mono ?_
        rintro e w' ⟨v, rfl, hv, hb'⟩
        go_wp2_with fail
        exact ⟨updV xv 9 v, by simp [updV, e7, e8, e6], hb.trans (hb'.mono hb.size), hG.step gk.out hb' g9.out v hv⟩
      · refine wpOp_step rfl (fun K' hK => ?_)
        simp [Region.binds] at hd
        have e6 : xv 6 = .bool true := hG.get g6.out (by simp [hd])
        obtain ⟨c0, c1, c2, c3, c4⟩ := BX.out W hb
        clear hd hin
        go_simp
        exact hK _ _ ⟨updV xv 10 (.agg #[.int .i64 N, .int .i64 B, .int .i64 Q, .int .i64 (E : Int), .int .i64 (F : Int)]), by simp [updV, e6], hb, hG.same gk.out g10.out _ rfl⟩
      · refine wpOp_step rfl (fun K' hK => ?_)
        simp [Region.binds] at hd
        have e6 : xv 6 = .bool true := hG.get g6.out (by simp [hd])
        clear hd hin
        go_simp
        exact hK _ _ ⟨updV xv 11 (Value.int IntKind.u64 ↑u), by simp [updV, e6], hb, hG.same gk.out g11.out _ rfl⟩
      · refine wpOp_step rfl (fun K' hK => ?_)
        simp [Region.binds] at hd
        have e10 : xv 10 = .agg #[.int .i64 N, .int .i64 B, .int .i64 Q, .int .i64 (E : Int), .int .i64 (F : Int)] := hG.get g10.out (by simp [hd])
        have e11 : xv 11 = Value.int IntKind.u64 ↑u := hG.get g11.out (by simp [hd])
        have e6 : xv 6 = .bool true := hG.get g6.out (by simp [hd])
        clear hd hin
        go_simp
        refine (CR.out W hb).mono ?_
        rintro e w' ⟨v, rfl, hv, hb'⟩
        go_wp2_with fail
        exact ⟨updV xv 12 v, by simp [updV, e10, e11, e6], hb.trans (hb'.mono hb.size), hG.step gk.out hb' g12.out v hv⟩
      · refine wpOp_step rfl (fun K' hK => ?_)
        simp [Region.binds] at hd
        have e9 : xv 9 = .int .i64 (d : Int) := hG.get g9.out (by simp [hd])
        have e12 : xv 12 = .int .i64 (d : Int) := hG.get g12.out (by simp [hd])
        have e6 : xv 6 = .bool true := hG.get g6.out (by simp [hd])
        clear hd hin
        go_simp
        exact hK _ _ ⟨updV xv 13 (.bool true), by simp [updV, e9, e12, e6], hb, hG.same gk.out g13.out _ rfl⟩
      · refine wpOp_step rfl (fun K' hK => ?_)
        simp [Region.binds] at hd
        have e6 : xv 6 = .bool true := hG.get g6.out (by simp [hd])
        have e13 : xv 13 = .bool true := hG.get g13.out (by simp [hd])
        clear hd hin
        go_simp
        exact hK _ _ ⟨updV xv 14 (.bool true), by simp [updV, e6, e13], hb, hG.same gk.out g14.out _ rfl⟩
      · refine wpOp_step rfl (fun K' hK => ?_)
        simp [Region.binds] at hd
        have e14 : xv 14 = .bool true := hG.get g14.out (by simp [hd])
        clear hd hin
        go_simp
        exact hK _ _ ⟨updV xv 15 (.bool true), by simp [updV, e14], hb, hG.same gk.out g15.out _ rfl⟩
    · rintro listed ac W ⟨xv, rfl, hb, hG⟩ hall
      have e15 : xv 15 = .bool true := hG.get g15.out (hall 15 (by decide))
      have XW : Hid (Below w3.heap.size w3 W) := hb
      clear hall hG hb gk g0 g1 g2 g3 g4 g5 g6 g7 g8 g9 g10 g11 g12 g13 g14 g15
      rw [e15]
      clear e15
      go_wp2
      go_ret
      exact ⟨rfl, below_mid B3.out XW.out⟩
  · go_wp2
    go_ret
    exact ⟨rfl, B2.out⟩

/-- DegreeDraws. -/
theorem degreeDraws_walk (N B Q E F u : Int) (w : World) (hw : Ok .i64 N ∧ Ok .i64 B ∧ Ok .i64 Q ∧ Ok .i64 E ∧ Ok .i64 F) (hu : (Lit.int .u64 u).wf = true) :
    Calls Try.prog 9 #[.agg #[.int .i64 N, .int .i64 B, .int .i64 Q, .int .i64 E, .int .i64 F], .int .u64 u] w fun e w' => e = .returned (.bool true) ∧ Below w.heap.size w w' := by
  obtain ⟨v, rfl, hv⟩ := u64_nat hu
  by_cases h : May N B Q E F
  · obtain ⟨e, f, rfl, rfl, hm⟩ := may_nat h
    exact degreeDraws_yes N B Q e f v w h hm hv
  · exact degreeDraws_no N B Q E F v w h

end Go.Proofs.Ytecohgmllmddhaa
