/-
  OuterMore.
-/
import Derived.Test.YthlladpappldbaaOutS
import Derived.Test.YthlladpappldbaaLStruct
namespace Go.Proofs.Ythlladpappldbaa
open Go.RowKit
set_option linter.unusedVariables false

set_option maxRecDepth 100000 in
set_option maxHeartbeats 4000000 in
theorem outerMore_walk (N0 B Q E F : Int) (S : Nat) (w : World) (hS : S < 18446744073709551616) (hN0 : Ok .i64 N0) :
    Calls Try.prog 9 #[.agg #[.int .i64 N0, .int .i64 B, .int .i64 Q, .int .i64 E, .int .i64 F], .int .u64 S] w fun e w' => e = .returned (.bool true) ∧ Below w.heap.size w w' := by
  obtain ⟨N, hN⟩ : ∃ N, smallN N0 = N := ⟨_, rfl⟩
  have hN60 : N ≤ 60 := by rw [← hN]; exact smallN_le _
  have hNlo : -9223372036854775808 ≤ N := by
    have h1 : -9223372036854775808 ≤ N0 := by
      have := hN0
      simp [Ok, Lit.wf, IntKind.min, IntKind.max, IntKind.bits, IntKind.signed] at this
      omega
    rw [← hN]
    unfold smallN
    split <;> omega
  have CS : Hid (∀ W, Calls Try.prog 23 #[.agg #[.int .i64 N0, .int .i64 B, .int .i64 Q, .int .i64 E, .int .i64 F]] W fun e w' => e = .returned (.agg #[.int .i64 N, .int .i64 B, .int .i64 Q, .int .i64 E, .int .i64 F]) ∧ Below W.heap.size W w') := by
    intro W
    rw [← hN]
    exact smaller_any N0 B Q E F W
  clear hN hN0
  go_enter Try.func9, Try.ntmps9
  go_wp2_with fail
  refine (speaks10_any _).mono ?_
  rintro e w1 ⟨rfl, hb1⟩
  have B1 : Hid (Below w.heap.size w w1) := below_on (below_alloc _ _) hb1
  have P1 : Hid (FiveB w1 w.heap.size N0 B Q E F) := (FiveB.new w _ _ _ _ _).below hb1
  obtain ⟨c0, c1, c2, c3, c4⟩ := P1.out.five
  clear hb1
  go_wp2_with fail
  refine (CS.out _).mono ?_
  rintro e w2 ⟨rfl, hb2⟩
  have B2 : Hid (Below w.heap.size w w2) := below_on B1.out hb2
  have P2 : Hid (FiveB w2 w.heap.size N0 B Q E F) := P1.out.below hb2
  clear hb2 B1 P1 CS c0 c1 c2 c3 c4
  obtain ⟨c0, c1, c2, c3, c4⟩ := P2.out.five
  have f0 := P2.out.fr 0
  have f1 := P2.out.fr 1
  have f2 := P2.out.fr 2
  have f3 := P2.out.fr 3
  have f4 := P2.out.fr 4
  have B3 : Hid (Below w.heap.size w (((((w2.setCell ⟨w.heap.size, 0, none⟩ (.int .i64 N)).setCell ⟨w.heap.size, 1, none⟩ (.int .i64 B)).setCell ⟨w.heap.size, 2, none⟩ (.int .i64 Q)).setCell ⟨w.heap.size, 3, none⟩ (.int .i64 E)).setCell ⟨w.heap.size, 4, none⟩ (.int .i64 F))) := below5 B2.out (Nat.le_refl _) _ _ _ _ _
  have P3 : Hid (FiveB (((((w2.setCell ⟨w.heap.size, 0, none⟩ (.int .i64 N)).setCell ⟨w.heap.size, 1, none⟩ (.int .i64 B)).setCell ⟨w.heap.size, 2, none⟩ (.int .i64 Q)).setCell ⟨w.heap.size, 3, none⟩ (.int .i64 E)).setCell ⟨w.heap.size, 4, none⟩ (.int .i64 F)) w.heap.size N B Q E F) := fiveB_store P2.out _ _ _ _ _
  go_upto_region 4 with fail
  generalize ((((w2.setCell ⟨w.heap.size, 0, none⟩ (.int .i64 N)).setCell ⟨w.heap.size, 1, none⟩ (.int .i64 B)).setCell ⟨w.heap.size, 2, none⟩ (.int .i64 Q)).setCell ⟨w.heap.size, 3, none⟩ (.int .i64 E)).setCell ⟨w.heap.size, 4, none⟩ (.int .i64 F) = w3 at *
  clear c0 c1 c2 c3 c4 f0 f1 f2 f3 f4 B2 P2
  obtain ⟨c0, c1, c2, c3, c4⟩ := P3.out.five
  go_upto_region 6 with fail
  have B4 : Hid (Below w.heap.size w (w3.alloc (.cells #[.int .i64 (N + 1), .int .i64 B, .int .i64 Q, .int .i64 E, .int .i64 F] 43))) := B3.out.alloc B3.out.size _
  have P4 : Hid (FiveB (w3.alloc (.cells #[.int .i64 (N + 1), .int .i64 B, .int .i64 Q, .int .i64 E, .int .i64 F] 43)) w.heap.size N B Q E F) := P3.out.below (below_alloc _ _)
  have R4 : Hid (FiveB (w3.alloc (.cells #[.int .i64 (N + 1), .int .i64 B, .int .i64 Q, .int .i64 E, .int .i64 F] 43)) w3.heap.size (N + 1) B Q E F) := FiveB.new _ _ _ _ _ _
  generalize w3.alloc (.cells #[.int .i64 (N + 1), .int .i64 B, .int .i64 Q, .int .i64 E, .int .i64 F] 43) = w4 at *
  generalize w3.heap.size = q5 at *
  clear c0 c1 c2 c3 c4 B3 P3
  have BX : Hid (∀ W, Below w4.heap.size w4 W → Five W w.heap.size N B Q E F) := fun W hW => (P4.out.below hW).five
  have BY : Hid (∀ W, Below w4.heap.size w4 W → Five W q5 (N + 1) B Q E F) := fun W hW => (R4.out.below hW).five
  by_cases hp : May N B Q E F
  · have MP : Hid (∀ W, Below w4.heap.size w4 W → Calls Try.prog 24 #[.agg #[.int .i64 N, .int .i64 B, .int .i64 Q, .int .i64 E, .int .i64 F]] W fun e w' => ∃ v, e = .returned v ∧ IsV (.bool true) v w' ∧ Below W.heap.size W w') := by
      intro W _
      refine (rmay_yes N B Q E F W hp).mono ?_
      rintro e w' ⟨rfl, hb⟩
      exact ⟨_, rfl, rfl, hb⟩
    by_cases hq : May (N + 1) B Q E F
    · have MQ : Hid (∀ W, Below w4.heap.size w4 W → Calls Try.prog 24 #[.agg #[.int .i64 (N + 1), .int .i64 B, .int .i64 Q, .int .i64 E, .int .i64 F]] W fun e w' => ∃ v, e = .returned v ∧ IsV (.bool true) v w' ∧ Below W.heap.size W w') := by
        intro W _
        refine (rmay_yes (N + 1) B Q E F W hq).mono ?_
        rintro e w' ⟨rfl, hb⟩
        exact ⟨_, rfl, rfl, hb⟩
      obtain ⟨A1, hA1⟩ : ∃ A, aux N Q E = A := ⟨_, rfl⟩
      obtain ⟨A2, hA2⟩ : ∃ A, aux (N + 1) Q E = A := ⟨_, rfl⟩
      have AP : Hid (∀ W, Below w4.heap.size w4 W → Calls Try.prog 27 #[.agg #[.int .i64 N, .int .i64 B, .int .i64 Q, .int .i64 E, .int .i64 F]] W fun e w' => ∃ v, e = .returned v ∧ IsV (.int .i64 A1) v w' ∧ Below W.heap.size W w') := by
        intro W _
        refine (raux_any N B Q E F W hp.1 hp.2.2.1 hp.2.2.2.1).mono ?_
        rintro e w' ⟨rfl, hb⟩
        exact ⟨_, rfl, by rw [hA1]; rfl, hb⟩
      have AQ : Hid (∀ W, Below w4.heap.size w4 W → Calls Try.prog 27 #[.agg #[.int .i64 (N + 1), .int .i64 B, .int .i64 Q, .int .i64 E, .int .i64 F]] W fun e w' => ∃ v, e = .returned v ∧ IsV (.int .i64 A2) v w' ∧ Below W.heap.size W w') := by
        intro W _
        refine (raux_any (N + 1) B Q E F W hq.1 hq.2.2.1 hq.2.2.2.1).mono ?_
        rintro e w' ⟨rfl, hb⟩
        exact ⟨_, rfl, by rw [hA2]; rfl, hb⟩
      by_cases hAA : A1 = A2
      · obtain ⟨n, q, A, hpr⟩ := PrOk.of hp
        have hpr2 : PrOk (N + 1) B Q E F (n + 1) q A := ⟨hq, by have := hpr.en; omega, hpr.eq, by rw [hA2, ← hAA, ← hA1]; exact hpr.ea⟩
        have hok := hpr2.ok hS
        have hn1 := hok.n
        have hq8 := hok.q
        obtain rfl := hpr.en
        obtain rfl := hpr.eq
        have CN : Hid (∀ W, Calls Try.prog 22 #[.agg #[.int .i64 n, .int .i64 B, .int .i64 q, .int .i64 E, .int .i64 F], .int .u64 S] W fun e w' => ∃ g ro vs, e = .returned (.tuple #[.pointer (some ⟨g, 0, none⟩), .int .i64 0]) ∧ IsGr w' g ro S n q A vs (hasR S A q n) ∧ Below W.heap.size W w') := fun W => onew_yes B E F n q A S W hpr hS
        have CN2 : Hid (∀ W, Calls Try.prog 22 #[.agg #[.int .i64 ((n : Int) + 1), .int .i64 B, .int .i64 q, .int .i64 E, .int .i64 F], .int .u64 S] W fun e w' => ∃ g ro vs, e = .returned (.tuple #[.pointer (some ⟨g, 0, none⟩), .int .i64 0]) ∧ IsGr w' g ro S (n + 1) q A vs (hasR S A q (n + 1)) ∧ Below W.heap.size W w') := by
          intro W
          have e : ((n + 1 : Nat) : Int) = (n : Int) + 1 := by omega
          have := onew_yes B E F (n + 1) q A S W (by rw [e]; exact hpr2) hS
          rw [e] at this
          exact this
        have OK1 : Hid (GrOk S n q A) := hpr.ok hS
        have OK2 : Hid (GrOk S (n + 1) q A) := hok
        subst hAA
        clear hp hq hpr hpr2 hok hA1 hA2 hNlo
        refine wp_region_any (by kernel_rfl) ?_
        obtain ⟨gs, hgs⟩ : ∃ gs : List (Value → World → Prop), gs = [IsV (.agg #[.int .i64 (n : Int), .int .i64 B, .int .i64 (q : Int), .int .i64 E, .int .i64 F]), IsV (.bool true), IsV (.bool false), IsV (.bool false), IsV (.agg #[.int .i64 ((n : Int) + 1), .int .i64 B, .int .i64 (q : Int), .int .i64 E, .int .i64 F]), IsV (.bool true), IsV (.bool false), IsV (.bool false), IsV (.bool false), IsV (.agg #[.int .i64 (n : Int), .int .i64 B, .int .i64 (q : Int), .int .i64 E, .int .i64 F]), IsV (.int .i64 A1), IsV (.agg #[.int .i64 ((n : Int) + 1), .int .i64 B, .int .i64 (q : Int), .int .i64 E, .int .i64 F]), IsV (.int .i64 A1), IsV (.bool false), IsV (.bool false)] := ⟨_, rfl⟩
        have g0 : Hid (gs[0]? = some (IsV (.agg #[.int .i64 (n : Int), .int .i64 B, .int .i64 (q : Int), .int .i64 E, .int .i64 F]))) := by unfold Hid; rw [hgs]; rfl
        have g1 : Hid (gs[1]? = some (IsV (.bool true))) := by unfold Hid; rw [hgs]; rfl
        have g2 : Hid (gs[2]? = some (IsV (.bool false))) := by unfold Hid; rw [hgs]; rfl
        have g3 : Hid (gs[3]? = some (IsV (.bool false))) := by unfold Hid; rw [hgs]; rfl
        have g4 : Hid (gs[4]? = some (IsV (.agg #[.int .i64 ((n : Int) + 1), .int .i64 B, .int .i64 (q : Int), .int .i64 E, .int .i64 F]))) := by unfold Hid; rw [hgs]; rfl
        have g5 : Hid (gs[5]? = some (IsV (.bool true))) := by unfold Hid; rw [hgs]; rfl
        have g6 : Hid (gs[6]? = some (IsV (.bool false))) := by unfold Hid; rw [hgs]; rfl
        have g7 : Hid (gs[7]? = some (IsV (.bool false))) := by unfold Hid; rw [hgs]; rfl
        have g8 : Hid (gs[8]? = some (IsV (.bool false))) := by unfold Hid; rw [hgs]; rfl
        have g9 : Hid (gs[9]? = some (IsV (.agg #[.int .i64 (n : Int), .int .i64 B, .int .i64 (q : Int), .int .i64 E, .int .i64 F]))) := by unfold Hid; rw [hgs]; rfl
        have g10 : Hid (gs[10]? = some (IsV (.int .i64 A1))) := by unfold Hid; rw [hgs]; rfl
        have g11 : Hid (gs[11]? = some (IsV (.agg #[.int .i64 ((n : Int) + 1), .int .i64 B, .int .i64 (q : Int), .int .i64 E, .int .i64 F]))) := by unfold Hid; rw [hgs]; rfl
        have g12 : Hid (gs[12]? = some (IsV (.int .i64 A1))) := by unfold Hid; rw [hgs]; rfl
        have g13 : Hid (gs[13]? = some (IsV (.bool false))) := by unfold Hid; rw [hgs]; rfl
        have g14 : Hid (gs[14]? = some (IsV (.bool false))) := by unfold Hid; rw [hgs]; rfl
        have gk : Hid (∀ p ∈ gs, Stays p) := by
          unfold Hid
          rw [hgs]
          simp only [List.forall_mem_cons]
          exact ⟨stays_v _, stays_v _, stays_v _, stays_v _, stays_v _, stays_v _, stays_v _, stays_v _, stays_v _, stays_v _, stays_v _, stays_v _, stays_v _, stays_v _, stays_v _, by simp⟩
        clear hgs
        refine wpAny_inv (fun listed ac W => ∃ xv : Nat → Value, ac = ⟨#[Value.agg #[Value.int IntKind.i64 N0, Value.int IntKind.i64 B, Value.int IntKind.i64 ↑q, Value.int IntKind.i64 E, Value.int IntKind.i64 F], Value.int IntKind.u64 ↑S, Value.pointer (some { block := w.heap.size, off := 0 }), undef, Value.bool false, Value.pointer (some { block := q5, off := 0 }), undef, undef, undef, undef, undef, Value.bool true, Value.bool false, Value.agg #[Value.int IntKind.i64 N0, Value.int IntKind.i64 B, Value.int IntKind.i64 ↑q, Value.int IntKind.i64 E, Value.int IntKind.i64 F], Value.agg #[Value.int IntKind.i64 ↑n, Value.int IntKind.i64 B, Value.int IntKind.i64 ↑q, Value.int IntKind.i64 E, Value.int IntKind.i64 F], Value.agg #[Value.int IntKind.i64 ↑n, Value.int IntKind.i64 B, Value.int IntKind.i64 ↑q, Value.int IntKind.i64 E, Value.int IntKind.i64 F], Value.pointer (some { block := q5, off := 0 }), Value.int IntKind.i64 ↑n, Value.int IntKind.i64 (↑n + (1 : Int)), Value.pointer (some { block := q5, off := 0 }), xv 0, xv 1, xv 2, xv 3, xv 4, xv 5, xv 6, xv 7, xv 8, xv 9, xv 10, xv 11, xv 12, xv 13, xv 14, undef, undef, undef, undef, undef, undef, undef, undef, undef, undef, undef, undef, undef, undef, undef, undef, undef, undef, undef, undef, undef, undef, undef, undef, undef, undef, undef, undef, undef, undef, undef, undef, undef, undef, undef, undef, undef, undef, undef, undef, undef, undef, undef, undef, undef, undef, undef, undef], []⟩ ∧ Below w4.heap.size w4 W ∧ Lst gs listed xv W) (by kernel_rfl) ?_ ?_ _ _ _ _ (by kernel_rfl) (of_decide_eq_true (by kernel_rfl)) ⟨fun j => undef, rfl, below0 _, Lst.start _ _ _ _⟩
        · rintro listed ac W ⟨xv, rfl, hb, hG⟩ i hi hd
          have hin : i < 15 := hi
          clear hi
          have hcase : i = 0 ∨ i = 1 ∨ i = 2 ∨ i = 3 ∨ i = 4 ∨ i = 5 ∨ i = 6 ∨ i = 7 ∨ i = 8 ∨ i = 9 ∨ i = 10 ∨ i = 11 ∨ i = 12 ∨ i = 13 ∨ i = 14 := by omega
          rcases hcase with rfl | rfl | rfl | rfl | rfl | rfl | rfl | rfl | rfl | rfl | rfl | rfl | rfl | rfl | rfl
          · refine wpOp_step rfl (fun K' hK => ?_)
            obtain ⟨c0, c1, c2, c3, c4⟩ := BX.out W hb
            clear hd hin
            go_simp
            exact hK _ _ ⟨updV xv 0 (.agg #[.int .i64 (n : Int), .int .i64 B, .int .i64 (q : Int), .int .i64 E, .int .i64 F]), by simp [updV], hb, hG.same gk.out g0.out _ rfl⟩
          · refine wpOp_step rfl (fun K' hK => ?_)
            simp [Region.binds] at hd
            have e0 : xv 0 = .agg #[.int .i64 (n : Int), .int .i64 B, .int .i64 (q : Int), .int .i64 E, .int .i64 F] := hG.get g0.out (by simp [hd])
            clear hd hin
            go_simp
            refine (MP.out W hb).mono ?_
            rintro e w' ⟨v, rfl, hv, hb'⟩
            go_wp2_with fail
            exact ⟨updV xv 1 v, by simp [updV, e0], hb.trans (hb'.mono hb.size), hG.step gk.out hb' g1.out v hv⟩
          · refine wpOp_step rfl (fun K' hK => ?_)
            simp [Region.binds] at hd
            have e1 : xv 1 = .bool true := hG.get g1.out (by simp [hd])
            clear hd hin
            go_simp
            exact hK _ _ ⟨updV xv 2 (.bool false), by simp [updV, e1], hb, hG.same gk.out g2.out _ rfl⟩
          · refine wpOp_step rfl (fun K' hK => ?_)
            simp [Region.binds] at hd
            have e2 : xv 2 = .bool false := hG.get g2.out (by simp [hd])
            clear hd hin
            go_simp
            exact hK _ _ ⟨updV xv 3 (.bool false), by simp [updV, e2], hb, hG.same gk.out g3.out _ rfl⟩
          · refine wpOp_step rfl (fun K' hK => ?_)
            simp [Region.binds] at hd
            have e3 : xv 3 = .bool false := hG.get g3.out (by simp [hd])
            obtain ⟨c0, c1, c2, c3, c4⟩ := BY.out W hb
            clear hd hin
            go_simp
            exact hK _ _ ⟨updV xv 4 (.agg #[.int .i64 ((n : Int) + 1), .int .i64 B, .int .i64 (q : Int), .int .i64 E, .int .i64 F]), by simp [updV, e3], hb, hG.same gk.out g4.out _ rfl⟩
          · refine wpOp_step rfl (fun K' hK => ?_)
            simp [Region.binds] at hd
            have e4 : xv 4 = .agg #[.int .i64 ((n : Int) + 1), .int .i64 B, .int .i64 (q : Int), .int .i64 E, .int .i64 F] := hG.get g4.out (by simp [hd])
            have e3 : xv 3 = .bool false := hG.get g3.out (by simp [hd])
            clear hd hin
            go_simp
            refine (MQ.out W hb).mono ?_
            rintro e w' ⟨v, rfl, hv, hb'⟩
            go_wp2_with fail
            exact ⟨updV xv 5 v, by simp [updV, e4, e3], hb.trans (hb'.mono hb.size), hG.step gk.out hb' g5.out v hv⟩
          · refine wpOp_step rfl (fun K' hK => ?_)
            simp [Region.binds] at hd
            have e5 : xv 5 = .bool true := hG.get g5.out (by simp [hd])
            have e3 : xv 3 = .bool false := hG.get g3.out (by simp [hd])
            clear hd hin
            go_simp
            exact hK _ _ ⟨updV xv 6 (.bool false), by simp [updV, e5, e3], hb, hG.same gk.out g6.out _ rfl⟩
          · refine wpOp_step rfl (fun K' hK => ?_)
            simp [Region.binds] at hd
            have e3 : xv 3 = .bool false := hG.get g3.out (by simp [hd])
            have e6 : xv 6 = .bool false := hG.get g6.out (by simp [hd])
            clear hd hin
            go_simp
            exact hK _ _ ⟨updV xv 7 (.bool false), by simp [updV, e3, e6], hb, hG.same gk.out g7.out _ rfl⟩
          · refine wpOp_step rfl (fun K' hK => ?_)
            simp [Region.binds] at hd
            have e7 : xv 7 = .bool false := hG.get g7.out (by simp [hd])
            clear hd hin
            go_simp
            exact hK _ _ ⟨updV xv 8 (.bool false), by simp [updV, e7], hb, hG.same gk.out g8.out _ rfl⟩
          · refine wpOp_step rfl (fun K' hK => ?_)
            simp [Region.binds] at hd
            have e8 : xv 8 = .bool false := hG.get g8.out (by simp [hd])
            obtain ⟨c0, c1, c2, c3, c4⟩ := BX.out W hb
            clear hd hin
            go_simp
            exact hK _ _ ⟨updV xv 9 (.agg #[.int .i64 (n : Int), .int .i64 B, .int .i64 (q : Int), .int .i64 E, .int .i64 F]), by simp [updV, e8], hb, hG.same gk.out g9.out _ rfl⟩
          · refine wpOp_step rfl (fun K' hK => ?_)
            simp [Region.binds] at hd
            have e9 : xv 9 = .agg #[.int .i64 (n : Int), .int .i64 B, .int .i64 (q : Int), .int .i64 E, .int .i64 F] := hG.get g9.out (by simp [hd])
            have e8 : xv 8 = .bool false := hG.get g8.out (by simp [hd])
            clear hd hin
            go_simp
            refine (AP.out W hb).mono ?_
            rintro e w' ⟨v, rfl, hv, hb'⟩
            go_wp2_with fail
            exact ⟨updV xv 10 v, by simp [updV, e9, e8], hb.trans (hb'.mono hb.size), hG.step gk.out hb' g10.out v hv⟩
          · refine wpOp_step rfl (fun K' hK => ?_)
            simp [Region.binds] at hd
            have e8 : xv 8 = .bool false := hG.get g8.out (by simp [hd])
            obtain ⟨c0, c1, c2, c3, c4⟩ := BY.out W hb
            clear hd hin
            go_simp
            exact hK _ _ ⟨updV xv 11 (.agg #[.int .i64 ((n : Int) + 1), .int .i64 B, .int .i64 (q : Int), .int .i64 E, .int .i64 F]), by simp [updV, e8], hb, hG.same gk.out g11.out _ rfl⟩
          · refine wpOp_step rfl (fun K' hK => ?_)
            simp [Region.binds] at hd
            have e11 : xv 11 = .agg #[.int .i64 ((n : Int) + 1), .int .i64 B, .int .i64 (q : Int), .int .i64 E, .int .i64 F] := hG.get g11.out (by simp [hd])
            have e8 : xv 8 = .bool false := hG.get g8.out (by simp [hd])
            clear hd hin
            go_simp
            refine (AQ.out W hb).mono ?_
            rintro e w' ⟨v, rfl, hv, hb'⟩
            go_wp2_with fail
            exact ⟨updV xv 12 v, by simp [updV, e11, e8], hb.trans (hb'.mono hb.size), hG.step gk.out hb' g12.out v hv⟩
          · refine wpOp_step rfl (fun K' hK => ?_)
            simp [Region.binds] at hd
            have e10 : xv 10 = .int .i64 A1 := hG.get g10.out (by simp [hd])
            have e12 : xv 12 = .int .i64 A1 := hG.get g12.out (by simp [hd])
            have e8 : xv 8 = .bool false := hG.get g8.out (by simp [hd])
            clear hd hin
            go_simp
            exact hK _ _ ⟨updV xv 13 (.bool false), by simp [updV, e10, e12, e8], hb, hG.same gk.out g13.out _ rfl⟩
          · refine wpOp_step rfl (fun K' hK => ?_)
            simp [Region.binds] at hd
            have e8 : xv 8 = .bool false := hG.get g8.out (by simp [hd])
            have e13 : xv 13 = .bool false := hG.get g13.out (by simp [hd])
            clear hd hin
            go_simp
            exact hK _ _ ⟨updV xv 14 (.bool false), by simp [updV, e8, e13], hb, hG.same gk.out g14.out _ rfl⟩
        · rintro listed ac W ⟨xv, rfl, hb, hG⟩ hall
          have e14 : xv 14 = .bool false := hG.get g14.out (hall 14 (by decide))
          have XW : Hid (Below w4.heap.size w4 W) := hb
          clear hall hG hb gk g0 g1 g2 g3 g4 g5 g6 g7 g8 g9 g10 g11 g12 g13 g14
          rw [e14]
          clear e14
          have B5 : Hid (Below w.heap.size w W) := below_on B4.out XW.out
          have P5 : Hid (FiveB W w.heap.size n B q E F) := P4.out.below XW.out
          have R5 : Hid (FiveB W q5 ((n : Int) + 1) B q E F) := R4.out.below XW.out
          clear XW BX BY MP MQ AP AQ B4 P4 R4
          obtain ⟨c0, c1, c2, c3, c4⟩ := P5.out.five
          go_wp2_with fail
          refine (CN.out _).mono ?_
          rintro e w6 ⟨g, ro, vs, rfl, hg6, hb6⟩
          have G6 : Hid (IsGr w6 g ro S n q A vs (hasR S A q n)) := hg6
          have B6 : Hid (Below w.heap.size w w6) := below_on B5.out hb6
          have P6 : Hid (FiveB w6 w.heap.size n B q E F) := P5.out.below hb6
          have R6 : Hid (FiveB w6 q5 ((n : Int) + 1) B q E F) := R5.out.below hb6
          clear hg6 hb6 B5 P5 R5 CN c0 c1 c2 c3 c4
          obtain ⟨c0, c1, c2, c3, c4⟩ := R6.out.five
          go_wp2_with fail
          refine (CN2.out _).mono ?_
          rintro e w7 ⟨h, ro2, vs2, rfl, hg7, hb7⟩
          have H7 : Hid (IsGr w7 h ro2 S (n + 1) q A vs2 (hasR S A q (n + 1))) := hg7
          have G7 : Hid (IsGr w7 g ro S n q A vs (hasR S A q n)) := G6.out.below hb7
          have B7 : Hid (Below w.heap.size w w7) := below_on B6.out hb7
          have P7 : Hid (FiveB w7 w.heap.size n B q E F) := P6.out.below hb7
          clear hg7 hb7 B6 P6 R6 G6 CN2 c0 c1 c2 c3 c4
          generalize hasR S A q n = rows at *
          generalize hasR S A q (n + 1) = rows2 at *
          obtain ⟨c0, c1, c2, c3, c4⟩ := P7.out.five
          go_wp2
          clear c0 c1 c2 c3 c4
          go_loopw [63] (fun iv wr => ∃ i : Nat, i ≤ n ∧ iv = .int .i64 i ∧ Hid (IsGr wr h ro2 S (n + 1) q A vs2 rows2) ∧ Hid (IsGr wr g ro S n q A vs rows) ∧ Hid (Below w.heap.size w wr) ∧ Hid (FiveB wr w.heap.size n B q E F)) (fun iv _ => n - (intOf iv).toNat)
          case atStart => exact ⟨0, by omega, rfl, H7, G7, B7, P7⟩
          case round =>
            clear H7 G7 B7 P7
            obtain ⟨i, hi, rfl, HH, HG, HB, HP⟩ := hrel
            by_cases hlt : i < n
            · go_wp2_with fail
              refine (oof_yes g ro S n q A i vs rows _ HG.out OK1.out hlt).mono ?_
              rintro e w8 ⟨a8, k8, rfl, ho8, hb8⟩
              have O8 : Hid (Zs w8 (.slice a8 q k8) (ofD S A q i)) := ho8.zs
              have H8 : Hid (IsGr w8 h ro2 S (n + 1) q A vs2 rows2) := HH.out.below hb8
              have G8 : Hid (IsGr w8 g ro S n q A vs rows) := HG.out.below hb8
              have B8 : Hid (Below w.heap.size w w8) := below_on HB.out hb8
              have P8 : Hid (FiveB w8 w.heap.size n B q E F) := HP.out.below hb8
              clear ho8 hb8 HH HG HB HP
              go_wp2_with fail
              refine (oof_yes h ro2 S (n + 1) q A i vs2 rows2 _ H8.out OK2.out (by omega)).mono ?_
              rintro e w9 ⟨a9, k9, rfl, ho9, hb9⟩
              have O9 : Hid (Zs w9 (.slice a9 q k9) (ofD S A q i)) := ho9.zs
              have O9' : Hid (Zs w9 (.slice a8 q k8) (ofD S A q i)) := O8.out.below hb9
              have H9 : Hid (IsGr w9 h ro2 S (n + 1) q A vs2 rows2) := H8.out.below hb9
              have G9 : Hid (IsGr w9 g ro S n q A vs rows) := G8.out.below hb9
              have B9 : Hid (Below w.heap.size w w9) := below_on B8.out hb9
              have P9 : Hid (FiveB w9 w.heap.size n B q E F) := P8.out.below hb9
              clear ho9 hb9 H8 G8 B8 P8 O8
              go_wp2_with fail
              refine (same9_any _ _ _ _ _ O9'.out O9.out).mono ?_
              rintro e w10 ⟨rfl, hb10⟩
              rw [sameI_self]
              have H10 : Hid (IsGr w10 h ro2 S (n + 1) q A vs2 rows2) := H9.out.below hb10
              have G10 : Hid (IsGr w10 g ro S n q A vs rows) := G9.out.below hb10
              have B10 : Hid (Below w.heap.size w w10) := below_on B9.out hb10
              have P10 : Hid (FiveB w10 w.heap.size n B q E F) := P9.out.below hb10
              clear hb10 H9 G9 B9 P9 O9 O9'
              go_wp2
              go_roundw
              case rel => exact ⟨i + 1, by omega, by go_num, H10, G10, B10, P10⟩
              case measure => simp [intOf]; omega
            · have CO : Hid (∀ W, Below wr.heap.size wr W → Calls Try.prog 28 #[.pointer (some ⟨h, 0, none⟩), .int .i64 n] W fun e w' => ∃ v, e = .returned v ∧ IsOz wr.heap.size q (ofD S A q n) v w' ∧ Below W.heap.size W w') := by
                intro W hW
                refine (oof_yes h ro2 S (n + 1) q A n vs2 rows2 W (HH.out.below hW) OK2.out (by omega)).mono ?_
                rintro e w' ⟨a, c, rfl, ho, hb⟩
                exact ⟨_, rfl, ⟨a, c, rfl, ho.mono hW.size⟩, hb⟩
              have BZ : Hid (∀ W, Below wr.heap.size wr W → Five W w.heap.size n B q E F) := fun W hW => (HP.out.below hW).five
              go_upto_region 18 with fail
              clear HH HG HP OK1 OK2
              refine wp_region_any (by kernel_rfl) ?_
              obtain ⟨gs, hgs⟩ : ∃ gs : List (Value → World → Prop), gs = [IsV (Value.pointer (some { block := h, off := 0 })), IsV (.pointer (some ⟨w.heap.size, 0, none⟩)), IsV (.int .i64 (n : Int)), IsOz wr.heap.size q (ofD S A q n), IsV (.int .i64 (q : Int)), IsV (.pointer (some ⟨w.heap.size, 2, none⟩)), IsV (.int .i64 (q : Int)), IsV (.bool true), IsV (.bool true)] := ⟨_, rfl⟩
              have g0 : Hid (gs[0]? = some (IsV (Value.pointer (some { block := h, off := 0 })))) := by unfold Hid; rw [hgs]; rfl
              have g1 : Hid (gs[1]? = some (IsV (.pointer (some ⟨w.heap.size, 0, none⟩)))) := by unfold Hid; rw [hgs]; rfl
              have g2 : Hid (gs[2]? = some (IsV (.int .i64 (n : Int)))) := by unfold Hid; rw [hgs]; rfl
              have g3 : Hid (gs[3]? = some (IsOz wr.heap.size q (ofD S A q n))) := by unfold Hid; rw [hgs]; rfl
              have g4 : Hid (gs[4]? = some (IsV (.int .i64 (q : Int)))) := by unfold Hid; rw [hgs]; rfl
              have g5 : Hid (gs[5]? = some (IsV (.pointer (some ⟨w.heap.size, 2, none⟩)))) := by unfold Hid; rw [hgs]; rfl
              have g6 : Hid (gs[6]? = some (IsV (.int .i64 (q : Int)))) := by unfold Hid; rw [hgs]; rfl
              have g7 : Hid (gs[7]? = some (IsV (.bool true))) := by unfold Hid; rw [hgs]; rfl
              have g8 : Hid (gs[8]? = some (IsV (.bool true))) := by unfold Hid; rw [hgs]; rfl
              have gk : Hid (∀ p ∈ gs, Stays p) := by
                unfold Hid
                rw [hgs]
                simp only [List.forall_mem_cons]
                exact ⟨stays_v _, stays_v _, stays_v _, stays_oz _ _ _, stays_v _, stays_v _, stays_v _, stays_v _, stays_v _, by simp⟩
              clear hgs
              refine wpAny_inv (fun listed ac Wb => ∃ xvb : Nat → Value, ac = ⟨#[Value.agg #[Value.int IntKind.i64 N0, Value.int IntKind.i64 B, Value.int IntKind.i64 ↑q, Value.int IntKind.i64 E, Value.int IntKind.i64 F], Value.int IntKind.u64 ↑S, Value.pointer (some { block := w.heap.size, off := 0 }), undef, xvb 8, Value.pointer (some { block := q5, off := 0 }), Value.pointer (some { block := g, off := 0 }), Value.int IntKind.i64 (0 : Int), Value.pointer (some { block := h, off := 0 }), Value.int IntKind.i64 (0 : Int), u10, Value.bool true, Value.bool false, Value.agg #[Value.int IntKind.i64 N0, Value.int IntKind.i64 B, Value.int IntKind.i64 ↑q, Value.int IntKind.i64 E, Value.int IntKind.i64 F], Value.agg #[Value.int IntKind.i64 ↑n, Value.int IntKind.i64 B, Value.int IntKind.i64 ↑q, Value.int IntKind.i64 E, Value.int IntKind.i64 F], Value.agg #[Value.int IntKind.i64 ↑n, Value.int IntKind.i64 B, Value.int IntKind.i64 ↑q, Value.int IntKind.i64 E, Value.int IntKind.i64 F], Value.pointer (some { block := q5, off := 0 }), Value.int IntKind.i64 ↑n, Value.int IntKind.i64 (↑n + (1 : Int)), Value.pointer (some { block := q5, off := 0 }), xv 0, xv 1, xv 2, xv 3, xv 4, xv 5, xv 6, xv 7, xv 8, xv 9, xv 10, xv 11, xv 12, xv 13, Value.bool false, Value.tuple #[Value.pointer (some { block := g, off := 0 }), Value.int IntKind.i64 (0 : Int)], Value.agg #[Value.int IntKind.i64 ↑n, Value.int IntKind.i64 B, Value.int IntKind.i64 ↑q, Value.int IntKind.i64 E, Value.int IntKind.i64 F], Value.int IntKind.u64 ↑S, Value.tuple #[Value.pointer (some { block := g, off := 0 }), Value.int IntKind.i64 (0 : Int)], Value.pointer (some { block := g, off := 0 }), Value.int IntKind.i64 (0 : Int), Value.tuple #[Value.pointer (some { block := h, off := 0 }), Value.int IntKind.i64 (0 : Int)], Value.agg #[Value.int IntKind.i64 (↑n + (1 : Int)), Value.int IntKind.i64 B, Value.int IntKind.i64 ↑q, Value.int IntKind.i64 E, Value.int IntKind.i64 F], Value.int IntKind.u64 ↑S, Value.tuple #[Value.pointer (some { block := h, off := 0 }), Value.int IntKind.i64 (0 : Int)], Value.pointer (some { block := h, off := 0 }), Value.int IntKind.i64 (0 : Int), Value.int IntKind.i64 (0 : Int), Value.bool false, Value.bool false, Value.int IntKind.i64 (0 : Int), Value.bool false, Value.bool false, Value.bool false, Value.pointer (some { block := g, off := 0 }), Value.bool false, Value.bool false, Value.bool false, Value.pointer (some { block := h, off := 0 }), Value.bool false, Value.bool false, Value.pointer (some { block := w.heap.size, off := 0 }), Value.int IntKind.i64 ↑n, Value.int IntKind.i64 ↑i, Value.bool false, u65, u66, u67, u68, u69, u70, u71, u72, u73, u74, xvb 0, xvb 1, xvb 2, xvb 3, xvb 4, xvb 5, xvb 6, xvb 7], []⟩ ∧ Below wr.heap.size wr Wb ∧ Lst gs listed xvb Wb) (by kernel_rfl) ?_ ?_ _ _ _ _ (by kernel_rfl) (of_decide_eq_true (by kernel_rfl)) ⟨fun j => if j = 8 then u4 else undef, rfl, below0 _, Lst.start _ _ _ _⟩
              · rintro listed ac Wb ⟨xvb, rfl, hb, hG⟩ i hi hd
                have hin : i < 9 := hi
                clear hi
                have hcase : i = 0 ∨ i = 1 ∨ i = 2 ∨ i = 3 ∨ i = 4 ∨ i = 5 ∨ i = 6 ∨ i = 7 ∨ i = 8 := by omega
                rcases hcase with rfl | rfl | rfl | rfl | rfl | rfl | rfl | rfl | rfl
                · refine wpOp_step rfl (fun K' hK => ?_)
                  clear hd hin
                  go_simp
                  exact hK _ _ ⟨updV xvb 0 (Value.pointer (some { block := h, off := 0 })), by simp [updV], hb, hG.same gk.out g0.out _ rfl⟩
                · refine wpOp_step rfl (fun K' hK => ?_)
                  clear hd hin
                  go_simp
                  exact hK _ _ ⟨updV xvb 1 (.pointer (some ⟨w.heap.size, 0, none⟩)), by simp [updV], hb, hG.same gk.out g1.out _ rfl⟩
                · refine wpOp_step rfl (fun K' hK => ?_)
                  simp [Region.binds] at hd
                  have e1 : xvb 1 = .pointer (some ⟨w.heap.size, 0, none⟩) := hG.get g1.out (by simp [hd])
                  obtain ⟨c0, c1, c2, c3, c4⟩ := BZ.out Wb hb
                  clear hd hin
                  go_simp
                  exact hK _ _ ⟨updV xvb 2 (.int .i64 (n : Int)), by simp [updV, e1], hb, hG.same gk.out g2.out _ rfl⟩
                · refine wpOp_step rfl (fun K' hK => ?_)
                  simp [Region.binds] at hd
                  have e0 : xvb 0 = Value.pointer (some { block := h, off := 0 }) := hG.get g0.out (by simp [hd])
                  have e2 : xvb 2 = .int .i64 (n : Int) := hG.get g2.out (by simp [hd])
                  clear hd hin
                  go_simp
                  refine (CO.out Wb hb).mono ?_
                  rintro e w' ⟨v, rfl, hv, hb'⟩
                  go_wp2_with fail
                  exact ⟨updV xvb 3 v, by simp [updV, e0, e2], hb.trans (hb'.mono hb.size), hG.step gk.out hb' g3.out v hv⟩
                · refine wpOp_step rfl (fun K' hK => ?_)
                  simp [Region.binds] at hd
                  have m3 : IsOz wr.heap.size q (ofD S A q n) (xvb 3) Wb := hG.get g3.out (by simp [hd])
                  obtain ⟨a3, c3, e3, h3⟩ := m3
                  clear hd hin
                  go_simp
                  exact hK _ _ ⟨updV xvb 4 (.int .i64 (q : Int)), by simp [updV, e3], hb, hG.same gk.out g4.out _ rfl⟩
                · refine wpOp_step rfl (fun K' hK => ?_)
                  clear hd hin
                  go_simp
                  exact hK _ _ ⟨updV xvb 5 (.pointer (some ⟨w.heap.size, 2, none⟩)), by simp [updV], hb, hG.same gk.out g5.out _ rfl⟩
                · refine wpOp_step rfl (fun K' hK => ?_)
                  simp [Region.binds] at hd
                  have e5 : xvb 5 = .pointer (some ⟨w.heap.size, 2, none⟩) := hG.get g5.out (by simp [hd])
                  obtain ⟨c0, c1, c2, c3, c4⟩ := BZ.out Wb hb
                  clear hd hin
                  go_simp
                  exact hK _ _ ⟨updV xvb 6 (.int .i64 (q : Int)), by simp [updV, e5], hb, hG.same gk.out g6.out _ rfl⟩
                · refine wpOp_step rfl (fun K' hK => ?_)
                  simp [Region.binds] at hd
                  have e4 : xvb 4 = .int .i64 (q : Int) := hG.get g4.out (by simp [hd])
                  have e6 : xvb 6 = .int .i64 (q : Int) := hG.get g6.out (by simp [hd])
                  clear hd hin
                  go_simp
                  exact hK _ _ ⟨updV xvb 7 (.bool true), by simp [updV, e4, e6], hb, hG.same gk.out g7.out _ rfl⟩
                · refine wpOp_step rfl (fun K' hK => ?_)
                  simp [Region.binds] at hd
                  have e7 : xvb 7 = .bool true := hG.get g7.out (by simp [hd])
                  clear hd hin
                  go_simp
                  exact hK _ _ ⟨updV xvb 8 (.bool true), by simp [updV, e7], hb, hG.same gk.out g8.out _ rfl⟩
              · rintro listed ac Wb ⟨xvb, rfl, hb, hG⟩ hall
                have e8 : xvb 8 = .bool true := hG.get g8.out (hall 8 (by decide))
                have XW : Hid (Below wr.heap.size wr Wb) := hb
                clear hall hG hb gk g0 g1 g2 g3 g4 g5 g6 g7 g8
                rw [e8]
                clear e8
                have BF : Hid (Below w.heap.size w Wb) := below_on HB.out XW.out
                clear XW
                go_wp2
                go_ret
                exact ⟨rfl, BF.out⟩
      · clear hp hq hA1 hA2
        refine wp_region_any (by kernel_rfl) ?_
        obtain ⟨gs, hgs⟩ : ∃ gs : List (Value → World → Prop), gs = [IsV (.agg #[.int .i64 N, .int .i64 B, .int .i64 Q, .int .i64 E, .int .i64 F]), IsV (.bool true), IsV (.bool false), IsV (.bool false), IsV (.agg #[.int .i64 (N + 1), .int .i64 B, .int .i64 Q, .int .i64 E, .int .i64 F]), IsV (.bool true), IsV (.bool false), IsV (.bool false), IsV (.bool false), IsV (.agg #[.int .i64 N, .int .i64 B, .int .i64 Q, .int .i64 E, .int .i64 F]), IsV (.int .i64 A1), IsV (.agg #[.int .i64 (N + 1), .int .i64 B, .int .i64 Q, .int .i64 E, .int .i64 F]), IsV (.int .i64 A2), IsV (.bool true), IsV (.bool true)] := ⟨_, rfl⟩
        have g0 : Hid (gs[0]? = some (IsV (.agg #[.int .i64 N, .int .i64 B, .int .i64 Q, .int .i64 E, .int .i64 F]))) := by unfold Hid; rw [hgs]; rfl
        have g1 : Hid (gs[1]? = some (IsV (.bool true))) := by unfold Hid; rw [hgs]; rfl
        have g2 : Hid (gs[2]? = some (IsV (.bool false))) := by unfold Hid; rw [hgs]; rfl
        have g3 : Hid (gs[3]? = some (IsV (.bool false))) := by unfold Hid; rw [hgs]; rfl
        have g4 : Hid (gs[4]? = some (IsV (.agg #[.int .i64 (N + 1), .int .i64 B, .int .i64 Q, .int .i64 E, .int .i64 F]))) := by unfold Hid; rw [hgs]; rfl
        have g5 : Hid (gs[5]? = some (IsV (.bool true))) := by unfold Hid; rw [hgs]; rfl
        have g6 : Hid (gs[6]? = some (IsV (.bool false))) := by unfold Hid; rw [hgs]; rfl
        have g7 : Hid (gs[7]? = some (IsV (.bool false))) := by unfold Hid; rw [hgs]; rfl
        have g8 : Hid (gs[8]? = some (IsV (.bool false))) := by unfold Hid; rw [hgs]; rfl
        have g9 : Hid (gs[9]? = some (IsV (.agg #[.int .i64 N, .int .i64 B, .int .i64 Q, .int .i64 E, .int .i64 F]))) := by unfold Hid; rw [hgs]; rfl
        have g10 : Hid (gs[10]? = some (IsV (.int .i64 A1))) := by unfold Hid; rw [hgs]; rfl
        have g11 : Hid (gs[11]? = some (IsV (.agg #[.int .i64 (N + 1), .int .i64 B, .int .i64 Q, .int .i64 E, .int .i64 F]))) := by unfold Hid; rw [hgs]; rfl
        have g12 : Hid (gs[12]? = some (IsV (.int .i64 A2))) := by unfold Hid; rw [hgs]; rfl
        have g13 : Hid (gs[13]? = some (IsV (.bool true))) := by unfold Hid; rw [hgs]; rfl
        have g14 : Hid (gs[14]? = some (IsV (.bool true))) := by unfold Hid; rw [hgs]; rfl
        have gk : Hid (∀ p ∈ gs, Stays p) := by
          unfold Hid
          rw [hgs]
          simp only [List.forall_mem_cons]
          exact ⟨stays_v _, stays_v _, stays_v _, stays_v _, stays_v _, stays_v _, stays_v _, stays_v _, stays_v _, stays_v _, stays_v _, stays_v _, stays_v _, stays_v _, stays_v _, by simp⟩
        clear hgs
        refine wpAny_inv (fun listed ac Wc => ∃ xvc : Nat → Value, ac = ⟨#[Value.agg #[Value.int IntKind.i64 N0, Value.int IntKind.i64 B, Value.int IntKind.i64 Q, Value.int IntKind.i64 E, Value.int IntKind.i64 F], Value.int IntKind.u64 ↑S, Value.pointer (some { block := w.heap.size, off := 0 }), undef, Value.bool false, Value.pointer (some { block := q5, off := 0 }), undef, undef, undef, undef, undef, Value.bool true, Value.bool false, Value.agg #[Value.int IntKind.i64 N0, Value.int IntKind.i64 B, Value.int IntKind.i64 Q, Value.int IntKind.i64 E, Value.int IntKind.i64 F], Value.agg #[Value.int IntKind.i64 N, Value.int IntKind.i64 B, Value.int IntKind.i64 Q, Value.int IntKind.i64 E, Value.int IntKind.i64 F], Value.agg #[Value.int IntKind.i64 N, Value.int IntKind.i64 B, Value.int IntKind.i64 Q, Value.int IntKind.i64 E, Value.int IntKind.i64 F], Value.pointer (some { block := q5, off := 0 }), Value.int IntKind.i64 N, Value.int IntKind.i64 (N + (1 : Int)), Value.pointer (some { block := q5, off := 0 }), xvc 0, xvc 1, xvc 2, xvc 3, xvc 4, xvc 5, xvc 6, xvc 7, xvc 8, xvc 9, xvc 10, xvc 11, xvc 12, xvc 13, xvc 14, undef, undef, undef, undef, undef, undef, undef, undef, undef, undef, undef, undef, undef, undef, undef, undef, undef, undef, undef, undef, undef, undef, undef, undef, undef, undef, undef, undef, undef, undef, undef, undef, undef, undef, undef, undef, undef, undef, undef, undef, undef, undef, undef, undef, undef, undef, undef, undef], []⟩ ∧ Below w4.heap.size w4 Wc ∧ Lst gs listed xvc Wc) (by kernel_rfl) ?_ ?_ _ _ _ _ (by kernel_rfl) (of_decide_eq_true (by kernel_rfl)) ⟨fun j => undef, rfl, below0 _, Lst.start _ _ _ _⟩
        · rintro listed ac Wc ⟨xvc, rfl, hb, hG⟩ i hi hd
          have hin : i < 15 := hi
          clear hi
          have hcase : i = 0 ∨ i = 1 ∨ i = 2 ∨ i = 3 ∨ i = 4 ∨ i = 5 ∨ i = 6 ∨ i = 7 ∨ i = 8 ∨ i = 9 ∨ i = 10 ∨ i = 11 ∨ i = 12 ∨ i = 13 ∨ i = 14 := by omega
          rcases hcase with rfl | rfl | rfl | rfl | rfl | rfl | rfl | rfl | rfl | rfl | rfl | rfl | rfl | rfl | rfl
          · refine wpOp_step rfl (fun K' hK => ?_)
            obtain ⟨c0, c1, c2, c3, c4⟩ := BX.out Wc hb
            clear hd hin
            go_simp
            exact hK _ _ ⟨updV xvc 0 (.agg #[.int .i64 N, .int .i64 B, .int .i64 Q, .int .i64 E, .int .i64 F]), by simp [updV], hb, hG.same gk.out g0.out _ rfl⟩
          · refine wpOp_step rfl (fun K' hK => ?_)
            simp [Region.binds] at hd
            have e0 : xvc 0 = .agg #[.int .i64 N, .int .i64 B, .int .i64 Q, .int .i64 E, .int .i64 F] := hG.get g0.out (by simp [hd])
            clear hd hin
            go_simp
            refine (MP.out Wc hb).mono ?_
            rintro e w' ⟨v, rfl, hv, hb'⟩
            go_wp2_with fail
            exact ⟨updV xvc 1 v, by simp [updV, e0], hb.trans (hb'.mono hb.size), hG.step gk.out hb' g1.out v hv⟩
          · refine wpOp_step rfl (fun K' hK => ?_)
            simp [Region.binds] at hd
            have e1 : xvc 1 = .bool true := hG.get g1.out (by simp [hd])
            clear hd hin
            go_simp
            exact hK _ _ ⟨updV xvc 2 (.bool false), by simp [updV, e1], hb, hG.same gk.out g2.out _ rfl⟩
          · refine wpOp_step rfl (fun K' hK => ?_)
            simp [Region.binds] at hd
            have e2 : xvc 2 = .bool false := hG.get g2.out (by simp [hd])
            clear hd hin
            go_simp
            exact hK _ _ ⟨updV xvc 3 (.bool false), by simp [updV, e2], hb, hG.same gk.out g3.out _ rfl⟩
          · refine wpOp_step rfl (fun K' hK => ?_)
            simp [Region.binds] at hd
            have e3 : xvc 3 = .bool false := hG.get g3.out (by simp [hd])
            obtain ⟨c0, c1, c2, c3, c4⟩ := BY.out Wc hb
            clear hd hin
            go_simp
            exact hK _ _ ⟨updV xvc 4 (.agg #[.int .i64 (N + 1), .int .i64 B, .int .i64 Q, .int .i64 E, .int .i64 F]), by simp [updV, e3], hb, hG.same gk.out g4.out _ rfl⟩
          · refine wpOp_step rfl (fun K' hK => ?_)
            simp [Region.binds] at hd
            have e4 : xvc 4 = .agg #[.int .i64 (N + 1), .int .i64 B, .int .i64 Q, .int .i64 E, .int .i64 F] := hG.get g4.out (by simp [hd])
            have e3 : xvc 3 = .bool false := hG.get g3.out (by simp [hd])
            clear hd hin
            go_simp
            refine (MQ.out Wc hb).mono ?_
            rintro e w' ⟨v, rfl, hv, hb'⟩
            go_wp2_with fail
            exact ⟨updV xvc 5 v, by simp [updV, e4, e3], hb.trans (hb'.mono hb.size), hG.step gk.out hb' g5.out v hv⟩
          · refine wpOp_step rfl (fun K' hK => ?_)
            simp [Region.binds] at hd
            have e5 : xvc 5 = .bool true := hG.get g5.out (by simp [hd])
            have e3 : xvc 3 = .bool false := hG.get g3.out (by simp [hd])
            clear hd hin
            go_simp
            exact hK _ _ ⟨updV xvc 6 (.bool false), by simp [updV, e5, e3], hb, hG.same gk.out g6.out _ rfl⟩
          · refine wpOp_step rfl (fun K' hK => ?_)
            simp [Region.binds] at hd
            have e3 : xvc 3 = .bool false := hG.get g3.out (by simp [hd])
            have e6 : xvc 6 = .bool false := hG.get g6.out (by simp [hd])
            clear hd hin
            go_simp
            exact hK _ _ ⟨updV xvc 7 (.bool false), by simp [updV, e3, e6], hb, hG.same gk.out g7.out _ rfl⟩
          · refine wpOp_step rfl (fun K' hK => ?_)
            simp [Region.binds] at hd
            have e7 : xvc 7 = .bool false := hG.get g7.out (by simp [hd])
            clear hd hin
            go_simp
            exact hK _ _ ⟨updV xvc 8 (.bool false), by simp [updV, e7], hb, hG.same gk.out g8.out _ rfl⟩
          · refine wpOp_step rfl (fun K' hK => ?_)
            simp [Region.binds] at hd
            have e8 : xvc 8 = .bool false := hG.get g8.out (by simp [hd])
            obtain ⟨c0, c1, c2, c3, c4⟩ := BX.out Wc hb
            clear hd hin
            go_simp
            exact hK _ _ ⟨updV xvc 9 (.agg #[.int .i64 N, .int .i64 B, .int .i64 Q, .int .i64 E, .int .i64 F]), by simp [updV, e8], hb, hG.same gk.out g9.out _ rfl⟩
          · refine wpOp_step rfl (fun K' hK => ?_)
            simp [Region.binds] at hd
            have e9 : xvc 9 = .agg #[.int .i64 N, .int .i64 B, .int .i64 Q, .int .i64 E, .int .i64 F] := hG.get g9.out (by simp [hd])
            have e8 : xvc 8 = .bool false := hG.get g8.out (by simp [hd])
            clear hd hin
            go_simp
            refine (AP.out Wc hb).mono ?_
            rintro e w' ⟨v, rfl, hv, hb'⟩
            go_wp2_with fail
            exact ⟨updV xvc 10 v, by simp [updV, e9, e8], hb.trans (hb'.mono hb.size), hG.step gk.out hb' g10.out v hv⟩
          · refine wpOp_step rfl (fun K' hK => ?_)
            simp [Region.binds] at hd
            have e8 : xvc 8 = .bool false := hG.get g8.out (by simp [hd])
            obtain ⟨c0, c1, c2, c3, c4⟩ := BY.out Wc hb
            clear hd hin
            go_simp
            exact hK _ _ ⟨updV xvc 11 (.agg #[.int .i64 (N + 1), .int .i64 B, .int .i64 Q, .int .i64 E, .int .i64 F]), by simp [updV, e8], hb, hG.same gk.out g11.out _ rfl⟩
          · refine wpOp_step rfl (fun K' hK => ?_)
            simp [Region.binds] at hd
            have e11 : xvc 11 = .agg #[.int .i64 (N + 1), .int .i64 B, .int .i64 Q, .int .i64 E, .int .i64 F] := hG.get g11.out (by simp [hd])
            have e8 : xvc 8 = .bool false := hG.get g8.out (by simp [hd])
            clear hd hin
            go_simp
            refine (AQ.out Wc hb).mono ?_
            rintro e w' ⟨v, rfl, hv, hb'⟩
            go_wp2_with fail
            exact ⟨updV xvc 12 v, by simp [updV, e11, e8], hb.trans (hb'.mono hb.size), hG.step gk.out hb' g12.out v hv⟩
          · refine wpOp_step rfl (fun K' hK => ?_)
            simp [Region.binds] at hd
            have e10 : xvc 10 = .int .i64 A1 := hG.get g10.out (by simp [hd])
            have e12 : xvc 12 = .int .i64 A2 := hG.get g12.out (by simp [hd])
            have e8 : xvc 8 = .bool false := hG.get g8.out (by simp [hd])
            clear hd hin
            go_simp
            exact hK _ _ ⟨updV xvc 13 (.bool true), by simp [updV, e10, e12, e8, hAA], hb, hG.same gk.out g13.out _ rfl⟩
          · refine wpOp_step rfl (fun K' hK => ?_)
            simp [Region.binds] at hd
            have e8 : xvc 8 = .bool false := hG.get g8.out (by simp [hd])
            have e13 : xvc 13 = .bool true := hG.get g13.out (by simp [hd])
            clear hd hin
            go_simp
            exact hK _ _ ⟨updV xvc 14 (.bool true), by simp [updV, e8, e13], hb, hG.same gk.out g14.out _ rfl⟩
        · rintro listed ac Wc ⟨xvc, rfl, hb, hG⟩ hall
          have e14 : xvc 14 = .bool true := hG.get g14.out (hall 14 (by decide))
          have XW : Hid (Below w4.heap.size w4 Wc) := hb
          clear hall hG hb gk g0 g1 g2 g3 g4 g5 g6 g7 g8 g9 g10 g11 g12 g13 g14
          rw [e14]
          clear e14
          have BF : Hid (Below w.heap.size w Wc) := below_on B4.out XW.out
          clear XW BX BY B4 P4 R4 MP MQ AP AQ
          go_wp2
          go_ret
          exact ⟨rfl, BF.out⟩
    · have MQ : Hid (∀ W, Below w4.heap.size w4 W → Calls Try.prog 24 #[.agg #[.int .i64 (N + 1), .int .i64 B, .int .i64 Q, .int .i64 E, .int .i64 F]] W fun e w' => ∃ v, e = .returned v ∧ IsV (.bool false) v w' ∧ Below W.heap.size W w') := by
        intro W _
        refine (rmay_no (N + 1) B Q E F W hq).mono ?_
        rintro e w' ⟨rfl, hb⟩
        exact ⟨_, rfl, rfl, hb⟩
      clear hp hq
      refine wp_region_any (by kernel_rfl) ?_
      obtain ⟨gs, hgs⟩ : ∃ gs : List (Value → World → Prop), gs = [IsV (.agg #[.int .i64 N, .int .i64 B, .int .i64 Q, .int .i64 E, .int .i64 F]), IsV (.bool true), IsV (.bool false), IsV (.bool false), IsV (.agg #[.int .i64 (N + 1), .int .i64 B, .int .i64 Q, .int .i64 E, .int .i64 F]), IsV (.bool false), IsV (.bool true), IsV (.bool true), IsV (.bool true), IsV (undef), IsV (undef), IsV (undef), IsV (undef), IsV (undef), IsV (Value.bool true)] := ⟨_, rfl⟩
      have g0 : Hid (gs[0]? = some (IsV (.agg #[.int .i64 N, .int .i64 B, .int .i64 Q, .int .i64 E, .int .i64 F]))) := by unfold Hid; rw [hgs]; rfl
      have g1 : Hid (gs[1]? = some (IsV (.bool true))) := by unfold Hid; rw [hgs]; rfl
      have g2 : Hid (gs[2]? = some (IsV (.bool false))) := by unfold Hid; rw [hgs]; rfl
      have g3 : Hid (gs[3]? = some (IsV (.bool false))) := by unfold Hid; rw [hgs]; rfl
      have g4 : Hid (gs[4]? = some (IsV (.agg #[.int .i64 (N + 1), .int .i64 B, .int .i64 Q, .int .i64 E, .int .i64 F]))) := by unfold Hid; rw [hgs]; rfl
      have g5 : Hid (gs[5]? = some (IsV (.bool false))) := by unfold Hid; rw [hgs]; rfl
      have g6 : Hid (gs[6]? = some (IsV (.bool true))) := by unfold Hid; rw [hgs]; rfl
      have g7 : Hid (gs[7]? = some (IsV (.bool true))) := by unfold Hid; rw [hgs]; rfl
      have g8 : Hid (gs[8]? = some (IsV (.bool true))) := by unfold Hid; rw [hgs]; rfl
      have g9 : Hid (gs[9]? = some (IsV (undef))) := by unfold Hid; rw [hgs]; rfl
      have g10 : Hid (gs[10]? = some (IsV (undef))) := by unfold Hid; rw [hgs]; rfl
      have g11 : Hid (gs[11]? = some (IsV (undef))) := by unfold Hid; rw [hgs]; rfl
      have g12 : Hid (gs[12]? = some (IsV (undef))) := by unfold Hid; rw [hgs]; rfl
      have g13 : Hid (gs[13]? = some (IsV (undef))) := by unfold Hid; rw [hgs]; rfl
      have g14 : Hid (gs[14]? = some (IsV (Value.bool true))) := by unfold Hid; rw [hgs]; rfl
      have gk : Hid (∀ p ∈ gs, Stays p) := by
        unfold Hid
        rw [hgs]
        simp only [List.forall_mem_cons]
        exact ⟨stays_v _, stays_v _, stays_v _, stays_v _, stays_v _, stays_v _, stays_v _, stays_v _, stays_v _, stays_v _, stays_v _, stays_v _, stays_v _, stays_v _, stays_v _, by simp⟩
      clear hgs
      refine wpAny_inv (fun listed ac Wd => ∃ xvd : Nat → Value, ac = ⟨#[Value.agg #[Value.int IntKind.i64 N0, Value.int IntKind.i64 B, Value.int IntKind.i64 Q, Value.int IntKind.i64 E, Value.int IntKind.i64 F], Value.int IntKind.u64 ↑S, Value.pointer (some { block := w.heap.size, off := 0 }), undef, Value.bool false, Value.pointer (some { block := q5, off := 0 }), undef, undef, undef, undef, undef, Value.bool true, Value.bool false, Value.agg #[Value.int IntKind.i64 N0, Value.int IntKind.i64 B, Value.int IntKind.i64 Q, Value.int IntKind.i64 E, Value.int IntKind.i64 F], Value.agg #[Value.int IntKind.i64 N, Value.int IntKind.i64 B, Value.int IntKind.i64 Q, Value.int IntKind.i64 E, Value.int IntKind.i64 F], Value.agg #[Value.int IntKind.i64 N, Value.int IntKind.i64 B, Value.int IntKind.i64 Q, Value.int IntKind.i64 E, Value.int IntKind.i64 F], Value.pointer (some { block := q5, off := 0 }), Value.int IntKind.i64 N, Value.int IntKind.i64 (N + (1 : Int)), Value.pointer (some { block := q5, off := 0 }), xvd 0, xvd 1, xvd 2, xvd 3, xvd 4, xvd 5, xvd 6, xvd 7, xvd 8, xvd 9, xvd 10, xvd 11, xvd 12, xvd 13, xvd 14, undef, undef, undef, undef, undef, undef, undef, undef, undef, undef, undef, undef, undef, undef, undef, undef, undef, undef, undef, undef, undef, undef, undef, undef, undef, undef, undef, undef, undef, undef, undef, undef, undef, undef, undef, undef, undef, undef, undef, undef, undef, undef, undef, undef, undef, undef, undef, undef], []⟩ ∧ Below w4.heap.size w4 Wd ∧ Lst gs listed xvd Wd) (by kernel_rfl) ?_ ?_ _ _ _ _ (by kernel_rfl) (of_decide_eq_true (by kernel_rfl)) ⟨fun j => undef, rfl, below0 _, Lst.start _ _ _ _⟩
      · rintro listed ac Wd ⟨xvd, rfl, hb, hG⟩ i hi hd
        have hin : i < 15 := hi
        clear hi
        have hcase : i = 0 ∨ i = 1 ∨ i = 2 ∨ i = 3 ∨ i = 4 ∨ i = 5 ∨ i = 6 ∨ i = 7 ∨ i = 8 ∨ i = 9 ∨ i = 10 ∨ i = 11 ∨ i = 12 ∨ i = 13 ∨ i = 14 := by omega
        rcases hcase with rfl | rfl | rfl | rfl | rfl | rfl | rfl | rfl | rfl | rfl | rfl | rfl | rfl | rfl | rfl
        · refine wpOp_step rfl (fun K' hK => ?_)
          obtain ⟨c0, c1, c2, c3, c4⟩ := BX.out Wd hb
          clear hd hin
          go_simp
          exact hK _ _ ⟨updV xvd 0 (.agg #[.int .i64 N, .int .i64 B, .int .i64 Q, .int .i64 E, .int .i64 F]), by simp [updV], hb, hG.same gk.out g0.out _ rfl⟩
        · refine wpOp_step rfl (fun K' hK => ?_)
          simp [Region.binds] at hd
          have e0 : xvd 0 = .agg #[.int .i64 N, .int .i64 B, .int .i64 Q, .int .i64 E, .int .i64 F] := hG.get g0.out (by simp [hd])
          clear hd hin
          go_simp
          refine (MP.out Wd hb).mono ?_
          rintro e w' ⟨v, rfl, hv, hb'⟩
          go_wp2_with fail
          exact ⟨updV xvd 1 v, by simp [updV, e0], hb.trans (hb'.mono hb.size), hG.step gk.out hb' g1.out v hv⟩
        · refine wpOp_step rfl (fun K' hK => ?_)
          simp [Region.binds] at hd
          have e1 : xvd 1 = .bool true := hG.get g1.out (by simp [hd])
          clear hd hin
          go_simp
          exact hK _ _ ⟨updV xvd 2 (.bool false), by simp [updV, e1], hb, hG.same gk.out g2.out _ rfl⟩
        · refine wpOp_step rfl (fun K' hK => ?_)
          simp [Region.binds] at hd
          have e2 : xvd 2 = .bool false := hG.get g2.out (by simp [hd])
          clear hd hin
          go_simp
          exact hK _ _ ⟨updV xvd 3 (.bool false), by simp [updV, e2], hb, hG.same gk.out g3.out _ rfl⟩
        · refine wpOp_step rfl (fun K' hK => ?_)
          simp [Region.binds] at hd
          have e3 : xvd 3 = .bool false := hG.get g3.out (by simp [hd])
          obtain ⟨c0, c1, c2, c3, c4⟩ := BY.out Wd hb
          clear hd hin
          go_simp
          exact hK _ _ ⟨updV xvd 4 (.agg #[.int .i64 (N + 1), .int .i64 B, .int .i64 Q, .int .i64 E, .int .i64 F]), by simp [updV, e3], hb, hG.same gk.out g4.out _ rfl⟩
        · refine wpOp_step rfl (fun K' hK => ?_)
          simp [Region.binds] at hd
          have e4 : xvd 4 = .agg #[.int .i64 (N + 1), .int .i64 B, .int .i64 Q, .int .i64 E, .int .i64 F] := hG.get g4.out (by simp [hd])
          have e3 : xvd 3 = .bool false := hG.get g3.out (by simp [hd])
          clear hd hin
          go_simp
          refine (MQ.out Wd hb).mono ?_
          rintro e w' ⟨v, rfl, hv, hb'⟩
          go_wp2_with fail
          exact ⟨updV xvd 5 v, by simp [updV, e4, e3], hb.trans (hb'.mono hb.size), hG.step gk.out hb' g5.out v hv⟩
        · refine wpOp_step rfl (fun K' hK => ?_)
          simp [Region.binds] at hd
          have e5 : xvd 5 = .bool false := hG.get g5.out (by simp [hd])
          have e3 : xvd 3 = .bool false := hG.get g3.out (by simp [hd])
          clear hd hin
          go_simp
          exact hK _ _ ⟨updV xvd 6 (.bool true), by simp [updV, e5, e3], hb, hG.same gk.out g6.out _ rfl⟩
        · refine wpOp_step rfl (fun K' hK => ?_)
          simp [Region.binds] at hd
          have e3 : xvd 3 = .bool false := hG.get g3.out (by simp [hd])
          have e6 : xvd 6 = .bool true := hG.get g6.out (by simp [hd])
          clear hd hin
          go_simp
          exact hK _ _ ⟨updV xvd 7 (.bool true), by simp [updV, e3, e6], hb, hG.same gk.out g7.out _ rfl⟩
        · refine wpOp_step rfl (fun K' hK => ?_)
          simp [Region.binds] at hd
          have e7 : xvd 7 = .bool true := hG.get g7.out (by simp [hd])
          clear hd hin
          go_simp
          exact hK _ _ ⟨updV xvd 8 (.bool true), by simp [updV, e7], hb, hG.same gk.out g8.out _ rfl⟩
        · refine wpOp_step rfl (fun K' hK => ?_)
          simp [Region.binds] at hd
          have e8 : xvd 8 = .bool true := hG.get g8.out (by simp [hd])
          clear hd hin
          go_simp
          exact hK _ _ ⟨updV xvd 9 (undef), by simp [updV, e8], hb, hG.same gk.out g9.out _ rfl⟩
        · refine wpOp_step rfl (fun K' hK => ?_)
          simp [Region.binds] at hd
          have e9 : xvd 9 = undef := hG.get g9.out (by simp [hd])
          have e8 : xvd 8 = .bool true := hG.get g8.out (by simp [hd])
          clear hd hin
          go_simp
          exact hK _ _ ⟨updV xvd 10 (undef), by simp [updV, e9, e8], hb, hG.same gk.out g10.out _ rfl⟩
        · refine wpOp_step rfl (fun K' hK => ?_)
          simp [Region.binds] at hd
          have e8 : xvd 8 = .bool true := hG.get g8.out (by simp [hd])
          clear hd hin
          go_simp
          exact hK _ _ ⟨updV xvd 11 (undef), by simp [updV, e8], hb, hG.same gk.out g11.out _ rfl⟩
        · refine wpOp_step rfl (fun K' hK => ?_)
          simp [Region.binds] at hd
          have e11 : xvd 11 = undef := hG.get g11.out (by simp [hd])
          have e8 : xvd 8 = .bool true := hG.get g8.out (by simp [hd])
          clear hd hin
          go_simp
          exact hK _ _ ⟨updV xvd 12 (undef), by simp [updV, e11, e8], hb, hG.same gk.out g12.out _ rfl⟩
        · refine wpOp_step rfl (fun K' hK => ?_)
          simp [Region.binds] at hd
          have e10 : xvd 10 = undef := hG.get g10.out (by simp [hd])
          have e12 : xvd 12 = undef := hG.get g12.out (by simp [hd])
          have e8 : xvd 8 = .bool true := hG.get g8.out (by simp [hd])
          clear hd hin
          go_simp
          exact hK _ _ ⟨updV xvd 13 (undef), by simp [updV, e10, e12, e8], hb, hG.same gk.out g13.out _ rfl⟩
        · refine wpOp_step rfl (fun K' hK => ?_)
          simp [Region.binds] at hd
          have e8 : xvd 8 = .bool true := hG.get g8.out (by simp [hd])
          have e13 : xvd 13 = undef := hG.get g13.out (by simp [hd])
          clear hd hin
          go_simp
          exact hK _ _ ⟨updV xvd 14 (Value.bool true), by simp [updV, e8, e13], hb, hG.same gk.out g14.out _ rfl⟩
      · rintro listed ac Wd ⟨xvd, rfl, hb, hG⟩ hall
        have e14 : xvd 14 = Value.bool true := hG.get g14.out (hall 14 (by decide))
        have XW : Hid (Below w4.heap.size w4 Wd) := hb
        clear hall hG hb gk g0 g1 g2 g3 g4 g5 g6 g7 g8 g9 g10 g11 g12 g13 g14
        rw [e14]
        clear e14
        have BF : Hid (Below w.heap.size w Wd) := below_on B4.out XW.out
        clear XW BX BY B4 P4 R4 MP MQ
        go_wp2
        go_ret
        exact ⟨rfl, BF.out⟩
  · have MP : Hid (∀ W, Below w4.heap.size w4 W → Calls Try.prog 24 #[.agg #[.int .i64 N, .int .i64 B, .int .i64 Q, .int .i64 E, .int .i64 F]] W fun e w' => ∃ v, e = .returned v ∧ IsV (.bool false) v w' ∧ Below W.heap.size W w') := by
      intro W _
      refine (rmay_no N B Q E F W hp).mono ?_
      rintro e w' ⟨rfl, hb⟩
      exact ⟨_, rfl, rfl, hb⟩
    clear hp
    refine wp_region_any (by kernel_rfl) ?_
    obtain ⟨gs, hgs⟩ : ∃ gs : List (Value → World → Prop), gs = [IsV (.agg #[.int .i64 N, .int .i64 B, .int .i64 Q, .int .i64 E, .int .i64 F]), IsV (.bool false), IsV (.bool true), IsV (.bool true), IsV (undef), IsV (undef), IsV (undef), IsV (Value.bool true), IsV (Value.bool true), IsV (undef), IsV (undef), IsV (undef), IsV (undef), IsV (undef), IsV (Value.bool true)] := ⟨_, rfl⟩
    have g0 : Hid (gs[0]? = some (IsV (.agg #[.int .i64 N, .int .i64 B, .int .i64 Q, .int .i64 E, .int .i64 F]))) := by unfold Hid; rw [hgs]; rfl
    have g1 : Hid (gs[1]? = some (IsV (.bool false))) := by unfold Hid; rw [hgs]; rfl
    have g2 : Hid (gs[2]? = some (IsV (.bool true))) := by unfold Hid; rw [hgs]; rfl
    have g3 : Hid (gs[3]? = some (IsV (.bool true))) := by unfold Hid; rw [hgs]; rfl
    have g4 : Hid (gs[4]? = some (IsV (undef))) := by unfold Hid; rw [hgs]; rfl
    have g5 : Hid (gs[5]? = some (IsV (undef))) := by unfold Hid; rw [hgs]; rfl
    have g6 : Hid (gs[6]? = some (IsV (undef))) := by unfold Hid; rw [hgs]; rfl
    have g7 : Hid (gs[7]? = some (IsV (Value.bool true))) := by unfold Hid; rw [hgs]; rfl
    have g8 : Hid (gs[8]? = some (IsV (Value.bool true))) := by unfold Hid; rw [hgs]; rfl
    have g9 : Hid (gs[9]? = some (IsV (undef))) := by unfold Hid; rw [hgs]; rfl
    have g10 : Hid (gs[10]? = some (IsV (undef))) := by unfold Hid; rw [hgs]; rfl
    have g11 : Hid (gs[11]? = some (IsV (undef))) := by unfold Hid; rw [hgs]; rfl
    have g12 : Hid (gs[12]? = some (IsV (undef))) := by unfold Hid; rw [hgs]; rfl
    have g13 : Hid (gs[13]? = some (IsV (undef))) := by unfold Hid; rw [hgs]; rfl
    have g14 : Hid (gs[14]? = some (IsV (Value.bool true))) := by unfold Hid; rw [hgs]; rfl
    have gk : Hid (∀ p ∈ gs, Stays p) := by
      unfold Hid
      rw [hgs]
      simp only [List.forall_mem_cons]
      exact ⟨stays_v _, stays_v _, stays_v _, stays_v _, stays_v _, stays_v _, stays_v _, stays_v _, stays_v _, stays_v _, stays_v _, stays_v _, stays_v _, stays_v _, stays_v _, by simp⟩
    clear hgs
    refine wpAny_inv (fun listed ac We => ∃ xve : Nat → Value, ac = ⟨#[Value.agg #[Value.int IntKind.i64 N0, Value.int IntKind.i64 B, Value.int IntKind.i64 Q, Value.int IntKind.i64 E, Value.int IntKind.i64 F], Value.int IntKind.u64 ↑S, Value.pointer (some { block := w.heap.size, off := 0 }), undef, Value.bool false, Value.pointer (some { block := q5, off := 0 }), undef, undef, undef, undef, undef, Value.bool true, Value.bool false, Value.agg #[Value.int IntKind.i64 N0, Value.int IntKind.i64 B, Value.int IntKind.i64 Q, Value.int IntKind.i64 E, Value.int IntKind.i64 F], Value.agg #[Value.int IntKind.i64 N, Value.int IntKind.i64 B, Value.int IntKind.i64 Q, Value.int IntKind.i64 E, Value.int IntKind.i64 F], Value.agg #[Value.int IntKind.i64 N, Value.int IntKind.i64 B, Value.int IntKind.i64 Q, Value.int IntKind.i64 E, Value.int IntKind.i64 F], Value.pointer (some { block := q5, off := 0 }), Value.int IntKind.i64 N, Value.int IntKind.i64 (N + (1 : Int)), Value.pointer (some { block := q5, off := 0 }), xve 0, xve 1, xve 2, xve 3, xve 4, xve 5, xve 6, xve 7, xve 8, xve 9, xve 10, xve 11, xve 12, xve 13, xve 14, undef, undef, undef, undef, undef, undef, undef, undef, undef, undef, undef, undef, undef, undef, undef, undef, undef, undef, undef, undef, undef, undef, undef, undef, undef, undef, undef, undef, undef, undef, undef, undef, undef, undef, undef, undef, undef, undef, undef, undef, undef, undef, undef, undef, undef, undef, undef, undef], []⟩ ∧ Below w4.heap.size w4 We ∧ Lst gs listed xve We) (by kernel_rfl) ?_ ?_ _ _ _ _ (by kernel_rfl) (of_decide_eq_true (by kernel_rfl)) ⟨fun j => undef, rfl, below0 _, Lst.start _ _ _ _⟩
    · rintro listed ac We ⟨xve, rfl, hb, hG⟩ i hi hd
      have hin : i < 15 := hi
      clear hi
      have hcase : i = 0 ∨ i = 1 ∨ i = 2 ∨ i = 3 ∨ i = 4 ∨ i = 5 ∨ i = 6 ∨ i = 7 ∨ i = 8 ∨ i = 9 ∨ i = 10 ∨ i = 11 ∨ i = 12 ∨ i = 13 ∨ i = 14 := by omega
      rcases hcase with rfl | rfl | rfl | rfl | rfl | rfl | rfl | rfl | rfl | rfl | rfl | rfl | rfl | rfl | rfl
      · refine wpOp_step rfl (fun K' hK => ?_)
        obtain ⟨c0, c1, c2, c3, c4⟩ := BX.out We hb
        clear hd hin
        go_simp
        exact hK _ _ ⟨updV xve 0 (.agg #[.int .i64 N, .int .i64 B, .int .i64 Q, .int .i64 E, .int .i64 F]), by simp [updV], hb, hG.same gk.out g0.out _ rfl⟩
      · refine wpOp_step rfl (fun K' hK => ?_)
        simp [Region.binds] at hd
        have e0 : xve 0 = .agg #[.int .i64 N, .int .i64 B, .int .i64 Q, .int .i64 E, .int .i64 F] := hG.get g0.out (by simp [hd])
        clear hd hin
        go_simp
        refine (MP.out We hb).mono ?_
        rintro e w' ⟨v, rfl, hv, hb'⟩
        go_wp2_with fail
        exact ⟨updV xve 1 v, by simp [updV, e0], hb.trans (hb'.mono hb.size), hG.step gk.out hb' g1.out v hv⟩
      · refine wpOp_step rfl (fun K' hK => ?_)
        simp [Region.binds] at hd
        have e1 : xve 1 = .bool false := hG.get g1.out (by simp [hd])
        clear hd hin
        go_simp
        exact hK _ _ ⟨updV xve 2 (.bool true), by simp [updV, e1], hb, hG.same gk.out g2.out _ rfl⟩
      · refine wpOp_step rfl (fun K' hK => ?_)
        simp [Region.binds] at hd
        have e2 : xve 2 = .bool true := hG.get g2.out (by simp [hd])
        clear hd hin
        go_simp
        exact hK _ _ ⟨updV xve 3 (.bool true), by simp [updV, e2], hb, hG.same gk.out g3.out _ rfl⟩
      · refine wpOp_step rfl (fun K' hK => ?_)
        simp [Region.binds] at hd
        have e3 : xve 3 = .bool true := hG.get g3.out (by simp [hd])
        clear hd hin
        go_simp
        exact hK _ _ ⟨updV xve 4 (undef), by simp [updV, e3], hb, hG.same gk.out g4.out _ rfl⟩
      · refine wpOp_step rfl (fun K' hK => ?_)
        simp [Region.binds] at hd
        have e4 : xve 4 = undef := hG.get g4.out (by simp [hd])
        have e3 : xve 3 = .bool true := hG.get g3.out (by simp [hd])
        clear hd hin
        go_simp
        exact hK _ _ ⟨updV xve 5 (undef), by simp [updV, e4, e3], hb, hG.same gk.out g5.out _ rfl⟩
      · refine wpOp_step rfl (fun K' hK => ?_)
        simp [Region.binds] at hd
        have e5 : xve 5 = undef := hG.get g5.out (by simp [hd])
        have e3 : xve 3 = .bool true := hG.get g3.out (by simp [hd])
        clear hd hin
        go_simp
        exact hK _ _ ⟨updV xve 6 (undef), by simp [updV, e5, e3], hb, hG.same gk.out g6.out _ rfl⟩
      · refine wpOp_step rfl (fun K' hK => ?_)
        simp [Region.binds] at hd
        have e3 : xve 3 = .bool true := hG.get g3.out (by simp [hd])
        have e6 : xve 6 = undef := hG.get g6.out (by simp [hd])
        clear hd hin
        go_simp
        exact hK _ _ ⟨updV xve 7 (Value.bool true), by simp [updV, e3, e6], hb, hG.same gk.out g7.out _ rfl⟩
      · refine wpOp_step rfl (fun K' hK => ?_)
        simp [Region.binds] at hd
        have e7 : xve 7 = Value.bool true := hG.get g7.out (by simp [hd])
        clear hd hin
        go_simp
        exact hK _ _ ⟨updV xve 8 (Value.bool true), by simp [updV, e7], hb, hG.same gk.out g8.out _ rfl⟩
      · refine wpOp_step rfl (fun K' hK => ?_)
        simp [Region.binds] at hd
        have e8 : xve 8 = Value.bool true := hG.get g8.out (by simp [hd])
        clear hd hin
        go_simp
        exact hK _ _ ⟨updV xve 9 (undef), by simp [updV, e8], hb, hG.same gk.out g9.out _ rfl⟩
      · refine wpOp_step rfl (fun K' hK => ?_)
        simp [Region.binds] at hd
        have e9 : xve 9 = undef := hG.get g9.out (by simp [hd])
        have e8 : xve 8 = Value.bool true := hG.get g8.out (by simp [hd])
        clear hd hin
        go_simp
        exact hK _ _ ⟨updV xve 10 (undef), by simp [updV, e9, e8], hb, hG.same gk.out g10.out _ rfl⟩
      · refine wpOp_step rfl (fun K' hK => ?_)
        simp [Region.binds] at hd
        have e8 : xve 8 = Value.bool true := hG.get g8.out (by simp [hd])
        clear hd hin
        go_simp
        exact hK _ _ ⟨updV xve 11 (undef), by simp [updV, e8], hb, hG.same gk.out g11.out _ rfl⟩
      · refine wpOp_step rfl (fun K' hK => ?_)
        simp [Region.binds] at hd
        have e11 : xve 11 = undef := hG.get g11.out (by simp [hd])
        have e8 : xve 8 = Value.bool true := hG.get g8.out (by simp [hd])
        clear hd hin
        go_simp
        exact hK _ _ ⟨updV xve 12 (undef), by simp [updV, e11, e8], hb, hG.same gk.out g12.out _ rfl⟩
      · refine wpOp_step rfl (fun K' hK => ?_)
        simp [Region.binds] at hd
        have e10 : xve 10 = undef := hG.get g10.out (by simp [hd])
        have e12 : xve 12 = undef := hG.get g12.out (by simp [hd])
        have e8 : xve 8 = Value.bool true := hG.get g8.out (by simp [hd])
        clear hd hin
        go_simp
        exact hK _ _ ⟨updV xve 13 (undef), by simp [updV, e10, e12, e8], hb, hG.same gk.out g13.out _ rfl⟩
      · refine wpOp_step rfl (fun K' hK => ?_)
        simp [Region.binds] at hd
        have e8 : xve 8 = Value.bool true := hG.get g8.out (by simp [hd])
        have e13 : xve 13 = undef := hG.get g13.out (by simp [hd])
        clear hd hin
        go_simp
        exact hK _ _ ⟨updV xve 14 (Value.bool true), by simp [updV, e8, e13], hb, hG.same gk.out g14.out _ rfl⟩
    · rintro listed ac We ⟨xve, rfl, hb, hG⟩ hall
      have e14 : xve 14 = Value.bool true := hG.get g14.out (hall 14 (by decide))
      have XW : Hid (Below w4.heap.size w4 We) := hb
      clear hall hG hb gk g0 g1 g2 g3 g4 g5 g6 g7 g8 g9 g10 g11 g12 g13 g14
      rw [e14]
      clear e14
      have BF : Hid (Below w.heap.size w We) := below_on B4.out XW.out
      clear XW BX BY B4 P4 R4 MP
      go_wp2
      go_ret
      exact ⟨rfl, BF.out⟩

theorem outerMore_law (N B Q E F : Int) (S : Int) (w : World) (h : Ok .i64 N ∧ Ok .i64 B ∧ Ok .i64 Q ∧ Ok .i64 E ∧ Ok .i64 F) (hS : (Lit.int .u64 S).wf = true) :
    Calls Try.prog 9 #[.agg #[.int .i64 N, .int .i64 B, .int .i64 Q, .int .i64 E, .int .i64 F], .int .u64 S] w fun e w' => e = .returned (.bool true) ∧ Below w.heap.size w w' := by
  simp [Lit.wf, IntKind.min, IntKind.max, IntKind.bits, IntKind.signed] at hS
  obtain ⟨s, rfl⟩ : ∃ s : Nat, S = s := ⟨S.toNat, by omega⟩
  exact outerMore_walk N B Q E F s w (by omega) h.1

end Go.Proofs.Ythlladpappldbaa
