/-
  ComposeHolds.
-/
import Derived.Test.YtehpbnakdadedaaCBlks
import Derived.Test.YtehpbnakdadedaaZOut
namespace Go.Proofs.Ytehpbnakdadedaa
open Go.RowKit
set_option linter.unusedVariables false

set_option maxRecDepth 100000 in
set_option maxHeartbeats 4000000 in
theorem composeHolds_walk (N B Q E F : Int) (S : Nat) (ov : Value) (l : List UInt8) (w : World) (hS : S < 18446744073709551616) (ho : Bs w ov l) :
    Calls Try.prog 4 #[.agg #[.int .i64 N, .int .i64 B, .int .i64 Q, .int .i64 E, .int .i64 F], .int .u64 S, ov] w fun e w' => e = .returned (.bool true) ∧ Below w.heap.size w w' := by
  have HO : Hid (Bs w ov l) := ho
  have HS : Hid (S < 18446744073709551616) := hS
  obtain ⟨-, ao, cap, rfl, h2, h3, -, -⟩ := ho
  unfold maxLen at h3
  obtain ⟨n, hn⟩ : ∃ n, l.length = n := ⟨_, rfl⟩
  rw [hn] at h2 HO ⊢
  have HL : Hid (l.length = n) := hn
  clear hn hS
  have P0 : Hid (Five (w.alloc (.cells #[.int .i64 N, .int .i64 B, .int .i64 Q, .int .i64 E, .int .i64 F] 23)) w.heap.size N B Q E F) := five_new w _ N B Q E F
  go_enter Try.func4, Try.ntmps4
  go_wp2_with fail
  refine (speaks13_any _).mono ?_
  rintro e w1 ⟨rfl, hb⟩
  have B1 : Hid (Below w.heap.size w w1) := on_below (below_alloc _ _) hb
  have P1 : Hid (Five w1 w.heap.size N B Q E F) := P0.out.below hb
  clear hb P0
  obtain ⟨c0, c1, c2, c3, c4⟩ := P1.out
  go_wp2_with fail
  refine (big13_any N B Q E F w1).mono ?_
  rintro e w2 ⟨⟨b, rfl, hb⟩, hx⟩
  have B2 : Hid (Below w.heap.size w w2) := on_below B1.out hx
  have P2 : Hid (Five w2 w.heap.size N B Q E F) := P1.out.below hx
  clear hx B1 P1 c0 c1 c2 c3 c4
  cases b with
  | true =>
    clear hb
    go_wp2
    go_ret
    exact ⟨rfl, B2.out⟩
  | false =>
    have NB : Hid (¬ bigP N B) := fun h => by have := hb.2 h; cases this
    clear hb
    obtain ⟨c0, c1, c2, c3, c4⟩ := P2.out
    by_cases hm : May N B Q E F
    · have hsm : N ≤ 60 ∧ B ≤ 60 := by have := NB.out; unfold bigP at this; omega
      clear NB
      obtain ⟨N, B, Q, A, rfl, rfl, rfl, hpr⟩ := pr_nat hm
      have CM : Hid (∀ W, Calls Try.prog 15 #[.agg #[.int .i64 (N : Int), .int .i64 (B : Int), .int .i64 (Q : Int), .int .i64 E, .int .i64 F]] W fun e w' => e = .returned (.bool true) ∧ Below W.heap.size W w') := fun W => rmay_yes N B Q E F W hm
      have hN60 : N ≤ 60 := by omega
      have hB60 : B ≤ 60 := by omega
      have hA6 : A ≤ 1000000 := may_small hpr (by omega)
      have hA1 : 1 ≤ A := (hpr.ok HS.out).a1
      have PR : Hid (PrOk (N : Int) (B : Int) (Q : Int) E F N Q A) := hpr
      have hP : N * B ≤ 3600 := Nat.mul_le_mul hN60 hB60
      have wm : IntKind.i64.wrap ((N : Int) * (B : Int)) = ((N * B : Nat) : Int) := by rw [IntKind.wrap_i64]; simp; omega
      by_cases hl : n ≤ N * B
      · have CB : Hid (∀ W, Below w2.heap.size w2 W → Calls Try.prog 14 #[.agg #[.int .i64 (N : Int), .int .i64 (B : Int), .int .i64 (Q : Int), .int .i64 E, .int .i64 F], .int .u64 (S : Int), .slice ao n cap] W fun e w' => ∃ a c vs, e = .returned (.tuple #[.slice a (N + A) c, .int .i64 0]) ∧ w'.ownsRow W.heap.size 25 1 (.slice a (N + A) c) (N + A) vs ∧ RowsB W.heap.size w' vs (compD N B (hasR S A Q N) l) ∧ Below W.heap.size W w') := fun W hW => cblocks_yes N B Q A S E F _ l W PR.out HS.out (HO.out.below (on_below B2.out hW)) (by rw [HL.out]; exact hl)
        have CE : Hid (∀ W, Calls Try.prog 20 #[.agg #[.int .i64 (N : Int), .int .i64 (B : Int), .int .i64 (Q : Int), .int .i64 E, .int .i64 F], .int .u64 (S : Int)] W fun e w' => ∃ oa oc b0 qb vs vE, e = .returned (.slice oa A oc) ∧ EqI W w' b0 N B Q E F qb A vs (hasR S A Q N) (.slice oa A oc) A vE (eqTo (hasR S A Q N) N A)) := fun W => reqs_any B E F N Q A S W PR.out HS.out hA6
        have CX : Hid (∀ W, Calls Try.prog 19 #[.agg #[.int .i64 (N : Int), .int .i64 (B : Int), .int .i64 (Q : Int), .int .i64 E, .int .i64 F]] W fun e w' => ∃ v, e = .returned v ∧ IsV (.int .i64 (A : Int)) v w' ∧ Below W.heap.size W w') := by
          intro W
          refine (raux_any N B Q E F W hm.1 hm.2.2.1 hm.2.2.2.1).mono ?_
          rintro e w' ⟨rfl, hb⟩
          exact ⟨_, rfl, by rw [PR.out.ea]; rfl, hb⟩
        have RC : Hid (∀ j, j < A → EqAt N B (hasR S A Q N) (compD N B (hasR S A Q N) l) j) := (right_comp (l := l) (B := B) (hasR_rw S A Q N) (by rw [HL.out]; exact hl)).2.2
        have RW : Hid (RwOk N A (hasR S A Q N)) := hasR_rw S A Q N
        have hle : ¬ (n : Int) > ((N * B : Nat) : Int) := by omega
        clear hl hP hm hpr hsm
        generalize N * B = P at *
        generalize hasR S A Q N = rows at *
        obtain ⟨D, hD⟩ : ∃ D, compD N B rows l = D := ⟨_, rfl⟩
        rw [hD] at CB RC
        clear hD
        go_wp2_with fail
        refine (CM.out _).mono ?_
        rintro e w3 ⟨rfl, hb3⟩
        have B3 : Hid (Below w.heap.size w w3) := on_below B2.out hb3
        have X3 : Hid (Below w2.heap.size w2 w3) := hb3
        have P3 : Hid (Five w3 w.heap.size N B Q E F) := P2.out.below hb3
        clear hb3 CM P2 c0 c1 c2 c3 c4
        obtain ⟨c0, c1, c2, c3, c4⟩ := P3.out
        go_wp2_with fail
        refine (CB.out w3 X3.out).mono ?_
        rintro e w4 ⟨a4, k4, vs4, rfl, ho4, hr4, hb4⟩
        have B4 : Hid (Below w.heap.size w w4) := on_below B3.out hb4
        have P4 : Hid (Five w4 w.heap.size N B Q E F) := P3.out.below hb4
        have S4 : Hid (Sl 1 w4 (.slice a4 (N + A) k4) vs4.length vs4 ∧ Parts w4 vs4 D) := by
          have e : vs4.length = N + A := by have := ho4.1; omega
          exact ⟨by rw [e]; exact owned_sl ho4, hr4.parts⟩
        clear ho4 hr4 hb4 CB P3 X3 B3 c0 c1 c2 c3 c4
        have BX : Hid (∀ W, Below w4.heap.size w4 W → Five W w.heap.size N B Q E F) := fun W hW => P4.out.below hW
        have CA : Hid (∀ W, Below w4.heap.size w4 W → Calls Try.prog 19 #[.agg #[.int .i64 (N : Int), .int .i64 (B : Int), .int .i64 (Q : Int), .int .i64 E, .int .i64 F]] W fun e w' => ∃ v, e = .returned v ∧ IsV (.int .i64 (A : Int)) v w' ∧ Below W.heap.size W w') := fun W _ => CX.out W
        have hne : (((N + A : Nat) : Int) != (N : Int) + (A : Int)) = false := by simp
        go_upto_region 6 with fail
        refine wp_region_any (by kernel_rfl) ?_
        obtain ⟨gs, hgs⟩ : ∃ gs : List (Value → World → Prop), gs = [IsV (Value.int IntKind.i64 (0 : Int)), IsV (.bool false), IsV (.bool false), IsV (Value.slice a4 (N + A) k4), IsV (.int .i64 ((N + A : Nat) : Int)), IsV (.pointer (some ⟨w.heap.size, 0, none⟩)), IsV (.int .i64 (N : Int)), IsV (.agg #[.int .i64 (N : Int), .int .i64 (B : Int), .int .i64 (Q : Int), .int .i64 E, .int .i64 F]), IsV (.int .i64 (A : Int)), IsV (.int .i64 ((N : Int) + (A : Int))), IsV (.bool false), IsV (.bool false)] := ⟨_, rfl⟩
        have g0 : Hid (gs[0]? = some (IsV (Value.int IntKind.i64 (0 : Int)))) := by unfold Hid; rw [hgs]; rfl
        have g1 : Hid (gs[1]? = some (IsV (.bool false))) := by unfold Hid; rw [hgs]; rfl
        have g2 : Hid (gs[2]? = some (IsV (.bool false))) := by unfold Hid; rw [hgs]; rfl
        have g3 : Hid (gs[3]? = some (IsV (Value.slice a4 (N + A) k4))) := by unfold Hid; rw [hgs]; rfl
        have g4 : Hid (gs[4]? = some (IsV (.int .i64 ((N + A : Nat) : Int)))) := by unfold Hid; rw [hgs]; rfl
        have g5 : Hid (gs[5]? = some (IsV (.pointer (some ⟨w.heap.size, 0, none⟩)))) := by unfold Hid; rw [hgs]; rfl
        have g6 : Hid (gs[6]? = some (IsV (.int .i64 (N : Int)))) := by unfold Hid; rw [hgs]; rfl
        have g7 : Hid (gs[7]? = some (IsV (.agg #[.int .i64 (N : Int), .int .i64 (B : Int), .int .i64 (Q : Int), .int .i64 E, .int .i64 F]))) := by unfold Hid; rw [hgs]; rfl
        have g8 : Hid (gs[8]? = some (IsV (.int .i64 (A : Int)))) := by unfold Hid; rw [hgs]; rfl
        have g9 : Hid (gs[9]? = some (IsV (.int .i64 ((N : Int) + (A : Int))))) := by unfold Hid; rw [hgs]; rfl
        have g10 : Hid (gs[10]? = some (IsV (.bool false))) := by unfold Hid; rw [hgs]; rfl
        have g11 : Hid (gs[11]? = some (IsV (.bool false))) := by unfold Hid; rw [hgs]; rfl
        have gk : Hid (∀ p ∈ gs, Stays p) := by
          unfold Hid
          rw [hgs]
          simp only [List.forall_mem_cons]
          exact ⟨stays_v _, stays_v _, stays_v _, stays_v _, stays_v _, stays_v _, stays_v _, stays_v _, stays_v _, stays_v _, stays_v _, stays_v _, by simp⟩
        clear hgs
        refine wpAny_inv (fun listed ac W => ∃ xv : Nat → Value, ac = ⟨#[Value.agg #[Value.int IntKind.i64 ↑N, Value.int IntKind.i64 ↑B, Value.int IntKind.i64 ↑Q, Value.int IntKind.i64 E, Value.int IntKind.i64 F], Value.int IntKind.u64 ↑S, Value.slice ao n cap, Value.pointer (some { block := w.heap.size, off := 0 }), undef, undef, Value.bool false, Value.slice a4 (N + A) k4, Value.int IntKind.i64 (0 : Int), undef, undef, undef, undef, Value.bool true, Value.bool false, Value.agg #[Value.int IntKind.i64 ↑N, Value.int IntKind.i64 ↑B, Value.int IntKind.i64 ↑Q, Value.int IntKind.i64 E, Value.int IntKind.i64 F], Value.bool false, Value.bool false, Value.agg #[Value.int IntKind.i64 ↑N, Value.int IntKind.i64 ↑B, Value.int IntKind.i64 ↑Q, Value.int IntKind.i64 E, Value.int IntKind.i64 F], Value.bool true, Value.bool false, Value.bool false, Value.bool false, Value.slice ao n cap, Value.int IntKind.i64 ↑n, Value.pointer (some { block := w.heap.size, off := 0 }), Value.int IntKind.i64 ↑N, Value.pointer (some { block := w.heap.size, off := 1 }), Value.int IntKind.i64 ↑B, Value.int IntKind.i64 ↑P, Value.bool false, Value.bool false, Value.tuple #[Value.slice a4 (N + A) k4, Value.int IntKind.i64 (0 : Int)], Value.agg #[Value.int IntKind.i64 ↑N, Value.int IntKind.i64 ↑B, Value.int IntKind.i64 ↑Q, Value.int IntKind.i64 E, Value.int IntKind.i64 F], Value.int IntKind.u64 ↑S, Value.slice ao n cap, Value.tuple #[Value.slice a4 (N + A) k4, Value.int IntKind.i64 (0 : Int)], Value.slice a4 (N + A) k4, Value.int IntKind.i64 (0 : Int), xv 0, xv 1, xv 2, xv 3, xv 4, xv 5, xv 6, xv 7, xv 8, xv 9, xv 10, xv 11, undef, undef, undef, undef, undef, undef, undef, undef, undef, undef, undef, undef, undef, undef, undef, undef, undef, undef, undef, undef, undef, undef, undef, undef, undef, undef, undef, undef, undef, undef, undef], []⟩ ∧ Below w4.heap.size w4 W ∧ Lst gs listed xv W) (by kernel_rfl) ?_ ?_ _ _ _ _ (by kernel_rfl) (of_decide_eq_true (by kernel_rfl)) ⟨fun j => undef, rfl, below0 _, Lst.start _ _ _ _⟩
        · rintro listed ac W ⟨xv, rfl, hb, hG⟩ i hi hd
          have hin : i < 12 := hi
          clear hi
          have hcase : i = 0 ∨ i = 1 ∨ i = 2 ∨ i = 3 ∨ i = 4 ∨ i = 5 ∨ i = 6 ∨ i = 7 ∨ i = 8 ∨ i = 9 ∨ i = 10 ∨ i = 11 := by omega
          rcases hcase with rfl | rfl | rfl | rfl | rfl | rfl | rfl | rfl | rfl | rfl | rfl | rfl
          · refine wpOp_step rfl (fun K' hK => ?_)
            clear hd hin
            go_simp
            exact hK _ _ ⟨updV xv 0 (Value.int IntKind.i64 (0 : Int)), by simp [updV], hb, hG.same gk.out g0.out _ rfl⟩
          · refine wpOp_step rfl (fun K' hK => ?_)
            simp [Region.binds] at hd
            have e0 : xv 0 = Value.int IntKind.i64 (0 : Int) := hG.get g0.out (by simp [hd])
            clear hd hin
            go_simp
            exact hK _ _ ⟨updV xv 1 (.bool false), by simp [updV, e0], hb, hG.same gk.out g1.out _ rfl⟩
          · refine wpOp_step rfl (fun K' hK => ?_)
            simp [Region.binds] at hd
            have e1 : xv 1 = .bool false := hG.get g1.out (by simp [hd])
            clear hd hin
            go_simp
            exact hK _ _ ⟨updV xv 2 (.bool false), by simp [updV, e1], hb, hG.same gk.out g2.out _ rfl⟩
          · refine wpOp_step rfl (fun K' hK => ?_)
            simp [Region.binds] at hd
            have e2 : xv 2 = .bool false := hG.get g2.out (by simp [hd])
            clear hd hin
            go_simp
            exact hK _ _ ⟨updV xv 3 (Value.slice a4 (N + A) k4), by simp [updV, e2], hb, hG.same gk.out g3.out _ rfl⟩
          · refine wpOp_step rfl (fun K' hK => ?_)
            simp [Region.binds] at hd
            have e3 : xv 3 = Value.slice a4 (N + A) k4 := hG.get g3.out (by simp [hd])
            have e2 : xv 2 = .bool false := hG.get g2.out (by simp [hd])
            clear hd hin
            go_simp
            exact hK _ _ ⟨updV xv 4 (.int .i64 ((N + A : Nat) : Int)), by simp [updV, e3, e2], hb, hG.same gk.out g4.out _ rfl⟩
          · refine wpOp_step rfl (fun K' hK => ?_)
            simp [Region.binds] at hd
            have e2 : xv 2 = .bool false := hG.get g2.out (by simp [hd])
            clear hd hin
            go_simp
            exact hK _ _ ⟨updV xv 5 (.pointer (some ⟨w.heap.size, 0, none⟩)), by simp [updV, e2], hb, hG.same gk.out g5.out _ rfl⟩
          · refine wpOp_step rfl (fun K' hK => ?_)
            simp [Region.binds] at hd
            have e5 : xv 5 = .pointer (some ⟨w.heap.size, 0, none⟩) := hG.get g5.out (by simp [hd])
            have e2 : xv 2 = .bool false := hG.get g2.out (by simp [hd])
            obtain ⟨c0, c1, c2, c3, c4⟩ := BX.out W hb
            clear hd hin
            go_simp
            exact hK _ _ ⟨updV xv 6 (.int .i64 (N : Int)), by simp [updV, e5, e2], hb, hG.same gk.out g6.out _ rfl⟩
          · refine wpOp_step rfl (fun K' hK => ?_)
            simp [Region.binds] at hd
            have e2 : xv 2 = .bool false := hG.get g2.out (by simp [hd])
            obtain ⟨c0, c1, c2, c3, c4⟩ := BX.out W hb
            clear hd hin
            go_simp
            exact hK _ _ ⟨updV xv 7 (.agg #[.int .i64 (N : Int), .int .i64 (B : Int), .int .i64 (Q : Int), .int .i64 E, .int .i64 F]), by simp [updV, e2], hb, hG.same gk.out g7.out _ rfl⟩
          · refine wpOp_step rfl (fun K' hK => ?_)
            simp [Region.binds] at hd
            have e7 : xv 7 = .agg #[.int .i64 (N : Int), .int .i64 (B : Int), .int .i64 (Q : Int), .int .i64 E, .int .i64 F] := hG.get g7.out (by simp [hd])
            have e2 : xv 2 = .bool false := hG.get g2.out (by simp [hd])
            clear hd hin
            go_simp
            refine (CA.out W hb).mono ?_
            rintro e w' ⟨v, rfl, hv, hb'⟩
            go_wp2_with fail
            exact ⟨updV xv 8 v, by simp [updV, e7, e2], hb.trans (hb'.mono hb.size), hG.step gk.out hb' g8.out v hv⟩
          · refine wpOp_step rfl (fun K' hK => ?_)
            simp [Region.binds] at hd
            have e6 : xv 6 = .int .i64 (N : Int) := hG.get g6.out (by simp [hd])
            have e8 : xv 8 = .int .i64 (A : Int) := hG.get g8.out (by simp [hd])
            have e2 : xv 2 = .bool false := hG.get g2.out (by simp [hd])
            have wr : IntKind.i64.wrap ((N : Int) + (A : Int)) = (N : Int) + (A : Int) := by rw [IntKind.wrap_i64]; omega
            clear hd hin
            go_simp
            exact hK _ _ ⟨updV xv 9 (.int .i64 ((N : Int) + (A : Int))), by simp [updV, e6, e8, e2], hb, hG.same gk.out g9.out _ rfl⟩
          · refine wpOp_step rfl (fun K' hK => ?_)
            simp [Region.binds] at hd
            have e4 : xv 4 = .int .i64 ((N + A : Nat) : Int) := hG.get g4.out (by simp [hd])
            have e9 : xv 9 = .int .i64 ((N : Int) + (A : Int)) := hG.get g9.out (by simp [hd])
            have e2 : xv 2 = .bool false := hG.get g2.out (by simp [hd])
            clear hd hin
            go_simp
            exact hK _ _ ⟨updV xv 10 (.bool false), by simp [updV, e4, e9, e2], hb, hG.same gk.out g10.out _ rfl⟩
          · refine wpOp_step rfl (fun K' hK => ?_)
            simp [Region.binds] at hd
            have e2 : xv 2 = .bool false := hG.get g2.out (by simp [hd])
            have e10 : xv 10 = .bool false := hG.get g10.out (by simp [hd])
            clear hd hin
            go_simp
            exact hK _ _ ⟨updV xv 11 (.bool false), by simp [updV, e2, e10], hb, hG.same gk.out g11.out _ rfl⟩
        · rintro listed ac W ⟨xv, rfl, hb, hG⟩ hall
          have e11 : xv 11 = .bool false := hG.get g11.out (hall 11 (by decide))
          have XW : Hid (Below w4.heap.size w4 W) := hb
          clear hall hG hb gk g0 g1 g2 g3 g4 g5 g6 g7 g8 g9 g10 g11
          rw [e11]
          clear e11
          have B5 : Hid (Below w.heap.size w W) := on_below B4.out XW.out
          have P5 : Hid (Five W w.heap.size N B Q E F) := BX.out W XW.out
          have S5 : Hid (Sl 1 W (.slice a4 (N + A) k4) vs4.length vs4 ∧ Parts W vs4 D) := ⟨S4.out.1.below XW.out, S4.out.2.below XW.out⟩
          clear B4 P4 S4 BX CA CX XW hne
          obtain ⟨c0, c1, c2, c3, c4⟩ := P5.out
          go_wp2_with fail
          refine (CE.out W).mono ?_
          rintro e w6 ⟨oa, oc, b0, qb, vsR, vE, rfl, hE⟩
          have B6 : Hid (Below w.heap.size w w6) := on_below B5.out hE.b
          have P6 : Hid (Five w6 w.heap.size N B Q E F) := P5.out.below hE.b
          have S6 : Hid (Sl 1 w6 (.slice a4 (N + A) k4) vs4.length vs4 ∧ Parts w6 vs4 D) := ⟨S5.out.1.below hE.b, S5.out.2.below hE.b⟩
          have E6 : Hid (EqI W w6 b0 N B Q E F qb A vsR rows (.slice oa A oc) A vE (eqTo rows N A)) := hE
          obtain ⟨eb, ec, hoe, -, -, -⟩ := owned_shape hE.o hA1
          injection hoe with e1 e2 e3
          subst e1
          clear e2 e3
          clear hE P5 S5 B5 CE c0 c1 c2 c3 c4
          go_wp2
          go_loopw [55] (fun jv wr => ∃ j : Nat, j ≤ A ∧ jv = .int .i64 j ∧ Hid (Below w6.heap.size w6 wr)) (fun jv _ => A - (intOf jv).toNat)
          case atStart => exact ⟨0, by omega, rfl, Below.refl _ _⟩
          case round =>
            obtain ⟨j, hj, rfl, BB⟩ := hrel
            by_cases hlt : j < A
            · obtain ⟨r, hr, hrN, hrm, hre⟩ := RW.out.at hlt
              obtain ⟨m, hm⟩ : ∃ m, r.length = m := ⟨_, rfl⟩
              have hea := eqTo_at (N := N) hr hlt
              have EA := RC.out j hlt
              obtain ⟨oe, hoe⟩ : ∃ oe, r ++ [(N : Int) + (j : Int)] = oe := ⟨_, rfl⟩
              have HM : Hid (oe.length = m + 1) := by unfold Hid; rw [← hoe]; simp [hm]
              unfold EqAt at EA
              rw [hre, hoe] at EA
              rw [hoe] at hea
              have hjv : j < vE.length := by have := E6.out.o.1; omega
              have hOz := E6.out.rd j _ _ (List.getElem?_eq_getElem hjv) hea
              have ce : wr.cell? ⟨eb, j, none⟩ = some vE[j] := by
                have h1 := World.ownsRow.cellAt E6.out.o j (by omega)
                rw [List.getElem?_eq_getElem hjv] at h1
                exact (BB.out.cell (cell_block_lt h1)).trans h1
              rw [HM.out] at hOz
              obtain ⟨va, vc, ev, -⟩ := owned_slice hOz
              rw [ev] at ce hOz
              have OZ : Hid (Zs wr (.slice va (m + 1) vc) oe) := (hOz.zs).below BB.out
              have PW : Hid (Five wr w.heap.size N B Q E F) := P6.out.below BB.out
              obtain ⟨x, hx⟩ : ∃ x, chkD B D oe = x := ⟨_, rfl⟩
              have XL : Hid (x.length = B) := by unfold Hid; rw [← hx]; exact chkD_length EA.1
              have CK : Hid (Calls Try.prog 21 #[.int .i64 B, .slice a4 (N + A) k4, .slice va (m + 1) vc] wr fun e w' => e = .returned (.tuple #[.slice (some ⟨wr.heap.size, 0, none⟩) B B, .bool true]) ∧ Blk w' wr.heap.size [] x [] ∧ Below wr.heap.size wr w') := by
                have := check_yes B _ _ vs4 D oe wr (by omega) (S6.out.1.below BB.out) (S6.out.2.below BB.out) OZ.out EA.1
                rw [hx] at this
                exact this
              have ZX : Hid (zeroB x = true) := by unfold Hid; rw [← hx]; exact EA.2
              obtain ⟨c0, c1, c2, c3, c4⟩ := PW.out
              clear hr hrN hrm hre hm hea EA hoe hjv hOz ev hx
              go_wp2_with fail
              refine CK.out.mono ?_
              rintro e w7 ⟨rfl, hk7, hb7⟩
              have B7 : Hid (Below w6.heap.size w6 w7) := on_below BB.out hb7
              have P7 : Hid (Five w7 w.heap.size N B Q E F) := PW.out.below hb7
              obtain ⟨p, hp⟩ : ∃ p, wr.heap.size = p := ⟨_, rfl⟩
              rw [hp] at hk7 ⊢
              have CZ : Hid (Calls Try.prog 22 #[.slice (some ⟨p, 0, none⟩) B B] w7 fun e w' => e = .returned (.bool true) ∧ w' = w7) := by
                have := rzero_any _ x w7 (hk7.bs0 B B XL.out.symm (Nat.le_refl _) (by unfold maxLen; omega))
                rw [ZX.out] at this
                exact this
              clear hk7 hb7 hp CK BB PW OZ ce c0 c1 c2 c3 c4
              have hne : ((B : Int) != (B : Int)) = false := by simp
              obtain ⟨c0, c1, c2, c3, c4⟩ := P7.out
              go_wp2_with fail
              refine CZ.out.mono ?_
              rintro e w8 ⟨rfl, rfl⟩
              clear CZ XL ZX HM P7 c0 c1 c2 c3 c4
              go_wp2
              go_roundw
              case rel => exact ⟨j + 1, by omega, by go_num, B7⟩
              case measure => simp [intOf]; omega
            · obtain rfl : j = A := by omega
              have BE : Hid (Below w.heap.size w wr) := on_below B6.out BB.out
              clear BB
              go_wp2
              go_ret
              exact ⟨rfl, BE.out⟩
      · have hgt : (n : Int) > ((N * B : Nat) : Int) := by omega
        clear hl hP hm hpr hsm
        generalize N * B = P at *
        go_wp2_with fail
        refine (CM.out _).mono ?_
        rintro e w3 ⟨rfl, hb3⟩
        have B3 : Hid (Below w.heap.size w w3) := on_below B2.out hb3
        have P3 : Hid (Five w3 w.heap.size N B Q E F) := P2.out.below hb3
        clear hb3 CM P2 c0 c1 c2 c3 c4
        obtain ⟨c0, c1, c2, c3, c4⟩ := P3.out
        go_wp2
        go_ret
        exact ⟨rfl, B3.out⟩
    · have CM : Hid (∀ W, Calls Try.prog 15 #[.agg #[.int .i64 N, .int .i64 B, .int .i64 Q, .int .i64 E, .int .i64 F]] W fun e w' => e = .returned (.bool false) ∧ Below W.heap.size W w') := fun W => rmay_no N B Q E F W hm
      clear hm NB
      go_wp2_with fail
      refine (CM.out _).mono ?_
      rintro e w3 ⟨rfl, hb3⟩
      have B3 : Hid (Below w.heap.size w w3) := on_below B2.out hb3
      clear hb3 CM c0 c1 c2 c3 c4
      go_wp2
      go_ret
      exact ⟨rfl, B3.out⟩

theorem composeHolds_law (N B Q E F S : Int) (ov : Value) (l : List UInt8) (w : World) (hw : Ok .i64 N ∧ Ok .i64 B ∧ Ok .i64 Q ∧ Ok .i64 E ∧ Ok .i64 F) (hS : (Lit.int .u64 S).wf = true) (ho : Bs w ov l) :
    Calls Try.prog 4 #[.agg #[.int .i64 N, .int .i64 B, .int .i64 Q, .int .i64 E, .int .i64 F], .int .u64 S, ov] w fun e w' => e = .returned (.bool true) ∧ Below w.heap.size w w' := by
  simp [Lit.wf, IntKind.min, IntKind.max, IntKind.bits, IntKind.signed] at hS
  obtain ⟨s, rfl⟩ : ∃ s : Nat, S = s := ⟨S.toNat, by omega⟩
  exact composeHolds_walk N B Q E F s ov l w (by omega) ho

end Go.Proofs.Ytehpbnakdadedaa
