/-
  InnerFits.
-/
import Derived.Test.YtbnedpjfgadkkaaIDraws
namespace Go.Proofs.Ytbnedpjfgadkkaa
open Go.RowKit
set_option linter.unusedVariables false

theorem rises_at {l : List Int} (h : l.Pairwise (· < ·)) {i : Nat} (hi : i + 1 < l.length) : l[i] < l[i + 1] := (List.pairwise_iff_getElem.1 h) i (i + 1) (by omega) hi (by omega)

set_option maxRecDepth 100000 in
set_option maxHeartbeats 4000000 in
theorem innerFits_walk (N B Q E F : Int) (S id : Nat) (w : World) (hS : S < 18446744073709551616) (hid : id < 18446744073709551616) :
    Calls Try.prog 4 #[.agg #[.int .i64 N, .int .i64 B, .int .i64 Q, .int .i64 E, .int .i64 F], .int .u64 S, .int .u64 id] w fun e w' => e = .returned (.bool true) ∧ Below w.heap.size w w' := by
  go_enter Try.func4, Try.ntmps4
  go_wp2_with fail
  refine (speaks11_any _).mono ?_
  rintro e w1 ⟨rfl, hb⟩
  have B1 : Hid (Below w.heap.size w w1) := below_on (below_alloc _ _) hb
  have P1 : Hid (Five w1 w.heap.size N B Q E F) := (five_new w _ _ _ _ _ _).below hb
  clear hb
  obtain ⟨c0, c1, c2, c3, c4⟩ := P1.out
  by_cases hM : May N B Q E F
  · obtain ⟨E, F, rfl, rfl, hmd⟩ := may_nat hM
    obtain ⟨A, hA, hA1, hA2⟩ := all_nat hM
    obtain ⟨k, l, hch⟩ := chk_is E S A id hmd.f2
    have hkm := hch.many (by omega)
    have HLl : Hid (l.length = k) := hch.len
    have HLm : Hid (∀ x ∈ l, 0 ≤ x ∧ x < (A : Int)) := fun x hx => hch.mem hx
    have HLr : Hid (l.Pairwise (· < ·)) := hch.rises
    have hwA : IntKind.i64.wrap (N + aux N Q (E : Nat)) = (A : Int) := by rw [hA, IntKind.wrap_i64]; omega
    have CX : Hid (∀ W, Calls Try.prog 13 #[.agg #[.int .i64 N, .int .i64 B, .int .i64 Q, .int .i64 (E : Nat), .int .i64 (F : Nat)]] W fun e w' => e = .returned (.bool true) ∧ Below W.heap.size W w') := fun W => rmay_yes _ _ _ _ _ W hM
    have CN : Hid (∀ W, Calls Try.prog 12 #[.agg #[.int .i64 N, .int .i64 B, .int .i64 Q, .int .i64 (E : Nat), .int .i64 (F : Nat)], .int .u64 S] W fun e w' => ∃ a t, e = .returned (.tuple #[.pointer (some ⟨a, 0, none⟩), .int .i64 0]) ∧ W.heap.size ≤ a ∧ IsSrc w' a t F E S A ∧ Below W.heap.size W w') := fun W => inew_yes N B Q E F S A W hM hA
    have CI : Hid (∀ W a t, IsSrc W a t F E S A → Calls Try.prog 15 #[.pointer (some ⟨a, 0, none⟩), .int .u64 id] W fun e w' => ∃ b c, e = .returned (.slice b k c) ∧ OwnZ W.heap.size w' (.slice b k c) k l ∧ Below W.heap.size W w') := fun W a t h => iblocks_chk hch a t W h hmd hA2 hS hid
    have CA : Hid (∀ W, Calls Try.prog 17 #[.agg #[.int .i64 N, .int .i64 B, .int .i64 Q, .int .i64 (E : Nat), .int .i64 (F : Nat)]] W fun e w' => ∃ v, e = .returned v ∧ IsV (.int .i64 (aux N Q (E : Nat))) v w' ∧ Below W.heap.size W w') := by
      intro W
      refine (raux_any N B Q E F W hM.1 hM.2.2.1 hM.2.2.2.1).mono ?_
      rintro e w' ⟨rfl, hb⟩
      exact ⟨_, rfl, rfl, hb⟩
    have E1 : Hid (IntKind.i64.wrap (N + aux N Q (E : Nat)) = (A : Int)) := hwA
    have f4 := hmd.f4
    clear hM hmd hA hch hwA hS hid
    generalize aux N Q (E : Nat) = X at *
    go_wp2_with fail
    refine (CX.out _).mono ?_
    rintro e w2 ⟨rfl, hb⟩
    have B2 : Hid (Below w.heap.size w w2) := below_on B1.out hb
    have P2 : Hid (Five w2 w.heap.size N B Q E F) := P1.out.below hb
    clear hb CX c0 c1 c2 c3 c4 P1 B1
    obtain ⟨c0, c1, c2, c3, c4⟩ := P2.out
    go_wp2_with fail
    refine (CN.out _).mono ?_
    rintro e w3 ⟨a, t, rfl, -, hs, hb⟩
    have B3 : Hid (Below w.heap.size w w3) := below_on B2.out hb
    have P3 : Hid (Five w3 w.heap.size N B Q E F) := P2.out.below hb
    have S3 : Hid (IsSrc w3 a t F E S A) := hs
    clear hb hs CN c0 c1 c2 c3 c4 P2 B2
    go_upto_region 9 with fail
    refine (CI.out w3 a t S3.out).mono ?_
    rintro e w4 ⟨b, c, rfl, ho, hb⟩
    have B4 : Hid (Below w.heap.size w w4) := below_on B3.out hb
    have P4 : Hid (Five w4 w.heap.size N B Q E F) := P3.out.below hb
    have S4 : Hid (IsSrc w4 a t F E S A) := S3.out.below hb
    have O4 : Hid (Zs w4 (.slice b k c) l) := ho.zs
    obtain ⟨lb, lc, el, -, hlc, hlm⟩ := owned_shape ho hkm.1
    injection el with e1 _ e3
    subst e1; subst e3
    unfold maxLen at hlm
    clear hb ho S3 B3 P3
    have BX : Hid (∀ W, Below w4.heap.size w4 W → Five W w.heap.size N B Q E F) := fun W hW => P4.out.below hW
    have CA4 : Hid (∀ W, Below w4.heap.size w4 W → Calls Try.prog 17 #[.agg #[.int .i64 N, .int .i64 B, .int .i64 Q, .int .i64 (E : Nat), .int .i64 (F : Nat)]] W fun e w' => ∃ v, e = .returned v ∧ IsV (.int .i64 X) v w' ∧ Below W.heap.size W w') := fun W _ => CA.out W
    go_upto_region 9 with fail
    refine wp_region_any (by kernel_rfl) ?_
    obtain ⟨gs, hgs⟩ : ∃ gs : List (Value → World → Prop), gs = [IsV (.pointer (some ⟨w.heap.size, 0, none⟩)), IsV (.int .i64 N), IsV (.agg #[.int .i64 N, .int .i64 B, .int .i64 Q, .int .i64 (E : Int), .int .i64 (F : Int)]), IsV (.int .i64 X), IsV (.int .i64 (A : Int)), IsV (.int .i64 (A : Int))] := ⟨_, rfl⟩
    have g0 : Hid (gs[0]? = some (IsV (.pointer (some ⟨w.heap.size, 0, none⟩)))) := by unfold Hid; rw [hgs]; rfl
    have g1 : Hid (gs[1]? = some (IsV (.int .i64 N))) := by unfold Hid; rw [hgs]; rfl
    have g2 : Hid (gs[2]? = some (IsV (.agg #[.int .i64 N, .int .i64 B, .int .i64 Q, .int .i64 (E : Int), .int .i64 (F : Int)]))) := by unfold Hid; rw [hgs]; rfl
    have g3 : Hid (gs[3]? = some (IsV (.int .i64 X))) := by unfold Hid; rw [hgs]; rfl
    have g4 : Hid (gs[4]? = some (IsV (.int .i64 (A : Int)))) := by unfold Hid; rw [hgs]; rfl
    have g5 : Hid (gs[5]? = some (IsV (.int .i64 (A : Int)))) := by unfold Hid; rw [hgs]; rfl
    have gk : Hid (∀ p ∈ gs, Stays p) := by
      unfold Hid
      rw [hgs]
      simp only [List.forall_mem_cons]
      exact ⟨stays_v _, stays_v _, stays_v _, stays_v _, stays_v _, stays_v _, by simp⟩
    clear hgs
    refine wpAny_inv (fun listed ac W => ∃ xv : Nat → Value, ac = ⟨#[Value.agg #[Value.int IntKind.i64 N, Value.int IntKind.i64 B, Value.int IntKind.i64 Q, Value.int IntKind.i64 ↑E, Value.int IntKind.i64 ↑F], Value.int IntKind.u64 ↑S, Value.int IntKind.u64 ↑id, Value.pointer (some { block := w.heap.size, off := 0 }), undef, undef, Value.bool false, Value.pointer (some { block := a, off := 0 }), Value.int IntKind.i64 (0 : Int), Value.slice (some { block := lb, off := 0 }) k c, xv 5, undef, undef, Value.bool true, Value.bool false, Value.agg #[Value.int IntKind.i64 N, Value.int IntKind.i64 B, Value.int IntKind.i64 Q, Value.int IntKind.i64 ↑E, Value.int IntKind.i64 ↑F], Value.bool true, Value.bool false, Value.tuple #[Value.pointer (some { block := a, off := 0 }), Value.int IntKind.i64 (0 : Int)], Value.agg #[Value.int IntKind.i64 N, Value.int IntKind.i64 B, Value.int IntKind.i64 Q, Value.int IntKind.i64 ↑E, Value.int IntKind.i64 ↑F], Value.int IntKind.u64 ↑S, Value.tuple #[Value.pointer (some { block := a, off := 0 }), Value.int IntKind.i64 (0 : Int)], Value.pointer (some { block := a, off := 0 }), Value.int IntKind.i64 (0 : Int), Value.int IntKind.i64 (0 : Int), Value.bool false, Value.bool false, Value.pointer (some { block := a, off := 0 }), Value.bool false, Value.bool false, Value.pointer (some { block := a, off := 0 }), Value.int IntKind.u64 ↑id, Value.slice (some { block := lb, off := 0 }) k c, xv 0, xv 1, xv 2, xv 3, xv 4, undef, undef, undef, undef, undef, undef, undef, undef, undef, undef, undef, undef, undef, undef, undef, undef, undef, undef, undef, undef, undef, undef, undef, undef, undef, undef, undef, undef, undef, undef, undef, undef, undef, undef, undef, undef, undef, undef, undef, undef, undef, undef, undef, undef, undef, undef, undef, undef], []⟩ ∧ Below w4.heap.size w4 W ∧ Lst gs listed xv W) (by kernel_rfl) ?_ ?_ _ _ _ _ (by kernel_rfl) (of_decide_eq_true (by kernel_rfl)) ⟨fun j => undef, rfl, below0 _, Lst.start _ _ _ _⟩
    · rintro listed ac W ⟨xv, rfl, hb, hG⟩ i hi hd
      have hin : i < 6 := hi
      clear hi
      have hcase : i = 0 ∨ i = 1 ∨ i = 2 ∨ i = 3 ∨ i = 4 ∨ i = 5 := by omega
      rcases hcase with rfl | rfl | rfl | rfl | rfl | rfl
      · refine wpOp_step rfl (fun K' hK => ?_)
        clear hd hin
        go_simp
        exact hK _ _ ⟨updV xv 0 (.pointer (some ⟨w.heap.size, 0, none⟩)), by simp [updV], hb, hG.same gk.out g0.out _ rfl⟩
      · refine wpOp_step rfl (fun K' hK => ?_)
        simp [Region.binds] at hd
        have e0 : xv 0 = .pointer (some ⟨w.heap.size, 0, none⟩) := hG.get g0.out (by simp [hd])
        obtain ⟨c0, c1, c2, c3, c4⟩ := BX.out W hb
        clear hd hin
        go_simp
        exact hK _ _ ⟨updV xv 1 (.int .i64 N), by simp [updV, e0], hb, hG.same gk.out g1.out _ rfl⟩
      · refine wpOp_step rfl (fun K' hK => ?_)
        obtain ⟨c0, c1, c2, c3, c4⟩ := BX.out W hb
        clear hd hin
        go_simp
        exact hK _ _ ⟨updV xv 2 (.agg #[.int .i64 N, .int .i64 B, .int .i64 Q, .int .i64 (E : Int), .int .i64 (F : Int)]), by simp [updV], hb, hG.same gk.out g2.out _ rfl⟩
      · refine wpOp_step rfl (fun K' hK => ?_)
        simp [Region.binds] at hd
        have e2 : xv 2 = .agg #[.int .i64 N, .int .i64 B, .int .i64 Q, .int .i64 (E : Int), .int .i64 (F : Int)] := hG.get g2.out (by simp [hd])
        clear hd hin
        go_simp
        refine (CA4.out W hb).mono ?_
        rintro e w' ⟨v, rfl, hv, hb'⟩
        go_wp2_with fail
        exact ⟨updV xv 3 v, by simp [updV, e2], hb.trans (hb'.mono hb.size), hG.step gk.out hb' g3.out v hv⟩
      · refine wpOp_step rfl (fun K' hK => ?_)
        simp [Region.binds] at hd
        have e1 : xv 1 = .int .i64 N := hG.get g1.out (by simp [hd])
        have e3 : xv 3 = .int .i64 X := hG.get g3.out (by simp [hd])
        have wr := E1.out
        clear hd hin
        go_simp
        exact hK _ _ ⟨updV xv 4 (.int .i64 (A : Int)), by simp [updV, e1, e3], hb, hG.same gk.out g4.out _ rfl⟩
      · refine wpOp_step rfl (fun K' hK => ?_)
        simp [Region.binds] at hd
        have e4 : xv 4 = .int .i64 (A : Int) := hG.get g4.out (by simp [hd])
        clear hd hin
        go_simp
        exact hK _ _ ⟨updV xv 5 (.int .i64 (A : Int)), by simp [updV, e4], hb, hG.same gk.out g5.out _ rfl⟩
    · rintro listed ac W ⟨xv, rfl, hb, hG⟩ hall
      have e5 : xv 5 = .int .i64 (A : Int) := hG.get g5.out (hall 5 (by decide))
      have XW : Hid (Below w4.heap.size w4 W) := hb
      clear hall hG hb gk g0 g1 g2 g3 g4 g5
      rw [e5]
      clear e5
      have B5 : Hid (Below w.heap.size w W) := below_on B4.out XW.out
      have P5 : Hid (Five W w.heap.size N B Q E F) := P4.out.below XW.out
      have S5 : Hid (IsSrc W a t F E S A) := S4.out.below XW.out
      have O5 : Hid (Zs W (.slice (some ⟨lb, 0, none⟩) k c) l) := O4.out.below XW.out
      have KC : Hid (∀ j (hj : j < l.length), W.cell? ⟨lb, j, none⟩ = some (.int .i64 l[j])) := by
        obtain ⟨_, a', c', hv, _, _, _, h5⟩ := O5.out
        injection hv with e1 e2 e3
        intro j hj
        rcases h5 with h0 | ⟨b', off, e4, hc⟩
        · omega
        · rw [← e1] at e4
          injection e4 with e4
          injection e4 with e4 e5 _
          subst e4; subst e5
          have := hc j _ (map_z_at l j hj)
          rw [Nat.zero_add] at this
          exact this
      clear XW CA CA4 BX B4 P4 S4 O4
      go_wp2
      go_loop [40] (fun iv => ∃ i : Nat, i ≤ k ∧ iv = .int .i64 i) (fun iv => k - (intOf iv).toNat)
      case atStart => exact ⟨0, by omega, rfl⟩
      case round =>
        obtain ⟨i, hi, rfl⟩ := hrel
        by_cases hlt : i < k
        · have hil : i < l.length := by rw [HLl.out]; exact hlt
          have ck := KC.out i hil
          have hx := HLm.out _ (List.getElem_mem hil)
          have HX : Hid (∀ j (hj : j + 1 = i), ∃ y, W.cell? ⟨lb, j, none⟩ = some (.int .i64 y) ∧ y < l[i]) := by
            intro j hj
            subst hj
            exact ⟨l[j], KC.out j (by omega), rises_at HLr.out hil⟩
          generalize l[i] = x at *
          have x1 : ¬ x < 0 := by omega
          have x2 : ¬ x ≥ (A : Int) := by omega
          clear hx
          by_cases hi0 : i = 0
          · subst hi0
            clear HX
            go_wp2
            go_round
            case rel => exact ⟨1, by omega, by go_num⟩
            case measure => simp [intOf]; omega
          · obtain ⟨j, rfl⟩ : ∃ j, i = j + 1 := ⟨i - 1, by omega⟩
            obtain ⟨y, cy, hy⟩ := HX.out j rfl
            have hgt : ((j + 1 : Nat) : Int) > 0 := by omega
            have hwj : IntKind.i64.wrap (((j + 1 : Nat) : Int) - 1) = (j : Int) := by rw [IntKind.wrap_i64]; omega
            have y1 : ¬ y ≥ x := by omega
            clear HX hy
            go_wp2
            go_round
            case rel => exact ⟨j + 1 + 1, by omega, by go_num⟩
            case measure => simp [intOf]; omega
        · have hk1 : (k : Int) ≥ 1 := by omega
          have hmn : min (F : Int) (A : Int) = ((min F A : Nat) : Int) := by omega
          obtain ⟨mn, hmn2⟩ : ∃ mn : Int, min (F : Int) (A : Int) = mn := ⟨_, rfl⟩
          have km := fun W => min2Z (F : Int) (A : Int) W
          rw [hmn2] at km
          have hk2 : (k : Int) ≤ mn := by omega
          have c4 := P5.out.2.2.2.2
          clear hmn hmn2
          go_wp2_with fail
          refine (CI.out W a t S5.out).mono ?_
          rintro e w6 ⟨b6, k6, rfl, ho, hb⟩
          have B6 : Hid (Below w.heap.size w w6) := below_on B5.out hb
          have CE : Hid (Calls Try.prog 14 #[.slice (some ⟨lb, 0, none⟩) k c, .slice b6 k k6] w6 fun e w' => e = .returned (.int .i64 1) ∧ Below w6.heap.size w6 w') := by
            have := same9_any _ _ l l w6 (O5.out.below hb) ho.zs
            rw [sameI_self] at this
            exact this
          clear ho hb CI c4 km
          go_wp2_with fail
          refine CE.out.mono ?_
          rintro e w7 ⟨rfl, hb⟩
          have B7 : Hid (Below w.heap.size w w7) := below_on B6.out hb
          clear hb CE
          go_wp2
          go_ret
          exact ⟨rfl, B7.out⟩
  · have CX : Hid (∀ W, Calls Try.prog 13 #[.agg #[.int .i64 N, .int .i64 B, .int .i64 Q, .int .i64 E, .int .i64 F]] W fun e w' => e = .returned (.bool false) ∧ Below W.heap.size W w') := fun W => rmay_no _ _ _ _ _ W hM
    clear hM hS hid
    go_wp2_with fail
    refine (CX.out _).mono ?_
    rintro e w3 ⟨rfl, hb⟩
    have B3 : Hid (Below w.heap.size w w3) := below_on B1.out hb
    clear hb CX
    go_wp2
    go_ret
    exact ⟨rfl, B3.out⟩

theorem innerFits_law (N B Q E F : Int) (S I : Int) (w : World) (h : Ok .i64 N ∧ Ok .i64 B ∧ Ok .i64 Q ∧ Ok .i64 E ∧ Ok .i64 F) (hS : (Lit.int .u64 S).wf = true) (hI : (Lit.int .u64 I).wf = true) :
    Calls Try.prog 4 #[.agg #[.int .i64 N, .int .i64 B, .int .i64 Q, .int .i64 E, .int .i64 F], .int .u64 S, .int .u64 I] w fun e w' => e = .returned (.bool true) ∧ Below w.heap.size w w' := by
  simp [Lit.wf, IntKind.min, IntKind.max, IntKind.bits, IntKind.signed] at hS hI
  obtain ⟨s, rfl⟩ : ∃ s : Nat, S = s := ⟨S.toNat, by omega⟩
  obtain ⟨i, rfl⟩ : ∃ s : Nat, I = s := ⟨I.toNat, by omega⟩
  exact innerFits_walk N B Q E F s i w (by omega) (by omega)

end Go.Proofs.Ytbnedpjfgadkkaa
