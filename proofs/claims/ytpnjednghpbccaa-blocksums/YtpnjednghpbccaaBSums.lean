/-
  The walk of the statement BlockSums.
-/
import Derived.Test.YtpnjednghpbccaaBlkS
import Derived.Test.YtpnjednghpbccaaLOrd
namespace Go.Proofs.Ytpnjednghpbccaa
open Go.RowKit
set_option linter.unusedVariables false

set_option maxRecDepth 100000 in
set_option maxHeartbeats 2000000 in
theorem blockSums_walk (s : Int) (v1 : Value) (vs : List Value) (ls : List (List UInt8)) (w : World) (hs : (Lit.int .i64 s).wf = true) (h1 : Sl 1 w v1 vs.length vs) (hps : Parts w vs ls) :
    Calls Try.prog 3 #[.int .i64 s, v1] w fun e w' => e = .returned (.bool true) ∧ Below w.heap.size w w' := by
  clear hs
  have H1 : Hid (Sl 1 w v1 vs.length vs) := h1
  obtain ⟨-, a1, c1, rfl, -, -, -, -⟩ := h1
  have HP : Hid (Parts w vs ls) := hps
  clear hps
  go_enter Try.func3, Try.ntmps3
  go_wp2_with fail
  refine (speaks3_any w).mono ?_
  rintro e w1 ⟨rfl, hb1⟩
  have X1 : Hid (Below w.heap.size w w1) := hb1
  clear hb1
  go_wp2_with fail
  refine (big3_any _ vs ls w1 (H1.out.below X1.out) (HP.out.below X1.out)).mono ?_
  rintro e w2 ⟨rfl, rfl⟩
  have HBIG : Hid (∀ b, ((ls.any fun l => decide (200 < l.length)) || decide (50 < ls.length)) = b → True) := fun _ _ => trivial
  generalize ((ls.any fun l => decide (200 < l.length)) || decide (50 < ls.length)) = big at *
  cases big with
  | true =>
    go_wp2
    go_ret
    exact ⟨rfl, X1.out⟩
  | false =>
    by_cases h200 : 200 < s
    · go_wp2
      go_ret
      exact ⟨rfl, X1.out⟩
    by_cases hfit : 0 ≤ s ∧ fitB s.toNat ls = true
    · obtain ⟨hs0, hf⟩ := hfit
      obtain ⟨n, rfl⟩ := Int.eq_ofNat_of_zero_le hs0
      have hn : n ≤ 200 := by omega
      have HF : Hid (fitB n ls = true) := hf
      clear hf hs0 h200 HBIG
      go_wp2_with fail
      refine (sum_yes n _ vs ls _ (by omega) (H1.out.below X1.out) (HP.out.below X1.out) HF.out).mono ?_
      rintro e w3 ⟨rfl, hb3, hx3⟩
      have B3 : Hid (Blk w3 w2.heap.size [] (xorAll (zeros n) ls) []) := hb3
      have X3 : Hid (Below w.heap.size w w3) := X1.out.trans (hx3.mono X1.out.size)
      clear hb3 hx3
      obtain ⟨q, hq⟩ : ∃ q, w2.heap.size = q := ⟨_, rfl⟩
      rw [hq] at B3 ⊢
      clear hq
      have HX : Hid ((xorAll (zeros n) ls).length = n) := by
        unfold Hid
        rw [xorAll_length (fun x hx => by rw [zeros_length]; exact fitB_mem HF.out hx), zeros_length]
      have HR : Hid (∀ W, Below w3.heap.size w3 W → Calls Try.prog 16 #[.int .i64 n, .slice a1 vs.length c1] W fun e w' => ∃ v, e = .returned v ∧ IsBs (xorAll (zeros n) ls) v w' ∧ Below W.heap.size W w') := by
        intro W hW
        have hB := X3.out.trans (hW.mono X3.out.size)
        refine (rsum_any n _ vs ls W (by omega) (H1.out.below hB) (HP.out.below hB) HF.out).mono ?_
        rintro e w' ⟨rfl, h1, h2⟩
        exact ⟨_, rfl, h1.bs0 _ _ HX.out.symm (Nat.le_refl _) (by unfold maxLen; omega), h2⟩
      generalize hx : xorAll (zeros n) ls = x at *
      have BQ : Hid (Bs w3 (.slice (some ⟨q, 0, none⟩) n n) x) := B3.out.bs0 n n HX.out.symm (Nat.le_refl _) (by unfold maxLen; omega)
      clear hx
      go_wp2_with fail
      refine (rfits_any (n : Int) _ vs ls _ (H1.out.below X3.out) (HP.out.below X3.out)).mono ?_
      rintro e w4 ⟨rfl, rfl⟩
      have hd : (decide (0 ≤ (n : Int)) && fitB (n : Int).toNat ls) = true := by simp [HF.out]
      rw [hd]
      clear hd
      have HZ : Hid (∀ W, Below w4.heap.size w4 W → Calls Try.prog 17 #[.slice (some ⟨q, 0, none⟩) n n] W fun e w' => ∃ v, e = .returned v ∧ IsV (.bool (zeroB x)) v w' ∧ Below W.heap.size W w') := fun W hW => calls_same (zero_any _ x W (BQ.out.below hW))
      have HRZ : Hid (∀ W, Below w4.heap.size w4 W → Calls Try.prog 18 #[.slice (some ⟨q, 0, none⟩) n n] W fun e w' => ∃ v, e = .returned v ∧ IsV (.bool (zeroB x)) v w' ∧ Below W.heap.size W w') := fun W hW => calls_same (rzero_any _ x W (BQ.out.below hW))
      have KQ : Hid (∀ W, Below w4.heap.size w4 W → (convert 25 9 (.slice (some ⟨q, 0, none⟩) n n)).run Try.prog W = .ok (.string (str x)) W) := fun W hW => conv_bytes (BQ.out.below hW)
      go_wp2
      refine wp_region_any (by kernel_rfl) ?_
      obtain ⟨gs, hgs⟩ : ∃ gs : List (Value → World → Prop), gs = [IsV (Value.bool true), IsV (Value.bool true), IsV (Value.slice (some { block := q, off := 0 }) n n), IsV (.string (str x)), IsV (Value.int IntKind.i64 ↑n), IsV (Value.slice a1 vs.length c1), IsBs x, IsV (.string (str x)), IsV (.bool true), IsV (.bool true), IsV (.bool true), IsV (Value.slice (some { block := q, off := 0 }) n n), IsV (.bool (zeroB x)), IsV (Value.slice (some { block := q, off := 0 }) n n), IsV (.bool (zeroB x)), IsV (.bool true), IsV (.bool true), IsV (.bool true)] := ⟨_, rfl⟩
      have g0 : Hid (gs[0]? = some (IsV (Value.bool true))) := by unfold Hid; rw [hgs]; rfl
      have g1 : Hid (gs[1]? = some (IsV (Value.bool true))) := by unfold Hid; rw [hgs]; rfl
      have g2 : Hid (gs[2]? = some (IsV (Value.slice (some { block := q, off := 0 }) n n))) := by unfold Hid; rw [hgs]; rfl
      have g3 : Hid (gs[3]? = some (IsV (.string (str x)))) := by unfold Hid; rw [hgs]; rfl
      have g4 : Hid (gs[4]? = some (IsV (Value.int IntKind.i64 ↑n))) := by unfold Hid; rw [hgs]; rfl
      have g5 : Hid (gs[5]? = some (IsV (Value.slice a1 vs.length c1))) := by unfold Hid; rw [hgs]; rfl
      have g6 : Hid (gs[6]? = some (IsBs x)) := by unfold Hid; rw [hgs]; rfl
      have g7 : Hid (gs[7]? = some (IsV (.string (str x)))) := by unfold Hid; rw [hgs]; rfl
      have g8 : Hid (gs[8]? = some (IsV (.bool true))) := by unfold Hid; rw [hgs]; rfl
      have g9 : Hid (gs[9]? = some (IsV (.bool true))) := by unfold Hid; rw [hgs]; rfl
      have g10 : Hid (gs[10]? = some (IsV (.bool true))) := by unfold Hid; rw [hgs]; rfl
      have g11 : Hid (gs[11]? = some (IsV (Value.slice (some { block := q, off := 0 }) n n))) := by unfold Hid; rw [hgs]; rfl
      have g12 : Hid (gs[12]? = some (IsV (.bool (zeroB x)))) := by unfold Hid; rw [hgs]; rfl
      have g13 : Hid (gs[13]? = some (IsV (Value.slice (some { block := q, off := 0 }) n n))) := by unfold Hid; rw [hgs]; rfl
      have g14 : Hid (gs[14]? = some (IsV (.bool (zeroB x)))) := by unfold Hid; rw [hgs]; rfl
      have g15 : Hid (gs[15]? = some (IsV (.bool true))) := by unfold Hid; rw [hgs]; rfl
      have g16 : Hid (gs[16]? = some (IsV (.bool true))) := by unfold Hid; rw [hgs]; rfl
      have g17 : Hid (gs[17]? = some (IsV (.bool true))) := by unfold Hid; rw [hgs]; rfl
      have gk : Hid (∀ p ∈ gs, Stays p) := by
        unfold Hid
        rw [hgs]
        simp only [List.forall_mem_cons]
        exact ⟨stays_v _, stays_v _, stays_v _, stays_v _, stays_v _, stays_v _, stays_bs _, stays_v _, stays_v _, stays_v _, stays_v _, stays_v _, stays_v _, stays_v _, stays_v _, stays_v _, stays_v _, stays_v _, by simp⟩
      clear hgs
      refine wpAny_inv (fun listed a W => ∃ xv : Nat → Value, a = ⟨#[Value.int IntKind.i64 ↑n, Value.slice a1 vs.length c1, undef, undef, xv 17, Value.slice (some { block := q, off := 0 }) n n, Value.bool true, Value.bool true, Value.bool false, Value.slice a1 vs.length c1, Value.bool false, Value.bool false, Value.int IntKind.i64 ↑n, Value.bool (decide ((200 : Int) < ↑n)), Value.bool (decide ((200 : Int) < ↑n)), Value.tuple #[Value.slice (some { block := q, off := 0 }) n n, Value.bool true], Value.int IntKind.i64 ↑n, Value.slice a1 vs.length c1, Value.tuple #[Value.slice (some { block := q, off := 0 }) n n, Value.bool true], Value.slice (some { block := q, off := 0 }) n n, Value.bool true, Value.int IntKind.i64 ↑n, Value.slice a1 vs.length c1, Value.bool true, Value.bool false, undef, undef, undef, undef, undef, undef, undef, xv 0, xv 1, xv 2, xv 3, xv 4, xv 5, xv 6, xv 7, xv 8, xv 9, xv 10, xv 11, xv 12, xv 13, xv 14, xv 15, xv 16], []⟩ ∧ Below w4.heap.size w4 W ∧ Lst gs listed xv W) (by kernel_rfl) ?_ ?_ _ _ _ _ (by kernel_rfl) (of_decide_eq_true (by kernel_rfl)) ⟨fun j => if j = 17 then Value.bool false else undef, rfl, below0 _, Lst.start _ _ _ _⟩
      · rintro listed a W ⟨xv, rfl, hb, hG⟩ i hi hd
        have hin : i < 18 := hi
        clear hi
        have hcase : i = 0 ∨ i = 1 ∨ i = 2 ∨ i = 3 ∨ i = 4 ∨ i = 5 ∨ i = 6 ∨ i = 7 ∨ i = 8 ∨ i = 9 ∨ i = 10 ∨ i = 11 ∨ i = 12 ∨ i = 13 ∨ i = 14 ∨ i = 15 ∨ i = 16 ∨ i = 17 := by omega
        rcases hcase with rfl | rfl | rfl | rfl | rfl | rfl | rfl | rfl | rfl | rfl | rfl | rfl | rfl | rfl | rfl | rfl | rfl | rfl
        · refine wpOp_step rfl (fun K' hK => ?_)
          clear hd hin
          go_simp
          exact hK _ _ ⟨updV xv 0 (Value.bool true), by simp [updV], hb, hG.same gk.out g0.out _ rfl⟩
        · refine wpOp_step rfl (fun K' hK => ?_)
          simp [Region.binds] at hd
          have e0 : xv 0 = Value.bool true := hG.get g0.out (by simp [hd])
          clear hd hin
          go_simp
          exact hK _ _ ⟨updV xv 1 (Value.bool true), by simp [updV, e0], hb, hG.same gk.out g1.out _ rfl⟩
        · refine wpOp_step rfl (fun K' hK => ?_)
          simp [Region.binds] at hd
          have e1 : xv 1 = Value.bool true := hG.get g1.out (by simp [hd])
          clear hd hin
          go_simp
          exact hK _ _ ⟨updV xv 2 (Value.slice (some { block := q, off := 0 }) n n), by simp [updV, e1], hb, hG.same gk.out g2.out _ rfl⟩
        · refine wpOp_step rfl (fun K' hK => ?_)
          simp [Region.binds] at hd
          have e2 : xv 2 = Value.slice (some { block := q, off := 0 }) n n := hG.get g2.out (by simp [hd])
          have e1 : xv 1 = Value.bool true := hG.get g1.out (by simp [hd])
          have kr := KQ.out W hb
          clear hd hin
          go_simp
          exact hK _ _ ⟨updV xv 3 (.string (str x)), by simp [updV, e2, e1], hb, hG.same gk.out g3.out _ rfl⟩
        · refine wpOp_step rfl (fun K' hK => ?_)
          simp [Region.binds] at hd
          have e1 : xv 1 = Value.bool true := hG.get g1.out (by simp [hd])
          clear hd hin
          go_simp
          exact hK _ _ ⟨updV xv 4 (Value.int IntKind.i64 ↑n), by simp [updV, e1], hb, hG.same gk.out g4.out _ rfl⟩
        · refine wpOp_step rfl (fun K' hK => ?_)
          simp [Region.binds] at hd
          have e1 : xv 1 = Value.bool true := hG.get g1.out (by simp [hd])
          clear hd hin
          go_simp
          exact hK _ _ ⟨updV xv 5 (Value.slice a1 vs.length c1), by simp [updV, e1], hb, hG.same gk.out g5.out _ rfl⟩
        · refine wpOp_step rfl (fun K' hK => ?_)
          simp [Region.binds] at hd
          have e4 : xv 4 = Value.int IntKind.i64 ↑n := hG.get g4.out (by simp [hd])
          have e5 : xv 5 = Value.slice a1 vs.length c1 := hG.get g5.out (by simp [hd])
          have e1 : xv 1 = Value.bool true := hG.get g1.out (by simp [hd])
          clear hd hin
          go_simp
          refine (HR.out W hb).mono ?_
          rintro e w' ⟨v, rfl, hv, hb'⟩
          go_wp2_with fail
          exact ⟨updV xv 6 v, by simp [updV, e4, e5, e1], hb.trans (hb'.mono hb.size), hG.step gk.out hb' g6.out v hv⟩
        · refine wpOp_step rfl (fun K' hK => ?_)
          simp [Region.binds] at hd
          have m6 : IsBs x (xv 6) W := hG.get g6.out (by simp [hd])
          have e1 : xv 1 = Value.bool true := hG.get g1.out (by simp [hd])
          have kr := conv_bytes m6
          clear hd hin
          go_simp
          exact hK _ _ ⟨updV xv 7 (.string (str x)), by simp [updV, e1], hb, hG.same gk.out g7.out _ rfl⟩
        · refine wpOp_step rfl (fun K' hK => ?_)
          simp [Region.binds] at hd
          have e3 : xv 3 = .string (str x) := hG.get g3.out (by simp [hd])
          have e7 : xv 7 = .string (str x) := hG.get g7.out (by simp [hd])
          have e1 : xv 1 = Value.bool true := hG.get g1.out (by simp [hd])
          clear hd hin
          go_simp
          exact hK _ _ ⟨updV xv 8 (.bool true), by simp [updV, e3, e7, e1], hb, hG.same gk.out g8.out _ rfl⟩
        · refine wpOp_step rfl (fun K' hK => ?_)
          simp [Region.binds] at hd
          have e1 : xv 1 = Value.bool true := hG.get g1.out (by simp [hd])
          have e8 : xv 8 = .bool true := hG.get g8.out (by simp [hd])
          clear hd hin
          go_simp
          exact hK _ _ ⟨updV xv 9 (.bool true), by simp [updV, e1, e8], hb, hG.same gk.out g9.out _ rfl⟩
        · refine wpOp_step rfl (fun K' hK => ?_)
          simp [Region.binds] at hd
          have e9 : xv 9 = .bool true := hG.get g9.out (by simp [hd])
          clear hd hin
          go_simp
          exact hK _ _ ⟨updV xv 10 (.bool true), by simp [updV, e9], hb, hG.same gk.out g10.out _ rfl⟩
        · refine wpOp_step rfl (fun K' hK => ?_)
          simp [Region.binds] at hd
          have e10 : xv 10 = .bool true := hG.get g10.out (by simp [hd])
          clear hd hin
          go_simp
          exact hK _ _ ⟨updV xv 11 (Value.slice (some { block := q, off := 0 }) n n), by simp [updV, e10], hb, hG.same gk.out g11.out _ rfl⟩
        · refine wpOp_step rfl (fun K' hK => ?_)
          simp [Region.binds] at hd
          have e11 : xv 11 = Value.slice (some { block := q, off := 0 }) n n := hG.get g11.out (by simp [hd])
          have e10 : xv 10 = .bool true := hG.get g10.out (by simp [hd])
          clear hd hin
          go_simp
          refine (HZ.out W hb).mono ?_
          rintro e w' ⟨v, rfl, hv, hb'⟩
          go_wp2_with fail
          exact ⟨updV xv 12 v, by simp [updV, e11, e10], hb.trans (hb'.mono hb.size), hG.step gk.out hb' g12.out v hv⟩
        · refine wpOp_step rfl (fun K' hK => ?_)
          simp [Region.binds] at hd
          have e10 : xv 10 = .bool true := hG.get g10.out (by simp [hd])
          clear hd hin
          go_simp
          exact hK _ _ ⟨updV xv 13 (Value.slice (some { block := q, off := 0 }) n n), by simp [updV, e10], hb, hG.same gk.out g13.out _ rfl⟩
        · refine wpOp_step rfl (fun K' hK => ?_)
          simp [Region.binds] at hd
          have e13 : xv 13 = Value.slice (some { block := q, off := 0 }) n n := hG.get g13.out (by simp [hd])
          have e10 : xv 10 = .bool true := hG.get g10.out (by simp [hd])
          clear hd hin
          go_simp
          refine (HRZ.out W hb).mono ?_
          rintro e w' ⟨v, rfl, hv, hb'⟩
          go_wp2_with fail
          exact ⟨updV xv 14 v, by simp [updV, e13, e10], hb.trans (hb'.mono hb.size), hG.step gk.out hb' g14.out v hv⟩
        · refine wpOp_step rfl (fun K' hK => ?_)
          simp [Region.binds] at hd
          have e12 : xv 12 = .bool (zeroB x) := hG.get g12.out (by simp [hd])
          have e14 : xv 14 = .bool (zeroB x) := hG.get g14.out (by simp [hd])
          have e10 : xv 10 = .bool true := hG.get g10.out (by simp [hd])
          clear hd hin
          go_simp
          exact hK _ _ ⟨updV xv 15 (.bool true), by simp [updV, e12, e14, e10], hb, hG.same gk.out g15.out _ rfl⟩
        · refine wpOp_step rfl (fun K' hK => ?_)
          simp [Region.binds] at hd
          have e10 : xv 10 = .bool true := hG.get g10.out (by simp [hd])
          have e15 : xv 15 = .bool true := hG.get g15.out (by simp [hd])
          clear hd hin
          go_simp
          exact hK _ _ ⟨updV xv 16 (.bool true), by simp [updV, e10, e15], hb, hG.same gk.out g16.out _ rfl⟩
        · refine wpOp_step rfl (fun K' hK => ?_)
          simp [Region.binds] at hd
          have e16 : xv 16 = .bool true := hG.get g16.out (by simp [hd])
          clear hd hin
          go_simp
          exact hK _ _ ⟨updV xv 17 (.bool true), by simp [updV, e16], hb, hG.same gk.out g17.out _ rfl⟩
      · rintro listed a W ⟨xv, rfl, hb, hG⟩ hall
        have e17 : xv 17 = .bool true := hG.get g17.out (hall 17 (by decide))
        have XW : Hid (Below w4.heap.size w4 W) := hb
        clear hall hG hb gk g0 g1 g2 g3 g4 g5 g6 g7 g8 g9 g10 g11 g12 g13 g14 g15 g16 g17
        rw [e17]
        clear e17
        go_wp2
        go_ret
        exact ⟨rfl, X3.out.trans (XW.out.mono X3.out.size)⟩
    · have HN : Hid (s < 0 ∨ 16777216 < s ∨ fitB s.toNat ls = false) := by
        unfold Hid
        by_cases h0 : s < 0
        · exact .inl h0
        · right; right
          cases hf : fitB s.toNat ls with
          | false => rfl
          | true => exact absurd ⟨by omega, hf⟩ hfit
      have HD : Hid ((decide (0 ≤ s) && fitB s.toNat ls) = false) := by
        unfold Hid
        by_cases h0 : 0 ≤ s
        · rcases HN.out with h | h | h
          · omega
          · omega
          · simp [h]
        · simp [h0]
      clear hfit HBIG
      go_wp2_with fail
      refine (sum_no s _ vs ls _ (H1.out.below X1.out) (HP.out.below X1.out) HN.out).mono ?_
      rintro e w3 ⟨rfl, hx3⟩
      have X3 : Hid (Below w.heap.size w w3) := X1.out.trans (hx3.mono X1.out.size)
      clear hx3
      go_wp2_with fail
      refine (rfits_any s _ vs ls _ (H1.out.below X3.out) (HP.out.below X3.out)).mono ?_
      rintro e w4 ⟨rfl, rfl⟩
      rw [HD.out]
      go_wp2
      go_ret
      exact ⟨rfl, X3.out⟩

end Go.Proofs.Ytpnjednghpbccaa
