/-
  SegmentJoins.
-/
import Derived.Test.YtbnedpjfgadkkaaSBack
namespace Go.Proofs.Ytbnedpjfgadkkaa
open Go.RowKit
set_option linter.unusedVariables false

set_option maxRecDepth 100000 in
set_option maxHeartbeats 8000000 in
theorem segmentJoins_walk (N B Q E F n : Int) (pv : Value) (vs : List Value) (ls : List (List UInt8)) (w : World) (hp : Sl 1 w pv vs.length vs) (hps : Parts w vs ls) :
    Calls Try.prog 7 #[.agg #[.int .i64 N, .int .i64 B, .int .i64 Q, .int .i64 E, .int .i64 F], .int .i64 n, pv] w fun e w' => e = .returned (.bool true) ∧ Below w.heap.size w w' := by
  obtain ⟨m, hm⟩ : ∃ m, vs.length = m := ⟨_, rfl⟩
  have HV : Hid (vs.length = m) := hm
  have HL : Hid (ls.length = m) := by unfold Hid; rw [← hps.1]; exact hm
  have HP : Hid (Parts w vs ls) := hps
  rw [hm] at hp
  have HSl : Hid (Sl 1 w pv m vs) := hp
  obtain ⟨-, ao, cap, rfl, h2, h3, -, -⟩ := hp
  unfold maxLen at h3
  clear hps hm
  go_enter Try.func7, Try.ntmps7
  go_wp2_with fail
  refine (speaks12_any _).mono ?_
  rintro e w1 ⟨rfl, hb⟩
  have B1 : Hid (Below w.heap.size w w1) := on_below (below_alloc _ _) hb
  have P1 : Hid (Five w1 w.heap.size N B Q E F) := (five_new w _ _ _ _ _ _).below hb
  clear hb
  by_cases hm100 : m ≤ 100
  · have km : ¬ (m : Int) > 100 := by omega
    have c0 := P1.out.1
    have c1 := P1.out.2.1
    by_cases g1 : (m : Int) = N
    · have q1 : ((m : Int) == N) = true := by simpa using g1
      by_cases g2 : 0 ≤ n
      · have q2 : n ≥ 0 := by omega
        obtain ⟨X, hX⟩ : ∃ X, IntKind.i64.wrap (N * B) = X := ⟨_, rfl⟩
        obtain ⟨r0, hr0⟩ : ∃ r0, decide (n ≤ X) = r0 := ⟨_, rfl⟩
        have HR0 : Hid (decide (n ≤ X) = r0) := hr0
        have HR : Hid (May N B Q E F → (r0 = true ↔ (m : Int) = N ∧ 0 ≤ n ∧ n ≤ N * B)) := by
          intro hM
          have hw := (most_range hM.1 hM.2.1).1
          rw [← hr0, ← hX, hw, decide_eq_true_iff]
          exact ⟨fun h => ⟨g1, g2, h⟩, fun h => h.2.2⟩
        clear g1 g2 hr0
        have HA : Hid ((ls.take 0).all (fun l => decide ((l.length : Int) = B)) = true) := by unfold Hid; simp
        go_wp2
        clear c0 c1
        go_loopw [7, 37] (fun rv iv wr => ∃ (k : Nat) (r : Bool), k ≤ m ∧ iv = .int .i64 k ∧ rv = .bool r ∧ Hid (r = (r0 && (ls.take k).all (fun l => decide ((l.length : Int) = B)))) ∧ Hid (Below w1.heap.size w1 wr) ∧ Hid (∀ x ∈ ls.take k, x.length ≤ 200)) (fun _ iv _ => m - (intOf iv).toNat)
        case atStart => exact ⟨0, r0, by omega, rfl, by rw [HR0.out], by unfold Hid; simp, Below.refl _ _, by unfold Hid; simp⟩
        case round =>
          obtain ⟨k, r, hk, rfl, rfl, HE, BB, HS⟩ := hrel
          clear HA
          by_cases hlt : k < m
          · have hkv : k < vs.length := by rw [HV.out]; exact hlt
            have hkl : k < ls.length := by rw [HL.out]; exact hlt
            obtain ⟨-, ao', cap', hv0, -, -, -, h5⟩ := HSl.out
            injection hv0 with e1 e2 e3
            subst e1
            obtain ⟨b0, o0, rfl, hc0⟩ : ∃ b off, ao = some ⟨b, off, none⟩ ∧ ∀ j u, vs[j]? = some u → w.cell? ⟨b, off + j, none⟩ = some u := by
              rcases h5 with h0 | h0
              · omega
              · exact h0
            have ck0 := hc0 k vs[k] (List.getElem?_eq_getElem hkv)
            have BW : Hid (Below w.heap.size w wr) := on_below B1.out BB.out
            have ck := (BW.out.cell (cell_block_lt ck0)).trans ck0
            obtain ⟨-, ai, ci, hvi, g2, g3, -, -⟩ := HP.out.2 k _ _ (List.getElem?_eq_getElem hkv) (List.getElem?_eq_getElem hkl)
            unfold maxLen at g3
            rw [hvi] at ck
            have HN : Hid ((ls.take (k + 1)).all (fun l => decide ((l.length : Int) = B)) = ((ls.take k).all (fun l => decide ((l.length : Int) = B)) && decide ((ls[k].length : Int) = B))) := by
              unfold Hid
              rw [List.take_succ_eq_append_getElem hkl, List.all_append]
              simp
            have HM : Hid (ls[k].length ≤ 200 → ∀ x ∈ ls.take (k + 1), x.length ≤ 200) := by
              intro h x hx
              rw [List.take_succ_eq_append_getElem hkl, List.mem_append] at hx
              rcases hx with hx | hx
              · exact HS.out x hx
              · rw [List.mem_singleton.1 hx]; exact h
            clear hc0 ck0 hvi e2 e3
            generalize ls[k].length = z at *
            by_cases hz : z > 200
            · have hz' : (z : Int) > 200 := by omega
              clear HN HM HS
              go_wp2
              go_ret
              exact ⟨rfl, BW.out⟩
            · have hz' : ¬ (z : Int) > 200 := by omega
              have HS2 : Hid (∀ x ∈ ls.take (k + 1), x.length ≤ 200) := HM.out (by omega)
              have c1 := (P1.out.below BB.out).2.1
              cases r with
              | false =>
                have HE2 : Hid (false = (r0 && (ls.take (k + 1)).all (fun l => decide ((l.length : Int) = B)))) := by unfold Hid; rw [HN.out, ← Bool.and_assoc, ← HE.out, Bool.false_and]
                clear HN HM HS HE
                go_wp2
                go_roundw
                case rel => exact ⟨k + 1, false, by omega, by go_num, rfl, HE2, BB, HS2⟩
                case measure => simp [intOf]; omega
              | true =>
                by_cases hzB : (z : Int) = B
                · have hq : ((z : Int) == B) = true := by simpa using hzB
                  have HE2 : Hid (true = (r0 && (ls.take (k + 1)).all (fun l => decide ((l.length : Int) = B)))) := by unfold Hid; rw [HN.out, ← Bool.and_assoc, ← HE.out, decide_eq_true hzB]; rfl
                  clear HN HM HS HE hzB
                  go_wp2
                  go_roundw
                  case rel => exact ⟨k + 1, true, by omega, by go_num, rfl, HE2, BB, HS2⟩
                  case measure => simp [intOf]; omega
                · have hq : ((z : Int) == B) = false := by simpa using hzB
                  have HE2 : Hid (false = (r0 && (ls.take (k + 1)).all (fun l => decide ((l.length : Int) = B)))) := by unfold Hid; rw [HN.out, ← Bool.and_assoc, ← HE.out, decide_eq_false hzB]; rfl
                  clear HN HM HS HE hzB
                  go_wp2
                  go_roundw
                  case rel => exact ⟨k + 1, false, by omega, by go_num, rfl, HE2, BB, HS2⟩
                  case measure => simp [intOf]; omega
          · obtain rfl : k = m := by omega
            have eT : ls.take k = ls := List.take_of_length_le (by rw [HL.out]; omega)
            rw [eT] at HE HS
            have BW : Hid (Below w.heap.size w wr) := on_below B1.out BB.out
            have PW : Hid (Five wr w.heap.size N B Q E F) := P1.out.below BB.out
            obtain ⟨c0, c1, c2, c3, c4⟩ := PW.out
            by_cases hM : May N B Q E F
            · obtain ⟨N, B, rfl, rfl, n1, n2, b1, b2⟩ := may_nb hM
              have HM : Hid (May (N : Int) (B : Int) Q E F) := hM
              have CX : Hid (∀ W, Calls Try.prog 13 #[.agg #[.int .i64 (N : Int), .int .i64 (B : Int), .int .i64 Q, .int .i64 E, .int .i64 F]] W fun e w' => e = .returned (.bool true) ∧ Below W.heap.size W w') := fun W => rmay_yes _ _ _ _ _ W HM.out
              have HR2 : Hid (r0 = true ↔ k = N ∧ 0 ≤ n ∧ n ≤ (N : Int) * (B : Int)) := (HR.out hM).trans ⟨fun h => ⟨by have := h.1; omega, h.2⟩, fun h => ⟨by have := h.1; omega, h.2⟩⟩
              clear hM
              cases r with
              | true =>
                have hfit : fitJ N B n ls := by
                  have h1 := HE.out
                  have h2 : r0 = true := by cases hr : r0 <;> simp [hr] at h1 ⊢
                  obtain ⟨q1, q2, q3⟩ := HR2.out.1 h2
                  refine ⟨by rw [HL.out]; exact q1, q2, by simpa using q3, ?_⟩
                  rw [h2, Bool.true_and] at h1
                  exact h1.symm
                obtain ⟨n', rfl⟩ : ∃ n' : Nat, n = n' := ⟨n.toNat, by have := hfit.2.1; omega⟩
                have hn' : n' ≤ 100000000 := by
                  have h1 := hfit.2.2.1
                  have h2 : N ≤ 100 := by have := hfit.1; rw [HL.out] at this; omega
                  have h3 : N * B ≤ 100 * 65535 := Nat.mul_le_mul h2 b2
                  omega
                obtain ⟨J, hJ⟩ : ∃ J, joinD n' ls = J := ⟨_, rfl⟩
                have HJl : Hid (J.length = n') := by
                  unfold Hid
                  rw [← hJ]
                  exact joinD_length hfit.mem (by rw [hfit.1]; have := hfit.2.2.1; omega)
                have CJ : Hid (∀ W, Below w.heap.size w W → Calls Try.prog 22 #[.agg #[.int .i64 (N : Int), .int .i64 (B : Int), .int .i64 Q, .int .i64 E, .int .i64 F], .int .i64 (n' : Int), .slice ao k cap] W fun e w' => ∃ q, e = .returned (.tuple #[.slice (some ⟨q, 0, none⟩) n' n', .int .i64 0]) ∧ W.heap.size ≤ q ∧ Blk w' q [] J [] ∧ Below W.heap.size W w') := by
                  intro W hW
                  have := join_yes N B Q E F n' (.slice ao k cap) vs ls W HM.out (by rw [HV.out]; exact HSl.out.below hW) (HP.out.below hW) hfit
                  rw [hJ] at this
                  exact this
                have CR : Hid (∀ W, Below w.heap.size w W → Calls Try.prog 23 #[.int .i64 (n' : Int), .slice ao k cap] W fun e w' => ∃ v, e = .returned v ∧ IsBs J v w' ∧ Below W.heap.size W w') := by
                  intro W hW
                  refine (rjoin_any n' (.slice ao k cap) vs ls W (by rw [HV.out]; exact HSl.out.below hW) (HP.out.below hW) hn' (by rw [HL.out]; omega)).mono ?_
                  rintro e w' ⟨m', v, rfl, ho, hb⟩
                  rw [hJ] at ho
                  exact ⟨v, rfl, ho.bs, hb⟩
                clear hfit hJ HE HS HR2 HR
                go_wp2_with fail
                refine (CJ.out _ BW.out).mono ?_
                rintro e w4 ⟨q, rfl, -, hkb, hb⟩
                have B4 : Hid (Below w.heap.size w w4) := on_below BW.out hb
                have P4 : Hid (Five w4 w.heap.size N B Q E F) := PW.out.below hb
                have G4 : Hid (Bs w4 (.slice (some ⟨q, 0, none⟩) n' n') J) := hkb.bs0 n' n' HJl.out.symm (Nat.le_refl _) (by unfold maxLen; omega)
                clear hkb hb CJ c0 c1 c2 c3 c4 PW BW BB
                obtain ⟨c0, c1, c2, c3, c4⟩ := P4.out
                go_wp2_with fail
                refine (CX.out _).mono ?_
                rintro e w5 ⟨rfl, hb⟩
                have B5 : Hid (Below w.heap.size w w5) := on_below B4.out hb
                have KG : Hid (∀ W, Below w5.heap.size w5 W → (convert 40 9 (.slice (some ⟨q, 0, none⟩) n' n')).run Try.prog W = .ok (.string (str J)) W) := fun W hW => conv_bytes ((G4.out.below hb).below hW)
                have CR5 : Hid (∀ W, Below w5.heap.size w5 W → Calls Try.prog 23 #[.int .i64 (n' : Int), .slice ao k cap] W fun e w' => ∃ v, e = .returned v ∧ IsBs J v w' ∧ Below W.heap.size W w') := fun W hW => CR.out W (on_below B5.out hW)
                clear hb c0 c1 c2 c3 c4 P4 B4 G4 CR CX
                go_upto_region 18 with fail
                refine wp_region_any (by kernel_rfl) ?_
                obtain ⟨gs, hgs⟩ : ∃ gs : List (Value → World → Prop), gs = [IsV (Value.int IntKind.i64 (0 : Int)), IsV (.bool true), IsV (.bool true), IsV (Value.slice (some { block := q, off := 0 }) n' n'), IsV (.string (str J)), IsV (Value.int IntKind.i64 ↑n'), IsV (Value.slice ao k cap), IsBs J, IsV (.string (str J)), IsV (.bool true), IsV (.bool true), IsV (.bool true)] := ⟨_, rfl⟩
                have g0 : Hid (gs[0]? = some (IsV (Value.int IntKind.i64 (0 : Int)))) := by unfold Hid; rw [hgs]; rfl
                have g1 : Hid (gs[1]? = some (IsV (.bool true))) := by unfold Hid; rw [hgs]; rfl
                have g2 : Hid (gs[2]? = some (IsV (.bool true))) := by unfold Hid; rw [hgs]; rfl
                have g3 : Hid (gs[3]? = some (IsV (Value.slice (some { block := q, off := 0 }) n' n'))) := by unfold Hid; rw [hgs]; rfl
                have g4 : Hid (gs[4]? = some (IsV (.string (str J)))) := by unfold Hid; rw [hgs]; rfl
                have g5 : Hid (gs[5]? = some (IsV (Value.int IntKind.i64 ↑n'))) := by unfold Hid; rw [hgs]; rfl
                have g6 : Hid (gs[6]? = some (IsV (Value.slice ao k cap))) := by unfold Hid; rw [hgs]; rfl
                have g7 : Hid (gs[7]? = some (IsBs J)) := by unfold Hid; rw [hgs]; rfl
                have g8 : Hid (gs[8]? = some (IsV (.string (str J)))) := by unfold Hid; rw [hgs]; rfl
                have g9 : Hid (gs[9]? = some (IsV (.bool true))) := by unfold Hid; rw [hgs]; rfl
                have g10 : Hid (gs[10]? = some (IsV (.bool true))) := by unfold Hid; rw [hgs]; rfl
                have g11 : Hid (gs[11]? = some (IsV (.bool true))) := by unfold Hid; rw [hgs]; rfl
                have gk : Hid (∀ p ∈ gs, Stays p) := by
                  unfold Hid
                  rw [hgs]
                  simp only [List.forall_mem_cons]
                  exact ⟨stays_v _, stays_v _, stays_v _, stays_v _, stays_v _, stays_v _, stays_v _, stays_bs _, stays_v _, stays_v _, stays_v _, stays_v _, by simp⟩
                clear hgs
                refine wpAny_inv (fun listed ac W => ∃ xv : Nat → Value, ac = ⟨#[Value.agg #[Value.int IntKind.i64 ↑N, Value.int IntKind.i64 ↑B, Value.int IntKind.i64 Q, Value.int IntKind.i64 E, Value.int IntKind.i64 F], Value.int IntKind.i64 ↑n', Value.slice ao k cap, Value.pointer (some { block := w.heap.size, off := 0 }), undef, undef, xv 11, Value.bool true, undef, u9, Value.slice (some { block := q, off := 0 }) n' n', Value.int IntKind.i64 (0 : Int), Value.bool true, Value.bool false, Value.slice ao k cap, Value.int IntKind.i64 ↑k, Value.bool (decide ((100 : Int) < ↑k)), Value.slice ao k cap, Value.int IntKind.i64 ↑k, Value.pointer (some { block := w.heap.size, off := 0 }), Value.int IntKind.i64 ↑N, Value.bool true, Value.bool true, Value.int IntKind.i64 ↑n', Value.bool true, Value.bool true, Value.bool true, Value.int IntKind.i64 ↑n', Value.pointer (some { block := w.heap.size, off := 0 }), Value.int IntKind.i64 ↑N, Value.pointer (some { block := w.heap.size, off := 1 }), Value.int IntKind.i64 ↑B, Value.int IntKind.i64 X, Value.bool (decide (↑n' ≤ X)), Value.bool (decide (↑n' ≤ X)), Value.slice ao k cap, Value.int IntKind.i64 ↑k, Value.int IntKind.i64 ↑k, Value.bool false, u39, u40, u41, u42, u43, u44, u45, u46, u47, u48, u49, u50, u51, u52, Value.tuple #[Value.slice (some { block := q, off := 0 }) n' n', Value.int IntKind.i64 (0 : Int)], Value.agg #[Value.int IntKind.i64 ↑N, Value.int IntKind.i64 ↑B, Value.int IntKind.i64 Q, Value.int IntKind.i64 E, Value.int IntKind.i64 F], Value.int IntKind.i64 ↑n', Value.slice ao k cap, Value.tuple #[Value.slice (some { block := q, off := 0 }) n' n', Value.int IntKind.i64 (0 : Int)], Value.slice (some { block := q, off := 0 }) n' n', Value.int IntKind.i64 (0 : Int), Value.bool false, Value.agg #[Value.int IntKind.i64 ↑N, Value.int IntKind.i64 ↑B, Value.int IntKind.i64 Q, Value.int IntKind.i64 E, Value.int IntKind.i64 F], Value.bool true, Value.bool false, undef, undef, undef, undef, undef, undef, undef, Value.bool false, Value.bool true, Value.bool false, undef, undef, undef, undef, undef, undef, undef, xv 0, xv 1, xv 2, xv 3, xv 4, xv 5, xv 6, xv 7, xv 8, xv 9, xv 10], []⟩ ∧ Below w5.heap.size w5 W ∧ Lst gs listed xv W) (by kernel_rfl) ?_ ?_ _ _ _ _ (by kernel_rfl) (of_decide_eq_true (by kernel_rfl)) ⟨fun j => if j = 11 then u6 else undef, rfl, below0 _, Lst.start _ _ _ _⟩
                · rintro listed ac W ⟨xv, rfl, hb, hG⟩ i hi hd
                  have hin : i < 12 := hi
                  clear hi
                  have hcase : i = 0 ∨ i = 1 ∨ i = 2 ∨ i = 3 ∨ i = 4 ∨ i = 5 ∨ i = 6 ∨ i = 7 ∨ i = 8 ∨ i = 9 ∨ i = 10 ∨ i = 11 := by omega
                  rcases hcase with rfl | rfl | rfl | rfl | rfl | rfl | rfl | rfl | rfl | rfl | rfl | rfl
                  · refine wpOp_step rfl (fun K' hK => ?_)
                    clear hd hin
                    go_simp
                    exact hK _ _ ⟨updV xv 0 (Value.int IntKind.i64 (0 : Int)), by simp [updV], hb, hG.same gk.out g0.out _ rfl⟩
                  · refine wpOp_step rfl (fun K' hK => ?_)
                    simp [Region.binds] at hd
                    have e0 : xv 0 = Value.int IntKind.i64 (0 : Int) := hG.get g0.out (by simp [hd])
                    clear hd hin
                    go_simp
                    exact hK _ _ ⟨updV xv 1 (.bool true), by simp [updV, e0], hb, hG.same gk.out g1.out _ rfl⟩
                  · refine wpOp_step rfl (fun K' hK => ?_)
                    simp [Region.binds] at hd
                    have e1 : xv 1 = .bool true := hG.get g1.out (by simp [hd])
                    clear hd hin
                    go_simp
                    exact hK _ _ ⟨updV xv 2 (.bool true), by simp [updV, e1], hb, hG.same gk.out g2.out _ rfl⟩
                  · refine wpOp_step rfl (fun K' hK => ?_)
                    simp [Region.binds] at hd
                    have e2 : xv 2 = .bool true := hG.get g2.out (by simp [hd])
                    clear hd hin
                    go_simp
                    exact hK _ _ ⟨updV xv 3 (Value.slice (some { block := q, off := 0 }) n' n'), by simp [updV, e2], hb, hG.same gk.out g3.out _ rfl⟩
                  · refine wpOp_step rfl (fun K' hK => ?_)
                    simp [Region.binds] at hd
                    have e3 : xv 3 = Value.slice (some { block := q, off := 0 }) n' n' := hG.get g3.out (by simp [hd])
                    have e2 : xv 2 = .bool true := hG.get g2.out (by simp [hd])
                    have kr := KG.out W hb
                    clear hd hin
                    go_simp
                    exact hK _ _ ⟨updV xv 4 (.string (str J)), by simp [updV, e3, e2], hb, hG.same gk.out g4.out _ rfl⟩
                  · refine wpOp_step rfl (fun K' hK => ?_)
                    simp [Region.binds] at hd
                    have e2 : xv 2 = .bool true := hG.get g2.out (by simp [hd])
                    clear hd hin
                    go_simp
                    exact hK _ _ ⟨updV xv 5 (Value.int IntKind.i64 ↑n'), by simp [updV, e2], hb, hG.same gk.out g5.out _ rfl⟩
                  · refine wpOp_step rfl (fun K' hK => ?_)
                    simp [Region.binds] at hd
                    have e2 : xv 2 = .bool true := hG.get g2.out (by simp [hd])
                    clear hd hin
                    go_simp
                    exact hK _ _ ⟨updV xv 6 (Value.slice ao k cap), by simp [updV, e2], hb, hG.same gk.out g6.out _ rfl⟩
                  · refine wpOp_step rfl (fun K' hK => ?_)
                    simp [Region.binds] at hd
                    have e5 : xv 5 = Value.int IntKind.i64 ↑n' := hG.get g5.out (by simp [hd])
                    have e6 : xv 6 = Value.slice ao k cap := hG.get g6.out (by simp [hd])
                    have e2 : xv 2 = .bool true := hG.get g2.out (by simp [hd])
                    clear hd hin
                    go_simp
                    refine (CR5.out W hb).mono ?_
                    rintro e w' ⟨v, rfl, hv, hb'⟩
                    go_wp2_with fail
                    exact ⟨updV xv 7 v, by simp [updV, e5, e6, e2], hb.trans (hb'.mono hb.size), hG.step gk.out hb' g7.out v hv⟩
                  · refine wpOp_step rfl (fun K' hK => ?_)
                    simp [Region.binds] at hd
                    have m7 : IsBs J (xv 7) W := hG.get g7.out (by simp [hd])
                    have e2 : xv 2 = .bool true := hG.get g2.out (by simp [hd])
                    have kr := conv_bytes m7
                    clear hd hin
                    go_simp
                    exact hK _ _ ⟨updV xv 8 (.string (str J)), by simp [updV, e2], hb, hG.same gk.out g8.out _ rfl⟩
                  · refine wpOp_step rfl (fun K' hK => ?_)
                    simp [Region.binds] at hd
                    have e4 : xv 4 = .string (str J) := hG.get g4.out (by simp [hd])
                    have e8 : xv 8 = .string (str J) := hG.get g8.out (by simp [hd])
                    have e2 : xv 2 = .bool true := hG.get g2.out (by simp [hd])
                    clear hd hin
                    go_simp
                    exact hK _ _ ⟨updV xv 9 (.bool true), by simp [updV, e4, e8, e2], hb, hG.same gk.out g9.out _ rfl⟩
                  · refine wpOp_step rfl (fun K' hK => ?_)
                    simp [Region.binds] at hd
                    have e2 : xv 2 = .bool true := hG.get g2.out (by simp [hd])
                    have e9 : xv 9 = .bool true := hG.get g9.out (by simp [hd])
                    clear hd hin
                    go_simp
                    exact hK _ _ ⟨updV xv 10 (.bool true), by simp [updV, e2, e9], hb, hG.same gk.out g10.out _ rfl⟩
                  · refine wpOp_step rfl (fun K' hK => ?_)
                    simp [Region.binds] at hd
                    have e10 : xv 10 = .bool true := hG.get g10.out (by simp [hd])
                    clear hd hin
                    go_simp
                    exact hK _ _ ⟨updV xv 11 (.bool true), by simp [updV, e10], hb, hG.same gk.out g11.out _ rfl⟩
                · rintro listed ac W ⟨xv, rfl, hb, hG⟩ hall
                  have e11 : xv 11 = .bool true := hG.get g11.out (hall 11 (by decide))
                  have XW : Hid (Below w5.heap.size w5 W) := hb
                  clear hall hG hb gk g0 g1 g2 g3 g4 g5 g6 g7 g8 g9 g10 g11
                  rw [e11]
                  clear e11
                  have B6 : Hid (Below w.heap.size w W) := on_below B5.out XW.out
                  clear KG CR5 XW B5
                  go_wp2
                  go_ret
                  exact ⟨rfl, B6.out⟩
              | false =>
                have hfit : ¬ fitJ N B n ls := by
                  rintro ⟨q1, q2, q3, q4⟩
                  have h1 := HE.out
                  rw [HR2.out.2 ⟨by rw [← q1, HL.out], q2, by simpa using q3⟩, q4] at h1
                  cases h1
                have CJ : Hid (∀ W, Below w.heap.size w W → Calls Try.prog 22 #[.agg #[.int .i64 (N : Int), .int .i64 (B : Int), .int .i64 Q, .int .i64 E, .int .i64 F], .int .i64 n, .slice ao k cap] W fun e w' => e = .returned (.tuple #[.slice none 0 0, .int .i64 2]) ∧ Below W.heap.size W w') := fun W hW => join_bad N B Q E F n (.slice ao k cap) vs ls W HM.out (by rw [HV.out]; exact HSl.out.below hW) (HP.out.below hW) hfit
                clear hfit HE HS HR2 HR
                go_wp2_with fail
                refine (CJ.out _ BW.out).mono ?_
                rintro e w4 ⟨rfl, hb⟩
                have B4 : Hid (Below w.heap.size w w4) := on_below BW.out hb
                have P4 : Hid (Five w4 w.heap.size N B Q E F) := PW.out.below hb
                clear hb CJ c0 c1 c2 c3 c4 PW BW BB
                obtain ⟨c0, c1, c2, c3, c4⟩ := P4.out
                go_wp2_with fail
                refine (CX.out _).mono ?_
                rintro e w5 ⟨rfl, hb⟩
                have B5 : Hid (Below w.heap.size w w5) := on_below B4.out hb
                clear hb c0 c1 c2 c3 c4 P4 B4 CX
                go_wp2
                go_ret
                exact ⟨rfl, B5.out⟩
            · have CJ : Hid (∀ W, Calls Try.prog 22 #[.agg #[.int .i64 N, .int .i64 B, .int .i64 Q, .int .i64 E, .int .i64 F], .int .i64 n, .slice ao k cap] W fun e w' => e = .returned (.tuple #[.slice none 0 0, .int .i64 1]) ∧ Below W.heap.size W w') := fun W => join_no N B Q E F n _ W hM
              have CX : Hid (∀ W, Calls Try.prog 13 #[.agg #[.int .i64 N, .int .i64 B, .int .i64 Q, .int .i64 E, .int .i64 F]] W fun e w' => e = .returned (.bool false) ∧ Below W.heap.size W w') := fun W => rmay_no _ _ _ _ _ W hM
              clear hM HE HS HR
              go_wp2_with fail
              refine (CJ.out _).mono ?_
              rintro e w4 ⟨rfl, hb⟩
              have B4 : Hid (Below w.heap.size w w4) := on_below BW.out hb
              have P4 : Hid (Five w4 w.heap.size N B Q E F) := PW.out.below hb
              clear hb CJ c0 c1 c2 c3 c4 PW BW BB
              obtain ⟨c0, c1, c2, c3, c4⟩ := P4.out
              go_wp2_with fail
              refine (CX.out _).mono ?_
              rintro e w5 ⟨rfl, hb⟩
              have B5 : Hid (Below w.heap.size w w5) := on_below B4.out hb
              clear hb c0 c1 c2 c3 c4 P4 B4 CX
              go_wp2
              go_ret
              exact ⟨rfl, B5.out⟩
      · have q2 : ¬ n ≥ 0 := by omega
        obtain ⟨r0, hr0⟩ : ∃ r0, r0 = false := ⟨_, rfl⟩
        have HR : Hid (May N B Q E F → (r0 = true ↔ (m : Int) = N ∧ 0 ≤ n ∧ n ≤ N * B)) := by
          intro hM
          rw [hr0]
          exact ⟨fun h => by (cases h), fun h => absurd h.2.1 g2⟩
        have HR0 : Hid (r0 = false) := hr0
        clear g1 g2 hr0
        have HA : Hid ((ls.take 0).all (fun l => decide ((l.length : Int) = B)) = true) := by unfold Hid; simp
        go_wp2
        clear c0 c1
        go_loopw [7, 37] (fun rv iv wr => ∃ (k : Nat) (r : Bool), k ≤ m ∧ iv = .int .i64 k ∧ rv = .bool r ∧ Hid (r = (r0 && (ls.take k).all (fun l => decide ((l.length : Int) = B)))) ∧ Hid (Below w1.heap.size w1 wr) ∧ Hid (∀ x ∈ ls.take k, x.length ≤ 200)) (fun _ iv _ => m - (intOf iv).toNat)
        case atStart => exact ⟨0, r0, by omega, rfl, by rw [HR0.out], by unfold Hid; simp, Below.refl _ _, by unfold Hid; simp⟩
        case round =>
          obtain ⟨k, r, hk, rfl, rfl, HE, BB, HS⟩ := hrel
          clear HA
          by_cases hlt : k < m
          · have hkv : k < vs.length := by rw [HV.out]; exact hlt
            have hkl : k < ls.length := by rw [HL.out]; exact hlt
            obtain ⟨-, ao', cap', hv0, -, -, -, h5⟩ := HSl.out
            injection hv0 with e1 e2 e3
            subst e1
            obtain ⟨b0, o0, rfl, hc0⟩ : ∃ b off, ao = some ⟨b, off, none⟩ ∧ ∀ j u, vs[j]? = some u → w.cell? ⟨b, off + j, none⟩ = some u := by
              rcases h5 with h0 | h0
              · omega
              · exact h0
            have ck0 := hc0 k vs[k] (List.getElem?_eq_getElem hkv)
            have BW : Hid (Below w.heap.size w wr) := on_below B1.out BB.out
            have ck := (BW.out.cell (cell_block_lt ck0)).trans ck0
            obtain ⟨-, ai, ci, hvi, g2, g3, -, -⟩ := HP.out.2 k _ _ (List.getElem?_eq_getElem hkv) (List.getElem?_eq_getElem hkl)
            unfold maxLen at g3
            rw [hvi] at ck
            have HN : Hid ((ls.take (k + 1)).all (fun l => decide ((l.length : Int) = B)) = ((ls.take k).all (fun l => decide ((l.length : Int) = B)) && decide ((ls[k].length : Int) = B))) := by
              unfold Hid
              rw [List.take_succ_eq_append_getElem hkl, List.all_append]
              simp
            have HM : Hid (ls[k].length ≤ 200 → ∀ x ∈ ls.take (k + 1), x.length ≤ 200) := by
              intro h x hx
              rw [List.take_succ_eq_append_getElem hkl, List.mem_append] at hx
              rcases hx with hx | hx
              · exact HS.out x hx
              · rw [List.mem_singleton.1 hx]; exact h
            clear hc0 ck0 hvi e2 e3
            generalize ls[k].length = z at *
            by_cases hz : z > 200
            · have hz' : (z : Int) > 200 := by omega
              clear HN HM HS
              go_wp2
              go_ret
              exact ⟨rfl, BW.out⟩
            · have hz' : ¬ (z : Int) > 200 := by omega
              have HS2 : Hid (∀ x ∈ ls.take (k + 1), x.length ≤ 200) := HM.out (by omega)
              have c1 := (P1.out.below BB.out).2.1
              cases r with
              | false =>
                have HE2 : Hid (false = (r0 && (ls.take (k + 1)).all (fun l => decide ((l.length : Int) = B)))) := by unfold Hid; rw [HN.out, ← Bool.and_assoc, ← HE.out, Bool.false_and]
                clear HN HM HS HE
                go_wp2
                go_roundw
                case rel => exact ⟨k + 1, false, by omega, by go_num, rfl, HE2, BB, HS2⟩
                case measure => simp [intOf]; omega
              | true =>
                by_cases hzB : (z : Int) = B
                · have hq : ((z : Int) == B) = true := by simpa using hzB
                  have HE2 : Hid (true = (r0 && (ls.take (k + 1)).all (fun l => decide ((l.length : Int) = B)))) := by unfold Hid; rw [HN.out, ← Bool.and_assoc, ← HE.out, decide_eq_true hzB]; rfl
                  clear HN HM HS HE hzB
                  go_wp2
                  go_roundw
                  case rel => exact ⟨k + 1, true, by omega, by go_num, rfl, HE2, BB, HS2⟩
                  case measure => simp [intOf]; omega
                · have hq : ((z : Int) == B) = false := by simpa using hzB
                  have HE2 : Hid (false = (r0 && (ls.take (k + 1)).all (fun l => decide ((l.length : Int) = B)))) := by unfold Hid; rw [HN.out, ← Bool.and_assoc, ← HE.out, decide_eq_false hzB]; rfl
                  clear HN HM HS HE hzB
                  go_wp2
                  go_roundw
                  case rel => exact ⟨k + 1, false, by omega, by go_num, rfl, HE2, BB, HS2⟩
                  case measure => simp [intOf]; omega
          · obtain rfl : k = m := by omega
            have eT : ls.take k = ls := List.take_of_length_le (by rw [HL.out]; omega)
            rw [eT] at HE HS
            have BW : Hid (Below w.heap.size w wr) := on_below B1.out BB.out
            have PW : Hid (Five wr w.heap.size N B Q E F) := P1.out.below BB.out
            obtain ⟨c0, c1, c2, c3, c4⟩ := PW.out
            by_cases hM : May N B Q E F
            · obtain ⟨N, B, rfl, rfl, n1, n2, b1, b2⟩ := may_nb hM
              have HM : Hid (May (N : Int) (B : Int) Q E F) := hM
              have CX : Hid (∀ W, Calls Try.prog 13 #[.agg #[.int .i64 (N : Int), .int .i64 (B : Int), .int .i64 Q, .int .i64 E, .int .i64 F]] W fun e w' => e = .returned (.bool true) ∧ Below W.heap.size W w') := fun W => rmay_yes _ _ _ _ _ W HM.out
              have HR2 : Hid (r0 = true ↔ k = N ∧ 0 ≤ n ∧ n ≤ (N : Int) * (B : Int)) := (HR.out hM).trans ⟨fun h => ⟨by have := h.1; omega, h.2⟩, fun h => ⟨by have := h.1; omega, h.2⟩⟩
              clear hM
              cases r with
              | true =>
                have hfit : fitJ N B n ls := by
                  have h1 := HE.out
                  have h2 : r0 = true := by cases hr : r0 <;> simp [hr] at h1 ⊢
                  obtain ⟨q1, q2, q3⟩ := HR2.out.1 h2
                  refine ⟨by rw [HL.out]; exact q1, q2, by simpa using q3, ?_⟩
                  rw [h2, Bool.true_and] at h1
                  exact h1.symm
                obtain ⟨n', rfl⟩ : ∃ n' : Nat, n = n' := ⟨n.toNat, by have := hfit.2.1; omega⟩
                have hn' : n' ≤ 100000000 := by
                  have h1 := hfit.2.2.1
                  have h2 : N ≤ 100 := by have := hfit.1; rw [HL.out] at this; omega
                  have h3 : N * B ≤ 100 * 65535 := Nat.mul_le_mul h2 b2
                  omega
                obtain ⟨J, hJ⟩ : ∃ J, joinD n' ls = J := ⟨_, rfl⟩
                have HJl : Hid (J.length = n') := by
                  unfold Hid
                  rw [← hJ]
                  exact joinD_length hfit.mem (by rw [hfit.1]; have := hfit.2.2.1; omega)
                have CJ : Hid (∀ W, Below w.heap.size w W → Calls Try.prog 22 #[.agg #[.int .i64 (N : Int), .int .i64 (B : Int), .int .i64 Q, .int .i64 E, .int .i64 F], .int .i64 (n' : Int), .slice ao k cap] W fun e w' => ∃ q, e = .returned (.tuple #[.slice (some ⟨q, 0, none⟩) n' n', .int .i64 0]) ∧ W.heap.size ≤ q ∧ Blk w' q [] J [] ∧ Below W.heap.size W w') := by
                  intro W hW
                  have := join_yes N B Q E F n' (.slice ao k cap) vs ls W HM.out (by rw [HV.out]; exact HSl.out.below hW) (HP.out.below hW) hfit
                  rw [hJ] at this
                  exact this
                have CR : Hid (∀ W, Below w.heap.size w W → Calls Try.prog 23 #[.int .i64 (n' : Int), .slice ao k cap] W fun e w' => ∃ v, e = .returned v ∧ IsBs J v w' ∧ Below W.heap.size W w') := by
                  intro W hW
                  refine (rjoin_any n' (.slice ao k cap) vs ls W (by rw [HV.out]; exact HSl.out.below hW) (HP.out.below hW) hn' (by rw [HL.out]; omega)).mono ?_
                  rintro e w' ⟨m', v, rfl, ho, hb⟩
                  rw [hJ] at ho
                  exact ⟨v, rfl, ho.bs, hb⟩
                clear hfit hJ HE HS HR2 HR
                go_wp2_with fail
                refine (CJ.out _ BW.out).mono ?_
                rintro e w4 ⟨q, rfl, -, hkb, hb⟩
                have B4 : Hid (Below w.heap.size w w4) := on_below BW.out hb
                have P4 : Hid (Five w4 w.heap.size N B Q E F) := PW.out.below hb
                have G4 : Hid (Bs w4 (.slice (some ⟨q, 0, none⟩) n' n') J) := hkb.bs0 n' n' HJl.out.symm (Nat.le_refl _) (by unfold maxLen; omega)
                clear hkb hb CJ c0 c1 c2 c3 c4 PW BW BB
                obtain ⟨c0, c1, c2, c3, c4⟩ := P4.out
                go_wp2_with fail
                refine (CX.out _).mono ?_
                rintro e w5 ⟨rfl, hb⟩
                have B5 : Hid (Below w.heap.size w w5) := on_below B4.out hb
                have KG : Hid (∀ W, Below w5.heap.size w5 W → (convert 40 9 (.slice (some ⟨q, 0, none⟩) n' n')).run Try.prog W = .ok (.string (str J)) W) := fun W hW => conv_bytes ((G4.out.below hb).below hW)
                have CR5 : Hid (∀ W, Below w5.heap.size w5 W → Calls Try.prog 23 #[.int .i64 (n' : Int), .slice ao k cap] W fun e w' => ∃ v, e = .returned v ∧ IsBs J v w' ∧ Below W.heap.size W w') := fun W hW => CR.out W (on_below B5.out hW)
                clear hb c0 c1 c2 c3 c4 P4 B4 G4 CR CX
                go_upto_region 18 with fail
                refine wp_region_any (by kernel_rfl) ?_
                obtain ⟨gs, hgs⟩ : ∃ gs : List (Value → World → Prop), gs = [IsV (Value.int IntKind.i64 (0 : Int)), IsV (.bool true), IsV (.bool true), IsV (Value.slice (some { block := q, off := 0 }) n' n'), IsV (.string (str J)), IsV (Value.int IntKind.i64 ↑n'), IsV (Value.slice ao k cap), IsBs J, IsV (.string (str J)), IsV (.bool true), IsV (.bool true), IsV (.bool true)] := ⟨_, rfl⟩
                have g0 : Hid (gs[0]? = some (IsV (Value.int IntKind.i64 (0 : Int)))) := by unfold Hid; rw [hgs]; rfl
                have g1 : Hid (gs[1]? = some (IsV (.bool true))) := by unfold Hid; rw [hgs]; rfl
                have g2 : Hid (gs[2]? = some (IsV (.bool true))) := by unfold Hid; rw [hgs]; rfl
                have g3 : Hid (gs[3]? = some (IsV (Value.slice (some { block := q, off := 0 }) n' n'))) := by unfold Hid; rw [hgs]; rfl
                have g4 : Hid (gs[4]? = some (IsV (.string (str J)))) := by unfold Hid; rw [hgs]; rfl
                have g5 : Hid (gs[5]? = some (IsV (Value.int IntKind.i64 ↑n'))) := by unfold Hid; rw [hgs]; rfl
                have g6 : Hid (gs[6]? = some (IsV (Value.slice ao k cap))) := by unfold Hid; rw [hgs]; rfl
                have g7 : Hid (gs[7]? = some (IsBs J)) := by unfold Hid; rw [hgs]; rfl
                have g8 : Hid (gs[8]? = some (IsV (.string (str J)))) := by unfold Hid; rw [hgs]; rfl
                have g9 : Hid (gs[9]? = some (IsV (.bool true))) := by unfold Hid; rw [hgs]; rfl
                have g10 : Hid (gs[10]? = some (IsV (.bool true))) := by unfold Hid; rw [hgs]; rfl
                have g11 : Hid (gs[11]? = some (IsV (.bool true))) := by unfold Hid; rw [hgs]; rfl
                have gk : Hid (∀ p ∈ gs, Stays p) := by
                  unfold Hid
                  rw [hgs]
                  simp only [List.forall_mem_cons]
                  exact ⟨stays_v _, stays_v _, stays_v _, stays_v _, stays_v _, stays_v _, stays_v _, stays_bs _, stays_v _, stays_v _, stays_v _, stays_v _, by simp⟩
                clear hgs
                refine wpAny_inv (fun listed ac W => ∃ xv : Nat → Value, ac = ⟨#[Value.agg #[Value.int IntKind.i64 ↑N, Value.int IntKind.i64 ↑B, Value.int IntKind.i64 Q, Value.int IntKind.i64 E, Value.int IntKind.i64 F], Value.int IntKind.i64 ↑n', Value.slice ao k cap, Value.pointer (some { block := w.heap.size, off := 0 }), undef, undef, xv 11, Value.bool true, undef, u9, Value.slice (some { block := q, off := 0 }) n' n', Value.int IntKind.i64 (0 : Int), Value.bool true, Value.bool false, Value.slice ao k cap, Value.int IntKind.i64 ↑k, Value.bool (decide ((100 : Int) < ↑k)), Value.slice ao k cap, Value.int IntKind.i64 ↑k, Value.pointer (some { block := w.heap.size, off := 0 }), Value.int IntKind.i64 ↑N, Value.bool true, Value.bool true, Value.int IntKind.i64 ↑n', Value.bool false, Value.bool false, Value.bool false, undef, undef, undef, undef, undef, undef, undef, Value.bool false, Value.slice ao k cap, Value.int IntKind.i64 ↑k, Value.int IntKind.i64 ↑k, Value.bool false, u39, u40, u41, u42, u43, u44, u45, u46, u47, u48, u49, u50, u51, u52, Value.tuple #[Value.slice (some { block := q, off := 0 }) n' n', Value.int IntKind.i64 (0 : Int)], Value.agg #[Value.int IntKind.i64 ↑N, Value.int IntKind.i64 ↑B, Value.int IntKind.i64 Q, Value.int IntKind.i64 E, Value.int IntKind.i64 F], Value.int IntKind.i64 ↑n', Value.slice ao k cap, Value.tuple #[Value.slice (some { block := q, off := 0 }) n' n', Value.int IntKind.i64 (0 : Int)], Value.slice (some { block := q, off := 0 }) n' n', Value.int IntKind.i64 (0 : Int), Value.bool false, Value.agg #[Value.int IntKind.i64 ↑N, Value.int IntKind.i64 ↑B, Value.int IntKind.i64 Q, Value.int IntKind.i64 E, Value.int IntKind.i64 F], Value.bool true, Value.bool false, undef, undef, undef, undef, undef, undef, undef, Value.bool false, Value.bool true, Value.bool false, undef, undef, undef, undef, undef, undef, undef, xv 0, xv 1, xv 2, xv 3, xv 4, xv 5, xv 6, xv 7, xv 8, xv 9, xv 10], []⟩ ∧ Below w5.heap.size w5 W ∧ Lst gs listed xv W) (by kernel_rfl) ?_ ?_ _ _ _ _ (by kernel_rfl) (of_decide_eq_true (by kernel_rfl)) ⟨fun j => if j = 11 then u6 else undef, rfl, below0 _, Lst.start _ _ _ _⟩
                · rintro listed ac W ⟨xv, rfl, hb, hG⟩ i hi hd
                  have hin : i < 12 := hi
                  clear hi
                  have hcase : i = 0 ∨ i = 1 ∨ i = 2 ∨ i = 3 ∨ i = 4 ∨ i = 5 ∨ i = 6 ∨ i = 7 ∨ i = 8 ∨ i = 9 ∨ i = 10 ∨ i = 11 := by omega
                  rcases hcase with rfl | rfl | rfl | rfl | rfl | rfl | rfl | rfl | rfl | rfl | rfl | rfl
                  · refine wpOp_step rfl (fun K' hK => ?_)
                    clear hd hin
                    go_simp
                    exact hK _ _ ⟨updV xv 0 (Value.int IntKind.i64 (0 : Int)), by simp [updV], hb, hG.same gk.out g0.out _ rfl⟩
                  · refine wpOp_step rfl (fun K' hK => ?_)
                    simp [Region.binds] at hd
                    have e0 : xv 0 = Value.int IntKind.i64 (0 : Int) := hG.get g0.out (by simp [hd])
                    clear hd hin
                    go_simp
                    exact hK _ _ ⟨updV xv 1 (.bool true), by simp [updV, e0], hb, hG.same gk.out g1.out _ rfl⟩
                  · refine wpOp_step rfl (fun K' hK => ?_)
                    simp [Region.binds] at hd
                    have e1 : xv 1 = .bool true := hG.get g1.out (by simp [hd])
                    clear hd hin
                    go_simp
                    exact hK _ _ ⟨updV xv 2 (.bool true), by simp [updV, e1], hb, hG.same gk.out g2.out _ rfl⟩
                  · refine wpOp_step rfl (fun K' hK => ?_)
                    simp [Region.binds] at hd
                    have e2 : xv 2 = .bool true := hG.get g2.out (by simp [hd])
                    clear hd hin
                    go_simp
                    exact hK _ _ ⟨updV xv 3 (Value.slice (some { block := q, off := 0 }) n' n'), by simp [updV, e2], hb, hG.same gk.out g3.out _ rfl⟩
                  · refine wpOp_step rfl (fun K' hK => ?_)
                    simp [Region.binds] at hd
                    have e3 : xv 3 = Value.slice (some { block := q, off := 0 }) n' n' := hG.get g3.out (by simp [hd])
                    have e2 : xv 2 = .bool true := hG.get g2.out (by simp [hd])
                    have kr := KG.out W hb
                    clear hd hin
                    go_simp
                    exact hK _ _ ⟨updV xv 4 (.string (str J)), by simp [updV, e3, e2], hb, hG.same gk.out g4.out _ rfl⟩
                  · refine wpOp_step rfl (fun K' hK => ?_)
                    simp [Region.binds] at hd
                    have e2 : xv 2 = .bool true := hG.get g2.out (by simp [hd])
                    clear hd hin
                    go_simp
                    exact hK _ _ ⟨updV xv 5 (Value.int IntKind.i64 ↑n'), by simp [updV, e2], hb, hG.same gk.out g5.out _ rfl⟩
                  · refine wpOp_step rfl (fun K' hK => ?_)
                    simp [Region.binds] at hd
                    have e2 : xv 2 = .bool true := hG.get g2.out (by simp [hd])
                    clear hd hin
                    go_simp
                    exact hK _ _ ⟨updV xv 6 (Value.slice ao k cap), by simp [updV, e2], hb, hG.same gk.out g6.out _ rfl⟩
                  · refine wpOp_step rfl (fun K' hK => ?_)
                    simp [Region.binds] at hd
                    have e5 : xv 5 = Value.int IntKind.i64 ↑n' := hG.get g5.out (by simp [hd])
                    have e6 : xv 6 = Value.slice ao k cap := hG.get g6.out (by simp [hd])
                    have e2 : xv 2 = .bool true := hG.get g2.out (by simp [hd])
                    clear hd hin
                    go_simp
                    refine (CR5.out W hb).mono ?_
                    rintro e w' ⟨v, rfl, hv, hb'⟩
                    go_wp2_with fail
                    exact ⟨updV xv 7 v, by simp [updV, e5, e6, e2], hb.trans (hb'.mono hb.size), hG.step gk.out hb' g7.out v hv⟩
                  · refine wpOp_step rfl (fun K' hK => ?_)
                    simp [Region.binds] at hd
                    have m7 : IsBs J (xv 7) W := hG.get g7.out (by simp [hd])
                    have e2 : xv 2 = .bool true := hG.get g2.out (by simp [hd])
                    have kr := conv_bytes m7
                    clear hd hin
                    go_simp
                    exact hK _ _ ⟨updV xv 8 (.string (str J)), by simp [updV, e2], hb, hG.same gk.out g8.out _ rfl⟩
                  · refine wpOp_step rfl (fun K' hK => ?_)
                    simp [Region.binds] at hd
                    have e4 : xv 4 = .string (str J) := hG.get g4.out (by simp [hd])
                    have e8 : xv 8 = .string (str J) := hG.get g8.out (by simp [hd])
                    have e2 : xv 2 = .bool true := hG.get g2.out (by simp [hd])
                    clear hd hin
                    go_simp
                    exact hK _ _ ⟨updV xv 9 (.bool true), by simp [updV, e4, e8, e2], hb, hG.same gk.out g9.out _ rfl⟩
                  · refine wpOp_step rfl (fun K' hK => ?_)
                    simp [Region.binds] at hd
                    have e2 : xv 2 = .bool true := hG.get g2.out (by simp [hd])
                    have e9 : xv 9 = .bool true := hG.get g9.out (by simp [hd])
                    clear hd hin
                    go_simp
                    exact hK _ _ ⟨updV xv 10 (.bool true), by simp [updV, e2, e9], hb, hG.same gk.out g10.out _ rfl⟩
                  · refine wpOp_step rfl (fun K' hK => ?_)
                    simp [Region.binds] at hd
                    have e10 : xv 10 = .bool true := hG.get g10.out (by simp [hd])
                    clear hd hin
                    go_simp
                    exact hK _ _ ⟨updV xv 11 (.bool true), by simp [updV, e10], hb, hG.same gk.out g11.out _ rfl⟩
                · rintro listed ac W ⟨xv, rfl, hb, hG⟩ hall
                  have e11 : xv 11 = .bool true := hG.get g11.out (hall 11 (by decide))
                  have XW : Hid (Below w5.heap.size w5 W) := hb
                  clear hall hG hb gk g0 g1 g2 g3 g4 g5 g6 g7 g8 g9 g10 g11
                  rw [e11]
                  clear e11
                  have B6 : Hid (Below w.heap.size w W) := on_below B5.out XW.out
                  clear KG CR5 XW B5
                  go_wp2
                  go_ret
                  exact ⟨rfl, B6.out⟩
              | false =>
                have hfit : ¬ fitJ N B n ls := by
                  rintro ⟨q1, q2, q3, q4⟩
                  have h1 := HE.out
                  rw [HR2.out.2 ⟨by rw [← q1, HL.out], q2, by simpa using q3⟩, q4] at h1
                  cases h1
                have CJ : Hid (∀ W, Below w.heap.size w W → Calls Try.prog 22 #[.agg #[.int .i64 (N : Int), .int .i64 (B : Int), .int .i64 Q, .int .i64 E, .int .i64 F], .int .i64 n, .slice ao k cap] W fun e w' => e = .returned (.tuple #[.slice none 0 0, .int .i64 2]) ∧ Below W.heap.size W w') := fun W hW => join_bad N B Q E F n (.slice ao k cap) vs ls W HM.out (by rw [HV.out]; exact HSl.out.below hW) (HP.out.below hW) hfit
                clear hfit HE HS HR2 HR
                go_wp2_with fail
                refine (CJ.out _ BW.out).mono ?_
                rintro e w4 ⟨rfl, hb⟩
                have B4 : Hid (Below w.heap.size w w4) := on_below BW.out hb
                have P4 : Hid (Five w4 w.heap.size N B Q E F) := PW.out.below hb
                clear hb CJ c0 c1 c2 c3 c4 PW BW BB
                obtain ⟨c0, c1, c2, c3, c4⟩ := P4.out
                go_wp2_with fail
                refine (CX.out _).mono ?_
                rintro e w5 ⟨rfl, hb⟩
                have B5 : Hid (Below w.heap.size w w5) := on_below B4.out hb
                clear hb c0 c1 c2 c3 c4 P4 B4 CX
                go_wp2
                go_ret
                exact ⟨rfl, B5.out⟩
            · have CJ : Hid (∀ W, Calls Try.prog 22 #[.agg #[.int .i64 N, .int .i64 B, .int .i64 Q, .int .i64 E, .int .i64 F], .int .i64 n, .slice ao k cap] W fun e w' => e = .returned (.tuple #[.slice none 0 0, .int .i64 1]) ∧ Below W.heap.size W w') := fun W => join_no N B Q E F n _ W hM
              have CX : Hid (∀ W, Calls Try.prog 13 #[.agg #[.int .i64 N, .int .i64 B, .int .i64 Q, .int .i64 E, .int .i64 F]] W fun e w' => e = .returned (.bool false) ∧ Below W.heap.size W w') := fun W => rmay_no _ _ _ _ _ W hM
              clear hM HE HS HR
              go_wp2_with fail
              refine (CJ.out _).mono ?_
              rintro e w4 ⟨rfl, hb⟩
              have B4 : Hid (Below w.heap.size w w4) := on_below BW.out hb
              have P4 : Hid (Five w4 w.heap.size N B Q E F) := PW.out.below hb
              clear hb CJ c0 c1 c2 c3 c4 PW BW BB
              obtain ⟨c0, c1, c2, c3, c4⟩ := P4.out
              go_wp2_with fail
              refine (CX.out _).mono ?_
              rintro e w5 ⟨rfl, hb⟩
              have B5 : Hid (Below w.heap.size w w5) := on_below B4.out hb
              clear hb c0 c1 c2 c3 c4 P4 B4 CX
              go_wp2
              go_ret
              exact ⟨rfl, B5.out⟩
    · have q1 : ((m : Int) == N) = false := by simpa using g1
      obtain ⟨r0, hr0⟩ : ∃ r0, r0 = false := ⟨_, rfl⟩
      have HR : Hid (May N B Q E F → (r0 = true ↔ (m : Int) = N ∧ 0 ≤ n ∧ n ≤ N * B)) := by
        intro hM
        rw [hr0]
        exact ⟨fun h => by (cases h), fun h => absurd h.1 g1⟩
      have HR0 : Hid (r0 = false) := hr0
      clear g1 hr0
      have HA : Hid ((ls.take 0).all (fun l => decide ((l.length : Int) = B)) = true) := by unfold Hid; simp
      go_wp2
      clear c0 c1
      go_loopw [7, 37] (fun rv iv wr => ∃ (k : Nat) (r : Bool), k ≤ m ∧ iv = .int .i64 k ∧ rv = .bool r ∧ Hid (r = (r0 && (ls.take k).all (fun l => decide ((l.length : Int) = B)))) ∧ Hid (Below w1.heap.size w1 wr) ∧ Hid (∀ x ∈ ls.take k, x.length ≤ 200)) (fun _ iv _ => m - (intOf iv).toNat)
      case atStart => exact ⟨0, r0, by omega, rfl, by rw [HR0.out], by unfold Hid; simp, Below.refl _ _, by unfold Hid; simp⟩
      case round =>
        obtain ⟨k, r, hk, rfl, rfl, HE, BB, HS⟩ := hrel
        clear HA
        by_cases hlt : k < m
        · have hkv : k < vs.length := by rw [HV.out]; exact hlt
          have hkl : k < ls.length := by rw [HL.out]; exact hlt
          obtain ⟨-, ao', cap', hv0, -, -, -, h5⟩ := HSl.out
          injection hv0 with e1 e2 e3
          subst e1
          obtain ⟨b0, o0, rfl, hc0⟩ : ∃ b off, ao = some ⟨b, off, none⟩ ∧ ∀ j u, vs[j]? = some u → w.cell? ⟨b, off + j, none⟩ = some u := by
            rcases h5 with h0 | h0
            · omega
            · exact h0
          have ck0 := hc0 k vs[k] (List.getElem?_eq_getElem hkv)
          have BW : Hid (Below w.heap.size w wr) := on_below B1.out BB.out
          have ck := (BW.out.cell (cell_block_lt ck0)).trans ck0
          obtain ⟨-, ai, ci, hvi, g2, g3, -, -⟩ := HP.out.2 k _ _ (List.getElem?_eq_getElem hkv) (List.getElem?_eq_getElem hkl)
          unfold maxLen at g3
          rw [hvi] at ck
          have HN : Hid ((ls.take (k + 1)).all (fun l => decide ((l.length : Int) = B)) = ((ls.take k).all (fun l => decide ((l.length : Int) = B)) && decide ((ls[k].length : Int) = B))) := by
            unfold Hid
            rw [List.take_succ_eq_append_getElem hkl, List.all_append]
            simp
          have HM : Hid (ls[k].length ≤ 200 → ∀ x ∈ ls.take (k + 1), x.length ≤ 200) := by
            intro h x hx
            rw [List.take_succ_eq_append_getElem hkl, List.mem_append] at hx
            rcases hx with hx | hx
            · exact HS.out x hx
            · rw [List.mem_singleton.1 hx]; exact h
          clear hc0 ck0 hvi e2 e3
          generalize ls[k].length = z at *
          by_cases hz : z > 200
          · have hz' : (z : Int) > 200 := by omega
            clear HN HM HS
            go_wp2
            go_ret
            exact ⟨rfl, BW.out⟩
          · have hz' : ¬ (z : Int) > 200 := by omega
            have HS2 : Hid (∀ x ∈ ls.take (k + 1), x.length ≤ 200) := HM.out (by omega)
            have c1 := (P1.out.below BB.out).2.1
            cases r with
            | false =>
              have HE2 : Hid (false = (r0 && (ls.take (k + 1)).all (fun l => decide ((l.length : Int) = B)))) := by unfold Hid; rw [HN.out, ← Bool.and_assoc, ← HE.out, Bool.false_and]
              clear HN HM HS HE
              go_wp2
              go_roundw
              case rel => exact ⟨k + 1, false, by omega, by go_num, rfl, HE2, BB, HS2⟩
              case measure => simp [intOf]; omega
            | true =>
              by_cases hzB : (z : Int) = B
              · have hq : ((z : Int) == B) = true := by simpa using hzB
                have HE2 : Hid (true = (r0 && (ls.take (k + 1)).all (fun l => decide ((l.length : Int) = B)))) := by unfold Hid; rw [HN.out, ← Bool.and_assoc, ← HE.out, decide_eq_true hzB]; rfl
                clear HN HM HS HE hzB
                go_wp2
                go_roundw
                case rel => exact ⟨k + 1, true, by omega, by go_num, rfl, HE2, BB, HS2⟩
                case measure => simp [intOf]; omega
              · have hq : ((z : Int) == B) = false := by simpa using hzB
                have HE2 : Hid (false = (r0 && (ls.take (k + 1)).all (fun l => decide ((l.length : Int) = B)))) := by unfold Hid; rw [HN.out, ← Bool.and_assoc, ← HE.out, decide_eq_false hzB]; rfl
                clear HN HM HS HE hzB
                go_wp2
                go_roundw
                case rel => exact ⟨k + 1, false, by omega, by go_num, rfl, HE2, BB, HS2⟩
                case measure => simp [intOf]; omega
        · obtain rfl : k = m := by omega
          have eT : ls.take k = ls := List.take_of_length_le (by rw [HL.out]; omega)
          rw [eT] at HE HS
          have BW : Hid (Below w.heap.size w wr) := on_below B1.out BB.out
          have PW : Hid (Five wr w.heap.size N B Q E F) := P1.out.below BB.out
          obtain ⟨c0, c1, c2, c3, c4⟩ := PW.out
          by_cases hM : May N B Q E F
          · obtain ⟨N, B, rfl, rfl, n1, n2, b1, b2⟩ := may_nb hM
            have HM : Hid (May (N : Int) (B : Int) Q E F) := hM
            have CX : Hid (∀ W, Calls Try.prog 13 #[.agg #[.int .i64 (N : Int), .int .i64 (B : Int), .int .i64 Q, .int .i64 E, .int .i64 F]] W fun e w' => e = .returned (.bool true) ∧ Below W.heap.size W w') := fun W => rmay_yes _ _ _ _ _ W HM.out
            have HR2 : Hid (r0 = true ↔ k = N ∧ 0 ≤ n ∧ n ≤ (N : Int) * (B : Int)) := (HR.out hM).trans ⟨fun h => ⟨by have := h.1; omega, h.2⟩, fun h => ⟨by have := h.1; omega, h.2⟩⟩
            clear hM
            cases r with
            | true =>
              have hfit : fitJ N B n ls := by
                have h1 := HE.out
                have h2 : r0 = true := by cases hr : r0 <;> simp [hr] at h1 ⊢
                obtain ⟨q1, q2, q3⟩ := HR2.out.1 h2
                refine ⟨by rw [HL.out]; exact q1, q2, by simpa using q3, ?_⟩
                rw [h2, Bool.true_and] at h1
                exact h1.symm
              obtain ⟨n', rfl⟩ : ∃ n' : Nat, n = n' := ⟨n.toNat, by have := hfit.2.1; omega⟩
              have hn' : n' ≤ 100000000 := by
                have h1 := hfit.2.2.1
                have h2 : N ≤ 100 := by have := hfit.1; rw [HL.out] at this; omega
                have h3 : N * B ≤ 100 * 65535 := Nat.mul_le_mul h2 b2
                omega
              obtain ⟨J, hJ⟩ : ∃ J, joinD n' ls = J := ⟨_, rfl⟩
              have HJl : Hid (J.length = n') := by
                unfold Hid
                rw [← hJ]
                exact joinD_length hfit.mem (by rw [hfit.1]; have := hfit.2.2.1; omega)
              have CJ : Hid (∀ W, Below w.heap.size w W → Calls Try.prog 22 #[.agg #[.int .i64 (N : Int), .int .i64 (B : Int), .int .i64 Q, .int .i64 E, .int .i64 F], .int .i64 (n' : Int), .slice ao k cap] W fun e w' => ∃ q, e = .returned (.tuple #[.slice (some ⟨q, 0, none⟩) n' n', .int .i64 0]) ∧ W.heap.size ≤ q ∧ Blk w' q [] J [] ∧ Below W.heap.size W w') := by
                intro W hW
                have := join_yes N B Q E F n' (.slice ao k cap) vs ls W HM.out (by rw [HV.out]; exact HSl.out.below hW) (HP.out.below hW) hfit
                rw [hJ] at this
                exact this
              have CR : Hid (∀ W, Below w.heap.size w W → Calls Try.prog 23 #[.int .i64 (n' : Int), .slice ao k cap] W fun e w' => ∃ v, e = .returned v ∧ IsBs J v w' ∧ Below W.heap.size W w') := by
                intro W hW
                refine (rjoin_any n' (.slice ao k cap) vs ls W (by rw [HV.out]; exact HSl.out.below hW) (HP.out.below hW) hn' (by rw [HL.out]; omega)).mono ?_
                rintro e w' ⟨m', v, rfl, ho, hb⟩
                rw [hJ] at ho
                exact ⟨v, rfl, ho.bs, hb⟩
              clear hfit hJ HE HS HR2 HR
              go_wp2_with fail
              refine (CJ.out _ BW.out).mono ?_
              rintro e w4 ⟨q, rfl, -, hkb, hb⟩
              have B4 : Hid (Below w.heap.size w w4) := on_below BW.out hb
              have P4 : Hid (Five w4 w.heap.size N B Q E F) := PW.out.below hb
              have G4 : Hid (Bs w4 (.slice (some ⟨q, 0, none⟩) n' n') J) := hkb.bs0 n' n' HJl.out.symm (Nat.le_refl _) (by unfold maxLen; omega)
              clear hkb hb CJ c0 c1 c2 c3 c4 PW BW BB
              obtain ⟨c0, c1, c2, c3, c4⟩ := P4.out
              go_wp2_with fail
              refine (CX.out _).mono ?_
              rintro e w5 ⟨rfl, hb⟩
              have B5 : Hid (Below w.heap.size w w5) := on_below B4.out hb
              have KG : Hid (∀ W, Below w5.heap.size w5 W → (convert 40 9 (.slice (some ⟨q, 0, none⟩) n' n')).run Try.prog W = .ok (.string (str J)) W) := fun W hW => conv_bytes ((G4.out.below hb).below hW)
              have CR5 : Hid (∀ W, Below w5.heap.size w5 W → Calls Try.prog 23 #[.int .i64 (n' : Int), .slice ao k cap] W fun e w' => ∃ v, e = .returned v ∧ IsBs J v w' ∧ Below W.heap.size W w') := fun W hW => CR.out W (on_below B5.out hW)
              clear hb c0 c1 c2 c3 c4 P4 B4 G4 CR CX
              go_upto_region 18 with fail
              refine wp_region_any (by kernel_rfl) ?_
              obtain ⟨gs, hgs⟩ : ∃ gs : List (Value → World → Prop), gs = [IsV (Value.int IntKind.i64 (0 : Int)), IsV (.bool true), IsV (.bool true), IsV (Value.slice (some { block := q, off := 0 }) n' n'), IsV (.string (str J)), IsV (Value.int IntKind.i64 ↑n'), IsV (Value.slice ao k cap), IsBs J, IsV (.string (str J)), IsV (.bool true), IsV (.bool true), IsV (.bool true)] := ⟨_, rfl⟩
              have g0 : Hid (gs[0]? = some (IsV (Value.int IntKind.i64 (0 : Int)))) := by unfold Hid; rw [hgs]; rfl
              have g1 : Hid (gs[1]? = some (IsV (.bool true))) := by unfold Hid; rw [hgs]; rfl
              have g2 : Hid (gs[2]? = some (IsV (.bool true))) := by unfold Hid; rw [hgs]; rfl
              have g3 : Hid (gs[3]? = some (IsV (Value.slice (some { block := q, off := 0 }) n' n'))) := by unfold Hid; rw [hgs]; rfl
              have g4 : Hid (gs[4]? = some (IsV (.string (str J)))) := by unfold Hid; rw [hgs]; rfl
              have g5 : Hid (gs[5]? = some (IsV (Value.int IntKind.i64 ↑n'))) := by unfold Hid; rw [hgs]; rfl
              have g6 : Hid (gs[6]? = some (IsV (Value.slice ao k cap))) := by unfold Hid; rw [hgs]; rfl
              have g7 : Hid (gs[7]? = some (IsBs J)) := by unfold Hid; rw [hgs]; rfl
              have g8 : Hid (gs[8]? = some (IsV (.string (str J)))) := by unfold Hid; rw [hgs]; rfl
              have g9 : Hid (gs[9]? = some (IsV (.bool true))) := by unfold Hid; rw [hgs]; rfl
              have g10 : Hid (gs[10]? = some (IsV (.bool true))) := by unfold Hid; rw [hgs]; rfl
              have g11 : Hid (gs[11]? = some (IsV (.bool true))) := by unfold Hid; rw [hgs]; rfl
              have gk : Hid (∀ p ∈ gs, Stays p) := by
                unfold Hid
                rw [hgs]
                simp only [List.forall_mem_cons]
                exact ⟨stays_v _, stays_v _, stays_v _, stays_v _, stays_v _, stays_v _, stays_v _, stays_bs _, stays_v _, stays_v _, stays_v _, stays_v _, by simp⟩
              clear hgs
              refine wpAny_inv (fun listed ac W => ∃ xv : Nat → Value, ac = ⟨#[Value.agg #[Value.int IntKind.i64 ↑N, Value.int IntKind.i64 ↑B, Value.int IntKind.i64 Q, Value.int IntKind.i64 E, Value.int IntKind.i64 F], Value.int IntKind.i64 ↑n', Value.slice ao k cap, Value.pointer (some { block := w.heap.size, off := 0 }), undef, undef, xv 11, Value.bool true, undef, u9, Value.slice (some { block := q, off := 0 }) n' n', Value.int IntKind.i64 (0 : Int), Value.bool true, Value.bool false, Value.slice ao k cap, Value.int IntKind.i64 ↑k, Value.bool (decide ((100 : Int) < ↑k)), Value.slice ao k cap, Value.int IntKind.i64 ↑k, Value.pointer (some { block := w.heap.size, off := 0 }), Value.int IntKind.i64 ↑N, Value.bool false, Value.bool false, undef, undef, Value.bool false, Value.bool false, undef, undef, undef, undef, undef, undef, undef, Value.bool false, Value.slice ao k cap, Value.int IntKind.i64 ↑k, Value.int IntKind.i64 ↑k, Value.bool false, u39, u40, u41, u42, u43, u44, u45, u46, u47, u48, u49, u50, u51, u52, Value.tuple #[Value.slice (some { block := q, off := 0 }) n' n', Value.int IntKind.i64 (0 : Int)], Value.agg #[Value.int IntKind.i64 ↑N, Value.int IntKind.i64 ↑B, Value.int IntKind.i64 Q, Value.int IntKind.i64 E, Value.int IntKind.i64 F], Value.int IntKind.i64 ↑n', Value.slice ao k cap, Value.tuple #[Value.slice (some { block := q, off := 0 }) n' n', Value.int IntKind.i64 (0 : Int)], Value.slice (some { block := q, off := 0 }) n' n', Value.int IntKind.i64 (0 : Int), Value.bool false, Value.agg #[Value.int IntKind.i64 ↑N, Value.int IntKind.i64 ↑B, Value.int IntKind.i64 Q, Value.int IntKind.i64 E, Value.int IntKind.i64 F], Value.bool true, Value.bool false, undef, undef, undef, undef, undef, undef, undef, Value.bool false, Value.bool true, Value.bool false, undef, undef, undef, undef, undef, undef, undef, xv 0, xv 1, xv 2, xv 3, xv 4, xv 5, xv 6, xv 7, xv 8, xv 9, xv 10], []⟩ ∧ Below w5.heap.size w5 W ∧ Lst gs listed xv W) (by kernel_rfl) ?_ ?_ _ _ _ _ (by kernel_rfl) (of_decide_eq_true (by kernel_rfl)) ⟨fun j => if j = 11 then u6 else undef, rfl, below0 _, Lst.start _ _ _ _⟩
              · rintro listed ac W ⟨xv, rfl, hb, hG⟩ i hi hd
                have hin : i < 12 := hi
                clear hi
                have hcase : i = 0 ∨ i = 1 ∨ i = 2 ∨ i = 3 ∨ i = 4 ∨ i = 5 ∨ i = 6 ∨ i = 7 ∨ i = 8 ∨ i = 9 ∨ i = 10 ∨ i = 11 := by omega
                rcases hcase with rfl | rfl | rfl | rfl | rfl | rfl | rfl | rfl | rfl | rfl | rfl | rfl
                · refine wpOp_step rfl (fun K' hK => ?_)
                  clear hd hin
                  go_simp
                  exact hK _ _ ⟨updV xv 0 (Value.int IntKind.i64 (0 : Int)), by simp [updV], hb, hG.same gk.out g0.out _ rfl⟩
                · refine wpOp_step rfl (fun K' hK => ?_)
                  simp [Region.binds] at hd
                  have e0 : xv 0 = Value.int IntKind.i64 (0 : Int) := hG.get g0.out (by simp [hd])
                  clear hd hin
                  go_simp
                  exact hK _ _ ⟨updV xv 1 (.bool true), by simp [updV, e0], hb, hG.same gk.out g1.out _ rfl⟩
                · refine wpOp_step rfl (fun K' hK => ?_)
                  simp [Region.binds] at hd
                  have e1 : xv 1 = .bool true := hG.get g1.out (by simp [hd])
                  clear hd hin
                  go_simp
                  exact hK _ _ ⟨updV xv 2 (.bool true), by simp [updV, e1], hb, hG.same gk.out g2.out _ rfl⟩
                · refine wpOp_step rfl (fun K' hK => ?_)
                  simp [Region.binds] at hd
                  have e2 : xv 2 = .bool true := hG.get g2.out (by simp [hd])
                  clear hd hin
                  go_simp
                  exact hK _ _ ⟨updV xv 3 (Value.slice (some { block := q, off := 0 }) n' n'), by simp [updV, e2], hb, hG.same gk.out g3.out _ rfl⟩
                · refine wpOp_step rfl (fun K' hK => ?_)
                  simp [Region.binds] at hd
                  have e3 : xv 3 = Value.slice (some { block := q, off := 0 }) n' n' := hG.get g3.out (by simp [hd])
                  have e2 : xv 2 = .bool true := hG.get g2.out (by simp [hd])
                  have kr := KG.out W hb
                  clear hd hin
                  go_simp
                  exact hK _ _ ⟨updV xv 4 (.string (str J)), by simp [updV, e3, e2], hb, hG.same gk.out g4.out _ rfl⟩
                · refine wpOp_step rfl (fun K' hK => ?_)
                  simp [Region.binds] at hd
                  have e2 : xv 2 = .bool true := hG.get g2.out (by simp [hd])
                  clear hd hin
                  go_simp
                  exact hK _ _ ⟨updV xv 5 (Value.int IntKind.i64 ↑n'), by simp [updV, e2], hb, hG.same gk.out g5.out _ rfl⟩
                · refine wpOp_step rfl (fun K' hK => ?_)
                  simp [Region.binds] at hd
                  have e2 : xv 2 = .bool true := hG.get g2.out (by simp [hd])
                  clear hd hin
                  go_simp
                  exact hK _ _ ⟨updV xv 6 (Value.slice ao k cap), by simp [updV, e2], hb, hG.same gk.out g6.out _ rfl⟩
                · refine wpOp_step rfl (fun K' hK => ?_)
                  simp [Region.binds] at hd
                  have e5 : xv 5 = Value.int IntKind.i64 ↑n' := hG.get g5.out (by simp [hd])
                  have e6 : xv 6 = Value.slice ao k cap := hG.get g6.out (by simp [hd])
                  have e2 : xv 2 = .bool true := hG.get g2.out (by simp [hd])
                  clear hd hin
                  go_simp
                  refine (CR5.out W hb).mono ?_
                  rintro e w' ⟨v, rfl, hv, hb'⟩
                  go_wp2_with fail
                  exact ⟨updV xv 7 v, by simp [updV, e5, e6, e2], hb.trans (hb'.mono hb.size), hG.step gk.out hb' g7.out v hv⟩
                · refine wpOp_step rfl (fun K' hK => ?_)
                  simp [Region.binds] at hd
                  have m7 : IsBs J (xv 7) W := hG.get g7.out (by simp [hd])
                  have e2 : xv 2 = .bool true := hG.get g2.out (by simp [hd])
                  have kr := conv_bytes m7
                  clear hd hin
                  go_simp
                  exact hK _ _ ⟨updV xv 8 (.string (str J)), by simp [updV, e2], hb, hG.same gk.out g8.out _ rfl⟩
                · refine wpOp_step rfl (fun K' hK => ?_)
                  simp [Region.binds] at hd
                  have e4 : xv 4 = .string (str J) := hG.get g4.out (by simp [hd])
                  have e8 : xv 8 = .string (str J) := hG.get g8.out (by simp [hd])
                  have e2 : xv 2 = .bool true := hG.get g2.out (by simp [hd])
                  clear hd hin
                  go_simp
                  exact hK _ _ ⟨updV xv 9 (.bool true), by simp [updV, e4, e8, e2], hb, hG.same gk.out g9.out _ rfl⟩
                · refine wpOp_step rfl (fun K' hK => ?_)
                  simp [Region.binds] at hd
                  have e2 : xv 2 = .bool true := hG.get g2.out (by simp [hd])
                  have e9 : xv 9 = .bool true := hG.get g9.out (by simp [hd])
                  clear hd hin
                  go_simp
                  exact hK _ _ ⟨updV xv 10 (.bool true), by simp [updV, e2, e9], hb, hG.same gk.out g10.out _ rfl⟩
                · refine wpOp_step rfl (fun K' hK => ?_)
                  simp [Region.binds] at hd
                  have e10 : xv 10 = .bool true := hG.get g10.out (by simp [hd])
                  clear hd hin
                  go_simp
                  exact hK _ _ ⟨updV xv 11 (.bool true), by simp [updV, e10], hb, hG.same gk.out g11.out _ rfl⟩
              · rintro listed ac W ⟨xv, rfl, hb, hG⟩ hall
                have e11 : xv 11 = .bool true := hG.get g11.out (hall 11 (by decide))
                have XW : Hid (Below w5.heap.size w5 W) := hb
                clear hall hG hb gk g0 g1 g2 g3 g4 g5 g6 g7 g8 g9 g10 g11
                rw [e11]
                clear e11
                have B6 : Hid (Below w.heap.size w W) := on_below B5.out XW.out
                clear KG CR5 XW B5
                go_wp2
                go_ret
                exact ⟨rfl, B6.out⟩
            | false =>
              have hfit : ¬ fitJ N B n ls := by
                rintro ⟨q1, q2, q3, q4⟩
                have h1 := HE.out
                rw [HR2.out.2 ⟨by rw [← q1, HL.out], q2, by simpa using q3⟩, q4] at h1
                cases h1
              have CJ : Hid (∀ W, Below w.heap.size w W → Calls Try.prog 22 #[.agg #[.int .i64 (N : Int), .int .i64 (B : Int), .int .i64 Q, .int .i64 E, .int .i64 F], .int .i64 n, .slice ao k cap] W fun e w' => e = .returned (.tuple #[.slice none 0 0, .int .i64 2]) ∧ Below W.heap.size W w') := fun W hW => join_bad N B Q E F n (.slice ao k cap) vs ls W HM.out (by rw [HV.out]; exact HSl.out.below hW) (HP.out.below hW) hfit
              clear hfit HE HS HR2 HR
              go_wp2_with fail
              refine (CJ.out _ BW.out).mono ?_
              rintro e w4 ⟨rfl, hb⟩
              have B4 : Hid (Below w.heap.size w w4) := on_below BW.out hb
              have P4 : Hid (Five w4 w.heap.size N B Q E F) := PW.out.below hb
              clear hb CJ c0 c1 c2 c3 c4 PW BW BB
              obtain ⟨c0, c1, c2, c3, c4⟩ := P4.out
              go_wp2_with fail
              refine (CX.out _).mono ?_
              rintro e w5 ⟨rfl, hb⟩
              have B5 : Hid (Below w.heap.size w w5) := on_below B4.out hb
              clear hb c0 c1 c2 c3 c4 P4 B4 CX
              go_wp2
              go_ret
              exact ⟨rfl, B5.out⟩
          · have CJ : Hid (∀ W, Calls Try.prog 22 #[.agg #[.int .i64 N, .int .i64 B, .int .i64 Q, .int .i64 E, .int .i64 F], .int .i64 n, .slice ao k cap] W fun e w' => e = .returned (.tuple #[.slice none 0 0, .int .i64 1]) ∧ Below W.heap.size W w') := fun W => join_no N B Q E F n _ W hM
            have CX : Hid (∀ W, Calls Try.prog 13 #[.agg #[.int .i64 N, .int .i64 B, .int .i64 Q, .int .i64 E, .int .i64 F]] W fun e w' => e = .returned (.bool false) ∧ Below W.heap.size W w') := fun W => rmay_no _ _ _ _ _ W hM
            clear hM HE HS HR
            go_wp2_with fail
            refine (CJ.out _).mono ?_
            rintro e w4 ⟨rfl, hb⟩
            have B4 : Hid (Below w.heap.size w w4) := on_below BW.out hb
            have P4 : Hid (Five w4 w.heap.size N B Q E F) := PW.out.below hb
            clear hb CJ c0 c1 c2 c3 c4 PW BW BB
            obtain ⟨c0, c1, c2, c3, c4⟩ := P4.out
            go_wp2_with fail
            refine (CX.out _).mono ?_
            rintro e w5 ⟨rfl, hb⟩
            have B5 : Hid (Below w.heap.size w w5) := on_below B4.out hb
            clear hb c0 c1 c2 c3 c4 P4 B4 CX
            go_wp2
            go_ret
            exact ⟨rfl, B5.out⟩
  · have km : (m : Int) > 100 := by omega
    go_wp2
    go_ret
    exact ⟨rfl, B1.out⟩

theorem segmentJoins_law (N B Q E F n : Int) (pv : Value) (vs : List Value) (ls : List (List UInt8)) (w : World) (hw : Ok .i64 N ∧ Ok .i64 B ∧ Ok .i64 Q ∧ Ok .i64 E ∧ Ok .i64 F) (hn : (Lit.int .i64 n).wf = true) (hp : Sl 1 w pv vs.length vs) (hps : Parts w vs ls) :
    Calls Try.prog 7 #[.agg #[.int .i64 N, .int .i64 B, .int .i64 Q, .int .i64 E, .int .i64 F], .int .i64 n, pv] w fun e w' => e = .returned (.bool true) ∧ Below w.heap.size w w' := segmentJoins_walk N B Q E F n pv vs ls w hp hps

end Go.Proofs.Ytbnedpjfgadkkaa
