/-
  The walk of the statement WholeLimits.
-/
import Derived.Test.YtijonjiioeahhaaFrL
namespace Go.Proofs.Ytijonjiioeahhaa
open Go.RowKit
set_option linter.unusedVariables false

theorem may_greatest : mayE 1048576 65535 8 1000 4096 = 0 := by decide

theorem min_max (B : Int) : ∃ m : Nat, m ≤ 3000 ∧ min (max B 0) 3000 = (m : Int) ∧ (1 ≤ B → B ≤ 3000 → (m : Int) = B) := ⟨(min (max B 0) 3000).toNat, by omega, by omega, by omega⟩

theorem min2i (a b : Int) (W : World) : (Builtin.min_ #[3, 3] 3 #[.int .i64 a, .int .i64 b]).run Try.prog W = .ok (.int .i64 (min a b)) W := by
  simp only [Builtin.min_, List.foldlM, Builtin.min2, Sem.run_pure, pure_bind]
  congr 2
  split <;> omega

theorem zeros_set (m t : Nat) (x : UInt8) (ht : t < m) : (List.replicate t x ++ zeros (m - t)).set t x = List.replicate (t + 1) x ++ zeros (m - (t + 1)) := by
  apply List.ext_getElem
  · simp [zeros]; omega
  · intro i h1 h2
    simp [zeros] at h1 h2
    rw [List.getElem_set]
    by_cases hi : t = i
    · subst hi
      rw [if_pos rfl, List.getElem_append_left (by simp)]
      simp
    · rw [if_neg hi]
      by_cases hlt : i < t
      · rw [List.getElem_append_left (by simpa using hlt), List.getElem_append_left (by simp; omega)]
        simp
      · rw [List.getElem_append_right (by simp; omega), List.getElem_append_right (by simp; omega)]
        simp [zeros]

set_option maxRecDepth 100000 in
set_option maxHeartbeats 4000000 in
theorem wholeLimits_walk (S N B Q E F L I f : Int) (w : World) (hw : Ok .u64 S ∧ Ok .i64 N ∧ Ok .i64 B ∧ Ok .i64 Q ∧ Ok .i64 E ∧ Ok .i64 F ∧ Ok .i64 L ∧ Ok .u64 I) (hf : (Lit.int .u8 f).wf = true) :
    Calls Try.prog 13 #[.agg #[.int .u64 S, .int .i64 N, .int .i64 B, .int .i64 Q, .int .i64 E, .int .i64 F, .int .i64 L, .int .u64 I], .int .u8 f] w fun e w' => e = .returned (.bool true) ∧ Below w.heap.size w w' := by
  obtain ⟨i0, hi, hz0, hz1, hz2⟩ := info_parts Try.infoByte
  obtain ⟨hS, -, -, -, -, -, -, hI⟩ := hw
  have HSI : Hid (Ok .u64 S ∧ Ok .u64 I) := ⟨hS, hI⟩
  obtain ⟨x, rfl⟩ : ∃ x : UInt8, f = (x.toNat : Int) := by
    have h := bounds_u8 hf
    exact ⟨UInt8.ofNat f.toNat, by simp; omega⟩
  clear hS hI hf
  go_enter Try.func13, Try.ntmps13
  go_wp2_with fail
  refine (fnew_any _).mono ?_
  rintro e w1 ⟨c, g, rfl, hco, hb1, -, -, -⟩
  have C1 : Hid (IsCo w1 c g) := hco
  have X1 : Hid (Below w.heap.size w w1) := below_mid (below_alloc _ _) hb1
  have E1 : Hid (Eight w1 w.heap.size S N B Q E F L I) := (eight_new w _ S N B Q E F L I).below hb1
  clear hco hb1
  go_wp2_with fail
  refine (pcheck_any 1048576 65535 8 1000 4096 _).mono ?_
  rintro e w2 ⟨rfl, hb2⟩
  rw [may_greatest]
  have C2 : Hid (IsCo w2 c g) := C1.out.below hb2
  have X2 : Hid (Below w.heap.size w w2) := below_mid X1.out hb2
  have E2 : Hid (Eight w2 w.heap.size S N B Q E F L I) := E1.out.below hb2
  clear hb2 C1 X1 E1
  obtain ⟨b0, hb0⟩ : ∃ b, w.heap.size = b := ⟨_, rfl⟩
  rw [hb0] at E2
  obtain ⟨c0, c1, c2, c3, c4, c5, c6, c7⟩ := E2.out
  by_cases hbig : 3000 < B ∧ B ≤ 65535
  · obtain ⟨hbig1, hbig2⟩ := hbig
    go_wp2
    go_ret
    exact ⟨rfl, X2.out⟩
  obtain ⟨m, hm3, hmm, hmB⟩ := min_max B
  have HMB : Hid (1 ≤ B → B ≤ 3000 → (m : Int) = B) := hmB
  have hmx : ∀ W, (Builtin.max_ #[3, 3] 3 #[.int .i64 B, .int .i64 0]).run Try.prog W = .ok (.int .i64 (max B 0)) W := max2 B 0
  have hmn : ∀ W, (Builtin.min_ #[3, 3] 3 #[.int .i64 (max B 0), .int .i64 3000]).run Try.prog W = .ok (.int .i64 (m : Int)) W := fun W => by rw [← hmm]; exact min2i _ _ W
  clear hmB hmm
  generalize max B 0 = M0 at *
  by_cases h3000 : 3000 < B
  · have h65 : 65535 < B := by omega
    clear hbig
    have hno : ¬ MayH N B Q E F L := fun h => by have := h.1.2.1; omega
    have hm5 : ¬ May N B Q E F := fun h => by have := h.2.1; omega
    go_upto_region 7 with (at_make; refine wpList_make_full _ rfl _ _ 28 rfl w2.heap.size 5 i0 (.int .u8 0) 1 Try.underlying28 hi hz0 hz1 _ _ _ _ m rfl rfl rfl rfl (by rw [hz2]; omega) (by unfold maxLen; omega) (Nat.le_refl _) ?_; intro w3 ho hgrow)
    have B3 : Hid (Blk w3 w2.heap.size [] (zeros m) []) := made_blk ho
    have X3 : Hid (Below w2.heap.size w2 w3) := below_new hgrow
    have HS2 : Hid (b0 < w2.heap.size ∧ w.heap.size ≤ w2.heap.size) := ⟨cell_block_lt c0, X2.out.size⟩
    clear ho hgrow c0 c1 c2 c3 c4 c5 c6 c7 hmx hmn
    obtain ⟨qp, hqp⟩ : ∃ q, w2.heap.size = q := ⟨_, rfl⟩
    rw [hqp] at B3 X3 HS2 ⊢
    have HQP : Hid (w2.heap.size = qp) := hqp
    clear hqp hb0
    go_wp2
    go_loopw [39] (fun i wr => ∃ t : Nat, t ≤ m ∧ i = .int .i64 t ∧ Blk wr qp [] (List.replicate t x ++ zeros (m - t)) [] ∧ Below qp w2 wr) (fun i _ => m - (intOf i).toNat)
    case atStart => exact ⟨0, by omega, rfl, by simpa using B3.out, X3.out⟩
    case round =>
      obtain ⟨t, ht, rfl, hblk, hbel⟩ := hrel
      have HBL : Hid (Blk wr qp [] (List.replicate t x ++ zeros (m - t)) []) := hblk
      have HBE : Hid (Below qp w2 wr) := hbel
      clear hblk hbel
      by_cases hlt : t < m
      · have hlen : t < (List.replicate t x ++ zeros (m - t)).length := by simp [zeros]; omega
        have hc := HBL.out.cell t _ (map_bv_at _ t hlen)
        have hf := HBL.out.frozen t
        simp only [List.length_nil, Nat.zero_add] at hc
        have HS : Hid (Blk (wr.setCell ⟨qp, t, none⟩ (.int .u8 (x.toNat : Int))) qp [] (List.replicate (t + 1) x ++ zeros (m - (t + 1))) []) := by
          have h := HBL.out.set t hlen x
          rw [zeros_set m t x hlt] at h
          unfold Hid
          simpa [bv] using h
        generalize (List.replicate t x ++ zeros (m - t))[t] = y at *
        clear hlen
        go_wp2
        go_roundw
        case rel => exact ⟨t + 1, by omega, by go_num, HS.out, HBE.out.setCell (Nat.le_refl _) _⟩
        case measure => simp [intOf]; omega
      · have htm : t = m := by omega
        subst htm
        have XR' := HBE.out
        rw [← HQP.out] at XR'
        have XR : Hid (Below w.heap.size w wr) := below_mid X2.out XR'
        have ER : Hid (Eight wr b0 S N B Q E F L I) := E2.out.below XR'
        have CR : Hid (IsCo wr c g) := C2.out.below XR'
        have PR : Hid (Bs wr (.slice (some ⟨qp, 0, none⟩) t t) (List.replicate t x)) := by
          have h := HBL.out
          simp only [Nat.sub_self, zeros, List.replicate_zero, List.append_nil] at h
          exact h.bs0 t t (by simp) (Nat.le_refl _) (by unfold maxLen; omega)
        clear XR' HBL HBE X3 B3
        obtain ⟨c0, c1, c2, c3, c4, c5, c6, c7⟩ := ER.out
        go_wp2_with fail
        refine (enc_no c S N B Q E F L I (.slice (some ⟨qp, 0, none⟩) t t) wr hno).mono ?_
        rintro e w5 ⟨rfl, hb5⟩
        have X5 : Hid (Below w.heap.size w w5) := below_mid XR.out hb5
        have E5 : Hid (Eight w5 b0 S N B Q E F L I) := ER.out.below hb5
        clear hb5 XR ER CR
        go_wp2
        have BX : Hid (∀ W, Below w5.heap.size w5 W → W.cell? ⟨b0, 0, none⟩ = some (.int .u64 S) ∧ W.cell? ⟨b0, 1, none⟩ = some (.int .i64 N) ∧ W.cell? ⟨b0, 2, none⟩ = some (.int .i64 B) ∧ W.cell? ⟨b0, 3, none⟩ = some (.int .i64 Q) ∧ W.cell? ⟨b0, 4, none⟩ = some (.int .i64 E) ∧ W.cell? ⟨b0, 5, none⟩ = some (.int .i64 F) ∧ W.cell? ⟨b0, 6, none⟩ = some (.int .i64 L) ∧ W.cell? ⟨b0, 7, none⟩ = some (.int .u64 I)) := fun W hW => E5.out.below hW
        have CM : Hid (∀ W, Below w5.heap.size w5 W → Calls Try.prog 32 #[.agg #[.int .i64 N, .int .i64 B, .int .i64 Q, .int .i64 E, .int .i64 F]] W fun e w' => ∃ v, e = .returned v ∧ IsV (.bool false) v w' ∧ Below W.heap.size W w') := fun W hW => calls_below (rmay_no N B Q E F W hm5)
        have HNO : Hid (mayHE N B Q E F L = 1) := mayHE_no hno
        clear hno hm5
        refine wp_region_any (by kernel_rfl) ?_
        obtain ⟨gs, hgs⟩ : ∃ gs : List (Value → World → Prop), gs = [IsV (.pointer (some ⟨b0, 1, none⟩)), IsV (.agg #[.int .i64 N, .int .i64 B, .int .i64 Q, .int .i64 E, .int .i64 F]), IsV (.bool false), IsV (.bool false), IsV (undef), IsV (undef), IsV (undef), IsV (Value.bool false), IsV (Value.bool false), IsV (undef), IsV (undef), IsV (undef), IsV (undef), IsV (undef), IsV (undef), IsV (Value.bool false), IsV (Value.bool false)] := ⟨_, rfl⟩
        have g0 : Hid (gs[0]? = some (IsV (.pointer (some ⟨b0, 1, none⟩)))) := by unfold Hid; rw [hgs]; rfl
        have g1 : Hid (gs[1]? = some (IsV (.agg #[.int .i64 N, .int .i64 B, .int .i64 Q, .int .i64 E, .int .i64 F]))) := by unfold Hid; rw [hgs]; rfl
        have g2 : Hid (gs[2]? = some (IsV (.bool false))) := by unfold Hid; rw [hgs]; rfl
        have g3 : Hid (gs[3]? = some (IsV (.bool false))) := by unfold Hid; rw [hgs]; rfl
        have g4 : Hid (gs[4]? = some (IsV (undef))) := by unfold Hid; rw [hgs]; rfl
        have g5 : Hid (gs[5]? = some (IsV (undef))) := by unfold Hid; rw [hgs]; rfl
        have g6 : Hid (gs[6]? = some (IsV (undef))) := by unfold Hid; rw [hgs]; rfl
        have g7 : Hid (gs[7]? = some (IsV (Value.bool false))) := by unfold Hid; rw [hgs]; rfl
        have g8 : Hid (gs[8]? = some (IsV (Value.bool false))) := by unfold Hid; rw [hgs]; rfl
        have g9 : Hid (gs[9]? = some (IsV (undef))) := by unfold Hid; rw [hgs]; rfl
        have g10 : Hid (gs[10]? = some (IsV (undef))) := by unfold Hid; rw [hgs]; rfl
        have g11 : Hid (gs[11]? = some (IsV (undef))) := by unfold Hid; rw [hgs]; rfl
        have g12 : Hid (gs[12]? = some (IsV (undef))) := by unfold Hid; rw [hgs]; rfl
        have g13 : Hid (gs[13]? = some (IsV (undef))) := by unfold Hid; rw [hgs]; rfl
        have g14 : Hid (gs[14]? = some (IsV (undef))) := by unfold Hid; rw [hgs]; rfl
        have g15 : Hid (gs[15]? = some (IsV (Value.bool false))) := by unfold Hid; rw [hgs]; rfl
        have g16 : Hid (gs[16]? = some (IsV (Value.bool false))) := by unfold Hid; rw [hgs]; rfl
        have gk : Hid (∀ p ∈ gs, Stays p) := by
          unfold Hid
          rw [hgs]
          simp only [List.forall_mem_cons]
          exact ⟨stays_v _, stays_v _, stays_v _, stays_v _, stays_v _, stays_v _, stays_v _, stays_v _, stays_v _, stays_v _, stays_v _, stays_v _, stays_v _, stays_v _, stays_v _, stays_v _, stays_v _, by simp⟩
        clear hgs
        refine wpAny_inv (fun listed ac W => ∃ xv : Nat → Value, ac = ⟨#[Value.agg #[Value.int IntKind.u64 S, Value.int IntKind.i64 N, Value.int IntKind.i64 B, Value.int IntKind.i64 Q, Value.int IntKind.i64 E, Value.int IntKind.i64 F, Value.int IntKind.i64 L, Value.int IntKind.u64 I], Value.int IntKind.u8 ↑x.toNat, Value.pointer (some { block := b0, off := 0 }), undef, Value.bool false, Value.pointer (some { block := c, off := 0 }), Value.slice (some { block := qp, off := 0 }) t t, u7, Value.slice none 0 0, Value.int IntKind.i64 (1 : Int), xv 16, undef, undef, Value.pointer (some { block := c, off := 0 }), Value.pointer (some { block := c, off := 0 }), Value.bool false, Value.bool false, Value.agg #[Value.int IntKind.i64 (1048576 : Int), Value.int IntKind.i64 (65535 : Int), Value.int IntKind.i64 (8 : Int), Value.int IntKind.i64 (1000 : Int), Value.int IntKind.i64 (4096 : Int)], Value.int IntKind.i64 (0 : Int), Value.bool false, Value.bool false, Value.pointer (some { block := b0, off := 1 }), Value.pointer (some { block := b0, off := 2 }), Value.int IntKind.i64 B, Value.bool true, Value.bool true, Value.pointer (some { block := b0, off := 1 }), Value.pointer (some { block := b0, off := 2 }), Value.int IntKind.i64 B, Value.bool (decide (B ≤ (65535 : Int))), Value.bool (decide (B ≤ (65535 : Int))), Value.pointer (some { block := b0, off := 1 }), Value.pointer (some { block := b0, off := 2 }), Value.int IntKind.i64 B, Value.int IntKind.i64 M0, Value.int IntKind.i64 ↑t, Value.slice (some { block := qp, off := 0 }) t t, Value.slice (some { block := qp, off := 0 }) t t, Value.int IntKind.i64 ↑t, Value.int IntKind.i64 ↑t, Value.bool false, u41, u42, u43, u44, u45, u46, Value.tuple #[Value.slice none 0 0, Value.int IntKind.i64 (1 : Int)], Value.pointer (some { block := c, off := 0 }), Value.agg #[Value.int IntKind.u64 S, Value.int IntKind.i64 N, Value.int IntKind.i64 B, Value.int IntKind.i64 Q, Value.int IntKind.i64 E, Value.int IntKind.i64 F, Value.int IntKind.i64 L, Value.int IntKind.u64 I], Value.slice (some { block := qp, off := 0 }) t t, Value.agg #[Value.int IntKind.u64 S, Value.int IntKind.i64 N, Value.int IntKind.i64 B, Value.int IntKind.i64 Q, Value.int IntKind.i64 E, Value.int IntKind.i64 F, Value.int IntKind.i64 L, Value.int IntKind.u64 I, Value.slice (some { block := qp, off := 0 }) t t], Value.tuple #[Value.slice none 0 0, Value.int IntKind.i64 (1 : Int)], Value.slice none 0 0, Value.int IntKind.i64 (1 : Int), xv 0, xv 1, xv 2, xv 3, xv 4, xv 5, xv 6, xv 7, xv 8, xv 9, xv 10, xv 11, xv 12, xv 13, xv 14, xv 15, undef, undef, undef, undef, undef, undef, undef, undef, undef, undef, undef, undef, undef, undef, undef, undef, undef, undef, undef, undef, undef, undef, undef, undef, undef, undef, undef, undef, undef, undef, undef, undef, undef, undef, undef, undef, undef, undef, undef, undef, undef, undef, undef, undef, undef, undef, undef, undef, undef, undef, undef], []⟩ ∧ Below w5.heap.size w5 W ∧ Lst gs listed xv W) (by kernel_rfl) ?_ ?_ _ _ _ _ (by kernel_rfl) (of_decide_eq_true (by kernel_rfl)) ⟨fun j => undef, rfl, below0 _, Lst.start _ _ _ _⟩
        · rintro listed ac W ⟨xv, rfl, hb, hG⟩ i hi hd
          have hin : i < 17 := hi
          clear hi
          have hcase : i = 0 ∨ i = 1 ∨ i = 2 ∨ i = 3 ∨ i = 4 ∨ i = 5 ∨ i = 6 ∨ i = 7 ∨ i = 8 ∨ i = 9 ∨ i = 10 ∨ i = 11 ∨ i = 12 ∨ i = 13 ∨ i = 14 ∨ i = 15 ∨ i = 16 := by omega
          rcases hcase with rfl | rfl | rfl | rfl | rfl | rfl | rfl | rfl | rfl | rfl | rfl | rfl | rfl | rfl | rfl | rfl | rfl
          · refine wpOp_step rfl (fun K' hK => ?_)
            clear hd hin
            go_simp
            exact hK _ _ ⟨updV xv 0 (.pointer (some ⟨b0, 1, none⟩)), by simp [updV], hb, hG.same gk.out g0.out _ rfl⟩
          · refine wpOp_step rfl (fun K' hK => ?_)
            simp [Region.binds] at hd
            have e0 : xv 0 = .pointer (some ⟨b0, 1, none⟩) := hG.get g0.out (by simp [hd])
            obtain ⟨c0, c1, c2, c3, c4, c5, c6, c7⟩ := BX.out W hb
            clear hd hin
            go_simp
            exact hK _ _ ⟨updV xv 1 (.agg #[.int .i64 N, .int .i64 B, .int .i64 Q, .int .i64 E, .int .i64 F]), by simp [updV, e0], hb, hG.same gk.out g1.out _ rfl⟩
          · refine wpOp_step rfl (fun K' hK => ?_)
            simp [Region.binds] at hd
            have e1 : xv 1 = .agg #[.int .i64 N, .int .i64 B, .int .i64 Q, .int .i64 E, .int .i64 F] := hG.get g1.out (by simp [hd])
            clear hd hin
            go_simp
            refine (CM.out W hb).mono ?_
            rintro e w' ⟨v, rfl, hv, hb'⟩
            go_wp2_with fail
            exact ⟨updV xv 2 v, by simp [updV, e1], hb.trans (hb'.mono hb.size), hG.step gk.out hb' g2.out v hv⟩
          · refine wpOp_step rfl (fun K' hK => ?_)
            simp [Region.binds] at hd
            have e2 : xv 2 = .bool false := hG.get g2.out (by simp [hd])
            clear hd hin
            go_simp
            exact hK _ _ ⟨updV xv 3 (.bool false), by simp [updV, e2], hb, hG.same gk.out g3.out _ rfl⟩
          · refine wpOp_step rfl (fun K' hK => ?_)
            simp [Region.binds] at hd
            have e3 : xv 3 = .bool false := hG.get g3.out (by simp [hd])
            clear hd hin
            go_simp
            exact hK _ _ ⟨updV xv 4 (undef), by simp [updV, e3], hb, hG.same gk.out g4.out _ rfl⟩
          · refine wpOp_step rfl (fun K' hK => ?_)
            simp [Region.binds] at hd
            have e4 : xv 4 = undef := hG.get g4.out (by simp [hd])
            have e3 : xv 3 = .bool false := hG.get g3.out (by simp [hd])
            clear hd hin
            go_simp
            exact hK _ _ ⟨updV xv 5 (undef), by simp [updV, e4, e3], hb, hG.same gk.out g5.out _ rfl⟩
          · refine wpOp_step rfl (fun K' hK => ?_)
            simp [Region.binds] at hd
            have e5 : xv 5 = undef := hG.get g5.out (by simp [hd])
            have e3 : xv 3 = .bool false := hG.get g3.out (by simp [hd])
            clear hd hin
            go_simp
            exact hK _ _ ⟨updV xv 6 (undef), by simp [updV, e5, e3], hb, hG.same gk.out g6.out _ rfl⟩
          · refine wpOp_step rfl (fun K' hK => ?_)
            simp [Region.binds] at hd
            have e3 : xv 3 = .bool false := hG.get g3.out (by simp [hd])
            have e6 : xv 6 = undef := hG.get g6.out (by simp [hd])
            clear hd hin
            go_simp
            exact hK _ _ ⟨updV xv 7 (Value.bool false), by simp [updV, e3, e6], hb, hG.same gk.out g7.out _ rfl⟩
          · refine wpOp_step rfl (fun K' hK => ?_)
            simp [Region.binds] at hd
            have e7 : xv 7 = Value.bool false := hG.get g7.out (by simp [hd])
            clear hd hin
            go_simp
            exact hK _ _ ⟨updV xv 8 (Value.bool false), by simp [updV, e7], hb, hG.same gk.out g8.out _ rfl⟩
          · refine wpOp_step rfl (fun K' hK => ?_)
            simp [Region.binds] at hd
            have e8 : xv 8 = Value.bool false := hG.get g8.out (by simp [hd])
            clear hd hin
            go_simp
            exact hK _ _ ⟨updV xv 9 (undef), by simp [updV, e8], hb, hG.same gk.out g9.out _ rfl⟩
          · refine wpOp_step rfl (fun K' hK => ?_)
            simp [Region.binds] at hd
            have e9 : xv 9 = undef := hG.get g9.out (by simp [hd])
            have e8 : xv 8 = Value.bool false := hG.get g8.out (by simp [hd])
            clear hd hin
            go_simp
            exact hK _ _ ⟨updV xv 10 (undef), by simp [updV, e9, e8], hb, hG.same gk.out g10.out _ rfl⟩
          · refine wpOp_step rfl (fun K' hK => ?_)
            simp [Region.binds] at hd
            have e8 : xv 8 = Value.bool false := hG.get g8.out (by simp [hd])
            clear hd hin
            go_simp
            exact hK _ _ ⟨updV xv 11 (undef), by simp [updV, e8], hb, hG.same gk.out g11.out _ rfl⟩
          · refine wpOp_step rfl (fun K' hK => ?_)
            simp [Region.binds] at hd
            have e11 : xv 11 = undef := hG.get g11.out (by simp [hd])
            have e8 : xv 8 = Value.bool false := hG.get g8.out (by simp [hd])
            clear hd hin
            go_simp
            exact hK _ _ ⟨updV xv 12 (undef), by simp [updV, e11, e8], hb, hG.same gk.out g12.out _ rfl⟩
          · refine wpOp_step rfl (fun K' hK => ?_)
            simp [Region.binds] at hd
            have e12 : xv 12 = undef := hG.get g12.out (by simp [hd])
            have e8 : xv 8 = Value.bool false := hG.get g8.out (by simp [hd])
            clear hd hin
            go_simp
            exact hK _ _ ⟨updV xv 13 (undef), by simp [updV, e12, e8], hb, hG.same gk.out g13.out _ rfl⟩
          · refine wpOp_step rfl (fun K' hK => ?_)
            simp [Region.binds] at hd
            have e10 : xv 10 = undef := hG.get g10.out (by simp [hd])
            have e13 : xv 13 = undef := hG.get g13.out (by simp [hd])
            have e8 : xv 8 = Value.bool false := hG.get g8.out (by simp [hd])
            clear hd hin
            go_simp
            exact hK _ _ ⟨updV xv 14 (undef), by simp [updV, e10, e13, e8], hb, hG.same gk.out g14.out _ rfl⟩
          · refine wpOp_step rfl (fun K' hK => ?_)
            simp [Region.binds] at hd
            have e8 : xv 8 = Value.bool false := hG.get g8.out (by simp [hd])
            have e14 : xv 14 = undef := hG.get g14.out (by simp [hd])
            clear hd hin
            go_simp
            exact hK _ _ ⟨updV xv 15 (Value.bool false), by simp [updV, e8, e14], hb, hG.same gk.out g15.out _ rfl⟩
          · refine wpOp_step rfl (fun K' hK => ?_)
            simp [Region.binds] at hd
            have e15 : xv 15 = Value.bool false := hG.get g15.out (by simp [hd])
            clear hd hin
            go_simp
            exact hK _ _ ⟨updV xv 16 (Value.bool false), by simp [updV, e15], hb, hG.same gk.out g16.out _ rfl⟩
        · rintro listed ac W ⟨xv, rfl, hb, hG⟩ hall
          have e16 : xv 16 = Value.bool false := hG.get g16.out (hall 16 (by decide))
          have XW : Hid (Below w5.heap.size w5 W) := hb
          clear hall hG hb gk g0 g1 g2 g3 g4 g5 g6 g7 g8 g9 g10 g11 g12 g13 g14 g15 g16
          rw [e16]
          clear e16
          have X6 : Hid (Below w.heap.size w W) := below_mid X5.out XW.out
          have E6 : Hid (Eight W b0 S N B Q E F L I) := E5.out.below XW.out
          clear XW X5 E5 BX CM
          obtain ⟨c0, c1, c2, c3, c4, c5, c6, c7⟩ := E6.out
          go_wp2_with fail
          refine (fcheck_any S N B Q E F L I W).mono ?_
          rintro e w7 ⟨rfl, hb7⟩
          rw [HNO.out]
          have X7 : Hid (Below w.heap.size w w7) := below_mid X6.out hb7
          clear hb7 X6 E6 c0 c1 c2 c3 c4 c5 c6 c7
          go_wp2
          go_ret
          exact ⟨rfl, X7.out⟩
  · clear hbig
    go_upto_region 7 with (at_make; refine wpList_make_full _ rfl _ _ 28 rfl w2.heap.size 5 i0 (.int .u8 0) 1 Try.underlying28 hi hz0 hz1 _ _ _ _ m rfl rfl rfl rfl (by rw [hz2]; omega) (by unfold maxLen; omega) (Nat.le_refl _) ?_; intro w3 ho hgrow)
    have B3 : Hid (Blk w3 w2.heap.size [] (zeros m) []) := made_blk ho
    have X3 : Hid (Below w2.heap.size w2 w3) := below_new hgrow
    have HS2 : Hid (b0 < w2.heap.size ∧ w.heap.size ≤ w2.heap.size) := ⟨cell_block_lt c0, X2.out.size⟩
    clear ho hgrow c0 c1 c2 c3 c4 c5 c6 c7 hmx hmn
    obtain ⟨qp, hqp⟩ : ∃ q, w2.heap.size = q := ⟨_, rfl⟩
    rw [hqp] at B3 X3 HS2 ⊢
    have HQP : Hid (w2.heap.size = qp) := hqp
    clear hqp hb0
    go_wp2
    go_loopw [39] (fun i wr => ∃ t : Nat, t ≤ m ∧ i = .int .i64 t ∧ Blk wr qp [] (List.replicate t x ++ zeros (m - t)) [] ∧ Below qp w2 wr) (fun i _ => m - (intOf i).toNat)
    case atStart => exact ⟨0, by omega, rfl, by simpa using B3.out, X3.out⟩
    case round =>
      obtain ⟨t, ht, rfl, hblk, hbel⟩ := hrel
      have HBL : Hid (Blk wr qp [] (List.replicate t x ++ zeros (m - t)) []) := hblk
      have HBE : Hid (Below qp w2 wr) := hbel
      clear hblk hbel
      by_cases hlt : t < m
      · have hlen : t < (List.replicate t x ++ zeros (m - t)).length := by simp [zeros]; omega
        have hc := HBL.out.cell t _ (map_bv_at _ t hlen)
        have hf := HBL.out.frozen t
        simp only [List.length_nil, Nat.zero_add] at hc
        have HS : Hid (Blk (wr.setCell ⟨qp, t, none⟩ (.int .u8 (x.toNat : Int))) qp [] (List.replicate (t + 1) x ++ zeros (m - (t + 1))) []) := by
          have h := HBL.out.set t hlen x
          rw [zeros_set m t x hlt] at h
          unfold Hid
          simpa [bv] using h
        generalize (List.replicate t x ++ zeros (m - t))[t] = y at *
        clear hlen
        go_wp2
        go_roundw
        case rel => exact ⟨t + 1, by omega, by go_num, HS.out, HBE.out.setCell (Nat.le_refl _) _⟩
        case measure => simp [intOf]; omega
      · have htm : t = m := by omega
        subst htm
        have XR' := HBE.out
        rw [← HQP.out] at XR'
        have XR : Hid (Below w.heap.size w wr) := below_mid X2.out XR'
        have ER : Hid (Eight wr b0 S N B Q E F L I) := E2.out.below XR'
        have CR : Hid (IsCo wr c g) := C2.out.below XR'
        have PR : Hid (Bs wr (.slice (some ⟨qp, 0, none⟩) t t) (List.replicate t x)) := by
          have h := HBL.out
          simp only [Nat.sub_self, zeros, List.replicate_zero, List.append_nil] at h
          exact h.bs0 t t (by simp) (Nat.le_refl _) (by unfold maxLen; omega)
        clear XR' HBL HBE X3 B3
        obtain ⟨c0, c1, c2, c3, c4, c5, c6, c7⟩ := ER.out
        by_cases hm5 : May N B Q E F
        · by_cases hL0 : 0 ≤ L
          · have HMO : Hid (∀ W, Calls Try.prog 37 #[.agg #[.int .i64 N, .int .i64 B, .int .i64 Q, .int .i64 E, .int .i64 F]] W fun e w' => e = .returned (.int .i64 (N * B)) ∧ Below W.heap.size W w') := fun W => most_any N B Q E F W hm5.1 hm5.2.1
            by_cases hLP : L ≤ N * B
            · have hyes : MayH N B Q E F L := ⟨hm5, hL0, hLP⟩
              have hB1 : (t : Int) = B := HMB.out (by have := hm5.2.1; omega) (by omega)
              obtain ⟨z1, z2, z3, z4, z5, z6, rfl, rfl, rfl, rfl, rfl, rfl⟩ := may_nats hyes
              obtain ⟨z0, rfl, hn0⟩ := ok_u64 HSI.out.1
              obtain ⟨z7, rfl, hn7⟩ := ok_u64 HSI.out.2
              have hnn : t = z2 := by omega
              subst hnn
              have HM : Hid (MayH z1 t z3 z4 z5 z6) := hyes
              have HN : Hid (z0 < 2 ^ 64 ∧ z7 < 2 ^ 64) := ⟨hn0, hn7⟩
              have HRL : Hid ((List.replicate t x).length = t) := by unfold Hid; simp
              have HLP : Hid ((z6 : Int) ≤ (z1 : Int) * (t : Int)) := hLP
              clear hB1 hn0 hn7 HSI hyes hm5 hLP HMB
              go_wp2_with fail
              refine (enc_yes c g z0 z1 t z3 z4 z5 z6 z7 (some ⟨qp, 0, none⟩) t (List.replicate t x) wr CR.out HM.out HN.out.1 HN.out.2 PR.out HRL.out (by omega)).mono ?_
              rintro e w5 ⟨q, rfl, hq, ho, hb5⟩
              have X5 : Hid (Below w.heap.size w w5) := below_mid XR.out hb5
              have E5 : Hid (Eight w5 b0 z0 z1 t z3 z4 z5 z6 z7) := ER.out.below hb5
              have C5 : Hid (IsCo w5 c g) := CR.out.below hb5
              have P5 : Hid (Bs w5 (.slice (some ⟨qp, 0, none⟩) t t) (List.replicate t x)) := PR.out.below hb5
              have HFL : Hid ((frameB z0 z1 t z3 z4 z5 z6 z7 (List.replicate t x)).length = 42 + t) := by unfold Hid; rw [frameB_length, HRL.out]
              have F5 : Hid (Bs w5 (.slice (some ⟨q, 0, none⟩) (42 + t) (42 + t)) (frameB z0 z1 t z3 z4 z5 z6 z7 (List.replicate t x))) := by
                have h := ho.bs (by rw [HFL.out]; omega)
                rw [HFL.out] at h
                exact h
              have HPF : Hid (parseE (frameB z0 z1 t z3 z4 z5 z6 z7 (List.replicate t x)) = 0) := parse_frame z0 z1 t z3 z4 z5 z6 z7 _ HN.out.1 HN.out.2 HM.out HRL.out
              have HPK := pack_frame z0 z1 t z3 z4 z5 z6 z7 _ HN.out.1 HN.out.2 HM.out HRL.out
              have HPV : Hid (∀ q, packV (frameB z0 z1 t z3 z4 z5 z6 z7 (List.replicate t x)) q = #[.int .u64 (z0 : Nat), .int .i64 (z1 : Nat), .int .i64 (t : Nat), .int .i64 (z3 : Nat), .int .i64 (z4 : Nat), .int .i64 (z5 : Nat), .int .i64 (z6 : Nat), .int .u64 (z7 : Nat), .slice (some ⟨q, 0, none⟩) t t]) := HPK.1
              have HPY : Hid (payB (frameB z0 z1 t z3 z4 z5 z6 z7 (List.replicate t x)) = List.replicate t x) := HPK.2
              clear HPK hq ho hb5 XR ER CR PR c0 c1 c2 c3 c4 c5 c6 c7
              generalize frameB z0 z1 t z3 z4 z5 z6 z7 (List.replicate t x) = fr at *
              go_wp2
              have BX : Hid (∀ W, Below w5.heap.size w5 W → W.cell? ⟨b0, 0, none⟩ = some (.int .u64 (z0 : Int)) ∧ W.cell? ⟨b0, 1, none⟩ = some (.int .i64 (z1 : Int)) ∧ W.cell? ⟨b0, 2, none⟩ = some (.int .i64 (t : Int)) ∧ W.cell? ⟨b0, 3, none⟩ = some (.int .i64 (z3 : Int)) ∧ W.cell? ⟨b0, 4, none⟩ = some (.int .i64 (z4 : Int)) ∧ W.cell? ⟨b0, 5, none⟩ = some (.int .i64 (z5 : Int)) ∧ W.cell? ⟨b0, 6, none⟩ = some (.int .i64 (z6 : Int)) ∧ W.cell? ⟨b0, 7, none⟩ = some (.int .u64 (z7 : Int))) := fun W hW => E5.out.below hW
              have CM : Hid (∀ W, Below w5.heap.size w5 W → Calls Try.prog 32 #[.agg #[.int .i64 (z1 : Int), .int .i64 (t : Int), .int .i64 (z3 : Int), .int .i64 (z4 : Int), .int .i64 (z5 : Int)]] W fun e w' => ∃ v, e = .returned v ∧ IsV (.bool true) v w' ∧ Below W.heap.size W w') := fun W hW => calls_below (rmay_yes z1 t z3 z4 z5 W HM.out.1)
              obtain ⟨P, hP⟩ : ∃ P, (z1 : Int) * (t : Int) = P := ⟨_, rfl⟩
              rw [hP] at HMO HLP
              clear hP
              have CP : Hid (∀ W, Below w5.heap.size w5 W → Calls Try.prog 37 #[.agg #[.int .i64 (z1 : Int), .int .i64 (t : Int), .int .i64 (z3 : Int), .int .i64 (z4 : Int), .int .i64 (z5 : Int)]] W fun e w' => ∃ v, e = .returned v ∧ IsV (.int .i64 P) v w' ∧ Below W.heap.size W w') := fun W hW => calls_below (HMO.out W)
              have hLP := HLP.out
              refine wp_region_any (by kernel_rfl) ?_
              obtain ⟨gs, hgs⟩ : ∃ gs : List (Value → World → Prop), gs = [IsV (.pointer (some ⟨b0, 1, none⟩)), IsV (.agg #[.int .i64 (z1 : Int), .int .i64 (t : Int), .int .i64 (z3 : Int), .int .i64 (z4 : Int), .int .i64 (z5 : Int)]), IsV (.bool true), IsV (.bool true), IsV (.pointer (some ⟨b0, 6, none⟩)), IsV (.int .i64 (z6 : Int)), IsV (.bool true), IsV (.bool true), IsV (.bool true), IsV (.pointer (some ⟨b0, 6, none⟩)), IsV (.int .i64 (z6 : Int)), IsV (.pointer (some ⟨b0, 1, none⟩)), IsV (.agg #[.int .i64 (z1 : Int), .int .i64 (t : Int), .int .i64 (z3 : Int), .int .i64 (z4 : Int), .int .i64 (z5 : Int)]), IsV (.int .i64 P), IsV (.bool true), IsV (.bool true), IsV (.bool true)] := ⟨_, rfl⟩
              have g0 : Hid (gs[0]? = some (IsV (.pointer (some ⟨b0, 1, none⟩)))) := by unfold Hid; rw [hgs]; rfl
              have g1 : Hid (gs[1]? = some (IsV (.agg #[.int .i64 (z1 : Int), .int .i64 (t : Int), .int .i64 (z3 : Int), .int .i64 (z4 : Int), .int .i64 (z5 : Int)]))) := by unfold Hid; rw [hgs]; rfl
              have g2 : Hid (gs[2]? = some (IsV (.bool true))) := by unfold Hid; rw [hgs]; rfl
              have g3 : Hid (gs[3]? = some (IsV (.bool true))) := by unfold Hid; rw [hgs]; rfl
              have g4 : Hid (gs[4]? = some (IsV (.pointer (some ⟨b0, 6, none⟩)))) := by unfold Hid; rw [hgs]; rfl
              have g5 : Hid (gs[5]? = some (IsV (.int .i64 (z6 : Int)))) := by unfold Hid; rw [hgs]; rfl
              have g6 : Hid (gs[6]? = some (IsV (.bool true))) := by unfold Hid; rw [hgs]; rfl
              have g7 : Hid (gs[7]? = some (IsV (.bool true))) := by unfold Hid; rw [hgs]; rfl
              have g8 : Hid (gs[8]? = some (IsV (.bool true))) := by unfold Hid; rw [hgs]; rfl
              have g9 : Hid (gs[9]? = some (IsV (.pointer (some ⟨b0, 6, none⟩)))) := by unfold Hid; rw [hgs]; rfl
              have g10 : Hid (gs[10]? = some (IsV (.int .i64 (z6 : Int)))) := by unfold Hid; rw [hgs]; rfl
              have g11 : Hid (gs[11]? = some (IsV (.pointer (some ⟨b0, 1, none⟩)))) := by unfold Hid; rw [hgs]; rfl
              have g12 : Hid (gs[12]? = some (IsV (.agg #[.int .i64 (z1 : Int), .int .i64 (t : Int), .int .i64 (z3 : Int), .int .i64 (z4 : Int), .int .i64 (z5 : Int)]))) := by unfold Hid; rw [hgs]; rfl
              have g13 : Hid (gs[13]? = some (IsV (.int .i64 P))) := by unfold Hid; rw [hgs]; rfl
              have g14 : Hid (gs[14]? = some (IsV (.bool true))) := by unfold Hid; rw [hgs]; rfl
              have g15 : Hid (gs[15]? = some (IsV (.bool true))) := by unfold Hid; rw [hgs]; rfl
              have g16 : Hid (gs[16]? = some (IsV (.bool true))) := by unfold Hid; rw [hgs]; rfl
              have gk : Hid (∀ p ∈ gs, Stays p) := by
                unfold Hid
                rw [hgs]
                simp only [List.forall_mem_cons]
                exact ⟨stays_v _, stays_v _, stays_v _, stays_v _, stays_v _, stays_v _, stays_v _, stays_v _, stays_v _, stays_v _, stays_v _, stays_v _, stays_v _, stays_v _, stays_v _, stays_v _, stays_v _, by simp⟩
              clear hgs
              refine wpAny_inv (fun listed ac W => ∃ xv : Nat → Value, ac = ⟨#[Value.agg #[Value.int IntKind.u64 ↑z0, Value.int IntKind.i64 ↑z1, Value.int IntKind.i64 ↑t, Value.int IntKind.i64 ↑z3, Value.int IntKind.i64 ↑z4, Value.int IntKind.i64 ↑z5, Value.int IntKind.i64 ↑z6, Value.int IntKind.u64 ↑z7], Value.int IntKind.u8 ↑x.toNat, Value.pointer (some { block := b0, off := 0 }), undef, Value.bool false, Value.pointer (some { block := c, off := 0 }), Value.slice (some { block := qp, off := 0 }) t t, u7, Value.slice (some { block := q, off := 0 }) (42 + t) (42 + t), Value.int IntKind.i64 (0 : Int), xv 16, undef, undef, Value.pointer (some { block := c, off := 0 }), Value.pointer (some { block := c, off := 0 }), Value.bool false, Value.bool false, Value.agg #[Value.int IntKind.i64 (1048576 : Int), Value.int IntKind.i64 (65535 : Int), Value.int IntKind.i64 (8 : Int), Value.int IntKind.i64 (1000 : Int), Value.int IntKind.i64 (4096 : Int)], Value.int IntKind.i64 (0 : Int), Value.bool false, Value.bool false, Value.pointer (some { block := b0, off := 1 }), Value.pointer (some { block := b0, off := 2 }), Value.int IntKind.i64 ↑t, Value.bool false, Value.bool false, undef, undef, undef, undef, Value.bool false, Value.pointer (some { block := b0, off := 1 }), Value.pointer (some { block := b0, off := 2 }), Value.int IntKind.i64 ↑t, Value.int IntKind.i64 M0, Value.int IntKind.i64 ↑t, Value.slice (some { block := qp, off := 0 }) t t, Value.slice (some { block := qp, off := 0 }) t t, Value.int IntKind.i64 ↑t, Value.int IntKind.i64 ↑t, Value.bool false, u41, u42, u43, u44, u45, u46, Value.tuple #[Value.slice (some { block := q, off := 0 }) (42 + t) (42 + t), Value.int IntKind.i64 (0 : Int)], Value.pointer (some { block := c, off := 0 }), Value.agg #[Value.int IntKind.u64 ↑z0, Value.int IntKind.i64 ↑z1, Value.int IntKind.i64 ↑t, Value.int IntKind.i64 ↑z3, Value.int IntKind.i64 ↑z4, Value.int IntKind.i64 ↑z5, Value.int IntKind.i64 ↑z6, Value.int IntKind.u64 ↑z7], Value.slice (some { block := qp, off := 0 }) t t, Value.agg #[Value.int IntKind.u64 ↑z0, Value.int IntKind.i64 ↑z1, Value.int IntKind.i64 ↑t, Value.int IntKind.i64 ↑z3, Value.int IntKind.i64 ↑z4, Value.int IntKind.i64 ↑z5, Value.int IntKind.i64 ↑z6, Value.int IntKind.u64 ↑z7, Value.slice (some { block := qp, off := 0 }) t t], Value.tuple #[Value.slice (some { block := q, off := 0 }) (42 + t) (42 + t), Value.int IntKind.i64 (0 : Int)], Value.slice (some { block := q, off := 0 }) (42 + t) (42 + t), Value.int IntKind.i64 (0 : Int), xv 0, xv 1, xv 2, xv 3, xv 4, xv 5, xv 6, xv 7, xv 8, xv 9, xv 10, xv 11, xv 12, xv 13, xv 14, xv 15, undef, undef, undef, undef, undef, undef, undef, undef, undef, undef, undef, undef, undef, undef, undef, undef, undef, undef, undef, undef, undef, undef, undef, undef, undef, undef, undef, undef, undef, undef, undef, undef, undef, undef, undef, undef, undef, undef, undef, undef, undef, undef, undef, undef, undef, undef, undef, undef, undef, undef, undef], []⟩ ∧ Below w5.heap.size w5 W ∧ Lst gs listed xv W) (by kernel_rfl) ?_ ?_ _ _ _ _ (by kernel_rfl) (of_decide_eq_true (by kernel_rfl)) ⟨fun j => undef, rfl, below0 _, Lst.start _ _ _ _⟩
              · rintro listed ac W ⟨xv, rfl, hb, hG⟩ i hi hd
                have hin : i < 17 := hi
                clear hi
                have hcase : i = 0 ∨ i = 1 ∨ i = 2 ∨ i = 3 ∨ i = 4 ∨ i = 5 ∨ i = 6 ∨ i = 7 ∨ i = 8 ∨ i = 9 ∨ i = 10 ∨ i = 11 ∨ i = 12 ∨ i = 13 ∨ i = 14 ∨ i = 15 ∨ i = 16 := by omega
                rcases hcase with rfl | rfl | rfl | rfl | rfl | rfl | rfl | rfl | rfl | rfl | rfl | rfl | rfl | rfl | rfl | rfl | rfl
                · refine wpOp_step rfl (fun K' hK => ?_)
                  clear hd hin
                  go_simp
                  exact hK _ _ ⟨updV xv 0 (.pointer (some ⟨b0, 1, none⟩)), by simp [updV], hb, hG.same gk.out g0.out _ rfl⟩
                · refine wpOp_step rfl (fun K' hK => ?_)
                  simp [Region.binds] at hd
                  have e0 : xv 0 = .pointer (some ⟨b0, 1, none⟩) := hG.get g0.out (by simp [hd])
                  obtain ⟨c0, c1, c2, c3, c4, c5, c6, c7⟩ := BX.out W hb
                  clear hd hin
                  go_simp
                  exact hK _ _ ⟨updV xv 1 (.agg #[.int .i64 (z1 : Int), .int .i64 (t : Int), .int .i64 (z3 : Int), .int .i64 (z4 : Int), .int .i64 (z5 : Int)]), by simp [updV, e0], hb, hG.same gk.out g1.out _ rfl⟩
                · refine wpOp_step rfl (fun K' hK => ?_)
                  simp [Region.binds] at hd
                  have e1 : xv 1 = .agg #[.int .i64 (z1 : Int), .int .i64 (t : Int), .int .i64 (z3 : Int), .int .i64 (z4 : Int), .int .i64 (z5 : Int)] := hG.get g1.out (by simp [hd])
                  clear hd hin
                  go_simp
                  refine (CM.out W hb).mono ?_
                  rintro e w' ⟨v, rfl, hv, hb'⟩
                  go_wp2_with fail
                  exact ⟨updV xv 2 v, by simp [updV, e1], hb.trans (hb'.mono hb.size), hG.step gk.out hb' g2.out v hv⟩
                · refine wpOp_step rfl (fun K' hK => ?_)
                  simp [Region.binds] at hd
                  have e2 : xv 2 = .bool true := hG.get g2.out (by simp [hd])
                  clear hd hin
                  go_simp
                  exact hK _ _ ⟨updV xv 3 (.bool true), by simp [updV, e2], hb, hG.same gk.out g3.out _ rfl⟩
                · refine wpOp_step rfl (fun K' hK => ?_)
                  simp [Region.binds] at hd
                  have e3 : xv 3 = .bool true := hG.get g3.out (by simp [hd])
                  clear hd hin
                  go_simp
                  exact hK _ _ ⟨updV xv 4 (.pointer (some ⟨b0, 6, none⟩)), by simp [updV, e3], hb, hG.same gk.out g4.out _ rfl⟩
                · refine wpOp_step rfl (fun K' hK => ?_)
                  simp [Region.binds] at hd
                  have e4 : xv 4 = .pointer (some ⟨b0, 6, none⟩) := hG.get g4.out (by simp [hd])
                  have e3 : xv 3 = .bool true := hG.get g3.out (by simp [hd])
                  obtain ⟨c0, c1, c2, c3, c4, c5, c6, c7⟩ := BX.out W hb
                  clear hd hin
                  go_simp
                  exact hK _ _ ⟨updV xv 5 (.int .i64 (z6 : Int)), by simp [updV, e4, e3], hb, hG.same gk.out g5.out _ rfl⟩
                · refine wpOp_step rfl (fun K' hK => ?_)
                  simp [Region.binds] at hd
                  have e5 : xv 5 = .int .i64 (z6 : Int) := hG.get g5.out (by simp [hd])
                  have e3 : xv 3 = .bool true := hG.get g3.out (by simp [hd])
                  clear hd hin
                  go_simp
                  exact hK _ _ ⟨updV xv 6 (.bool true), by simp [updV, e5, e3], hb, hG.same gk.out g6.out _ rfl⟩
                · refine wpOp_step rfl (fun K' hK => ?_)
                  simp [Region.binds] at hd
                  have e3 : xv 3 = .bool true := hG.get g3.out (by simp [hd])
                  have e6 : xv 6 = .bool true := hG.get g6.out (by simp [hd])
                  clear hd hin
                  go_simp
                  exact hK _ _ ⟨updV xv 7 (.bool true), by simp [updV, e3, e6], hb, hG.same gk.out g7.out _ rfl⟩
                · refine wpOp_step rfl (fun K' hK => ?_)
                  simp [Region.binds] at hd
                  have e7 : xv 7 = .bool true := hG.get g7.out (by simp [hd])
                  clear hd hin
                  go_simp
                  exact hK _ _ ⟨updV xv 8 (.bool true), by simp [updV, e7], hb, hG.same gk.out g8.out _ rfl⟩
                · refine wpOp_step rfl (fun K' hK => ?_)
                  simp [Region.binds] at hd
                  have e8 : xv 8 = .bool true := hG.get g8.out (by simp [hd])
                  clear hd hin
                  go_simp
                  exact hK _ _ ⟨updV xv 9 (.pointer (some ⟨b0, 6, none⟩)), by simp [updV, e8], hb, hG.same gk.out g9.out _ rfl⟩
                · refine wpOp_step rfl (fun K' hK => ?_)
                  simp [Region.binds] at hd
                  have e9 : xv 9 = .pointer (some ⟨b0, 6, none⟩) := hG.get g9.out (by simp [hd])
                  have e8 : xv 8 = .bool true := hG.get g8.out (by simp [hd])
                  obtain ⟨c0, c1, c2, c3, c4, c5, c6, c7⟩ := BX.out W hb
                  clear hd hin
                  go_simp
                  exact hK _ _ ⟨updV xv 10 (.int .i64 (z6 : Int)), by simp [updV, e9, e8], hb, hG.same gk.out g10.out _ rfl⟩
                · refine wpOp_step rfl (fun K' hK => ?_)
                  simp [Region.binds] at hd
                  have e8 : xv 8 = .bool true := hG.get g8.out (by simp [hd])
                  clear hd hin
                  go_simp
                  exact hK _ _ ⟨updV xv 11 (.pointer (some ⟨b0, 1, none⟩)), by simp [updV, e8], hb, hG.same gk.out g11.out _ rfl⟩
                · refine wpOp_step rfl (fun K' hK => ?_)
                  simp [Region.binds] at hd
                  have e11 : xv 11 = .pointer (some ⟨b0, 1, none⟩) := hG.get g11.out (by simp [hd])
                  have e8 : xv 8 = .bool true := hG.get g8.out (by simp [hd])
                  obtain ⟨c0, c1, c2, c3, c4, c5, c6, c7⟩ := BX.out W hb
                  clear hd hin
                  go_simp
                  exact hK _ _ ⟨updV xv 12 (.agg #[.int .i64 (z1 : Int), .int .i64 (t : Int), .int .i64 (z3 : Int), .int .i64 (z4 : Int), .int .i64 (z5 : Int)]), by simp [updV, e11, e8], hb, hG.same gk.out g12.out _ rfl⟩
                · refine wpOp_step rfl (fun K' hK => ?_)
                  simp [Region.binds] at hd
                  have e12 : xv 12 = .agg #[.int .i64 (z1 : Int), .int .i64 (t : Int), .int .i64 (z3 : Int), .int .i64 (z4 : Int), .int .i64 (z5 : Int)] := hG.get g12.out (by simp [hd])
                  have e8 : xv 8 = .bool true := hG.get g8.out (by simp [hd])
                  clear hd hin
                  go_simp
                  refine (CP.out W hb).mono ?_
                  rintro e w' ⟨v, rfl, hv, hb'⟩
                  go_wp2_with fail
                  exact ⟨updV xv 13 v, by simp [updV, e12, e8], hb.trans (hb'.mono hb.size), hG.step gk.out hb' g13.out v hv⟩
                · refine wpOp_step rfl (fun K' hK => ?_)
                  simp [Region.binds] at hd
                  have e10 : xv 10 = .int .i64 (z6 : Int) := hG.get g10.out (by simp [hd])
                  have e13 : xv 13 = .int .i64 P := hG.get g13.out (by simp [hd])
                  have e8 : xv 8 = .bool true := hG.get g8.out (by simp [hd])
                  clear hd hin
                  go_simp
                  exact hK _ _ ⟨updV xv 14 (.bool true), by simp [updV, e10, e13, e8], hb, hG.same gk.out g14.out _ rfl⟩
                · refine wpOp_step rfl (fun K' hK => ?_)
                  simp [Region.binds] at hd
                  have e8 : xv 8 = .bool true := hG.get g8.out (by simp [hd])
                  have e14 : xv 14 = .bool true := hG.get g14.out (by simp [hd])
                  clear hd hin
                  go_simp
                  exact hK _ _ ⟨updV xv 15 (.bool true), by simp [updV, e8, e14], hb, hG.same gk.out g15.out _ rfl⟩
                · refine wpOp_step rfl (fun K' hK => ?_)
                  simp [Region.binds] at hd
                  have e15 : xv 15 = .bool true := hG.get g15.out (by simp [hd])
                  clear hd hin
                  go_simp
                  exact hK _ _ ⟨updV xv 16 (.bool true), by simp [updV, e15], hb, hG.same gk.out g16.out _ rfl⟩
              · rintro listed ac W ⟨xv, rfl, hb, hG⟩ hall
                have e16 : xv 16 = .bool true := hG.get g16.out (hall 16 (by decide))
                have XW : Hid (Below w5.heap.size w5 W) := hb
                clear hall hG hb gk g0 g1 g2 g3 g4 g5 g6 g7 g8 g9 g10 g11 g12 g13 g14 g15 g16
                rw [e16]
                clear e16
                have X6 : Hid (Below w.heap.size w W) := below_mid X5.out XW.out
                have E6 : Hid (Eight W b0 z0 z1 t z3 z4 z5 z6 z7) := E5.out.below XW.out
                have C6 : Hid (IsCo W c g) := C5.out.below XW.out
                have P6 : Hid (Bs W (.slice (some ⟨qp, 0, none⟩) t t) (List.replicate t x)) := P5.out.below XW.out
                have F6 : Hid (Bs W (.slice (some ⟨q, 0, none⟩) (42 + t) (42 + t)) fr) := F5.out.below XW.out
                clear XW X5 E5 C5 P5 F5 BX CM CP HMO HLP hLP
                generalize W = w6 at *
                obtain ⟨c0, c1, c2, c3, c4, c5, c6, c7⟩ := E6.out
                go_wp2_with fail
                refine (fcheck_any z0 z1 t z3 z4 z5 z6 z7 w6).mono ?_
                rintro e w7 ⟨rfl, hb7⟩
                rw [mayHE_yes HM.out]
                have X7 : Hid (Below w.heap.size w w7) := below_mid X6.out hb7
                have E7 : Hid (Eight w7 b0 z0 z1 t z3 z4 z5 z6 z7) := E6.out.below hb7
                have C7 : Hid (IsCo w7 c g) := C6.out.below hb7
                have P7 : Hid (Bs w7 (.slice (some ⟨qp, 0, none⟩) t t) (List.replicate t x)) := P6.out.below hb7
                have F7 : Hid (Bs w7 (.slice (some ⟨q, 0, none⟩) (42 + t) (42 + t)) fr) := F6.out.below hb7
                clear hb7 X6 E6 C6 P6 F6 c0 c1 c2 c3 c4 c5 c6 c7
                go_wp2_with fail
                refine (parse_ok c g _ fr w7 C7.out F7.out HPF.out).mono ?_
                rintro e w8 ⟨q8, rfl, hq8, ho8, hb8⟩
                rw [HPV.out]
                rw [HPY.out] at ho8
                have X8 : Hid (Below w.heap.size w w8) := below_mid X7.out hb8
                have E8 : Hid (Eight w8 b0 z0 z1 t z3 z4 z5 z6 z7) := E7.out.below hb8
                have k1 := fun o => conv_bytes ((P7.out.below hb8).below (below_alloc w8 o))
                have R8 : Bs w8 (.slice (some ⟨q8, 0, none⟩) t t) (List.replicate t x) := by
                  have h := ho8.bs (by rw [HRL.out]; omega)
                  rw [HRL.out] at h
                  exact h
                have k2 := fun o => conv_bytes (R8.below (below_alloc w8 o))
                have hst := str_toList
                have hlt := cell_block_lt E8.out.1
                clear hq8 ho8 hb8 R8 X7 E7 C7 P7 F7 HPF HPV HPY
                obtain ⟨c0, c1, c2, c3, c4, c5, c6, c7⟩ := E8.out
                generalize List.replicate t x = pl at *
                have hw42 : IntKind.i64.wrap (42 + (t : Int)) = 42 + (t : Int) := by rw [IntKind.wrap_i64]; omega
                go_wp2
                go_ret
                exact ⟨rfl, below_mid X8.out (below_alloc _ _)⟩
            · have hno : ¬ MayH N B Q E F L := fun h => hLP h.2.2
              generalize N * B = P at *
              have hLPn : P < L := by omega
              go_wp2_with fail
              refine (enc_no c S N B Q E F L I (.slice (some ⟨qp, 0, none⟩) t t) wr hno).mono ?_
              rintro e w5 ⟨rfl, hb5⟩
              have X5 : Hid (Below w.heap.size w w5) := below_mid XR.out hb5
              have E5 : Hid (Eight w5 b0 S N B Q E F L I) := ER.out.below hb5
              clear hb5 XR ER CR
              go_wp2
              have BX : Hid (∀ W, Below w5.heap.size w5 W → W.cell? ⟨b0, 0, none⟩ = some (.int .u64 S) ∧ W.cell? ⟨b0, 1, none⟩ = some (.int .i64 N) ∧ W.cell? ⟨b0, 2, none⟩ = some (.int .i64 B) ∧ W.cell? ⟨b0, 3, none⟩ = some (.int .i64 Q) ∧ W.cell? ⟨b0, 4, none⟩ = some (.int .i64 E) ∧ W.cell? ⟨b0, 5, none⟩ = some (.int .i64 F) ∧ W.cell? ⟨b0, 6, none⟩ = some (.int .i64 L) ∧ W.cell? ⟨b0, 7, none⟩ = some (.int .u64 I)) := fun W hW => E5.out.below hW
              have CM : Hid (∀ W, Below w5.heap.size w5 W → Calls Try.prog 32 #[.agg #[.int .i64 N, .int .i64 B, .int .i64 Q, .int .i64 E, .int .i64 F]] W fun e w' => ∃ v, e = .returned v ∧ IsV (.bool true) v w' ∧ Below W.heap.size W w') := fun W hW => calls_below (rmay_yes N B Q E F W hm5)
              have CP : Hid (∀ W, Below w5.heap.size w5 W → Calls Try.prog 37 #[.agg #[.int .i64 N, .int .i64 B, .int .i64 Q, .int .i64 E, .int .i64 F]] W fun e w' => ∃ v, e = .returned v ∧ IsV (.int .i64 P) v w' ∧ Below W.heap.size W w') := fun W hW => calls_below (HMO.out W)
              have HNO : Hid (mayHE N B Q E F L = 1) := mayHE_no hno
              clear hno hm5
              refine wp_region_any (by kernel_rfl) ?_
              obtain ⟨gs, hgs⟩ : ∃ gs : List (Value → World → Prop), gs = [IsV (.pointer (some ⟨b0, 1, none⟩)), IsV (.agg #[.int .i64 N, .int .i64 B, .int .i64 Q, .int .i64 E, .int .i64 F]), IsV (.bool true), IsV (.bool true), IsV (.pointer (some ⟨b0, 6, none⟩)), IsV (.int .i64 L), IsV (.bool true), IsV (.bool true), IsV (.bool true), IsV (.pointer (some ⟨b0, 6, none⟩)), IsV (.int .i64 L), IsV (.pointer (some ⟨b0, 1, none⟩)), IsV (.agg #[.int .i64 N, .int .i64 B, .int .i64 Q, .int .i64 E, .int .i64 F]), IsV (.int .i64 P), IsV (.bool false), IsV (.bool false), IsV (.bool false)] := ⟨_, rfl⟩
              have g0 : Hid (gs[0]? = some (IsV (.pointer (some ⟨b0, 1, none⟩)))) := by unfold Hid; rw [hgs]; rfl
              have g1 : Hid (gs[1]? = some (IsV (.agg #[.int .i64 N, .int .i64 B, .int .i64 Q, .int .i64 E, .int .i64 F]))) := by unfold Hid; rw [hgs]; rfl
              have g2 : Hid (gs[2]? = some (IsV (.bool true))) := by unfold Hid; rw [hgs]; rfl
              have g3 : Hid (gs[3]? = some (IsV (.bool true))) := by unfold Hid; rw [hgs]; rfl
              have g4 : Hid (gs[4]? = some (IsV (.pointer (some ⟨b0, 6, none⟩)))) := by unfold Hid; rw [hgs]; rfl
              have g5 : Hid (gs[5]? = some (IsV (.int .i64 L))) := by unfold Hid; rw [hgs]; rfl
              have g6 : Hid (gs[6]? = some (IsV (.bool true))) := by unfold Hid; rw [hgs]; rfl
              have g7 : Hid (gs[7]? = some (IsV (.bool true))) := by unfold Hid; rw [hgs]; rfl
              have g8 : Hid (gs[8]? = some (IsV (.bool true))) := by unfold Hid; rw [hgs]; rfl
              have g9 : Hid (gs[9]? = some (IsV (.pointer (some ⟨b0, 6, none⟩)))) := by unfold Hid; rw [hgs]; rfl
              have g10 : Hid (gs[10]? = some (IsV (.int .i64 L))) := by unfold Hid; rw [hgs]; rfl
              have g11 : Hid (gs[11]? = some (IsV (.pointer (some ⟨b0, 1, none⟩)))) := by unfold Hid; rw [hgs]; rfl
              have g12 : Hid (gs[12]? = some (IsV (.agg #[.int .i64 N, .int .i64 B, .int .i64 Q, .int .i64 E, .int .i64 F]))) := by unfold Hid; rw [hgs]; rfl
              have g13 : Hid (gs[13]? = some (IsV (.int .i64 P))) := by unfold Hid; rw [hgs]; rfl
              have g14 : Hid (gs[14]? = some (IsV (.bool false))) := by unfold Hid; rw [hgs]; rfl
              have g15 : Hid (gs[15]? = some (IsV (.bool false))) := by unfold Hid; rw [hgs]; rfl
              have g16 : Hid (gs[16]? = some (IsV (.bool false))) := by unfold Hid; rw [hgs]; rfl
              have gk : Hid (∀ p ∈ gs, Stays p) := by
                unfold Hid
                rw [hgs]
                simp only [List.forall_mem_cons]
                exact ⟨stays_v _, stays_v _, stays_v _, stays_v _, stays_v _, stays_v _, stays_v _, stays_v _, stays_v _, stays_v _, stays_v _, stays_v _, stays_v _, stays_v _, stays_v _, stays_v _, stays_v _, by simp⟩
              clear hgs
              refine wpAny_inv (fun listed ac W => ∃ xv : Nat → Value, ac = ⟨#[Value.agg #[Value.int IntKind.u64 S, Value.int IntKind.i64 N, Value.int IntKind.i64 B, Value.int IntKind.i64 Q, Value.int IntKind.i64 E, Value.int IntKind.i64 F, Value.int IntKind.i64 L, Value.int IntKind.u64 I], Value.int IntKind.u8 ↑x.toNat, Value.pointer (some { block := b0, off := 0 }), undef, Value.bool false, Value.pointer (some { block := c, off := 0 }), Value.slice (some { block := qp, off := 0 }) t t, u7, Value.slice none 0 0, Value.int IntKind.i64 (1 : Int), xv 16, undef, undef, Value.pointer (some { block := c, off := 0 }), Value.pointer (some { block := c, off := 0 }), Value.bool false, Value.bool false, Value.agg #[Value.int IntKind.i64 (1048576 : Int), Value.int IntKind.i64 (65535 : Int), Value.int IntKind.i64 (8 : Int), Value.int IntKind.i64 (1000 : Int), Value.int IntKind.i64 (4096 : Int)], Value.int IntKind.i64 (0 : Int), Value.bool false, Value.bool false, Value.pointer (some { block := b0, off := 1 }), Value.pointer (some { block := b0, off := 2 }), Value.int IntKind.i64 B, Value.bool false, Value.bool false, undef, undef, undef, undef, Value.bool false, Value.pointer (some { block := b0, off := 1 }), Value.pointer (some { block := b0, off := 2 }), Value.int IntKind.i64 B, Value.int IntKind.i64 M0, Value.int IntKind.i64 ↑t, Value.slice (some { block := qp, off := 0 }) t t, Value.slice (some { block := qp, off := 0 }) t t, Value.int IntKind.i64 ↑t, Value.int IntKind.i64 ↑t, Value.bool false, u41, u42, u43, u44, u45, u46, Value.tuple #[Value.slice none 0 0, Value.int IntKind.i64 (1 : Int)], Value.pointer (some { block := c, off := 0 }), Value.agg #[Value.int IntKind.u64 S, Value.int IntKind.i64 N, Value.int IntKind.i64 B, Value.int IntKind.i64 Q, Value.int IntKind.i64 E, Value.int IntKind.i64 F, Value.int IntKind.i64 L, Value.int IntKind.u64 I], Value.slice (some { block := qp, off := 0 }) t t, Value.agg #[Value.int IntKind.u64 S, Value.int IntKind.i64 N, Value.int IntKind.i64 B, Value.int IntKind.i64 Q, Value.int IntKind.i64 E, Value.int IntKind.i64 F, Value.int IntKind.i64 L, Value.int IntKind.u64 I, Value.slice (some { block := qp, off := 0 }) t t], Value.tuple #[Value.slice none 0 0, Value.int IntKind.i64 (1 : Int)], Value.slice none 0 0, Value.int IntKind.i64 (1 : Int), xv 0, xv 1, xv 2, xv 3, xv 4, xv 5, xv 6, xv 7, xv 8, xv 9, xv 10, xv 11, xv 12, xv 13, xv 14, xv 15, undef, undef, undef, undef, undef, undef, undef, undef, undef, undef, undef, undef, undef, undef, undef, undef, undef, undef, undef, undef, undef, undef, undef, undef, undef, undef, undef, undef, undef, undef, undef, undef, undef, undef, undef, undef, undef, undef, undef, undef, undef, undef, undef, undef, undef, undef, undef, undef, undef, undef, undef], []⟩ ∧ Below w5.heap.size w5 W ∧ Lst gs listed xv W) (by kernel_rfl) ?_ ?_ _ _ _ _ (by kernel_rfl) (of_decide_eq_true (by kernel_rfl)) ⟨fun j => undef, rfl, below0 _, Lst.start _ _ _ _⟩
              · rintro listed ac W ⟨xv, rfl, hb, hG⟩ i hi hd
                have hin : i < 17 := hi
                clear hi
                have hcase : i = 0 ∨ i = 1 ∨ i = 2 ∨ i = 3 ∨ i = 4 ∨ i = 5 ∨ i = 6 ∨ i = 7 ∨ i = 8 ∨ i = 9 ∨ i = 10 ∨ i = 11 ∨ i = 12 ∨ i = 13 ∨ i = 14 ∨ i = 15 ∨ i = 16 := by omega
                rcases hcase with rfl | rfl | rfl | rfl | rfl | rfl | rfl | rfl | rfl | rfl | rfl | rfl | rfl | rfl | rfl | rfl | rfl
                · refine wpOp_step rfl (fun K' hK => ?_)
                  clear hd hin
                  go_simp
                  exact hK _ _ ⟨updV xv 0 (.pointer (some ⟨b0, 1, none⟩)), by simp [updV], hb, hG.same gk.out g0.out _ rfl⟩
                · refine wpOp_step rfl (fun K' hK => ?_)
                  simp [Region.binds] at hd
                  have e0 : xv 0 = .pointer (some ⟨b0, 1, none⟩) := hG.get g0.out (by simp [hd])
                  obtain ⟨c0, c1, c2, c3, c4, c5, c6, c7⟩ := BX.out W hb
                  clear hd hin
                  go_simp
                  exact hK _ _ ⟨updV xv 1 (.agg #[.int .i64 N, .int .i64 B, .int .i64 Q, .int .i64 E, .int .i64 F]), by simp [updV, e0], hb, hG.same gk.out g1.out _ rfl⟩
                · refine wpOp_step rfl (fun K' hK => ?_)
                  simp [Region.binds] at hd
                  have e1 : xv 1 = .agg #[.int .i64 N, .int .i64 B, .int .i64 Q, .int .i64 E, .int .i64 F] := hG.get g1.out (by simp [hd])
                  clear hd hin
                  go_simp
                  refine (CM.out W hb).mono ?_
                  rintro e w' ⟨v, rfl, hv, hb'⟩
                  go_wp2_with fail
                  exact ⟨updV xv 2 v, by simp [updV, e1], hb.trans (hb'.mono hb.size), hG.step gk.out hb' g2.out v hv⟩
                · refine wpOp_step rfl (fun K' hK => ?_)
                  simp [Region.binds] at hd
                  have e2 : xv 2 = .bool true := hG.get g2.out (by simp [hd])
                  clear hd hin
                  go_simp
                  exact hK _ _ ⟨updV xv 3 (.bool true), by simp [updV, e2], hb, hG.same gk.out g3.out _ rfl⟩
                · refine wpOp_step rfl (fun K' hK => ?_)
                  simp [Region.binds] at hd
                  have e3 : xv 3 = .bool true := hG.get g3.out (by simp [hd])
                  clear hd hin
                  go_simp
                  exact hK _ _ ⟨updV xv 4 (.pointer (some ⟨b0, 6, none⟩)), by simp [updV, e3], hb, hG.same gk.out g4.out _ rfl⟩
                · refine wpOp_step rfl (fun K' hK => ?_)
                  simp [Region.binds] at hd
                  have e4 : xv 4 = .pointer (some ⟨b0, 6, none⟩) := hG.get g4.out (by simp [hd])
                  have e3 : xv 3 = .bool true := hG.get g3.out (by simp [hd])
                  obtain ⟨c0, c1, c2, c3, c4, c5, c6, c7⟩ := BX.out W hb
                  clear hd hin
                  go_simp
                  exact hK _ _ ⟨updV xv 5 (.int .i64 L), by simp [updV, e4, e3], hb, hG.same gk.out g5.out _ rfl⟩
                · refine wpOp_step rfl (fun K' hK => ?_)
                  simp [Region.binds] at hd
                  have e5 : xv 5 = .int .i64 L := hG.get g5.out (by simp [hd])
                  have e3 : xv 3 = .bool true := hG.get g3.out (by simp [hd])
                  clear hd hin
                  go_simp
                  exact hK _ _ ⟨updV xv 6 (.bool true), by simp [updV, e5, e3], hb, hG.same gk.out g6.out _ rfl⟩
                · refine wpOp_step rfl (fun K' hK => ?_)
                  simp [Region.binds] at hd
                  have e3 : xv 3 = .bool true := hG.get g3.out (by simp [hd])
                  have e6 : xv 6 = .bool true := hG.get g6.out (by simp [hd])
                  clear hd hin
                  go_simp
                  exact hK _ _ ⟨updV xv 7 (.bool true), by simp [updV, e3, e6], hb, hG.same gk.out g7.out _ rfl⟩
                · refine wpOp_step rfl (fun K' hK => ?_)
                  simp [Region.binds] at hd
                  have e7 : xv 7 = .bool true := hG.get g7.out (by simp [hd])
                  clear hd hin
                  go_simp
                  exact hK _ _ ⟨updV xv 8 (.bool true), by simp [updV, e7], hb, hG.same gk.out g8.out _ rfl⟩
                · refine wpOp_step rfl (fun K' hK => ?_)
                  simp [Region.binds] at hd
                  have e8 : xv 8 = .bool true := hG.get g8.out (by simp [hd])
                  clear hd hin
                  go_simp
                  exact hK _ _ ⟨updV xv 9 (.pointer (some ⟨b0, 6, none⟩)), by simp [updV, e8], hb, hG.same gk.out g9.out _ rfl⟩
                · refine wpOp_step rfl (fun K' hK => ?_)
                  simp [Region.binds] at hd
                  have e9 : xv 9 = .pointer (some ⟨b0, 6, none⟩) := hG.get g9.out (by simp [hd])
                  have e8 : xv 8 = .bool true := hG.get g8.out (by simp [hd])
                  obtain ⟨c0, c1, c2, c3, c4, c5, c6, c7⟩ := BX.out W hb
                  clear hd hin
                  go_simp
                  exact hK _ _ ⟨updV xv 10 (.int .i64 L), by simp [updV, e9, e8], hb, hG.same gk.out g10.out _ rfl⟩
                · refine wpOp_step rfl (fun K' hK => ?_)
                  simp [Region.binds] at hd
                  have e8 : xv 8 = .bool true := hG.get g8.out (by simp [hd])
                  clear hd hin
                  go_simp
                  exact hK _ _ ⟨updV xv 11 (.pointer (some ⟨b0, 1, none⟩)), by simp [updV, e8], hb, hG.same gk.out g11.out _ rfl⟩
                · refine wpOp_step rfl (fun K' hK => ?_)
                  simp [Region.binds] at hd
                  have e11 : xv 11 = .pointer (some ⟨b0, 1, none⟩) := hG.get g11.out (by simp [hd])
                  have e8 : xv 8 = .bool true := hG.get g8.out (by simp [hd])
                  obtain ⟨c0, c1, c2, c3, c4, c5, c6, c7⟩ := BX.out W hb
                  clear hd hin
                  go_simp
                  exact hK _ _ ⟨updV xv 12 (.agg #[.int .i64 N, .int .i64 B, .int .i64 Q, .int .i64 E, .int .i64 F]), by simp [updV, e11, e8], hb, hG.same gk.out g12.out _ rfl⟩
                · refine wpOp_step rfl (fun K' hK => ?_)
                  simp [Region.binds] at hd
                  have e12 : xv 12 = .agg #[.int .i64 N, .int .i64 B, .int .i64 Q, .int .i64 E, .int .i64 F] := hG.get g12.out (by simp [hd])
                  have e8 : xv 8 = .bool true := hG.get g8.out (by simp [hd])
                  clear hd hin
                  go_simp
                  refine (CP.out W hb).mono ?_
                  rintro e w' ⟨v, rfl, hv, hb'⟩
                  go_wp2_with fail
                  exact ⟨updV xv 13 v, by simp [updV, e12, e8], hb.trans (hb'.mono hb.size), hG.step gk.out hb' g13.out v hv⟩
                · refine wpOp_step rfl (fun K' hK => ?_)
                  simp [Region.binds] at hd
                  have e10 : xv 10 = .int .i64 L := hG.get g10.out (by simp [hd])
                  have e13 : xv 13 = .int .i64 P := hG.get g13.out (by simp [hd])
                  have e8 : xv 8 = .bool true := hG.get g8.out (by simp [hd])
                  clear hd hin
                  go_simp
                  exact hK _ _ ⟨updV xv 14 (.bool false), by simp [updV, e10, e13, e8, hLPn], hb, hG.same gk.out g14.out _ rfl⟩
                · refine wpOp_step rfl (fun K' hK => ?_)
                  simp [Region.binds] at hd
                  have e8 : xv 8 = .bool true := hG.get g8.out (by simp [hd])
                  have e14 : xv 14 = .bool false := hG.get g14.out (by simp [hd])
                  clear hd hin
                  go_simp
                  exact hK _ _ ⟨updV xv 15 (.bool false), by simp [updV, e8, e14], hb, hG.same gk.out g15.out _ rfl⟩
                · refine wpOp_step rfl (fun K' hK => ?_)
                  simp [Region.binds] at hd
                  have e15 : xv 15 = .bool false := hG.get g15.out (by simp [hd])
                  clear hd hin
                  go_simp
                  exact hK _ _ ⟨updV xv 16 (.bool false), by simp [updV, e15], hb, hG.same gk.out g16.out _ rfl⟩
              · rintro listed ac W ⟨xv, rfl, hb, hG⟩ hall
                have e16 : xv 16 = .bool false := hG.get g16.out (hall 16 (by decide))
                have XW : Hid (Below w5.heap.size w5 W) := hb
                clear hall hG hb gk g0 g1 g2 g3 g4 g5 g6 g7 g8 g9 g10 g11 g12 g13 g14 g15 g16
                rw [e16]
                clear e16
                have X6 : Hid (Below w.heap.size w W) := below_mid X5.out XW.out
                have E6 : Hid (Eight W b0 S N B Q E F L I) := E5.out.below XW.out
                clear XW X5 E5 BX CM
                obtain ⟨c0, c1, c2, c3, c4, c5, c6, c7⟩ := E6.out
                go_wp2_with fail
                refine (fcheck_any S N B Q E F L I W).mono ?_
                rintro e w7 ⟨rfl, hb7⟩
                rw [HNO.out]
                have X7 : Hid (Below w.heap.size w w7) := below_mid X6.out hb7
                clear hb7 X6 E6 c0 c1 c2 c3 c4 c5 c6 c7
                go_wp2
                go_ret
                exact ⟨rfl, X7.out⟩
          · have hno : ¬ MayH N B Q E F L := fun h => hL0 h.2.1
            have hLn : L < 0 := by omega
            go_wp2_with fail
            refine (enc_no c S N B Q E F L I (.slice (some ⟨qp, 0, none⟩) t t) wr hno).mono ?_
            rintro e w5 ⟨rfl, hb5⟩
            have X5 : Hid (Below w.heap.size w w5) := below_mid XR.out hb5
            have E5 : Hid (Eight w5 b0 S N B Q E F L I) := ER.out.below hb5
            clear hb5 XR ER CR
            go_wp2
            have BX : Hid (∀ W, Below w5.heap.size w5 W → W.cell? ⟨b0, 0, none⟩ = some (.int .u64 S) ∧ W.cell? ⟨b0, 1, none⟩ = some (.int .i64 N) ∧ W.cell? ⟨b0, 2, none⟩ = some (.int .i64 B) ∧ W.cell? ⟨b0, 3, none⟩ = some (.int .i64 Q) ∧ W.cell? ⟨b0, 4, none⟩ = some (.int .i64 E) ∧ W.cell? ⟨b0, 5, none⟩ = some (.int .i64 F) ∧ W.cell? ⟨b0, 6, none⟩ = some (.int .i64 L) ∧ W.cell? ⟨b0, 7, none⟩ = some (.int .u64 I)) := fun W hW => E5.out.below hW
            have CM : Hid (∀ W, Below w5.heap.size w5 W → Calls Try.prog 32 #[.agg #[.int .i64 N, .int .i64 B, .int .i64 Q, .int .i64 E, .int .i64 F]] W fun e w' => ∃ v, e = .returned v ∧ IsV (.bool true) v w' ∧ Below W.heap.size W w') := fun W hW => calls_below (rmay_yes N B Q E F W hm5)
            have HNO : Hid (mayHE N B Q E F L = 1) := mayHE_no hno
            clear hno hm5
            refine wp_region_any (by kernel_rfl) ?_
            obtain ⟨gs, hgs⟩ : ∃ gs : List (Value → World → Prop), gs = [IsV (.pointer (some ⟨b0, 1, none⟩)), IsV (.agg #[.int .i64 N, .int .i64 B, .int .i64 Q, .int .i64 E, .int .i64 F]), IsV (.bool true), IsV (.bool true), IsV (.pointer (some ⟨b0, 6, none⟩)), IsV (.int .i64 L), IsV (.bool false), IsV (.bool false), IsV (.bool false), IsV (undef), IsV (undef), IsV (undef), IsV (undef), IsV (undef), IsV (undef), IsV (Value.bool false), IsV (Value.bool false)] := ⟨_, rfl⟩
            have g0 : Hid (gs[0]? = some (IsV (.pointer (some ⟨b0, 1, none⟩)))) := by unfold Hid; rw [hgs]; rfl
            have g1 : Hid (gs[1]? = some (IsV (.agg #[.int .i64 N, .int .i64 B, .int .i64 Q, .int .i64 E, .int .i64 F]))) := by unfold Hid; rw [hgs]; rfl
            have g2 : Hid (gs[2]? = some (IsV (.bool true))) := by unfold Hid; rw [hgs]; rfl
            have g3 : Hid (gs[3]? = some (IsV (.bool true))) := by unfold Hid; rw [hgs]; rfl
            have g4 : Hid (gs[4]? = some (IsV (.pointer (some ⟨b0, 6, none⟩)))) := by unfold Hid; rw [hgs]; rfl
            have g5 : Hid (gs[5]? = some (IsV (.int .i64 L))) := by unfold Hid; rw [hgs]; rfl
            have g6 : Hid (gs[6]? = some (IsV (.bool false))) := by unfold Hid; rw [hgs]; rfl
            have g7 : Hid (gs[7]? = some (IsV (.bool false))) := by unfold Hid; rw [hgs]; rfl
            have g8 : Hid (gs[8]? = some (IsV (.bool false))) := by unfold Hid; rw [hgs]; rfl
            have g9 : Hid (gs[9]? = some (IsV (undef))) := by unfold Hid; rw [hgs]; rfl
            have g10 : Hid (gs[10]? = some (IsV (undef))) := by unfold Hid; rw [hgs]; rfl
            have g11 : Hid (gs[11]? = some (IsV (undef))) := by unfold Hid; rw [hgs]; rfl
            have g12 : Hid (gs[12]? = some (IsV (undef))) := by unfold Hid; rw [hgs]; rfl
            have g13 : Hid (gs[13]? = some (IsV (undef))) := by unfold Hid; rw [hgs]; rfl
            have g14 : Hid (gs[14]? = some (IsV (undef))) := by unfold Hid; rw [hgs]; rfl
            have g15 : Hid (gs[15]? = some (IsV (Value.bool false))) := by unfold Hid; rw [hgs]; rfl
            have g16 : Hid (gs[16]? = some (IsV (Value.bool false))) := by unfold Hid; rw [hgs]; rfl
            have gk : Hid (∀ p ∈ gs, Stays p) := by
              unfold Hid
              rw [hgs]
              simp only [List.forall_mem_cons]
              exact ⟨stays_v _, stays_v _, stays_v _, stays_v _, stays_v _, stays_v _, stays_v _, stays_v _, stays_v _, stays_v _, stays_v _, stays_v _, stays_v _, stays_v _, stays_v _, stays_v _, stays_v _, by simp⟩
            clear hgs
            refine wpAny_inv (fun listed ac W => ∃ xv : Nat → Value, ac = ⟨#[Value.agg #[Value.int IntKind.u64 S, Value.int IntKind.i64 N, Value.int IntKind.i64 B, Value.int IntKind.i64 Q, Value.int IntKind.i64 E, Value.int IntKind.i64 F, Value.int IntKind.i64 L, Value.int IntKind.u64 I], Value.int IntKind.u8 ↑x.toNat, Value.pointer (some { block := b0, off := 0 }), undef, Value.bool false, Value.pointer (some { block := c, off := 0 }), Value.slice (some { block := qp, off := 0 }) t t, u7, Value.slice none 0 0, Value.int IntKind.i64 (1 : Int), xv 16, undef, undef, Value.pointer (some { block := c, off := 0 }), Value.pointer (some { block := c, off := 0 }), Value.bool false, Value.bool false, Value.agg #[Value.int IntKind.i64 (1048576 : Int), Value.int IntKind.i64 (65535 : Int), Value.int IntKind.i64 (8 : Int), Value.int IntKind.i64 (1000 : Int), Value.int IntKind.i64 (4096 : Int)], Value.int IntKind.i64 (0 : Int), Value.bool false, Value.bool false, Value.pointer (some { block := b0, off := 1 }), Value.pointer (some { block := b0, off := 2 }), Value.int IntKind.i64 B, Value.bool false, Value.bool false, undef, undef, undef, undef, Value.bool false, Value.pointer (some { block := b0, off := 1 }), Value.pointer (some { block := b0, off := 2 }), Value.int IntKind.i64 B, Value.int IntKind.i64 M0, Value.int IntKind.i64 ↑t, Value.slice (some { block := qp, off := 0 }) t t, Value.slice (some { block := qp, off := 0 }) t t, Value.int IntKind.i64 ↑t, Value.int IntKind.i64 ↑t, Value.bool false, u41, u42, u43, u44, u45, u46, Value.tuple #[Value.slice none 0 0, Value.int IntKind.i64 (1 : Int)], Value.pointer (some { block := c, off := 0 }), Value.agg #[Value.int IntKind.u64 S, Value.int IntKind.i64 N, Value.int IntKind.i64 B, Value.int IntKind.i64 Q, Value.int IntKind.i64 E, Value.int IntKind.i64 F, Value.int IntKind.i64 L, Value.int IntKind.u64 I], Value.slice (some { block := qp, off := 0 }) t t, Value.agg #[Value.int IntKind.u64 S, Value.int IntKind.i64 N, Value.int IntKind.i64 B, Value.int IntKind.i64 Q, Value.int IntKind.i64 E, Value.int IntKind.i64 F, Value.int IntKind.i64 L, Value.int IntKind.u64 I, Value.slice (some { block := qp, off := 0 }) t t], Value.tuple #[Value.slice none 0 0, Value.int IntKind.i64 (1 : Int)], Value.slice none 0 0, Value.int IntKind.i64 (1 : Int), xv 0, xv 1, xv 2, xv 3, xv 4, xv 5, xv 6, xv 7, xv 8, xv 9, xv 10, xv 11, xv 12, xv 13, xv 14, xv 15, undef, undef, undef, undef, undef, undef, undef, undef, undef, undef, undef, undef, undef, undef, undef, undef, undef, undef, undef, undef, undef, undef, undef, undef, undef, undef, undef, undef, undef, undef, undef, undef, undef, undef, undef, undef, undef, undef, undef, undef, undef, undef, undef, undef, undef, undef, undef, undef, undef, undef, undef], []⟩ ∧ Below w5.heap.size w5 W ∧ Lst gs listed xv W) (by kernel_rfl) ?_ ?_ _ _ _ _ (by kernel_rfl) (of_decide_eq_true (by kernel_rfl)) ⟨fun j => undef, rfl, below0 _, Lst.start _ _ _ _⟩
            · rintro listed ac W ⟨xv, rfl, hb, hG⟩ i hi hd
              have hin : i < 17 := hi
              clear hi
              have hcase : i = 0 ∨ i = 1 ∨ i = 2 ∨ i = 3 ∨ i = 4 ∨ i = 5 ∨ i = 6 ∨ i = 7 ∨ i = 8 ∨ i = 9 ∨ i = 10 ∨ i = 11 ∨ i = 12 ∨ i = 13 ∨ i = 14 ∨ i = 15 ∨ i = 16 := by omega
              rcases hcase with rfl | rfl | rfl | rfl | rfl | rfl | rfl | rfl | rfl | rfl | rfl | rfl | rfl | rfl | rfl | rfl | rfl
              · refine wpOp_step rfl (fun K' hK => ?_)
                clear hd hin
                go_simp
                exact hK _ _ ⟨updV xv 0 (.pointer (some ⟨b0, 1, none⟩)), by simp [updV], hb, hG.same gk.out g0.out _ rfl⟩
              · refine wpOp_step rfl (fun K' hK => ?_)
                simp [Region.binds] at hd
                have e0 : xv 0 = .pointer (some ⟨b0, 1, none⟩) := hG.get g0.out (by simp [hd])
                obtain ⟨c0, c1, c2, c3, c4, c5, c6, c7⟩ := BX.out W hb
                clear hd hin
                go_simp
                exact hK _ _ ⟨updV xv 1 (.agg #[.int .i64 N, .int .i64 B, .int .i64 Q, .int .i64 E, .int .i64 F]), by simp [updV, e0], hb, hG.same gk.out g1.out _ rfl⟩
              · refine wpOp_step rfl (fun K' hK => ?_)
                simp [Region.binds] at hd
                have e1 : xv 1 = .agg #[.int .i64 N, .int .i64 B, .int .i64 Q, .int .i64 E, .int .i64 F] := hG.get g1.out (by simp [hd])
                clear hd hin
                go_simp
                refine (CM.out W hb).mono ?_
                rintro e w' ⟨v, rfl, hv, hb'⟩
                go_wp2_with fail
                exact ⟨updV xv 2 v, by simp [updV, e1], hb.trans (hb'.mono hb.size), hG.step gk.out hb' g2.out v hv⟩
              · refine wpOp_step rfl (fun K' hK => ?_)
                simp [Region.binds] at hd
                have e2 : xv 2 = .bool true := hG.get g2.out (by simp [hd])
                clear hd hin
                go_simp
                exact hK _ _ ⟨updV xv 3 (.bool true), by simp [updV, e2], hb, hG.same gk.out g3.out _ rfl⟩
              · refine wpOp_step rfl (fun K' hK => ?_)
                simp [Region.binds] at hd
                have e3 : xv 3 = .bool true := hG.get g3.out (by simp [hd])
                clear hd hin
                go_simp
                exact hK _ _ ⟨updV xv 4 (.pointer (some ⟨b0, 6, none⟩)), by simp [updV, e3], hb, hG.same gk.out g4.out _ rfl⟩
              · refine wpOp_step rfl (fun K' hK => ?_)
                simp [Region.binds] at hd
                have e4 : xv 4 = .pointer (some ⟨b0, 6, none⟩) := hG.get g4.out (by simp [hd])
                have e3 : xv 3 = .bool true := hG.get g3.out (by simp [hd])
                obtain ⟨c0, c1, c2, c3, c4, c5, c6, c7⟩ := BX.out W hb
                clear hd hin
                go_simp
                exact hK _ _ ⟨updV xv 5 (.int .i64 L), by simp [updV, e4, e3], hb, hG.same gk.out g5.out _ rfl⟩
              · refine wpOp_step rfl (fun K' hK => ?_)
                simp [Region.binds] at hd
                have e5 : xv 5 = .int .i64 L := hG.get g5.out (by simp [hd])
                have e3 : xv 3 = .bool true := hG.get g3.out (by simp [hd])
                clear hd hin
                go_simp
                exact hK _ _ ⟨updV xv 6 (.bool false), by simp [updV, e5, e3, hLn], hb, hG.same gk.out g6.out _ rfl⟩
              · refine wpOp_step rfl (fun K' hK => ?_)
                simp [Region.binds] at hd
                have e3 : xv 3 = .bool true := hG.get g3.out (by simp [hd])
                have e6 : xv 6 = .bool false := hG.get g6.out (by simp [hd])
                clear hd hin
                go_simp
                exact hK _ _ ⟨updV xv 7 (.bool false), by simp [updV, e3, e6], hb, hG.same gk.out g7.out _ rfl⟩
              · refine wpOp_step rfl (fun K' hK => ?_)
                simp [Region.binds] at hd
                have e7 : xv 7 = .bool false := hG.get g7.out (by simp [hd])
                clear hd hin
                go_simp
                exact hK _ _ ⟨updV xv 8 (.bool false), by simp [updV, e7], hb, hG.same gk.out g8.out _ rfl⟩
              · refine wpOp_step rfl (fun K' hK => ?_)
                simp [Region.binds] at hd
                have e8 : xv 8 = .bool false := hG.get g8.out (by simp [hd])
                clear hd hin
                go_simp
                exact hK _ _ ⟨updV xv 9 (undef), by simp [updV, e8], hb, hG.same gk.out g9.out _ rfl⟩
              · refine wpOp_step rfl (fun K' hK => ?_)
                simp [Region.binds] at hd
                have e9 : xv 9 = undef := hG.get g9.out (by simp [hd])
                have e8 : xv 8 = .bool false := hG.get g8.out (by simp [hd])
                clear hd hin
                go_simp
                exact hK _ _ ⟨updV xv 10 (undef), by simp [updV, e9, e8], hb, hG.same gk.out g10.out _ rfl⟩
              · refine wpOp_step rfl (fun K' hK => ?_)
                simp [Region.binds] at hd
                have e8 : xv 8 = .bool false := hG.get g8.out (by simp [hd])
                clear hd hin
                go_simp
                exact hK _ _ ⟨updV xv 11 (undef), by simp [updV, e8], hb, hG.same gk.out g11.out _ rfl⟩
              · refine wpOp_step rfl (fun K' hK => ?_)
                simp [Region.binds] at hd
                have e11 : xv 11 = undef := hG.get g11.out (by simp [hd])
                have e8 : xv 8 = .bool false := hG.get g8.out (by simp [hd])
                clear hd hin
                go_simp
                exact hK _ _ ⟨updV xv 12 (undef), by simp [updV, e11, e8], hb, hG.same gk.out g12.out _ rfl⟩
              · refine wpOp_step rfl (fun K' hK => ?_)
                simp [Region.binds] at hd
                have e12 : xv 12 = undef := hG.get g12.out (by simp [hd])
                have e8 : xv 8 = .bool false := hG.get g8.out (by simp [hd])
                clear hd hin
                go_simp
                exact hK _ _ ⟨updV xv 13 (undef), by simp [updV, e12, e8], hb, hG.same gk.out g13.out _ rfl⟩
              · refine wpOp_step rfl (fun K' hK => ?_)
                simp [Region.binds] at hd
                have e10 : xv 10 = undef := hG.get g10.out (by simp [hd])
                have e13 : xv 13 = undef := hG.get g13.out (by simp [hd])
                have e8 : xv 8 = .bool false := hG.get g8.out (by simp [hd])
                clear hd hin
                go_simp
                exact hK _ _ ⟨updV xv 14 (undef), by simp [updV, e10, e13, e8], hb, hG.same gk.out g14.out _ rfl⟩
              · refine wpOp_step rfl (fun K' hK => ?_)
                simp [Region.binds] at hd
                have e8 : xv 8 = .bool false := hG.get g8.out (by simp [hd])
                have e14 : xv 14 = undef := hG.get g14.out (by simp [hd])
                clear hd hin
                go_simp
                exact hK _ _ ⟨updV xv 15 (Value.bool false), by simp [updV, e8, e14], hb, hG.same gk.out g15.out _ rfl⟩
              · refine wpOp_step rfl (fun K' hK => ?_)
                simp [Region.binds] at hd
                have e15 : xv 15 = Value.bool false := hG.get g15.out (by simp [hd])
                clear hd hin
                go_simp
                exact hK _ _ ⟨updV xv 16 (Value.bool false), by simp [updV, e15], hb, hG.same gk.out g16.out _ rfl⟩
            · rintro listed ac W ⟨xv, rfl, hb, hG⟩ hall
              have e16 : xv 16 = Value.bool false := hG.get g16.out (hall 16 (by decide))
              have XW : Hid (Below w5.heap.size w5 W) := hb
              clear hall hG hb gk g0 g1 g2 g3 g4 g5 g6 g7 g8 g9 g10 g11 g12 g13 g14 g15 g16
              rw [e16]
              clear e16
              have X6 : Hid (Below w.heap.size w W) := below_mid X5.out XW.out
              have E6 : Hid (Eight W b0 S N B Q E F L I) := E5.out.below XW.out
              clear XW X5 E5 BX CM
              obtain ⟨c0, c1, c2, c3, c4, c5, c6, c7⟩ := E6.out
              go_wp2_with fail
              refine (fcheck_any S N B Q E F L I W).mono ?_
              rintro e w7 ⟨rfl, hb7⟩
              rw [HNO.out]
              have X7 : Hid (Below w.heap.size w w7) := below_mid X6.out hb7
              clear hb7 X6 E6 c0 c1 c2 c3 c4 c5 c6 c7
              go_wp2
              go_ret
              exact ⟨rfl, X7.out⟩
        · have hno : ¬ MayH N B Q E F L := fun h => hm5 h.1
          go_wp2_with fail
          refine (enc_no c S N B Q E F L I (.slice (some ⟨qp, 0, none⟩) t t) wr hno).mono ?_
          rintro e w5 ⟨rfl, hb5⟩
          have X5 : Hid (Below w.heap.size w w5) := below_mid XR.out hb5
          have E5 : Hid (Eight w5 b0 S N B Q E F L I) := ER.out.below hb5
          clear hb5 XR ER CR
          go_wp2
          have BX : Hid (∀ W, Below w5.heap.size w5 W → W.cell? ⟨b0, 0, none⟩ = some (.int .u64 S) ∧ W.cell? ⟨b0, 1, none⟩ = some (.int .i64 N) ∧ W.cell? ⟨b0, 2, none⟩ = some (.int .i64 B) ∧ W.cell? ⟨b0, 3, none⟩ = some (.int .i64 Q) ∧ W.cell? ⟨b0, 4, none⟩ = some (.int .i64 E) ∧ W.cell? ⟨b0, 5, none⟩ = some (.int .i64 F) ∧ W.cell? ⟨b0, 6, none⟩ = some (.int .i64 L) ∧ W.cell? ⟨b0, 7, none⟩ = some (.int .u64 I)) := fun W hW => E5.out.below hW
          have CM : Hid (∀ W, Below w5.heap.size w5 W → Calls Try.prog 32 #[.agg #[.int .i64 N, .int .i64 B, .int .i64 Q, .int .i64 E, .int .i64 F]] W fun e w' => ∃ v, e = .returned v ∧ IsV (.bool false) v w' ∧ Below W.heap.size W w') := fun W hW => calls_below (rmay_no N B Q E F W hm5)
          have HNO : Hid (mayHE N B Q E F L = 1) := mayHE_no hno
          clear hno hm5
          refine wp_region_any (by kernel_rfl) ?_
          obtain ⟨gs, hgs⟩ : ∃ gs : List (Value → World → Prop), gs = [IsV (.pointer (some ⟨b0, 1, none⟩)), IsV (.agg #[.int .i64 N, .int .i64 B, .int .i64 Q, .int .i64 E, .int .i64 F]), IsV (.bool false), IsV (.bool false), IsV (undef), IsV (undef), IsV (undef), IsV (Value.bool false), IsV (Value.bool false), IsV (undef), IsV (undef), IsV (undef), IsV (undef), IsV (undef), IsV (undef), IsV (Value.bool false), IsV (Value.bool false)] := ⟨_, rfl⟩
          have g0 : Hid (gs[0]? = some (IsV (.pointer (some ⟨b0, 1, none⟩)))) := by unfold Hid; rw [hgs]; rfl
          have g1 : Hid (gs[1]? = some (IsV (.agg #[.int .i64 N, .int .i64 B, .int .i64 Q, .int .i64 E, .int .i64 F]))) := by unfold Hid; rw [hgs]; rfl
          have g2 : Hid (gs[2]? = some (IsV (.bool false))) := by unfold Hid; rw [hgs]; rfl
          have g3 : Hid (gs[3]? = some (IsV (.bool false))) := by unfold Hid; rw [hgs]; rfl
          have g4 : Hid (gs[4]? = some (IsV (undef))) := by unfold Hid; rw [hgs]; rfl
          have g5 : Hid (gs[5]? = some (IsV (undef))) := by unfold Hid; rw [hgs]; rfl
          have g6 : Hid (gs[6]? = some (IsV (undef))) := by unfold Hid; rw [hgs]; rfl
          have g7 : Hid (gs[7]? = some (IsV (Value.bool false))) := by unfold Hid; rw [hgs]; rfl
          have g8 : Hid (gs[8]? = some (IsV (Value.bool false))) := by unfold Hid; rw [hgs]; rfl
          have g9 : Hid (gs[9]? = some (IsV (undef))) := by unfold Hid; rw [hgs]; rfl
          have g10 : Hid (gs[10]? = some (IsV (undef))) := by unfold Hid; rw [hgs]; rfl
          have g11 : Hid (gs[11]? = some (IsV (undef))) := by unfold Hid; rw [hgs]; rfl
          have g12 : Hid (gs[12]? = some (IsV (undef))) := by unfold Hid; rw [hgs]; rfl
          have g13 : Hid (gs[13]? = some (IsV (undef))) := by unfold Hid; rw [hgs]; rfl
          have g14 : Hid (gs[14]? = some (IsV (undef))) := by unfold Hid; rw [hgs]; rfl
          have g15 : Hid (gs[15]? = some (IsV (Value.bool false))) := by unfold Hid; rw [hgs]; rfl
          have g16 : Hid (gs[16]? = some (IsV (Value.bool false))) := by unfold Hid; rw [hgs]; rfl
          have gk : Hid (∀ p ∈ gs, Stays p) := by
            unfold Hid
            rw [hgs]
            simp only [List.forall_mem_cons]
            exact ⟨stays_v _, stays_v _, stays_v _, stays_v _, stays_v _, stays_v _, stays_v _, stays_v _, stays_v _, stays_v _, stays_v _, stays_v _, stays_v _, stays_v _, stays_v _, stays_v _, stays_v _, by simp⟩
          clear hgs
          refine wpAny_inv (fun listed ac W => ∃ xv : Nat → Value, ac = ⟨#[Value.agg #[Value.int IntKind.u64 S, Value.int IntKind.i64 N, Value.int IntKind.i64 B, Value.int IntKind.i64 Q, Value.int IntKind.i64 E, Value.int IntKind.i64 F, Value.int IntKind.i64 L, Value.int IntKind.u64 I], Value.int IntKind.u8 ↑x.toNat, Value.pointer (some { block := b0, off := 0 }), undef, Value.bool false, Value.pointer (some { block := c, off := 0 }), Value.slice (some { block := qp, off := 0 }) t t, u7, Value.slice none 0 0, Value.int IntKind.i64 (1 : Int), xv 16, undef, undef, Value.pointer (some { block := c, off := 0 }), Value.pointer (some { block := c, off := 0 }), Value.bool false, Value.bool false, Value.agg #[Value.int IntKind.i64 (1048576 : Int), Value.int IntKind.i64 (65535 : Int), Value.int IntKind.i64 (8 : Int), Value.int IntKind.i64 (1000 : Int), Value.int IntKind.i64 (4096 : Int)], Value.int IntKind.i64 (0 : Int), Value.bool false, Value.bool false, Value.pointer (some { block := b0, off := 1 }), Value.pointer (some { block := b0, off := 2 }), Value.int IntKind.i64 B, Value.bool false, Value.bool false, undef, undef, undef, undef, Value.bool false, Value.pointer (some { block := b0, off := 1 }), Value.pointer (some { block := b0, off := 2 }), Value.int IntKind.i64 B, Value.int IntKind.i64 M0, Value.int IntKind.i64 ↑t, Value.slice (some { block := qp, off := 0 }) t t, Value.slice (some { block := qp, off := 0 }) t t, Value.int IntKind.i64 ↑t, Value.int IntKind.i64 ↑t, Value.bool false, u41, u42, u43, u44, u45, u46, Value.tuple #[Value.slice none 0 0, Value.int IntKind.i64 (1 : Int)], Value.pointer (some { block := c, off := 0 }), Value.agg #[Value.int IntKind.u64 S, Value.int IntKind.i64 N, Value.int IntKind.i64 B, Value.int IntKind.i64 Q, Value.int IntKind.i64 E, Value.int IntKind.i64 F, Value.int IntKind.i64 L, Value.int IntKind.u64 I], Value.slice (some { block := qp, off := 0 }) t t, Value.agg #[Value.int IntKind.u64 S, Value.int IntKind.i64 N, Value.int IntKind.i64 B, Value.int IntKind.i64 Q, Value.int IntKind.i64 E, Value.int IntKind.i64 F, Value.int IntKind.i64 L, Value.int IntKind.u64 I, Value.slice (some { block := qp, off := 0 }) t t], Value.tuple #[Value.slice none 0 0, Value.int IntKind.i64 (1 : Int)], Value.slice none 0 0, Value.int IntKind.i64 (1 : Int), xv 0, xv 1, xv 2, xv 3, xv 4, xv 5, xv 6, xv 7, xv 8, xv 9, xv 10, xv 11, xv 12, xv 13, xv 14, xv 15, undef, undef, undef, undef, undef, undef, undef, undef, undef, undef, undef, undef, undef, undef, undef, undef, undef, undef, undef, undef, undef, undef, undef, undef, undef, undef, undef, undef, undef, undef, undef, undef, undef, undef, undef, undef, undef, undef, undef, undef, undef, undef, undef, undef, undef, undef, undef, undef, undef, undef, undef], []⟩ ∧ Below w5.heap.size w5 W ∧ Lst gs listed xv W) (by kernel_rfl) ?_ ?_ _ _ _ _ (by kernel_rfl) (of_decide_eq_true (by kernel_rfl)) ⟨fun j => undef, rfl, below0 _, Lst.start _ _ _ _⟩
          · rintro listed ac W ⟨xv, rfl, hb, hG⟩ i hi hd
            have hin : i < 17 := hi
            clear hi
            have hcase : i = 0 ∨ i = 1 ∨ i = 2 ∨ i = 3 ∨ i = 4 ∨ i = 5 ∨ i = 6 ∨ i = 7 ∨ i = 8 ∨ i = 9 ∨ i = 10 ∨ i = 11 ∨ i = 12 ∨ i = 13 ∨ i = 14 ∨ i = 15 ∨ i = 16 := by omega
            rcases hcase with rfl | rfl | rfl | rfl | rfl | rfl | rfl | rfl | rfl | rfl | rfl | rfl | rfl | rfl | rfl | rfl | rfl
            · refine wpOp_step rfl (fun K' hK => ?_)
              clear hd hin
              go_simp
              exact hK _ _ ⟨updV xv 0 (.pointer (some ⟨b0, 1, none⟩)), by simp [updV], hb, hG.same gk.out g0.out _ rfl⟩
            · refine wpOp_step rfl (fun K' hK => ?_)
              simp [Region.binds] at hd
              have e0 : xv 0 = .pointer (some ⟨b0, 1, none⟩) := hG.get g0.out (by simp [hd])
              obtain ⟨c0, c1, c2, c3, c4, c5, c6, c7⟩ := BX.out W hb
              clear hd hin
              go_simp
              exact hK _ _ ⟨updV xv 1 (.agg #[.int .i64 N, .int .i64 B, .int .i64 Q, .int .i64 E, .int .i64 F]), by simp [updV, e0], hb, hG.same gk.out g1.out _ rfl⟩
            · refine wpOp_step rfl (fun K' hK => ?_)
              simp [Region.binds] at hd
              have e1 : xv 1 = .agg #[.int .i64 N, .int .i64 B, .int .i64 Q, .int .i64 E, .int .i64 F] := hG.get g1.out (by simp [hd])
              clear hd hin
              go_simp
              refine (CM.out W hb).mono ?_
              rintro e w' ⟨v, rfl, hv, hb'⟩
              go_wp2_with fail
              exact ⟨updV xv 2 v, by simp [updV, e1], hb.trans (hb'.mono hb.size), hG.step gk.out hb' g2.out v hv⟩
            · refine wpOp_step rfl (fun K' hK => ?_)
              simp [Region.binds] at hd
              have e2 : xv 2 = .bool false := hG.get g2.out (by simp [hd])
              clear hd hin
              go_simp
              exact hK _ _ ⟨updV xv 3 (.bool false), by simp [updV, e2], hb, hG.same gk.out g3.out _ rfl⟩
            · refine wpOp_step rfl (fun K' hK => ?_)
              simp [Region.binds] at hd
              have e3 : xv 3 = .bool false := hG.get g3.out (by simp [hd])
              clear hd hin
              go_simp
              exact hK _ _ ⟨updV xv 4 (undef), by simp [updV, e3], hb, hG.same gk.out g4.out _ rfl⟩
            · refine wpOp_step rfl (fun K' hK => ?_)
              simp [Region.binds] at hd
              have e4 : xv 4 = undef := hG.get g4.out (by simp [hd])
              have e3 : xv 3 = .bool false := hG.get g3.out (by simp [hd])
              clear hd hin
              go_simp
              exact hK _ _ ⟨updV xv 5 (undef), by simp [updV, e4, e3], hb, hG.same gk.out g5.out _ rfl⟩
            · refine wpOp_step rfl (fun K' hK => ?_)
              simp [Region.binds] at hd
              have e5 : xv 5 = undef := hG.get g5.out (by simp [hd])
              have e3 : xv 3 = .bool false := hG.get g3.out (by simp [hd])
              clear hd hin
              go_simp
              exact hK _ _ ⟨updV xv 6 (undef), by simp [updV, e5, e3], hb, hG.same gk.out g6.out _ rfl⟩
            · refine wpOp_step rfl (fun K' hK => ?_)
              simp [Region.binds] at hd
              have e3 : xv 3 = .bool false := hG.get g3.out (by simp [hd])
              have e6 : xv 6 = undef := hG.get g6.out (by simp [hd])
              clear hd hin
              go_simp
              exact hK _ _ ⟨updV xv 7 (Value.bool false), by simp [updV, e3, e6], hb, hG.same gk.out g7.out _ rfl⟩
            · refine wpOp_step rfl (fun K' hK => ?_)
              simp [Region.binds] at hd
              have e7 : xv 7 = Value.bool false := hG.get g7.out (by simp [hd])
              clear hd hin
              go_simp
              exact hK _ _ ⟨updV xv 8 (Value.bool false), by simp [updV, e7], hb, hG.same gk.out g8.out _ rfl⟩
            · refine wpOp_step rfl (fun K' hK => ?_)
              simp [Region.binds] at hd
              have e8 : xv 8 = Value.bool false := hG.get g8.out (by simp [hd])
              clear hd hin
              go_simp
              exact hK _ _ ⟨updV xv 9 (undef), by simp [updV, e8], hb, hG.same gk.out g9.out _ rfl⟩
            · refine wpOp_step rfl (fun K' hK => ?_)
              simp [Region.binds] at hd
              have e9 : xv 9 = undef := hG.get g9.out (by simp [hd])
              have e8 : xv 8 = Value.bool false := hG.get g8.out (by simp [hd])
              clear hd hin
              go_simp
              exact hK _ _ ⟨updV xv 10 (undef), by simp [updV, e9, e8], hb, hG.same gk.out g10.out _ rfl⟩
            · refine wpOp_step rfl (fun K' hK => ?_)
              simp [Region.binds] at hd
              have e8 : xv 8 = Value.bool false := hG.get g8.out (by simp [hd])
              clear hd hin
              go_simp
              exact hK _ _ ⟨updV xv 11 (undef), by simp [updV, e8], hb, hG.same gk.out g11.out _ rfl⟩
            · refine wpOp_step rfl (fun K' hK => ?_)
              simp [Region.binds] at hd
              have e11 : xv 11 = undef := hG.get g11.out (by simp [hd])
              have e8 : xv 8 = Value.bool false := hG.get g8.out (by simp [hd])
              clear hd hin
              go_simp
              exact hK _ _ ⟨updV xv 12 (undef), by simp [updV, e11, e8], hb, hG.same gk.out g12.out _ rfl⟩
            · refine wpOp_step rfl (fun K' hK => ?_)
              simp [Region.binds] at hd
              have e12 : xv 12 = undef := hG.get g12.out (by simp [hd])
              have e8 : xv 8 = Value.bool false := hG.get g8.out (by simp [hd])
              clear hd hin
              go_simp
              exact hK _ _ ⟨updV xv 13 (undef), by simp [updV, e12, e8], hb, hG.same gk.out g13.out _ rfl⟩
            · refine wpOp_step rfl (fun K' hK => ?_)
              simp [Region.binds] at hd
              have e10 : xv 10 = undef := hG.get g10.out (by simp [hd])
              have e13 : xv 13 = undef := hG.get g13.out (by simp [hd])
              have e8 : xv 8 = Value.bool false := hG.get g8.out (by simp [hd])
              clear hd hin
              go_simp
              exact hK _ _ ⟨updV xv 14 (undef), by simp [updV, e10, e13, e8], hb, hG.same gk.out g14.out _ rfl⟩
            · refine wpOp_step rfl (fun K' hK => ?_)
              simp [Region.binds] at hd
              have e8 : xv 8 = Value.bool false := hG.get g8.out (by simp [hd])
              have e14 : xv 14 = undef := hG.get g14.out (by simp [hd])
              clear hd hin
              go_simp
              exact hK _ _ ⟨updV xv 15 (Value.bool false), by simp [updV, e8, e14], hb, hG.same gk.out g15.out _ rfl⟩
            · refine wpOp_step rfl (fun K' hK => ?_)
              simp [Region.binds] at hd
              have e15 : xv 15 = Value.bool false := hG.get g15.out (by simp [hd])
              clear hd hin
              go_simp
              exact hK _ _ ⟨updV xv 16 (Value.bool false), by simp [updV, e15], hb, hG.same gk.out g16.out _ rfl⟩
          · rintro listed ac W ⟨xv, rfl, hb, hG⟩ hall
            have e16 : xv 16 = Value.bool false := hG.get g16.out (hall 16 (by decide))
            have XW : Hid (Below w5.heap.size w5 W) := hb
            clear hall hG hb gk g0 g1 g2 g3 g4 g5 g6 g7 g8 g9 g10 g11 g12 g13 g14 g15 g16
            rw [e16]
            clear e16
            have X6 : Hid (Below w.heap.size w W) := below_mid X5.out XW.out
            have E6 : Hid (Eight W b0 S N B Q E F L I) := E5.out.below XW.out
            clear XW X5 E5 BX CM
            obtain ⟨c0, c1, c2, c3, c4, c5, c6, c7⟩ := E6.out
            go_wp2_with fail
            refine (fcheck_any S N B Q E F L I W).mono ?_
            rintro e w7 ⟨rfl, hb7⟩
            rw [HNO.out]
            have X7 : Hid (Below w.heap.size w w7) := below_mid X6.out hb7
            clear hb7 X6 E6 c0 c1 c2 c3 c4 c5 c6 c7
            go_wp2
            go_ret
            exact ⟨rfl, X7.out⟩

end Go.Proofs.Ytijonjiioeahhaa
