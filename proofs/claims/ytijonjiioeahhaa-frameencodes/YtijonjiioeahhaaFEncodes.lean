/-
  The walk of the statement FrameEncodes.
-/
import Derived.Test.YtijonjiioeahhaaFrL
namespace Go.Proofs.Ytijonjiioeahhaa
open Go.RowKit
set_option linter.unusedVariables false

set_option maxRecDepth 100000 in
set_option maxHeartbeats 4000000 in
theorem frameEncodes_walk (S N B Q E F L I : Int) (pv : Value) (p : List UInt8) (w : World) (hw : Bs w pv p ∧ Ok .u64 S ∧ Ok .i64 N ∧ Ok .i64 B ∧ Ok .i64 Q ∧ Ok .i64 E ∧ Ok .i64 F ∧ Ok .i64 L ∧ Ok .u64 I) :
    Calls Try.prog 9 #[.agg #[.int .u64 S, .int .i64 N, .int .i64 B, .int .i64 Q, .int .i64 E, .int .i64 F, .int .i64 L, .int .u64 I, pv]] w fun e w' => e = .returned (.bool true) ∧ Below w.heap.size w w' := by
  obtain ⟨hp, hS, -, -, -, -, -, -, hI⟩ := hw
  have HP : Hid (Bs w pv p) := hp
  have HSI : Hid (Ok .u64 S ∧ Ok .u64 I) := ⟨hS, hI⟩
  obtain ⟨-, pa, pk, rfl, -, -, -, -⟩ := hp
  obtain ⟨n, hn⟩ : ∃ n, p.length = n := ⟨_, rfl⟩
  rw [hn] at HP ⊢
  have HPN : Hid (p.length = n) := hn
  clear hS hI hn
  go_enter Try.func9, Try.ntmps9
  go_wp2_with fail
  refine (speaks6_any _).mono ?_
  rintro e w1 ⟨rfl, hb1⟩
  have X1 : Hid (Below w.heap.size w w1) := below_mid (below_alloc _ _) hb1
  have N1 : Hid (Nine w1 w.heap.size S N B Q E F L I (.slice pa n pk)) := (nine_new w _ S N B Q E F L I _).below hb1
  clear hb1
  obtain ⟨b0, hb0⟩ : ∃ b, w.heap.size = b := ⟨_, rfl⟩
  rw [hb0] at N1
  obtain ⟨⟨c0, c1, c2, c3, c4, c5, c6, c7⟩, c8⟩ := N1.out
  by_cases h300 : 300 < n
  · have h300I : (300 : Int) < (n : Int) := by omega
    go_wp2
    go_ret
    exact ⟨rfl, X1.out⟩
  have h300I : ¬ (300 : Int) < (n : Int) := by omega
  go_wp2_with fail
  clear hb0
  refine (fnew_any _).mono ?_
  rintro e w2 ⟨c, g, rfl, hco, hb2, -, -, -⟩
  have C2 : Hid (IsCo w2 c g) := hco
  have X2 : Hid (Below w.heap.size w w2) := below_mid X1.out hb2
  have N2 : Hid (Nine w2 b0 S N B Q E F L I (.slice pa n pk)) := N1.out.below hb2
  clear hco hb2 X1 N1 c0 c1 c2 c3 c4 c5 c6 c7 c8
  obtain ⟨⟨c0, c1, c2, c3, c4, c5, c6, c7⟩, c8⟩ := N2.out
  by_cases hm : MayH N B Q E F L
  · by_cases hlen : (n : Int) = B
    · obtain ⟨n1, n2, n3, n4, n5, n6, rfl, rfl, rfl, rfl, rfl, rfl⟩ := may_nats hm
      obtain ⟨n0, rfl, hn0⟩ := ok_u64 HSI.out.1
      obtain ⟨n7, rfl, hn7⟩ := ok_u64 HSI.out.2
      have hnn : n = n2 := by omega
      subst hnn
      have HM : Hid (MayH n1 n n3 n4 n5 n6) := hm
      have HN : Hid (n0 < 2 ^ 64 ∧ n7 < 2 ^ 64) := ⟨hn0, hn7⟩
      clear hlen hn0 hn7 HSI hm
      go_wp2_with fail
      refine (enc_yes c g n0 n1 n n3 n4 n5 n6 n7 pa pk p w2 C2.out HM.out HN.out.1 HN.out.2 (HP.out.below X2.out) HPN.out (by omega)).mono ?_
      rintro e w3 ⟨q, rfl, hq, ho, hb3⟩
      have X3 : Hid (Below w.heap.size w w3) := below_mid X2.out hb3
      have C3 : Hid (IsCo w3 c g) := C2.out.below hb3
      have N3 : Hid (Nine w3 b0 n0 n1 n n3 n4 n5 n6 n7 (.slice pa n pk)) := N2.out.below hb3
      have O3 : Hid (Own w3 q (frameB n0 n1 n n3 n4 n5 n6 n7 p)) := ho
      have HQ : Hid (b0 < q ∧ w.heap.size ≤ q) := ⟨by have := N2.out.lt; omega, by have := X2.out.size; omega⟩
      clear hq ho hb3 X2 C2 N2 c0 c1 c2 c3 c4 c5 c6 c7 c8
      obtain ⟨⟨c0, c1, c2, c3, c4, c5, c6, c7⟩, c8⟩ := N3.out
      go_wp2_with fail
      refine (renc_yes n0 n1 n n3 n4 n5 n6 n7 pa pk p w3 HM.out HN.out.1 HN.out.2 (HP.out.below X3.out) HPN.out (by omega)).mono ?_
      rintro e w4 ⟨xa, xc, rfl, hbx, hb4⟩
      have X4 : Hid (Below w.heap.size w w4) := below_mid X3.out hb4
      have C4 : Hid (IsCo w4 c g) := C3.out.below hb4
      have N4 : Hid (Nine w4 b0 n0 n1 n n3 n4 n5 n6 n7 (.slice pa n pk)) := N3.out.below hb4
      have O4 : Hid (Own w4 q (frameB n0 n1 n n3 n4 n5 n6 n7 p)) := O3.out.kept (hb4.block q O3.out.lt)
      have HFL : Hid ((frameB n0 n1 n n3 n4 n5 n6 n7 p).length = 42 + n) := by unfold Hid; rw [frameB_length, HPN.out]
      have SB : Hid (Bs w4 (.slice (some ⟨q, 0, none⟩) (42 + n) (42 + n)) (frameB n0 n1 n n3 n4 n5 n6 n7 p)) := by
        have h := O4.out.bs (by rw [HFL.out]; omega)
        rw [HFL.out] at h
        exact h
      have SX : Hid (Bs w4 (.slice xa (42 + n) xc) (frameB n0 n1 n n3 n4 n5 n6 n7 p)) := hbx
      have HPF : Hid (parseE (frameB n0 n1 n n3 n4 n5 n6 n7 p) = 0) := parse_frame n0 n1 n n3 n4 n5 n6 n7 p HN.out.1 HN.out.2 HM.out HPN.out
      have HPK := pack_frame n0 n1 n n3 n4 n5 n6 n7 p HN.out.1 HN.out.2 HM.out HPN.out
      have HPV : Hid (∀ q, packV (frameB n0 n1 n n3 n4 n5 n6 n7 p) q = #[.int .u64 (n0 : Nat), .int .i64 (n1 : Nat), .int .i64 (n : Nat), .int .i64 (n3 : Nat), .int .i64 (n4 : Nat), .int .i64 (n5 : Nat), .int .i64 (n6 : Nat), .int .u64 (n7 : Nat), .slice (some ⟨q, 0, none⟩) n n]) := HPK.1
      have HPY : Hid (payB (frameB n0 n1 n n3 n4 n5 n6 n7 p) = p) := HPK.2
      clear hbx hb4 X3 C3 N3 O3 HPK c0 c1 c2 c3 c4 c5 c6 c7 c8
      generalize frameB n0 n1 n n3 n4 n5 n6 n7 p = fr at *
      have BX : Hid (∀ W, Below w4.heap.size w4 W → W.cell? ⟨b0, 0, none⟩ = some (.int .u64 (n0 : Int)) ∧ W.cell? ⟨b0, 1, none⟩ = some (.int .i64 (n1 : Int)) ∧ W.cell? ⟨b0, 2, none⟩ = some (.int .i64 (n : Int)) ∧ W.cell? ⟨b0, 3, none⟩ = some (.int .i64 (n3 : Int)) ∧ W.cell? ⟨b0, 4, none⟩ = some (.int .i64 (n4 : Int)) ∧ W.cell? ⟨b0, 5, none⟩ = some (.int .i64 (n5 : Int)) ∧ W.cell? ⟨b0, 6, none⟩ = some (.int .i64 (n6 : Int)) ∧ W.cell? ⟨b0, 7, none⟩ = some (.int .u64 (n7 : Int)) ∧ W.cell? ⟨b0, 8, none⟩ = some (.slice pa n pk)) := fun W hW => (N4.out.below hW).all
      have KB : Hid (∀ W, Below w4.heap.size w4 W → (convert 28 9 (.slice (some ⟨q, 0, none⟩) (42 + n) (42 + n))).run Try.prog W = .ok (.string (str fr)) W) := fun W hW => conv_bytes (SB.out.below hW)
      have KX : Hid (∀ W, Below w4.heap.size w4 W → (convert 28 9 (.slice xa (42 + n) xc)).run Try.prog W = .ok (.string (str fr)) W) := fun W hW => conv_bytes (SX.out.below hW)
      have CF : Hid (∀ W, Below w4.heap.size w4 W → Calls Try.prog 48 #[.agg #[.int .u64 (n0 : Int), .int .i64 (n1 : Int), .int .i64 (n : Int), .int .i64 (n3 : Int), .int .i64 (n4 : Int), .int .i64 (n5 : Int), .int .i64 (n6 : Int), .int .u64 (n7 : Int)]] W fun e w' => ∃ v, e = .returned v ∧ IsV (.int .i64 0) v w' ∧ Below W.heap.size W w') := fun W hW => calls_below (by have h := fcheck_any n0 n1 n n3 n4 n5 n6 n7 W; rw [mayHE_yes HM.out] at h; exact h)
      have CM : Hid (∀ W, Below w4.heap.size w4 W → Calls Try.prog 49 #[.agg #[.int .u64 (n0 : Int), .int .i64 (n1 : Int), .int .i64 (n : Int), .int .i64 (n3 : Int), .int .i64 (n4 : Int), .int .i64 (n5 : Int), .int .i64 (n6 : Int), .int .u64 (n7 : Int)]] W fun e w' => ∃ v, e = .returned v ∧ IsV (.bool true) v w' ∧ Below W.heap.size W w') := fun W hW => calls_below (by have h := rmayh_any n0 n1 n n3 n4 n5 n6 n7 W; rw [@decide_eq_true _ (decMayH _ _ _ _ _ _) HM.out] at h; exact h)
      skip
      go_wp2
      refine wp_region_any (by kernel_rfl) ?_
      obtain ⟨gs, hgs⟩ : ∃ gs : List (Value → World → Prop), gs = [IsV (Value.int IntKind.i64 (0 : Int)), IsV (Value.int IntKind.i64 (0 : Int)), IsV (.bool false), IsV (.bool false), IsV (Value.slice (some { block := q, off := 0 }) (42 + n) (42 + n)), IsV (.string (str fr)), IsV (Value.slice xa (42 + n) xc), IsV (.string (str fr)), IsV (.bool false), IsV (.bool false), IsV (.bool false), IsV (.pointer (some ⟨b0, 0, none⟩)), IsV (.agg #[.int .u64 (n0 : Int), .int .i64 (n1 : Int), .int .i64 (n : Int), .int .i64 (n3 : Int), .int .i64 (n4 : Int), .int .i64 (n5 : Int), .int .i64 (n6 : Int), .int .u64 (n7 : Int)]), IsV (.int .i64 0), IsV (.bool true), IsV (.pointer (some ⟨b0, 0, none⟩)), IsV (.agg #[.int .u64 (n0 : Int), .int .i64 (n1 : Int), .int .i64 (n : Int), .int .i64 (n3 : Int), .int .i64 (n4 : Int), .int .i64 (n5 : Int), .int .i64 (n6 : Int), .int .u64 (n7 : Int)]), IsV (.bool true), IsV (.bool false), IsV (.bool false)] := ⟨_, rfl⟩
      have g0 : Hid (gs[0]? = some (IsV (Value.int IntKind.i64 (0 : Int)))) := by unfold Hid; rw [hgs]; rfl
      have g1 : Hid (gs[1]? = some (IsV (Value.int IntKind.i64 (0 : Int)))) := by unfold Hid; rw [hgs]; rfl
      have g2 : Hid (gs[2]? = some (IsV (.bool false))) := by unfold Hid; rw [hgs]; rfl
      have g3 : Hid (gs[3]? = some (IsV (.bool false))) := by unfold Hid; rw [hgs]; rfl
      have g4 : Hid (gs[4]? = some (IsV (Value.slice (some { block := q, off := 0 }) (42 + n) (42 + n)))) := by unfold Hid; rw [hgs]; rfl
      have g5 : Hid (gs[5]? = some (IsV (.string (str fr)))) := by unfold Hid; rw [hgs]; rfl
      have g6 : Hid (gs[6]? = some (IsV (Value.slice xa (42 + n) xc))) := by unfold Hid; rw [hgs]; rfl
      have g7 : Hid (gs[7]? = some (IsV (.string (str fr)))) := by unfold Hid; rw [hgs]; rfl
      have g8 : Hid (gs[8]? = some (IsV (.bool false))) := by unfold Hid; rw [hgs]; rfl
      have g9 : Hid (gs[9]? = some (IsV (.bool false))) := by unfold Hid; rw [hgs]; rfl
      have g10 : Hid (gs[10]? = some (IsV (.bool false))) := by unfold Hid; rw [hgs]; rfl
      have g11 : Hid (gs[11]? = some (IsV (.pointer (some ⟨b0, 0, none⟩)))) := by unfold Hid; rw [hgs]; rfl
      have g12 : Hid (gs[12]? = some (IsV (.agg #[.int .u64 (n0 : Int), .int .i64 (n1 : Int), .int .i64 (n : Int), .int .i64 (n3 : Int), .int .i64 (n4 : Int), .int .i64 (n5 : Int), .int .i64 (n6 : Int), .int .u64 (n7 : Int)]))) := by unfold Hid; rw [hgs]; rfl
      have g13 : Hid (gs[13]? = some (IsV (.int .i64 0))) := by unfold Hid; rw [hgs]; rfl
      have g14 : Hid (gs[14]? = some (IsV (.bool true))) := by unfold Hid; rw [hgs]; rfl
      have g15 : Hid (gs[15]? = some (IsV (.pointer (some ⟨b0, 0, none⟩)))) := by unfold Hid; rw [hgs]; rfl
      have g16 : Hid (gs[16]? = some (IsV (.agg #[.int .u64 (n0 : Int), .int .i64 (n1 : Int), .int .i64 (n : Int), .int .i64 (n3 : Int), .int .i64 (n4 : Int), .int .i64 (n5 : Int), .int .i64 (n6 : Int), .int .u64 (n7 : Int)]))) := by unfold Hid; rw [hgs]; rfl
      have g17 : Hid (gs[17]? = some (IsV (.bool true))) := by unfold Hid; rw [hgs]; rfl
      have g18 : Hid (gs[18]? = some (IsV (.bool false))) := by unfold Hid; rw [hgs]; rfl
      have g19 : Hid (gs[19]? = some (IsV (.bool false))) := by unfold Hid; rw [hgs]; rfl
      have gk : Hid (∀ p ∈ gs, Stays p) := by
        unfold Hid
        rw [hgs]
        simp only [List.forall_mem_cons]
        exact ⟨stays_v _, stays_v _, stays_v _, stays_v _, stays_v _, stays_v _, stays_v _, stays_v _, stays_v _, stays_v _, stays_v _, stays_v _, stays_v _, stays_v _, stays_v _, stays_v _, stays_v _, stays_v _, stays_v _, stays_v _, by simp⟩
      clear hgs
      refine wpAny_inv (fun listed ac W => ∃ xv : Nat → Value, ac = ⟨#[Value.agg #[Value.int IntKind.u64 ↑n0, Value.int IntKind.i64 ↑n1, Value.int IntKind.i64 ↑n, Value.int IntKind.i64 ↑n3, Value.int IntKind.i64 ↑n4, Value.int IntKind.i64 ↑n5, Value.int IntKind.i64 ↑n6, Value.int IntKind.u64 ↑n7, Value.slice pa n pk], Value.pointer (some { block := b0, off := 0 }), Value.bool false, Value.pointer (some { block := c, off := 0 }), Value.slice (some { block := q, off := 0 }) (42 + n) (42 + n), Value.int IntKind.i64 (0 : Int), Value.slice xa (42 + n) xc, Value.int IntKind.i64 (0 : Int), undef, undef, undef, Value.bool true, Value.bool false, Value.pointer (some { block := b0, off := 8 }), Value.slice pa n pk, Value.int IntKind.i64 ↑n, Value.bool (decide ((300 : Int) < ↑n)), Value.pointer (some { block := c, off := 0 }), Value.tuple #[Value.slice (some { block := q, off := 0 }) (42 + n) (42 + n), Value.int IntKind.i64 (0 : Int)], Value.pointer (some { block := c, off := 0 }), Value.agg #[Value.int IntKind.u64 ↑n0, Value.int IntKind.i64 ↑n1, Value.int IntKind.i64 ↑n, Value.int IntKind.i64 ↑n3, Value.int IntKind.i64 ↑n4, Value.int IntKind.i64 ↑n5, Value.int IntKind.i64 ↑n6, Value.int IntKind.u64 ↑n7, Value.slice pa n pk], Value.tuple #[Value.slice (some { block := q, off := 0 }) (42 + n) (42 + n), Value.int IntKind.i64 (0 : Int)], Value.slice (some { block := q, off := 0 }) (42 + n) (42 + n), Value.int IntKind.i64 (0 : Int), Value.tuple #[Value.slice xa (42 + n) xc, Value.int IntKind.i64 (0 : Int)], Value.agg #[Value.int IntKind.u64 ↑n0, Value.int IntKind.i64 ↑n1, Value.int IntKind.i64 ↑n, Value.int IntKind.i64 ↑n3, Value.int IntKind.i64 ↑n4, Value.int IntKind.i64 ↑n5, Value.int IntKind.i64 ↑n6, Value.int IntKind.u64 ↑n7, Value.slice pa n pk], Value.tuple #[Value.slice xa (42 + n) xc, Value.int IntKind.i64 (0 : Int)], Value.slice xa (42 + n) xc, Value.int IntKind.i64 (0 : Int), xv 0, xv 1, xv 2, xv 3, xv 4, xv 5, xv 6, xv 7, xv 8, xv 9, xv 10, xv 11, xv 12, xv 13, xv 14, xv 15, xv 16, xv 17, xv 18, xv 19, undef, undef, undef, undef, undef, undef, undef, undef, undef, undef, undef, undef, undef, undef, undef, undef, undef, undef, undef, undef, undef, undef, undef, undef, undef, undef, undef, undef, undef, undef], []⟩ ∧ Below w4.heap.size w4 W ∧ Lst gs listed xv W) (by kernel_rfl) ?_ ?_ _ _ _ _ (by kernel_rfl) (of_decide_eq_true (by kernel_rfl)) ⟨fun j => undef, rfl, below0 _, Lst.start _ _ _ _⟩
      · rintro listed ac W ⟨xv, rfl, hb, hG⟩ i hi hd
        have hin : i < 20 := hi
        clear hi
        have hcase : i = 0 ∨ i = 1 ∨ i = 2 ∨ i = 3 ∨ i = 4 ∨ i = 5 ∨ i = 6 ∨ i = 7 ∨ i = 8 ∨ i = 9 ∨ i = 10 ∨ i = 11 ∨ i = 12 ∨ i = 13 ∨ i = 14 ∨ i = 15 ∨ i = 16 ∨ i = 17 ∨ i = 18 ∨ i = 19 := by omega
        rcases hcase with rfl | rfl | rfl | rfl | rfl | rfl | rfl | rfl | rfl | rfl | rfl | rfl | rfl | rfl | rfl | rfl | rfl | rfl | rfl | rfl
        · refine wpOp_step rfl (fun K' hK => ?_)
          clear hd hin
          go_simp
          exact hK _ _ ⟨updV xv 0 (Value.int IntKind.i64 (0 : Int)), by simp [updV], hb, hG.same gk.out g0.out _ rfl⟩
        · refine wpOp_step rfl (fun K' hK => ?_)
          clear hd hin
          go_simp
          exact hK _ _ ⟨updV xv 1 (Value.int IntKind.i64 (0 : Int)), by simp [updV], hb, hG.same gk.out g1.out _ rfl⟩
        · refine wpOp_step rfl (fun K' hK => ?_)
          simp [Region.binds] at hd
          have e0 : xv 0 = Value.int IntKind.i64 (0 : Int) := hG.get g0.out (by simp [hd])
          have e1 : xv 1 = Value.int IntKind.i64 (0 : Int) := hG.get g1.out (by simp [hd])
          clear hd hin
          go_simp
          exact hK _ _ ⟨updV xv 2 (.bool false), by simp [updV, e0, e1], hb, hG.same gk.out g2.out _ rfl⟩
        · refine wpOp_step rfl (fun K' hK => ?_)
          simp [Region.binds] at hd
          have e2 : xv 2 = .bool false := hG.get g2.out (by simp [hd])
          clear hd hin
          go_simp
          exact hK _ _ ⟨updV xv 3 (.bool false), by simp [updV, e2], hb, hG.same gk.out g3.out _ rfl⟩
        · refine wpOp_step rfl (fun K' hK => ?_)
          simp [Region.binds] at hd
          have e3 : xv 3 = .bool false := hG.get g3.out (by simp [hd])
          clear hd hin
          go_simp
          exact hK _ _ ⟨updV xv 4 (Value.slice (some { block := q, off := 0 }) (42 + n) (42 + n)), by simp [updV, e3], hb, hG.same gk.out g4.out _ rfl⟩
        · refine wpOp_step rfl (fun K' hK => ?_)
          simp [Region.binds] at hd
          have e4 : xv 4 = Value.slice (some { block := q, off := 0 }) (42 + n) (42 + n) := hG.get g4.out (by simp [hd])
          have e3 : xv 3 = .bool false := hG.get g3.out (by simp [hd])
          have kr := KB.out W hb
          clear hd hin
          go_simp
          exact hK _ _ ⟨updV xv 5 (.string (str fr)), by simp [updV, e4, e3], hb, hG.same gk.out g5.out _ rfl⟩
        · refine wpOp_step rfl (fun K' hK => ?_)
          simp [Region.binds] at hd
          have e3 : xv 3 = .bool false := hG.get g3.out (by simp [hd])
          clear hd hin
          go_simp
          exact hK _ _ ⟨updV xv 6 (Value.slice xa (42 + n) xc), by simp [updV, e3], hb, hG.same gk.out g6.out _ rfl⟩
        · refine wpOp_step rfl (fun K' hK => ?_)
          simp [Region.binds] at hd
          have e6 : xv 6 = Value.slice xa (42 + n) xc := hG.get g6.out (by simp [hd])
          have e3 : xv 3 = .bool false := hG.get g3.out (by simp [hd])
          have kr := KX.out W hb
          clear hd hin
          go_simp
          exact hK _ _ ⟨updV xv 7 (.string (str fr)), by simp [updV, e6, e3], hb, hG.same gk.out g7.out _ rfl⟩
        · refine wpOp_step rfl (fun K' hK => ?_)
          simp [Region.binds] at hd
          have e5 : xv 5 = .string (str fr) := hG.get g5.out (by simp [hd])
          have e7 : xv 7 = .string (str fr) := hG.get g7.out (by simp [hd])
          have e3 : xv 3 = .bool false := hG.get g3.out (by simp [hd])
          clear hd hin
          go_simp
          exact hK _ _ ⟨updV xv 8 (.bool false), by simp [updV, e5, e7, e3], hb, hG.same gk.out g8.out _ rfl⟩
        · refine wpOp_step rfl (fun K' hK => ?_)
          simp [Region.binds] at hd
          have e3 : xv 3 = .bool false := hG.get g3.out (by simp [hd])
          have e8 : xv 8 = .bool false := hG.get g8.out (by simp [hd])
          clear hd hin
          go_simp
          exact hK _ _ ⟨updV xv 9 (.bool false), by simp [updV, e3, e8], hb, hG.same gk.out g9.out _ rfl⟩
        · refine wpOp_step rfl (fun K' hK => ?_)
          simp [Region.binds] at hd
          have e9 : xv 9 = .bool false := hG.get g9.out (by simp [hd])
          clear hd hin
          go_simp
          exact hK _ _ ⟨updV xv 10 (.bool false), by simp [updV, e9], hb, hG.same gk.out g10.out _ rfl⟩
        · refine wpOp_step rfl (fun K' hK => ?_)
          simp [Region.binds] at hd
          have e10 : xv 10 = .bool false := hG.get g10.out (by simp [hd])
          clear hd hin
          go_simp
          exact hK _ _ ⟨updV xv 11 (.pointer (some ⟨b0, 0, none⟩)), by simp [updV, e10], hb, hG.same gk.out g11.out _ rfl⟩
        · refine wpOp_step rfl (fun K' hK => ?_)
          simp [Region.binds] at hd
          have e11 : xv 11 = .pointer (some ⟨b0, 0, none⟩) := hG.get g11.out (by simp [hd])
          have e10 : xv 10 = .bool false := hG.get g10.out (by simp [hd])
          obtain ⟨c0, c1, c2, c3, c4, c5, c6, c7, c8⟩ := BX.out W hb
          clear hd hin
          go_simp
          exact hK _ _ ⟨updV xv 12 (.agg #[.int .u64 (n0 : Int), .int .i64 (n1 : Int), .int .i64 (n : Int), .int .i64 (n3 : Int), .int .i64 (n4 : Int), .int .i64 (n5 : Int), .int .i64 (n6 : Int), .int .u64 (n7 : Int)]), by simp [updV, e11, e10], hb, hG.same gk.out g12.out _ rfl⟩
        · refine wpOp_step rfl (fun K' hK => ?_)
          simp [Region.binds] at hd
          have e12 : xv 12 = .agg #[.int .u64 (n0 : Int), .int .i64 (n1 : Int), .int .i64 (n : Int), .int .i64 (n3 : Int), .int .i64 (n4 : Int), .int .i64 (n5 : Int), .int .i64 (n6 : Int), .int .u64 (n7 : Int)] := hG.get g12.out (by simp [hd])
          have e10 : xv 10 = .bool false := hG.get g10.out (by simp [hd])
          clear hd hin
          go_simp
          refine (CF.out W hb).mono ?_
          rintro e w' ⟨v, rfl, hv, hb'⟩
          go_wp2_with fail
          exact ⟨updV xv 13 v, by simp [updV, e12, e10], hb.trans (hb'.mono hb.size), hG.step gk.out hb' g13.out v hv⟩
        · refine wpOp_step rfl (fun K' hK => ?_)
          simp [Region.binds] at hd
          have e13 : xv 13 = .int .i64 0 := hG.get g13.out (by simp [hd])
          have e10 : xv 10 = .bool false := hG.get g10.out (by simp [hd])
          clear hd hin
          go_simp
          exact hK _ _ ⟨updV xv 14 (.bool true), by simp [updV, e13, e10], hb, hG.same gk.out g14.out _ rfl⟩
        · refine wpOp_step rfl (fun K' hK => ?_)
          simp [Region.binds] at hd
          have e10 : xv 10 = .bool false := hG.get g10.out (by simp [hd])
          clear hd hin
          go_simp
          exact hK _ _ ⟨updV xv 15 (.pointer (some ⟨b0, 0, none⟩)), by simp [updV, e10], hb, hG.same gk.out g15.out _ rfl⟩
        · refine wpOp_step rfl (fun K' hK => ?_)
          simp [Region.binds] at hd
          have e15 : xv 15 = .pointer (some ⟨b0, 0, none⟩) := hG.get g15.out (by simp [hd])
          have e10 : xv 10 = .bool false := hG.get g10.out (by simp [hd])
          obtain ⟨c0, c1, c2, c3, c4, c5, c6, c7, c8⟩ := BX.out W hb
          clear hd hin
          go_simp
          exact hK _ _ ⟨updV xv 16 (.agg #[.int .u64 (n0 : Int), .int .i64 (n1 : Int), .int .i64 (n : Int), .int .i64 (n3 : Int), .int .i64 (n4 : Int), .int .i64 (n5 : Int), .int .i64 (n6 : Int), .int .u64 (n7 : Int)]), by simp [updV, e15, e10], hb, hG.same gk.out g16.out _ rfl⟩
        · refine wpOp_step rfl (fun K' hK => ?_)
          simp [Region.binds] at hd
          have e16 : xv 16 = .agg #[.int .u64 (n0 : Int), .int .i64 (n1 : Int), .int .i64 (n : Int), .int .i64 (n3 : Int), .int .i64 (n4 : Int), .int .i64 (n5 : Int), .int .i64 (n6 : Int), .int .u64 (n7 : Int)] := hG.get g16.out (by simp [hd])
          have e10 : xv 10 = .bool false := hG.get g10.out (by simp [hd])
          clear hd hin
          go_simp
          refine (CM.out W hb).mono ?_
          rintro e w' ⟨v, rfl, hv, hb'⟩
          go_wp2_with fail
          exact ⟨updV xv 17 v, by simp [updV, e16, e10], hb.trans (hb'.mono hb.size), hG.step gk.out hb' g17.out v hv⟩
        · refine wpOp_step rfl (fun K' hK => ?_)
          simp [Region.binds] at hd
          have e14 : xv 14 = .bool true := hG.get g14.out (by simp [hd])
          have e17 : xv 17 = .bool true := hG.get g17.out (by simp [hd])
          have e10 : xv 10 = .bool false := hG.get g10.out (by simp [hd])
          clear hd hin
          go_simp
          exact hK _ _ ⟨updV xv 18 (.bool false), by simp [updV, e14, e17, e10], hb, hG.same gk.out g18.out _ rfl⟩
        · refine wpOp_step rfl (fun K' hK => ?_)
          simp [Region.binds] at hd
          have e10 : xv 10 = .bool false := hG.get g10.out (by simp [hd])
          have e18 : xv 18 = .bool false := hG.get g18.out (by simp [hd])
          clear hd hin
          go_simp
          exact hK _ _ ⟨updV xv 19 (.bool false), by simp [updV, e10, e18], hb, hG.same gk.out g19.out _ rfl⟩
      · rintro listed ac W ⟨xv, rfl, hb, hG⟩ hall
        have e19 : xv 19 = .bool false := hG.get g19.out (hall 19 (by decide))
        have XW : Hid (Below w4.heap.size w4 W) := hb
        clear hall hG hb gk g0 g1 g2 g3 g4 g5 g6 g7 g8 g9 g10 g11 g12 g13 g14 g15 g16 g17 g18 g19
        rw [e19]
        clear e19
        have X5 : Hid (Below w.heap.size w W) := below_mid X4.out XW.out
        have C5 : Hid (IsCo W c g) := C4.out.below XW.out
        have N5 : Hid (Nine W b0 n0 n1 n n3 n4 n5 n6 n7 (.slice pa n pk)) := N4.out.below XW.out
        have O5 : Hid (Own W q fr) := O4.out.kept (XW.out.block q O4.out.lt)
        have S5 : Hid (Bs W (.slice (some ⟨q, 0, none⟩) (42 + n) (42 + n)) fr) := SB.out.below XW.out
        clear BX KB KX CF CM X4 C4 N4 O4 SB SX XW
        generalize W = w5 at *
        go_wp2_with fail
        refine (parse_ok c g _ fr w5 C5.out S5.out HPF.out).mono ?_
        rintro e w6 ⟨q6, rfl, hq6, ho6, hb6⟩
        rw [HPV.out]
        rw [HPY.out] at ho6
        have X6 : Hid (Below w.heap.size w w6) := below_mid X5.out hb6
        have N6 : Hid (Nine w6 b0 n0 n1 n n3 n4 n5 n6 n7 (.slice pa n pk)) := N5.out.below hb6
        have O6 : Hid (Own w6 q fr) := O5.out.kept (hb6.block q O5.out.lt)
        have P6 : Hid (Own w6 q6 p) := ho6
        have HQ6 : Hid (q6 ≠ q) := by have := O5.out.lt; unfold Hid; omega
        clear hq6 ho6 hb6 X5 C5 N5 O5 S5 HPF HPV HPY HM HN
        go_wp2
        have N7 : Hid (Nine (w6.alloc (.cells #[.int .u64 (n0 : Nat), .int .i64 (n1 : Nat), .int .i64 (n : Nat), .int .i64 (n3 : Nat), .int .i64 (n4 : Nat), .int .i64 (n5 : Nat), .int .i64 (n6 : Nat), .int .u64 (n7 : Nat), .slice (some ⟨q6, 0, none⟩) n n] 67)) b0 n0 n1 n n3 n4 n5 n6 n7 (.slice pa n pk)) := N6.out.below (below_alloc _ _)
        have M7 : Hid (Nine (w6.alloc (.cells #[.int .u64 (n0 : Nat), .int .i64 (n1 : Nat), .int .i64 (n : Nat), .int .i64 (n3 : Nat), .int .i64 (n4 : Nat), .int .i64 (n5 : Nat), .int .i64 (n6 : Nat), .int .u64 (n7 : Nat), .slice (some ⟨q6, 0, none⟩) n n] 67)) w6.heap.size n0 n1 n n3 n4 n5 n6 n7 (.slice (some ⟨q6, 0, none⟩) n n)) := nine_new _ _ _ _ _ _ _ _ _ _ _
        have X7 : Hid (Below w.heap.size w (w6.alloc (.cells #[.int .u64 (n0 : Nat), .int .i64 (n1 : Nat), .int .i64 (n : Nat), .int .i64 (n3 : Nat), .int .i64 (n4 : Nat), .int .i64 (n5 : Nat), .int .i64 (n6 : Nat), .int .u64 (n7 : Nat), .slice (some ⟨q6, 0, none⟩) n n] 67))) := X6.out.alloc X6.out.size _
        have O7 : Hid (Own (w6.alloc (.cells #[.int .u64 (n0 : Nat), .int .i64 (n1 : Nat), .int .i64 (n : Nat), .int .i64 (n3 : Nat), .int .i64 (n4 : Nat), .int .i64 (n5 : Nat), .int .i64 (n6 : Nat), .int .u64 (n7 : Nat), .slice (some ⟨q6, 0, none⟩) n n] 67)) q fr) := O6.out.kept ((below_alloc w6 _).block q O6.out.lt)
        have P7 : Hid (Own (w6.alloc (.cells #[.int .u64 (n0 : Nat), .int .i64 (n1 : Nat), .int .i64 (n : Nat), .int .i64 (n3 : Nat), .int .i64 (n4 : Nat), .int .i64 (n5 : Nat), .int .i64 (n6 : Nat), .int .u64 (n7 : Nat), .slice (some ⟨q6, 0, none⟩) n n] 67)) q6 p) := P6.out.kept ((below_alloc w6 _).block q6 P6.out.lt)
        have HQ7 : Hid (w6.heap.size ≠ q) := by have := O6.out.lt; unfold Hid; omega
        obtain ⟨m6, hm6⟩ : ∃ m, w6.heap.size = m := ⟨_, rfl⟩
        rw [hm6] at M7 HQ7 ⊢
        clear hm6 N6 X6 O6 P6
        generalize w6.alloc (.cells #[.int .u64 (n0 : Nat), .int .i64 (n1 : Nat), .int .i64 (n : Nat), .int .i64 (n3 : Nat), .int .i64 (n4 : Nat), .int .i64 (n5 : Nat), .int .i64 (n6 : Nat), .int .u64 (n7 : Nat), .slice (some ⟨q6, 0, none⟩) n n] 67) = w7 at *
        go_loopw [62] (fun i wr => ∃ (t : Nat) (l' : List UInt8), t ≤ 42 + n ∧ i = .int .i64 t ∧ l'.length = 42 + n ∧ Own wr q l' ∧ KeepsBut (fun j => j = q) w7 wr) (fun i _ => 42 + n - (intOf i).toNat)
        case atStart => exact ⟨0, fr, by omega, rfl, HFL.out, O7.out, KeepsBut.refl _ _⟩
        case round =>
          obtain ⟨t, l', ht, rfl, hl', hown, hkb⟩ := hrel
          have HL' : Hid (l'.length = 42 + n) := hl'
          have HO : Hid (Own wr q l') := hown
          have HK : Hid (KeepsBut (fun j => j = q) w7 wr) := hkb
          clear hl' hown hkb
          by_cases hlt : t < 42 + n
          · have htl : t < l'.length := by rw [HL'.out]; exact hlt
            have hc := HO.out.cell t _ (map_bv_at l' t htl)
            have hf := HO.out.frozen t
            have HS : Hid (∀ x, Own (wr.setCell ⟨q, t, none⟩ (bv x)) q (l'.set t x)) := fun x => HO.out.set t htl x
            generalize l'[t] = y at *
            have hyl := y.toNat_lt
            clear htl
            go_wp2
            go_roundw
            case rel => exact ⟨t + 1, l'.set t (y + 1), by omega, by go_num, by rw [List.length_set]; exact HL'.out, by rw [inc_byte]; exact HS.out _, HK.out.trans (KeepsBut.setCell _ _ _ _ rfl)⟩
            case measure => simp [intOf]; omega
          · have X8 : Hid (Below w.heap.size w wr) := X7.out.trans (HK.out.below X7.out.size (fun k hk => by rw [hk]; exact HQ.out.2))
            have N8 : Hid (Nine wr b0 n0 n1 n n3 n4 n5 n6 n7 (.slice pa n pk)) := N7.out.kept (HK.out.block b0 N7.out.lt (by have := HQ.out.1; intro e; omega))
            have M8 : Hid (Nine wr m6 n0 n1 n n3 n4 n5 n6 n7 (.slice (some ⟨q6, 0, none⟩) n n)) := M7.out.kept (HK.out.block m6 M7.out.lt HQ7.out)
            have P8 : Hid (Bs wr (.slice (some ⟨q6, 0, none⟩) n n) p) := by
              have h := (P7.out.kept (HK.out.block q6 P7.out.lt HQ6.out)).bs (by rw [HPN.out]; omega)
              rw [HPN.out] at h
              exact h
            have R8 : Hid (Bs wr (.slice pa n pk) p) := HP.out.below X8.out
            clear HO HK HL' O7 P7 N7 M7 X7
            obtain ⟨⟨c0, c1, c2, c3, c4, c5, c6, c7⟩, c8⟩ := N8.out
            obtain ⟨⟨d0, d1, d2, d3, d4, d5, d6, d7⟩, d8⟩ := M8.out
            go_wp2_with fail
            refine (same6_yes n0 n1 n n3 n4 n5 n6 n7 pa (some ⟨q6, 0, none⟩) n n pk n p wr R8.out P8.out).mono ?_
            rintro e w9 ⟨rfl, hb9⟩
            have X9 : Hid (Below w.heap.size w w9) := below_mid X8.out hb9
            clear hb9 N8 M8 P8 R8 X8 c0 c1 c2 c3 c4 c5 c6 c7 c8 d0 d1 d2 d3 d4 d5 d6 d7 d8
            go_wp2
            go_ret
            exact ⟨rfl, X9.out⟩
    · skip
      go_wp2_with fail
      refine (enc_len c S N B Q E F L I pa n pk w2 hm hlen).mono ?_
      rintro e w3 ⟨rfl, hb3⟩
      have X3 : Hid (Below w.heap.size w w3) := below_mid X2.out hb3
      have N3 : Hid (Nine w3 b0 S N B Q E F L I (.slice pa n pk)) := N2.out.below hb3
      clear hb3 X2 C2 N2 c0 c1 c2 c3 c4 c5 c6 c7 c8
      obtain ⟨⟨c0, c1, c2, c3, c4, c5, c6, c7⟩, c8⟩ := N3.out
      go_wp2_with fail
      refine (renc_len S N B Q E F L I pa n pk w3 hm hlen).mono ?_
      rintro e w4 ⟨rfl, hb4⟩
      have X4 : Hid (Below w.heap.size w w4) := below_mid X3.out hb4
      have N4 : Hid (Nine w4 b0 S N B Q E F L I (.slice pa n pk)) := N3.out.below hb4
      have SB : Hid (Bs w4 (.slice none 0 0) []) := bs_nil _
      have SX : Hid (Bs w4 (.slice none 0 0) []) := bs_nil _
      clear hb4 X3 N3 c0 c1 c2 c3 c4 c5 c6 c7 c8
      have BX : Hid (∀ W, Below w4.heap.size w4 W → W.cell? ⟨b0, 0, none⟩ = some (.int .u64 S) ∧ W.cell? ⟨b0, 1, none⟩ = some (.int .i64 N) ∧ W.cell? ⟨b0, 2, none⟩ = some (.int .i64 B) ∧ W.cell? ⟨b0, 3, none⟩ = some (.int .i64 Q) ∧ W.cell? ⟨b0, 4, none⟩ = some (.int .i64 E) ∧ W.cell? ⟨b0, 5, none⟩ = some (.int .i64 F) ∧ W.cell? ⟨b0, 6, none⟩ = some (.int .i64 L) ∧ W.cell? ⟨b0, 7, none⟩ = some (.int .u64 I) ∧ W.cell? ⟨b0, 8, none⟩ = some (.slice pa n pk)) := fun W hW => (N4.out.below hW).all
      have KB : Hid (∀ W, Below w4.heap.size w4 W → (convert 28 9 (.slice none 0 0)).run Try.prog W = .ok (.string (str [])) W) := fun W hW => conv_bytes (SB.out.below hW)
      have KX : Hid (∀ W, Below w4.heap.size w4 W → (convert 28 9 (.slice none 0 0)).run Try.prog W = .ok (.string (str [])) W) := fun W hW => conv_bytes (SX.out.below hW)
      have CF : Hid (∀ W, Below w4.heap.size w4 W → Calls Try.prog 48 #[.agg #[.int .u64 S, .int .i64 N, .int .i64 B, .int .i64 Q, .int .i64 E, .int .i64 F, .int .i64 L, .int .u64 I]] W fun e w' => ∃ v, e = .returned v ∧ IsV (.int .i64 0) v w' ∧ Below W.heap.size W w') := fun W hW => calls_below (by have h := fcheck_any S N B Q E F L I W; rw [mayHE_yes hm] at h; exact h)
      have CM : Hid (∀ W, Below w4.heap.size w4 W → Calls Try.prog 49 #[.agg #[.int .u64 S, .int .i64 N, .int .i64 B, .int .i64 Q, .int .i64 E, .int .i64 F, .int .i64 L, .int .u64 I]] W fun e w' => ∃ v, e = .returned v ∧ IsV (.bool true) v w' ∧ Below W.heap.size W w') := fun W hW => calls_below (by have h := rmayh_any S N B Q E F L I W; rw [@decide_eq_true _ (decMayH _ _ _ _ _ _) hm] at h; exact h)
      clear hm
      go_wp2
      refine wp_region_any (by kernel_rfl) ?_
      obtain ⟨gs, hgs⟩ : ∃ gs : List (Value → World → Prop), gs = [IsV (Value.int IntKind.i64 (7 : Int)), IsV (Value.int IntKind.i64 (7 : Int)), IsV (.bool false), IsV (.bool false), IsV (Value.slice none 0 0), IsV (.string (str [])), IsV (Value.slice none 0 0), IsV (.string (str [])), IsV (.bool false), IsV (.bool false), IsV (.bool false), IsV (.pointer (some ⟨b0, 0, none⟩)), IsV (.agg #[.int .u64 S, .int .i64 N, .int .i64 B, .int .i64 Q, .int .i64 E, .int .i64 F, .int .i64 L, .int .u64 I]), IsV (.int .i64 0), IsV (.bool true), IsV (.pointer (some ⟨b0, 0, none⟩)), IsV (.agg #[.int .u64 S, .int .i64 N, .int .i64 B, .int .i64 Q, .int .i64 E, .int .i64 F, .int .i64 L, .int .u64 I]), IsV (.bool true), IsV (.bool false), IsV (.bool false)] := ⟨_, rfl⟩
      have g0 : Hid (gs[0]? = some (IsV (Value.int IntKind.i64 (7 : Int)))) := by unfold Hid; rw [hgs]; rfl
      have g1 : Hid (gs[1]? = some (IsV (Value.int IntKind.i64 (7 : Int)))) := by unfold Hid; rw [hgs]; rfl
      have g2 : Hid (gs[2]? = some (IsV (.bool false))) := by unfold Hid; rw [hgs]; rfl
      have g3 : Hid (gs[3]? = some (IsV (.bool false))) := by unfold Hid; rw [hgs]; rfl
      have g4 : Hid (gs[4]? = some (IsV (Value.slice none 0 0))) := by unfold Hid; rw [hgs]; rfl
      have g5 : Hid (gs[5]? = some (IsV (.string (str [])))) := by unfold Hid; rw [hgs]; rfl
      have g6 : Hid (gs[6]? = some (IsV (Value.slice none 0 0))) := by unfold Hid; rw [hgs]; rfl
      have g7 : Hid (gs[7]? = some (IsV (.string (str [])))) := by unfold Hid; rw [hgs]; rfl
      have g8 : Hid (gs[8]? = some (IsV (.bool false))) := by unfold Hid; rw [hgs]; rfl
      have g9 : Hid (gs[9]? = some (IsV (.bool false))) := by unfold Hid; rw [hgs]; rfl
      have g10 : Hid (gs[10]? = some (IsV (.bool false))) := by unfold Hid; rw [hgs]; rfl
      have g11 : Hid (gs[11]? = some (IsV (.pointer (some ⟨b0, 0, none⟩)))) := by unfold Hid; rw [hgs]; rfl
      have g12 : Hid (gs[12]? = some (IsV (.agg #[.int .u64 S, .int .i64 N, .int .i64 B, .int .i64 Q, .int .i64 E, .int .i64 F, .int .i64 L, .int .u64 I]))) := by unfold Hid; rw [hgs]; rfl
      have g13 : Hid (gs[13]? = some (IsV (.int .i64 0))) := by unfold Hid; rw [hgs]; rfl
      have g14 : Hid (gs[14]? = some (IsV (.bool true))) := by unfold Hid; rw [hgs]; rfl
      have g15 : Hid (gs[15]? = some (IsV (.pointer (some ⟨b0, 0, none⟩)))) := by unfold Hid; rw [hgs]; rfl
      have g16 : Hid (gs[16]? = some (IsV (.agg #[.int .u64 S, .int .i64 N, .int .i64 B, .int .i64 Q, .int .i64 E, .int .i64 F, .int .i64 L, .int .u64 I]))) := by unfold Hid; rw [hgs]; rfl
      have g17 : Hid (gs[17]? = some (IsV (.bool true))) := by unfold Hid; rw [hgs]; rfl
      have g18 : Hid (gs[18]? = some (IsV (.bool false))) := by unfold Hid; rw [hgs]; rfl
      have g19 : Hid (gs[19]? = some (IsV (.bool false))) := by unfold Hid; rw [hgs]; rfl
      have gk : Hid (∀ p ∈ gs, Stays p) := by
        unfold Hid
        rw [hgs]
        simp only [List.forall_mem_cons]
        exact ⟨stays_v _, stays_v _, stays_v _, stays_v _, stays_v _, stays_v _, stays_v _, stays_v _, stays_v _, stays_v _, stays_v _, stays_v _, stays_v _, stays_v _, stays_v _, stays_v _, stays_v _, stays_v _, stays_v _, stays_v _, by simp⟩
      clear hgs
      refine wpAny_inv (fun listed ac W => ∃ xv : Nat → Value, ac = ⟨#[Value.agg #[Value.int IntKind.u64 S, Value.int IntKind.i64 N, Value.int IntKind.i64 B, Value.int IntKind.i64 Q, Value.int IntKind.i64 E, Value.int IntKind.i64 F, Value.int IntKind.i64 L, Value.int IntKind.u64 I, Value.slice pa n pk], Value.pointer (some { block := b0, off := 0 }), Value.bool false, Value.pointer (some { block := c, off := 0 }), Value.slice none 0 0, Value.int IntKind.i64 (7 : Int), Value.slice none 0 0, Value.int IntKind.i64 (7 : Int), undef, undef, undef, Value.bool true, Value.bool false, Value.pointer (some { block := b0, off := 8 }), Value.slice pa n pk, Value.int IntKind.i64 ↑n, Value.bool (decide ((300 : Int) < ↑n)), Value.pointer (some { block := c, off := 0 }), Value.tuple #[Value.slice none 0 0, Value.int IntKind.i64 (7 : Int)], Value.pointer (some { block := c, off := 0 }), Value.agg #[Value.int IntKind.u64 S, Value.int IntKind.i64 N, Value.int IntKind.i64 B, Value.int IntKind.i64 Q, Value.int IntKind.i64 E, Value.int IntKind.i64 F, Value.int IntKind.i64 L, Value.int IntKind.u64 I, Value.slice pa n pk], Value.tuple #[Value.slice none 0 0, Value.int IntKind.i64 (7 : Int)], Value.slice none 0 0, Value.int IntKind.i64 (7 : Int), Value.tuple #[Value.slice none 0 0, Value.int IntKind.i64 (7 : Int)], Value.agg #[Value.int IntKind.u64 S, Value.int IntKind.i64 N, Value.int IntKind.i64 B, Value.int IntKind.i64 Q, Value.int IntKind.i64 E, Value.int IntKind.i64 F, Value.int IntKind.i64 L, Value.int IntKind.u64 I, Value.slice pa n pk], Value.tuple #[Value.slice none 0 0, Value.int IntKind.i64 (7 : Int)], Value.slice none 0 0, Value.int IntKind.i64 (7 : Int), xv 0, xv 1, xv 2, xv 3, xv 4, xv 5, xv 6, xv 7, xv 8, xv 9, xv 10, xv 11, xv 12, xv 13, xv 14, xv 15, xv 16, xv 17, xv 18, xv 19, undef, undef, undef, undef, undef, undef, undef, undef, undef, undef, undef, undef, undef, undef, undef, undef, undef, undef, undef, undef, undef, undef, undef, undef, undef, undef, undef, undef, undef, undef], []⟩ ∧ Below w4.heap.size w4 W ∧ Lst gs listed xv W) (by kernel_rfl) ?_ ?_ _ _ _ _ (by kernel_rfl) (of_decide_eq_true (by kernel_rfl)) ⟨fun j => undef, rfl, below0 _, Lst.start _ _ _ _⟩
      · rintro listed ac W ⟨xv, rfl, hb, hG⟩ i hi hd
        have hin : i < 20 := hi
        clear hi
        have hcase : i = 0 ∨ i = 1 ∨ i = 2 ∨ i = 3 ∨ i = 4 ∨ i = 5 ∨ i = 6 ∨ i = 7 ∨ i = 8 ∨ i = 9 ∨ i = 10 ∨ i = 11 ∨ i = 12 ∨ i = 13 ∨ i = 14 ∨ i = 15 ∨ i = 16 ∨ i = 17 ∨ i = 18 ∨ i = 19 := by omega
        rcases hcase with rfl | rfl | rfl | rfl | rfl | rfl | rfl | rfl | rfl | rfl | rfl | rfl | rfl | rfl | rfl | rfl | rfl | rfl | rfl | rfl
        · refine wpOp_step rfl (fun K' hK => ?_)
          clear hd hin
          go_simp
          exact hK _ _ ⟨updV xv 0 (Value.int IntKind.i64 (7 : Int)), by simp [updV], hb, hG.same gk.out g0.out _ rfl⟩
        · refine wpOp_step rfl (fun K' hK => ?_)
          clear hd hin
          go_simp
          exact hK _ _ ⟨updV xv 1 (Value.int IntKind.i64 (7 : Int)), by simp [updV], hb, hG.same gk.out g1.out _ rfl⟩
        · refine wpOp_step rfl (fun K' hK => ?_)
          simp [Region.binds] at hd
          have e0 : xv 0 = Value.int IntKind.i64 (7 : Int) := hG.get g0.out (by simp [hd])
          have e1 : xv 1 = Value.int IntKind.i64 (7 : Int) := hG.get g1.out (by simp [hd])
          clear hd hin
          go_simp
          exact hK _ _ ⟨updV xv 2 (.bool false), by simp [updV, e0, e1], hb, hG.same gk.out g2.out _ rfl⟩
        · refine wpOp_step rfl (fun K' hK => ?_)
          simp [Region.binds] at hd
          have e2 : xv 2 = .bool false := hG.get g2.out (by simp [hd])
          clear hd hin
          go_simp
          exact hK _ _ ⟨updV xv 3 (.bool false), by simp [updV, e2], hb, hG.same gk.out g3.out _ rfl⟩
        · refine wpOp_step rfl (fun K' hK => ?_)
          simp [Region.binds] at hd
          have e3 : xv 3 = .bool false := hG.get g3.out (by simp [hd])
          clear hd hin
          go_simp
          exact hK _ _ ⟨updV xv 4 (Value.slice none 0 0), by simp [updV, e3], hb, hG.same gk.out g4.out _ rfl⟩
        · refine wpOp_step rfl (fun K' hK => ?_)
          simp [Region.binds] at hd
          have e4 : xv 4 = Value.slice none 0 0 := hG.get g4.out (by simp [hd])
          have e3 : xv 3 = .bool false := hG.get g3.out (by simp [hd])
          have kr := KB.out W hb
          clear hd hin
          go_simp
          exact hK _ _ ⟨updV xv 5 (.string (str [])), by simp [updV, e4, e3], hb, hG.same gk.out g5.out _ rfl⟩
        · refine wpOp_step rfl (fun K' hK => ?_)
          simp [Region.binds] at hd
          have e3 : xv 3 = .bool false := hG.get g3.out (by simp [hd])
          clear hd hin
          go_simp
          exact hK _ _ ⟨updV xv 6 (Value.slice none 0 0), by simp [updV, e3], hb, hG.same gk.out g6.out _ rfl⟩
        · refine wpOp_step rfl (fun K' hK => ?_)
          simp [Region.binds] at hd
          have e6 : xv 6 = Value.slice none 0 0 := hG.get g6.out (by simp [hd])
          have e3 : xv 3 = .bool false := hG.get g3.out (by simp [hd])
          have kr := KX.out W hb
          clear hd hin
          go_simp
          exact hK _ _ ⟨updV xv 7 (.string (str [])), by simp [updV, e6, e3], hb, hG.same gk.out g7.out _ rfl⟩
        · refine wpOp_step rfl (fun K' hK => ?_)
          simp [Region.binds] at hd
          have e5 : xv 5 = .string (str []) := hG.get g5.out (by simp [hd])
          have e7 : xv 7 = .string (str []) := hG.get g7.out (by simp [hd])
          have e3 : xv 3 = .bool false := hG.get g3.out (by simp [hd])
          clear hd hin
          go_simp
          exact hK _ _ ⟨updV xv 8 (.bool false), by simp [updV, e5, e7, e3], hb, hG.same gk.out g8.out _ rfl⟩
        · refine wpOp_step rfl (fun K' hK => ?_)
          simp [Region.binds] at hd
          have e3 : xv 3 = .bool false := hG.get g3.out (by simp [hd])
          have e8 : xv 8 = .bool false := hG.get g8.out (by simp [hd])
          clear hd hin
          go_simp
          exact hK _ _ ⟨updV xv 9 (.bool false), by simp [updV, e3, e8], hb, hG.same gk.out g9.out _ rfl⟩
        · refine wpOp_step rfl (fun K' hK => ?_)
          simp [Region.binds] at hd
          have e9 : xv 9 = .bool false := hG.get g9.out (by simp [hd])
          clear hd hin
          go_simp
          exact hK _ _ ⟨updV xv 10 (.bool false), by simp [updV, e9], hb, hG.same gk.out g10.out _ rfl⟩
        · refine wpOp_step rfl (fun K' hK => ?_)
          simp [Region.binds] at hd
          have e10 : xv 10 = .bool false := hG.get g10.out (by simp [hd])
          clear hd hin
          go_simp
          exact hK _ _ ⟨updV xv 11 (.pointer (some ⟨b0, 0, none⟩)), by simp [updV, e10], hb, hG.same gk.out g11.out _ rfl⟩
        · refine wpOp_step rfl (fun K' hK => ?_)
          simp [Region.binds] at hd
          have e11 : xv 11 = .pointer (some ⟨b0, 0, none⟩) := hG.get g11.out (by simp [hd])
          have e10 : xv 10 = .bool false := hG.get g10.out (by simp [hd])
          obtain ⟨c0, c1, c2, c3, c4, c5, c6, c7, c8⟩ := BX.out W hb
          clear hd hin
          go_simp
          exact hK _ _ ⟨updV xv 12 (.agg #[.int .u64 S, .int .i64 N, .int .i64 B, .int .i64 Q, .int .i64 E, .int .i64 F, .int .i64 L, .int .u64 I]), by simp [updV, e11, e10], hb, hG.same gk.out g12.out _ rfl⟩
        · refine wpOp_step rfl (fun K' hK => ?_)
          simp [Region.binds] at hd
          have e12 : xv 12 = .agg #[.int .u64 S, .int .i64 N, .int .i64 B, .int .i64 Q, .int .i64 E, .int .i64 F, .int .i64 L, .int .u64 I] := hG.get g12.out (by simp [hd])
          have e10 : xv 10 = .bool false := hG.get g10.out (by simp [hd])
          clear hd hin
          go_simp
          refine (CF.out W hb).mono ?_
          rintro e w' ⟨v, rfl, hv, hb'⟩
          go_wp2_with fail
          exact ⟨updV xv 13 v, by simp [updV, e12, e10], hb.trans (hb'.mono hb.size), hG.step gk.out hb' g13.out v hv⟩
        · refine wpOp_step rfl (fun K' hK => ?_)
          simp [Region.binds] at hd
          have e13 : xv 13 = .int .i64 0 := hG.get g13.out (by simp [hd])
          have e10 : xv 10 = .bool false := hG.get g10.out (by simp [hd])
          clear hd hin
          go_simp
          exact hK _ _ ⟨updV xv 14 (.bool true), by simp [updV, e13, e10], hb, hG.same gk.out g14.out _ rfl⟩
        · refine wpOp_step rfl (fun K' hK => ?_)
          simp [Region.binds] at hd
          have e10 : xv 10 = .bool false := hG.get g10.out (by simp [hd])
          clear hd hin
          go_simp
          exact hK _ _ ⟨updV xv 15 (.pointer (some ⟨b0, 0, none⟩)), by simp [updV, e10], hb, hG.same gk.out g15.out _ rfl⟩
        · refine wpOp_step rfl (fun K' hK => ?_)
          simp [Region.binds] at hd
          have e15 : xv 15 = .pointer (some ⟨b0, 0, none⟩) := hG.get g15.out (by simp [hd])
          have e10 : xv 10 = .bool false := hG.get g10.out (by simp [hd])
          obtain ⟨c0, c1, c2, c3, c4, c5, c6, c7, c8⟩ := BX.out W hb
          clear hd hin
          go_simp
          exact hK _ _ ⟨updV xv 16 (.agg #[.int .u64 S, .int .i64 N, .int .i64 B, .int .i64 Q, .int .i64 E, .int .i64 F, .int .i64 L, .int .u64 I]), by simp [updV, e15, e10], hb, hG.same gk.out g16.out _ rfl⟩
        · refine wpOp_step rfl (fun K' hK => ?_)
          simp [Region.binds] at hd
          have e16 : xv 16 = .agg #[.int .u64 S, .int .i64 N, .int .i64 B, .int .i64 Q, .int .i64 E, .int .i64 F, .int .i64 L, .int .u64 I] := hG.get g16.out (by simp [hd])
          have e10 : xv 10 = .bool false := hG.get g10.out (by simp [hd])
          clear hd hin
          go_simp
          refine (CM.out W hb).mono ?_
          rintro e w' ⟨v, rfl, hv, hb'⟩
          go_wp2_with fail
          exact ⟨updV xv 17 v, by simp [updV, e16, e10], hb.trans (hb'.mono hb.size), hG.step gk.out hb' g17.out v hv⟩
        · refine wpOp_step rfl (fun K' hK => ?_)
          simp [Region.binds] at hd
          have e14 : xv 14 = .bool true := hG.get g14.out (by simp [hd])
          have e17 : xv 17 = .bool true := hG.get g17.out (by simp [hd])
          have e10 : xv 10 = .bool false := hG.get g10.out (by simp [hd])
          clear hd hin
          go_simp
          exact hK _ _ ⟨updV xv 18 (.bool false), by simp [updV, e14, e17, e10], hb, hG.same gk.out g18.out _ rfl⟩
        · refine wpOp_step rfl (fun K' hK => ?_)
          simp [Region.binds] at hd
          have e10 : xv 10 = .bool false := hG.get g10.out (by simp [hd])
          have e18 : xv 18 = .bool false := hG.get g18.out (by simp [hd])
          clear hd hin
          go_simp
          exact hK _ _ ⟨updV xv 19 (.bool false), by simp [updV, e10, e18], hb, hG.same gk.out g19.out _ rfl⟩
      · rintro listed ac W ⟨xv, rfl, hb, hG⟩ hall
        have e19 : xv 19 = .bool false := hG.get g19.out (hall 19 (by decide))
        have XW : Hid (Below w4.heap.size w4 W) := hb
        clear hall hG hb gk g0 g1 g2 g3 g4 g5 g6 g7 g8 g9 g10 g11 g12 g13 g14 g15 g16 g17 g18 g19
        rw [e19]
        clear e19
        have X5 : Hid (Below w.heap.size w W) := below_mid X4.out XW.out
        go_wp2
        go_ret
        exact ⟨rfl, X5.out⟩
  · skip
    go_wp2_with fail
    refine (enc_no c S N B Q E F L I (.slice pa n pk) w2 hm).mono ?_
    rintro e w3 ⟨rfl, hb3⟩
    have X3 : Hid (Below w.heap.size w w3) := below_mid X2.out hb3
    have N3 : Hid (Nine w3 b0 S N B Q E F L I (.slice pa n pk)) := N2.out.below hb3
    clear hb3 X2 C2 N2 c0 c1 c2 c3 c4 c5 c6 c7 c8
    obtain ⟨⟨c0, c1, c2, c3, c4, c5, c6, c7⟩, c8⟩ := N3.out
    go_wp2_with fail
    refine (renc_no S N B Q E F L I (.slice pa n pk) w3 hm).mono ?_
    rintro e w4 ⟨rfl, hb4⟩
    have X4 : Hid (Below w.heap.size w w4) := below_mid X3.out hb4
    have N4 : Hid (Nine w4 b0 S N B Q E F L I (.slice pa n pk)) := N3.out.below hb4
    have SB : Hid (Bs w4 (.slice none 0 0) []) := bs_nil _
    have SX : Hid (Bs w4 (.slice none 0 0) []) := bs_nil _
    clear hb4 X3 N3 c0 c1 c2 c3 c4 c5 c6 c7 c8
    have BX : Hid (∀ W, Below w4.heap.size w4 W → W.cell? ⟨b0, 0, none⟩ = some (.int .u64 S) ∧ W.cell? ⟨b0, 1, none⟩ = some (.int .i64 N) ∧ W.cell? ⟨b0, 2, none⟩ = some (.int .i64 B) ∧ W.cell? ⟨b0, 3, none⟩ = some (.int .i64 Q) ∧ W.cell? ⟨b0, 4, none⟩ = some (.int .i64 E) ∧ W.cell? ⟨b0, 5, none⟩ = some (.int .i64 F) ∧ W.cell? ⟨b0, 6, none⟩ = some (.int .i64 L) ∧ W.cell? ⟨b0, 7, none⟩ = some (.int .u64 I) ∧ W.cell? ⟨b0, 8, none⟩ = some (.slice pa n pk)) := fun W hW => (N4.out.below hW).all
    have KB : Hid (∀ W, Below w4.heap.size w4 W → (convert 28 9 (.slice none 0 0)).run Try.prog W = .ok (.string (str [])) W) := fun W hW => conv_bytes (SB.out.below hW)
    have KX : Hid (∀ W, Below w4.heap.size w4 W → (convert 28 9 (.slice none 0 0)).run Try.prog W = .ok (.string (str [])) W) := fun W hW => conv_bytes (SX.out.below hW)
    have CF : Hid (∀ W, Below w4.heap.size w4 W → Calls Try.prog 48 #[.agg #[.int .u64 S, .int .i64 N, .int .i64 B, .int .i64 Q, .int .i64 E, .int .i64 F, .int .i64 L, .int .u64 I]] W fun e w' => ∃ v, e = .returned v ∧ IsV (.int .i64 1) v w' ∧ Below W.heap.size W w') := fun W hW => calls_below (by have h := fcheck_any S N B Q E F L I W; rw [mayHE_no hm] at h; exact h)
    have CM : Hid (∀ W, Below w4.heap.size w4 W → Calls Try.prog 49 #[.agg #[.int .u64 S, .int .i64 N, .int .i64 B, .int .i64 Q, .int .i64 E, .int .i64 F, .int .i64 L, .int .u64 I]] W fun e w' => ∃ v, e = .returned v ∧ IsV (.bool false) v w' ∧ Below W.heap.size W w') := fun W hW => calls_below (by have h := rmayh_any S N B Q E F L I W; rw [@decide_eq_false _ (decMayH _ _ _ _ _ _) hm] at h; exact h)
    clear hm
    go_wp2
    refine wp_region_any (by kernel_rfl) ?_
    obtain ⟨gs, hgs⟩ : ∃ gs : List (Value → World → Prop), gs = [IsV (Value.int IntKind.i64 (1 : Int)), IsV (Value.int IntKind.i64 (1 : Int)), IsV (.bool false), IsV (.bool false), IsV (Value.slice none 0 0), IsV (.string (str [])), IsV (Value.slice none 0 0), IsV (.string (str [])), IsV (.bool false), IsV (.bool false), IsV (.bool false), IsV (.pointer (some ⟨b0, 0, none⟩)), IsV (.agg #[.int .u64 S, .int .i64 N, .int .i64 B, .int .i64 Q, .int .i64 E, .int .i64 F, .int .i64 L, .int .u64 I]), IsV (.int .i64 1), IsV (.bool false), IsV (.pointer (some ⟨b0, 0, none⟩)), IsV (.agg #[.int .u64 S, .int .i64 N, .int .i64 B, .int .i64 Q, .int .i64 E, .int .i64 F, .int .i64 L, .int .u64 I]), IsV (.bool false), IsV (.bool false), IsV (.bool false)] := ⟨_, rfl⟩
    have g0 : Hid (gs[0]? = some (IsV (Value.int IntKind.i64 (1 : Int)))) := by unfold Hid; rw [hgs]; rfl
    have g1 : Hid (gs[1]? = some (IsV (Value.int IntKind.i64 (1 : Int)))) := by unfold Hid; rw [hgs]; rfl
    have g2 : Hid (gs[2]? = some (IsV (.bool false))) := by unfold Hid; rw [hgs]; rfl
    have g3 : Hid (gs[3]? = some (IsV (.bool false))) := by unfold Hid; rw [hgs]; rfl
    have g4 : Hid (gs[4]? = some (IsV (Value.slice none 0 0))) := by unfold Hid; rw [hgs]; rfl
    have g5 : Hid (gs[5]? = some (IsV (.string (str [])))) := by unfold Hid; rw [hgs]; rfl
    have g6 : Hid (gs[6]? = some (IsV (Value.slice none 0 0))) := by unfold Hid; rw [hgs]; rfl
    have g7 : Hid (gs[7]? = some (IsV (.string (str [])))) := by unfold Hid; rw [hgs]; rfl
    have g8 : Hid (gs[8]? = some (IsV (.bool false))) := by unfold Hid; rw [hgs]; rfl
    have g9 : Hid (gs[9]? = some (IsV (.bool false))) := by unfold Hid; rw [hgs]; rfl
    have g10 : Hid (gs[10]? = some (IsV (.bool false))) := by unfold Hid; rw [hgs]; rfl
    have g11 : Hid (gs[11]? = some (IsV (.pointer (some ⟨b0, 0, none⟩)))) := by unfold Hid; rw [hgs]; rfl
    have g12 : Hid (gs[12]? = some (IsV (.agg #[.int .u64 S, .int .i64 N, .int .i64 B, .int .i64 Q, .int .i64 E, .int .i64 F, .int .i64 L, .int .u64 I]))) := by unfold Hid; rw [hgs]; rfl
    have g13 : Hid (gs[13]? = some (IsV (.int .i64 1))) := by unfold Hid; rw [hgs]; rfl
    have g14 : Hid (gs[14]? = some (IsV (.bool false))) := by unfold Hid; rw [hgs]; rfl
    have g15 : Hid (gs[15]? = some (IsV (.pointer (some ⟨b0, 0, none⟩)))) := by unfold Hid; rw [hgs]; rfl
    have g16 : Hid (gs[16]? = some (IsV (.agg #[.int .u64 S, .int .i64 N, .int .i64 B, .int .i64 Q, .int .i64 E, .int .i64 F, .int .i64 L, .int .u64 I]))) := by unfold Hid; rw [hgs]; rfl
    have g17 : Hid (gs[17]? = some (IsV (.bool false))) := by unfold Hid; rw [hgs]; rfl
    have g18 : Hid (gs[18]? = some (IsV (.bool false))) := by unfold Hid; rw [hgs]; rfl
    have g19 : Hid (gs[19]? = some (IsV (.bool false))) := by unfold Hid; rw [hgs]; rfl
    have gk : Hid (∀ p ∈ gs, Stays p) := by
      unfold Hid
      rw [hgs]
      simp only [List.forall_mem_cons]
      exact ⟨stays_v _, stays_v _, stays_v _, stays_v _, stays_v _, stays_v _, stays_v _, stays_v _, stays_v _, stays_v _, stays_v _, stays_v _, stays_v _, stays_v _, stays_v _, stays_v _, stays_v _, stays_v _, stays_v _, stays_v _, by simp⟩
    clear hgs
    refine wpAny_inv (fun listed ac W => ∃ xv : Nat → Value, ac = ⟨#[Value.agg #[Value.int IntKind.u64 S, Value.int IntKind.i64 N, Value.int IntKind.i64 B, Value.int IntKind.i64 Q, Value.int IntKind.i64 E, Value.int IntKind.i64 F, Value.int IntKind.i64 L, Value.int IntKind.u64 I, Value.slice pa n pk], Value.pointer (some { block := b0, off := 0 }), Value.bool false, Value.pointer (some { block := c, off := 0 }), Value.slice none 0 0, Value.int IntKind.i64 (1 : Int), Value.slice none 0 0, Value.int IntKind.i64 (1 : Int), undef, undef, undef, Value.bool true, Value.bool false, Value.pointer (some { block := b0, off := 8 }), Value.slice pa n pk, Value.int IntKind.i64 ↑n, Value.bool (decide ((300 : Int) < ↑n)), Value.pointer (some { block := c, off := 0 }), Value.tuple #[Value.slice none 0 0, Value.int IntKind.i64 (1 : Int)], Value.pointer (some { block := c, off := 0 }), Value.agg #[Value.int IntKind.u64 S, Value.int IntKind.i64 N, Value.int IntKind.i64 B, Value.int IntKind.i64 Q, Value.int IntKind.i64 E, Value.int IntKind.i64 F, Value.int IntKind.i64 L, Value.int IntKind.u64 I, Value.slice pa n pk], Value.tuple #[Value.slice none 0 0, Value.int IntKind.i64 (1 : Int)], Value.slice none 0 0, Value.int IntKind.i64 (1 : Int), Value.tuple #[Value.slice none 0 0, Value.int IntKind.i64 (1 : Int)], Value.agg #[Value.int IntKind.u64 S, Value.int IntKind.i64 N, Value.int IntKind.i64 B, Value.int IntKind.i64 Q, Value.int IntKind.i64 E, Value.int IntKind.i64 F, Value.int IntKind.i64 L, Value.int IntKind.u64 I, Value.slice pa n pk], Value.tuple #[Value.slice none 0 0, Value.int IntKind.i64 (1 : Int)], Value.slice none 0 0, Value.int IntKind.i64 (1 : Int), xv 0, xv 1, xv 2, xv 3, xv 4, xv 5, xv 6, xv 7, xv 8, xv 9, xv 10, xv 11, xv 12, xv 13, xv 14, xv 15, xv 16, xv 17, xv 18, xv 19, undef, undef, undef, undef, undef, undef, undef, undef, undef, undef, undef, undef, undef, undef, undef, undef, undef, undef, undef, undef, undef, undef, undef, undef, undef, undef, undef, undef, undef, undef], []⟩ ∧ Below w4.heap.size w4 W ∧ Lst gs listed xv W) (by kernel_rfl) ?_ ?_ _ _ _ _ (by kernel_rfl) (of_decide_eq_true (by kernel_rfl)) ⟨fun j => undef, rfl, below0 _, Lst.start _ _ _ _⟩
    · rintro listed ac W ⟨xv, rfl, hb, hG⟩ i hi hd
      have hin : i < 20 := hi
      clear hi
      have hcase : i = 0 ∨ i = 1 ∨ i = 2 ∨ i = 3 ∨ i = 4 ∨ i = 5 ∨ i = 6 ∨ i = 7 ∨ i = 8 ∨ i = 9 ∨ i = 10 ∨ i = 11 ∨ i = 12 ∨ i = 13 ∨ i = 14 ∨ i = 15 ∨ i = 16 ∨ i = 17 ∨ i = 18 ∨ i = 19 := by omega
      rcases hcase with rfl | rfl | rfl | rfl | rfl | rfl | rfl | rfl | rfl | rfl | rfl | rfl | rfl | rfl | rfl | rfl | rfl | rfl | rfl | rfl
      · refine wpOp_step rfl (fun K' hK => ?_)
        clear hd hin
        go_simp
        exact hK _ _ ⟨updV xv 0 (Value.int IntKind.i64 (1 : Int)), by simp [updV], hb, hG.same gk.out g0.out _ rfl⟩
      · refine wpOp_step rfl (fun K' hK => ?_)
        clear hd hin
        go_simp
        exact hK _ _ ⟨updV xv 1 (Value.int IntKind.i64 (1 : Int)), by simp [updV], hb, hG.same gk.out g1.out _ rfl⟩
      · refine wpOp_step rfl (fun K' hK => ?_)
        simp [Region.binds] at hd
        have e0 : xv 0 = Value.int IntKind.i64 (1 : Int) := hG.get g0.out (by simp [hd])
        have e1 : xv 1 = Value.int IntKind.i64 (1 : Int) := hG.get g1.out (by simp [hd])
        clear hd hin
        go_simp
        exact hK _ _ ⟨updV xv 2 (.bool false), by simp [updV, e0, e1], hb, hG.same gk.out g2.out _ rfl⟩
      · refine wpOp_step rfl (fun K' hK => ?_)
        simp [Region.binds] at hd
        have e2 : xv 2 = .bool false := hG.get g2.out (by simp [hd])
        clear hd hin
        go_simp
        exact hK _ _ ⟨updV xv 3 (.bool false), by simp [updV, e2], hb, hG.same gk.out g3.out _ rfl⟩
      · refine wpOp_step rfl (fun K' hK => ?_)
        simp [Region.binds] at hd
        have e3 : xv 3 = .bool false := hG.get g3.out (by simp [hd])
        clear hd hin
        go_simp
        exact hK _ _ ⟨updV xv 4 (Value.slice none 0 0), by simp [updV, e3], hb, hG.same gk.out g4.out _ rfl⟩
      · refine wpOp_step rfl (fun K' hK => ?_)
        simp [Region.binds] at hd
        have e4 : xv 4 = Value.slice none 0 0 := hG.get g4.out (by simp [hd])
        have e3 : xv 3 = .bool false := hG.get g3.out (by simp [hd])
        have kr := KB.out W hb
        clear hd hin
        go_simp
        exact hK _ _ ⟨updV xv 5 (.string (str [])), by simp [updV, e4, e3], hb, hG.same gk.out g5.out _ rfl⟩
      · refine wpOp_step rfl (fun K' hK => ?_)
        simp [Region.binds] at hd
        have e3 : xv 3 = .bool false := hG.get g3.out (by simp [hd])
        clear hd hin
        go_simp
        exact hK _ _ ⟨updV xv 6 (Value.slice none 0 0), by simp [updV, e3], hb, hG.same gk.out g6.out _ rfl⟩
      · refine wpOp_step rfl (fun K' hK => ?_)
        simp [Region.binds] at hd
        have e6 : xv 6 = Value.slice none 0 0 := hG.get g6.out (by simp [hd])
        have e3 : xv 3 = .bool false := hG.get g3.out (by simp [hd])
        have kr := KX.out W hb
        clear hd hin
        go_simp
        exact hK _ _ ⟨updV xv 7 (.string (str [])), by simp [updV, e6, e3], hb, hG.same gk.out g7.out _ rfl⟩
      · refine wpOp_step rfl (fun K' hK => ?_)
        simp [Region.binds] at hd
        have e5 : xv 5 = .string (str []) := hG.get g5.out (by simp [hd])
        have e7 : xv 7 = .string (str []) := hG.get g7.out (by simp [hd])
        have e3 : xv 3 = .bool false := hG.get g3.out (by simp [hd])
        clear hd hin
        go_simp
        exact hK _ _ ⟨updV xv 8 (.bool false), by simp [updV, e5, e7, e3], hb, hG.same gk.out g8.out _ rfl⟩
      · refine wpOp_step rfl (fun K' hK => ?_)
        simp [Region.binds] at hd
        have e3 : xv 3 = .bool false := hG.get g3.out (by simp [hd])
        have e8 : xv 8 = .bool false := hG.get g8.out (by simp [hd])
        clear hd hin
        go_simp
        exact hK _ _ ⟨updV xv 9 (.bool false), by simp [updV, e3, e8], hb, hG.same gk.out g9.out _ rfl⟩
      · refine wpOp_step rfl (fun K' hK => ?_)
        simp [Region.binds] at hd
        have e9 : xv 9 = .bool false := hG.get g9.out (by simp [hd])
        clear hd hin
        go_simp
        exact hK _ _ ⟨updV xv 10 (.bool false), by simp [updV, e9], hb, hG.same gk.out g10.out _ rfl⟩
      · refine wpOp_step rfl (fun K' hK => ?_)
        simp [Region.binds] at hd
        have e10 : xv 10 = .bool false := hG.get g10.out (by simp [hd])
        clear hd hin
        go_simp
        exact hK _ _ ⟨updV xv 11 (.pointer (some ⟨b0, 0, none⟩)), by simp [updV, e10], hb, hG.same gk.out g11.out _ rfl⟩
      · refine wpOp_step rfl (fun K' hK => ?_)
        simp [Region.binds] at hd
        have e11 : xv 11 = .pointer (some ⟨b0, 0, none⟩) := hG.get g11.out (by simp [hd])
        have e10 : xv 10 = .bool false := hG.get g10.out (by simp [hd])
        obtain ⟨c0, c1, c2, c3, c4, c5, c6, c7, c8⟩ := BX.out W hb
        clear hd hin
        go_simp
        exact hK _ _ ⟨updV xv 12 (.agg #[.int .u64 S, .int .i64 N, .int .i64 B, .int .i64 Q, .int .i64 E, .int .i64 F, .int .i64 L, .int .u64 I]), by simp [updV, e11, e10], hb, hG.same gk.out g12.out _ rfl⟩
      · refine wpOp_step rfl (fun K' hK => ?_)
        simp [Region.binds] at hd
        have e12 : xv 12 = .agg #[.int .u64 S, .int .i64 N, .int .i64 B, .int .i64 Q, .int .i64 E, .int .i64 F, .int .i64 L, .int .u64 I] := hG.get g12.out (by simp [hd])
        have e10 : xv 10 = .bool false := hG.get g10.out (by simp [hd])
        clear hd hin
        go_simp
        refine (CF.out W hb).mono ?_
        rintro e w' ⟨v, rfl, hv, hb'⟩
        go_wp2_with fail
        exact ⟨updV xv 13 v, by simp [updV, e12, e10], hb.trans (hb'.mono hb.size), hG.step gk.out hb' g13.out v hv⟩
      · refine wpOp_step rfl (fun K' hK => ?_)
        simp [Region.binds] at hd
        have e13 : xv 13 = .int .i64 1 := hG.get g13.out (by simp [hd])
        have e10 : xv 10 = .bool false := hG.get g10.out (by simp [hd])
        clear hd hin
        go_simp
        exact hK _ _ ⟨updV xv 14 (.bool false), by simp [updV, e13, e10], hb, hG.same gk.out g14.out _ rfl⟩
      · refine wpOp_step rfl (fun K' hK => ?_)
        simp [Region.binds] at hd
        have e10 : xv 10 = .bool false := hG.get g10.out (by simp [hd])
        clear hd hin
        go_simp
        exact hK _ _ ⟨updV xv 15 (.pointer (some ⟨b0, 0, none⟩)), by simp [updV, e10], hb, hG.same gk.out g15.out _ rfl⟩
      · refine wpOp_step rfl (fun K' hK => ?_)
        simp [Region.binds] at hd
        have e15 : xv 15 = .pointer (some ⟨b0, 0, none⟩) := hG.get g15.out (by simp [hd])
        have e10 : xv 10 = .bool false := hG.get g10.out (by simp [hd])
        obtain ⟨c0, c1, c2, c3, c4, c5, c6, c7, c8⟩ := BX.out W hb
        clear hd hin
        go_simp
        exact hK _ _ ⟨updV xv 16 (.agg #[.int .u64 S, .int .i64 N, .int .i64 B, .int .i64 Q, .int .i64 E, .int .i64 F, .int .i64 L, .int .u64 I]), by simp [updV, e15, e10], hb, hG.same gk.out g16.out _ rfl⟩
      · refine wpOp_step rfl (fun K' hK => ?_)
        simp [Region.binds] at hd
        have e16 : xv 16 = .agg #[.int .u64 S, .int .i64 N, .int .i64 B, .int .i64 Q, .int .i64 E, .int .i64 F, .int .i64 L, .int .u64 I] := hG.get g16.out (by simp [hd])
        have e10 : xv 10 = .bool false := hG.get g10.out (by simp [hd])
        clear hd hin
        go_simp
        refine (CM.out W hb).mono ?_
        rintro e w' ⟨v, rfl, hv, hb'⟩
        go_wp2_with fail
        exact ⟨updV xv 17 v, by simp [updV, e16, e10], hb.trans (hb'.mono hb.size), hG.step gk.out hb' g17.out v hv⟩
      · refine wpOp_step rfl (fun K' hK => ?_)
        simp [Region.binds] at hd
        have e14 : xv 14 = .bool false := hG.get g14.out (by simp [hd])
        have e17 : xv 17 = .bool false := hG.get g17.out (by simp [hd])
        have e10 : xv 10 = .bool false := hG.get g10.out (by simp [hd])
        clear hd hin
        go_simp
        exact hK _ _ ⟨updV xv 18 (.bool false), by simp [updV, e14, e17, e10], hb, hG.same gk.out g18.out _ rfl⟩
      · refine wpOp_step rfl (fun K' hK => ?_)
        simp [Region.binds] at hd
        have e10 : xv 10 = .bool false := hG.get g10.out (by simp [hd])
        have e18 : xv 18 = .bool false := hG.get g18.out (by simp [hd])
        clear hd hin
        go_simp
        exact hK _ _ ⟨updV xv 19 (.bool false), by simp [updV, e10, e18], hb, hG.same gk.out g19.out _ rfl⟩
    · rintro listed ac W ⟨xv, rfl, hb, hG⟩ hall
      have e19 : xv 19 = .bool false := hG.get g19.out (hall 19 (by decide))
      have XW : Hid (Below w4.heap.size w4 W) := hb
      clear hall hG hb gk g0 g1 g2 g3 g4 g5 g6 g7 g8 g9 g10 g11 g12 g13 g14 g15 g16 g17 g18 g19
      rw [e19]
      clear e19
      have X5 : Hid (Below w.heap.size w W) := below_mid X4.out XW.out
      go_wp2
      go_ret
      exact ⟨rfl, X5.out⟩

end Go.Proofs.Ytijonjiioeahhaa
