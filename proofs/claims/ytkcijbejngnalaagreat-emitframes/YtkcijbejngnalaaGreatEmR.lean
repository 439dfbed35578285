/-
  emit: the document's Packet and Frame.
-/
import Derived.Test.YtkcijbejngnalaaGreatEmS
import Derived.Test.YtkcijbejngnalaaGreatCoE
namespace Go.Proofs.YtkcijbejngnalaaGreat
open Go.RowKit
set_option linter.unusedVariables false

set_option maxRecDepth 100000 in
set_option maxHeartbeats 4000000 in
/-- The document's Packet. -/
theorem rpacket_any (N B Q A S E F n id k : Nat) (ov : Value) (l : List UInt8) (of : List Int) (w : World) (h : PrOk N B Q E F N Q A) (hS : S < 18446744073709551616) (hid : id < 18446744073709551616) (hm : MayD F E) (hN : N ≤ 1000) (hB : B ≤ 1000) (hA : A ≤ 1000000) (ho : Bs w ov l) (hn : l.length = n) (hc : Chk F E S (N + A) id k of) :
    Calls Tryz.prog 12 #[.agg #[.int .i64 (N : Int), .int .i64 (B : Int), .int .i64 (Q : Int), .int .i64 (E : Int), .int .i64 (F : Int)], .int .u64 (S : Int), ov, .int .u64 (id : Int)] w fun e w' => ∃ q, e = .returned (.agg #[.int .u64 (S : Int), .int .i64 (N : Int), .int .i64 (B : Int), .int .i64 (Q : Int), .int .i64 (E : Int), .int .i64 (F : Int), .int .i64 (n : Int), .int .u64 (id : Int), .slice (some ⟨q, 0, none⟩) B B]) ∧ w.heap.size ≤ q ∧ Blk w' q [] (chkD B (compD N B (hasR S A Q N) l) of) [] ∧ Below w.heap.size w w' := by
  have hea : (N : Int) + aux (N : Int) (Q : Int) (E : Int) = ((N + A : Nat) : Int) := by have := h.ea; omega
  have CB : Hid (∀ W, Below w.heap.size w W → Calls Tryz.prog 29 #[.agg #[.int .i64 (N : Int), .int .i64 (B : Int), .int .i64 (Q : Int), .int .i64 (E : Int), .int .i64 (F : Int)], .int .u64 (S : Int), ov] W fun e w' => ∃ a c vs, e = .returned (.slice a (N + A) c) ∧ w'.ownsRow W.heap.size 25 1 (.slice a (N + A) c) (N + A) vs ∧ RowsB W.heap.size w' vs (compD N B (hasR S A Q N) l) ∧ Below W.heap.size W w') := fun W hW => rcblocks_own N B Q A S E F ov l W h hS hN hB hA (ho.below hW)
  have CI : Hid (∀ W, Calls Tryz.prog 18 #[.agg #[.int .i64 (N : Int), .int .i64 (B : Int), .int .i64 (Q : Int), .int .i64 (E : Int), .int .i64 (F : Int)], .int .u64 (S : Int), .int .u64 (id : Int)] W fun e w' => ∃ b c, e = .returned (.slice b k c) ∧ OwnZ W.heap.size w' (.slice b k c) k of ∧ Below W.heap.size W w') := fun W => rblocks_chk hc N B Q W h.may hm hea hS hid
  have hok : OkOf B (compD N B (hasR S A Q N) l) of := hc.ok (hasR_rw S A Q N) rfl
  have hkn : of.length = k := hc.len
  have hkA : k ≤ N + A := (hc.many (by have := h.may.1; omega)).2.2
  have DL : (compD N B (hasR S A Q N) l).length = N + A := by rw [compD_length, hasR_length]
  have MO : Hid (∀ z ∈ of, 0 ≤ z ∧ z < ((compD N B (hasR S A Q N) l).length : Int)) := fun z hz => by rw [DL]; exact hc.mem hz
  have FX : Hid (fitB B (pkD (compD N B (hasR S A Q N) l) of) = true) := pkD_fitB hok
  obtain ⟨x, hx⟩ : ∃ x, chkD B (compD N B (hasR S A Q N) l) of = x := ⟨_, rfl⟩
  have EX : Hid (xorAll (zeros B) (pkD (compD N B (hasR S A Q N) l) of) = x) := hx
  have KN : Hid (of.length = k) := hkn
  rw [hx]
  obtain ⟨-, ao, cap, rfl, -, h3, -, -⟩ := ho
  unfold maxLen at h3
  rw [hn] at CB ⊢
  clear h hS hid hm hn hc hea hok hkn hx
  obtain ⟨D, hD⟩ : ∃ D, compD N B (hasR S A Q N) l = D := ⟨_, rfl⟩
  rw [hD] at CB MO FX EX DL
  clear hD
  have DH : Hid (D.length = N + A) := DL
  clear DL
  go_enter Tryz.func12, Tryz.ntmps12
  go_upto_region 1 with fail
  obtain ⟨w0, hw0⟩ : ∃ w0, (w.alloc (.cells #[.int .i64 N, .int .i64 B, .int .i64 Q, .int .i64 E, .int .i64 F] 23)).alloc (.cells #[.int .u64 0, .int .i64 0, .int .i64 0, .int .i64 0, .int .i64 0, .int .i64 0, .int .i64 0, .int .u64 0, .slice none 0 0] 41) = w0 := ⟨_, rfl⟩
  have B0 : Hid (Below w.heap.size w w0) := by rw [← hw0]; exact on_below (below_alloc _ _) (below_alloc _ _)
  have P0 : Hid (Five w0 w.heap.size N B Q E F) := by rw [← hw0]; exact (five_new w _ N B Q E F).below (below_alloc _ _)
  obtain ⟨q5, hq5⟩ : ∃ q5, w.heap.size + 1 = q5 := ⟨_, rfl⟩
  have Z0 : Hid (NineB w0 q5 0 0 0 0 0 0 0 0 (.slice none 0 0)) := by
    rw [← hw0, ← hq5]
    have e : w.heap.size + 1 = (w.alloc (.cells #[.int .i64 N, .int .i64 B, .int .i64 Q, .int .i64 E, .int .i64 F] 23)).heap.size := by simp
    rw [e]
    exact alloc_at _ _
  have Q5 : Hid (w.heap.size < q5) := by unfold Hid; omega
  rw [hw0, hq5]
  clear hw0 hq5
  obtain ⟨c0, c1, c2, c3, c4⟩ := P0.out
  go_wp2_with fail
  refine (CB.out w0 B0.out).mono ?_
  rintro e w1 ⟨a1, k1, vs, rfl, ho1, hr1, hb1⟩
  have B1 : Hid (Below w.heap.size w w1) := on_below B0.out hb1
  have P1 : Hid (Five w1 w.heap.size N B Q E F) := P0.out.below hb1
  have Z1 : Hid (NineB w1 q5 0 0 0 0 0 0 0 0 (.slice none 0 0)) := Z0.out.below hb1
  have S1 : Hid (Sl 1 w1 (.slice a1 (N + A) k1) vs.length vs ∧ Parts w1 vs D) := by
    have e : vs.length = N + A := by have := ho1.1; omega
    exact ⟨by rw [e]; exact owned_sl ho1, hr1.parts⟩
  clear ho1 hr1 hb1 CB P0 Z0 B0 c0 c1 c2 c3 c4
  have BX : Hid (∀ W, Below w1.heap.size w1 W → Five W w.heap.size N B Q E F) := fun W hW => P1.out.below hW
  have C1 : Hid (∀ W, Below w1.heap.size w1 W → Calls Tryz.prog 18 #[.agg #[.int .i64 (N : Int), .int .i64 (B : Int), .int .i64 (Q : Int), .int .i64 (E : Int), .int .i64 (F : Int)], .int .u64 (S : Int), .int .u64 (id : Int)] W fun e w' => ∃ v, e = .returned v ∧ IsOz w1.heap.size k of v w' ∧ Below W.heap.size W w') := by
    intro W hW
    refine (CI.out W).mono ?_
    rintro e w' ⟨b, c, rfl, h1, h2⟩
    exact ⟨_, rfl, ⟨b, c, rfl, h1.mono hW.size⟩, h2⟩
  have C2 : Hid (∀ W v, Below w1.heap.size w1 W → IsOz w1.heap.size k of v W → Calls Tryz.prog 31 #[.slice a1 (N + A) k1, v] W fun e w' => ∃ v, e = .returned v ∧ IsPk k (pkV vs of) (pkD D of) v w' ∧ Below W.heap.size W w') := by
    intro W v hW hv
    refine (pick_any (.slice a1 (N + A) k1) v vs D of k W (S1.out.1.below hW) (S1.out.2.below hW) hv.zs MO.out KN.out (by omega)).mono ?_
    rintro e w' ⟨a5, c5, rfl, h5, h6, h7⟩
    exact ⟨_, rfl, ⟨⟨_, _, rfl⟩, h5, h6⟩, h7⟩
  have C3 : Hid (∀ W v, Below w1.heap.size w1 W → IsPk k (pkV vs of) (pkD D of) v W → Calls Tryz.prog 30 #[.int .i64 B, v] W fun e w' => ∃ v, e = .returned v ∧ IsCb w1.heap.size B x v w' ∧ Below W.heap.size W w') := by
    intro W v hW hv
    refine (rsum_any B v _ _ W (by omega) hv.2.1 hv.2.2 FX.out).mono ?_
    rintro e w' ⟨rfl, h5, h6⟩
    rw [EX.out] at h5
    exact ⟨_, rfl, ⟨_, rfl, hW.size, h5⟩, h6⟩
  clear CI MO FX EX KN DH
  go_upto_region 2 with fail
  refine wp_region_any (by kernel_rfl) ?_
  obtain ⟨gs, hgs⟩ : ∃ gs : List (Value → World → Prop), gs = [IsV (.pointer (some ⟨w.heap.size, 1, none⟩)), IsV (.int .i64 (B : Int)), IsV (Value.slice a1 (N + A) k1), IsV (.agg #[.int .i64 (N : Int), .int .i64 (B : Int), .int .i64 (Q : Int), .int .i64 (E : Int), .int .i64 (F : Int)]), IsV (Value.int IntKind.u64 ↑S), IsV (Value.int IntKind.u64 ↑id), IsAnyV, IsAnyV, IsAnyV, IsAnyV] := ⟨_, rfl⟩
  have g0 : Hid (gs[0]? = some (IsV (.pointer (some ⟨w.heap.size, 1, none⟩)))) := by unfold Hid; rw [hgs]; rfl
  have g1 : Hid (gs[1]? = some (IsV (.int .i64 (B : Int)))) := by unfold Hid; rw [hgs]; rfl
  have g2 : Hid (gs[2]? = some (IsV (Value.slice a1 (N + A) k1))) := by unfold Hid; rw [hgs]; rfl
  have g3 : Hid (gs[3]? = some (IsV (.agg #[.int .i64 (N : Int), .int .i64 (B : Int), .int .i64 (Q : Int), .int .i64 (E : Int), .int .i64 (F : Int)]))) := by unfold Hid; rw [hgs]; rfl
  have g4 : Hid (gs[4]? = some (IsV (Value.int IntKind.u64 ↑S))) := by unfold Hid; rw [hgs]; rfl
  have g5 : Hid (gs[5]? = some (IsV (Value.int IntKind.u64 ↑id))) := by unfold Hid; rw [hgs]; rfl
  have g6 : Hid (gs[6]? = some (IsAnyV)) := by unfold Hid; rw [hgs]; rfl
  have g7 : Hid (gs[7]? = some (IsAnyV)) := by unfold Hid; rw [hgs]; rfl
  have g8 : Hid (gs[8]? = some (IsAnyV)) := by unfold Hid; rw [hgs]; rfl
  have g9 : Hid (gs[9]? = some (IsAnyV)) := by unfold Hid; rw [hgs]; rfl
  have gk : Hid (∀ p ∈ gs, ∀ v (U U' : World), p v U → p v U') := by
    unfold Hid
    rw [hgs]
    simp only [List.forall_mem_cons]
    exact ⟨(fun _ _ _ h => h), (fun _ _ _ h => h), (fun _ _ _ h => h), (fun _ _ _ h => h), (fun _ _ _ h => h), (fun _ _ _ h => h), (fun _ _ _ h => h), (fun _ _ _ h => h), (fun _ _ _ h => h), (fun _ _ _ h => h), by simp⟩
  clear hgs
  have JS : Hid (∀ W W', Below W.heap.size W W' → (fun W => Below w1.heap.size w1 W) W → (fun W => Below w1.heap.size w1 W) W') := fun W W' hb h => h.trans (hb.mono h.size)
  have st6 : Hid (Stays (IsOz w1.heap.size k of)) := stays_oz _ _ _
  have st7 : Hid (Stays (IsPk k (pkV vs of) (pkD D of))) := stays_pk _ _ _
  have st8 : Hid (Stays (IsCb w1.heap.size B x)) := stays_cb _ _ _
  have st9 : Hid (Stays (IsCb w1.heap.size B x)) := stays_cb _ _ _
  refine wpAny_inv4 (fun listed ac W => ∃ xv : Nat → Value, ac = ⟨#[Value.agg #[Value.int IntKind.i64 ↑N, Value.int IntKind.i64 ↑B, Value.int IntKind.i64 ↑Q, Value.int IntKind.i64 ↑E, Value.int IntKind.i64 ↑F], Value.int IntKind.u64 ↑S, Value.slice ao n cap, Value.int IntKind.u64 ↑id, Value.pointer (some { block := w.heap.size, off := 0 }), undef, undef, undef, Value.pointer (some { block := q5, off := 0 }), Value.slice a1 (N + A) k1, xv 9, Value.agg #[Value.int IntKind.i64 ↑N, Value.int IntKind.i64 ↑B, Value.int IntKind.i64 ↑Q, Value.int IntKind.i64 ↑E, Value.int IntKind.i64 ↑F], Value.int IntKind.u64 ↑S, Value.slice ao n cap, Value.slice a1 (N + A) k1, xv 0, xv 1, xv 2, xv 3, xv 4, xv 5, xv 6, xv 7, xv 8, undef, undef, undef, undef, undef, undef, undef, undef], []⟩ ∧ (fun W => Below w1.heap.size w1 W) W ∧ Lst gs listed xv W ∧ Fd listed xv W 6 7 (IsOz w1.heap.size k of) ∧ Fd listed xv W 7 8 (IsPk k (pkV vs of) (pkD D of)) ∧ Fe listed xv W 8 (IsCb w1.heap.size B x) ∧ Fe listed xv W 9 (IsCb w1.heap.size B x)) (by kernel_rfl) ?_ ?_ _ _ _ _ (by kernel_rfl) (of_decide_eq_true (by kernel_rfl)) (Down.start _) ⟨fun jx => undef, rfl, below0 _, Lst.start _ _ _ _, Fd.start _ _ _ _ _ _, Fd.start _ _ _ _ _ _, Fe.start _ _ _ _ _, Fe.start _ _ _ _ _⟩
  · rintro listed ac W ⟨xv, rfl, hb, hG, hF6, hF7, hF8, hF9⟩ hD i hi hnl hd
    have hin : i < 10 := hi
    clear hi
    have hcase : i = 0 ∨ i = 1 ∨ i = 2 ∨ i = 3 ∨ i = 4 ∨ i = 5 ∨ i = 6 ∨ i = 7 ∨ i = 8 ∨ i = 9 := by omega
    rcases hcase with rfl | rfl | rfl | rfl | rfl | rfl | rfl | rfl | rfl | rfl
    · refine wpOp_step rfl (fun K' hK => ?_)
      clear hd hin hD
      go_simp
      exact hK _ _ ⟨updV xv 0 (.pointer (some ⟨w.heap.size, 1, none⟩)), by simp [updV], hb, hG.any gk.out g0.out _ rfl, hF6.step (fun _ h => h) (by decide) (by decide) _, hF7.step (fun _ h => h) (by decide) (by decide) _, hF8.step (fun _ h => h) (by decide) _, hF9.step (fun _ h => h) (by decide) _⟩
    · refine wpOp_step rfl (fun K' hK => ?_)
      simp [Region.binds] at hd
      have e0 : xv 0 = .pointer (some ⟨w.heap.size, 1, none⟩) := hG.get g0.out (by simp [hd])
      obtain ⟨c0, c1, c2, c3, c4⟩ := BX.out W hb
      clear hd hin hD
      go_simp
      exact hK _ _ ⟨updV xv 1 (.int .i64 (B : Int)), by simp [updV, e0], hb, hG.any gk.out g1.out _ rfl, hF6.step (fun _ h => h) (by decide) (by decide) _, hF7.step (fun _ h => h) (by decide) (by decide) _, hF8.step (fun _ h => h) (by decide) _, hF9.step (fun _ h => h) (by decide) _⟩
    · refine wpOp_step rfl (fun K' hK => ?_)
      clear hd hin hD
      go_simp
      exact hK _ _ ⟨updV xv 2 (Value.slice a1 (N + A) k1), by simp [updV], hb, hG.any gk.out g2.out _ rfl, hF6.step (fun _ h => h) (by decide) (by decide) _, hF7.step (fun _ h => h) (by decide) (by decide) _, hF8.step (fun _ h => h) (by decide) _, hF9.step (fun _ h => h) (by decide) _⟩
    · refine wpOp_step rfl (fun K' hK => ?_)
      obtain ⟨c0, c1, c2, c3, c4⟩ := BX.out W hb
      clear hd hin hD
      go_simp
      exact hK _ _ ⟨updV xv 3 (.agg #[.int .i64 (N : Int), .int .i64 (B : Int), .int .i64 (Q : Int), .int .i64 (E : Int), .int .i64 (F : Int)]), by simp [updV], hb, hG.any gk.out g3.out _ rfl, hF6.step (fun _ h => h) (by decide) (by decide) _, hF7.step (fun _ h => h) (by decide) (by decide) _, hF8.step (fun _ h => h) (by decide) _, hF9.step (fun _ h => h) (by decide) _⟩
    · refine wpOp_step rfl (fun K' hK => ?_)
      clear hd hin hD
      go_simp
      exact hK _ _ ⟨updV xv 4 (Value.int IntKind.u64 ↑S), by simp [updV], hb, hG.any gk.out g4.out _ rfl, hF6.step (fun _ h => h) (by decide) (by decide) _, hF7.step (fun _ h => h) (by decide) (by decide) _, hF8.step (fun _ h => h) (by decide) _, hF9.step (fun _ h => h) (by decide) _⟩
    · refine wpOp_step rfl (fun K' hK => ?_)
      clear hd hin hD
      go_simp
      exact hK _ _ ⟨updV xv 5 (Value.int IntKind.u64 ↑id), by simp [updV], hb, hG.any gk.out g5.out _ rfl, hF6.step (fun _ h => h) (by decide) (by decide) _, hF7.step (fun _ h => h) (by decide) (by decide) _, hF8.step (fun _ h => h) (by decide) _, hF9.step (fun _ h => h) (by decide) _⟩
    · refine wpOp_step rfl (fun K' hK => ?_)
      simp [Region.binds] at hd
      have e3 : xv 3 = .agg #[.int .i64 (N : Int), .int .i64 (B : Int), .int .i64 (Q : Int), .int .i64 (E : Int), .int .i64 (F : Int)] := hG.get g3.out (by simp [hd])
      have e4 : xv 4 = Value.int IntKind.u64 ↑S := hG.get g4.out (by simp [hd])
      have e5 : xv 5 = Value.int IntKind.u64 ↑id := hG.get g5.out (by simp [hd])
      clear hd hin hD
      go_simp
      refine (C1.out W hb).mono ?_
      rintro e w' ⟨v, rfl, hv, hb'⟩
      go_wp2_with fail
      exact ⟨updV xv 6 v, by simp [updV, e3, e4, e5], JS.out _ _ hb' hb, hG.any gk.out g6.out v trivial, Fd.new (hv), hF7.on st7.out hb' (by decide) (by decide) _, hF8.on st8.out hb' (by decide) _, hF9.on st9.out hb' (by decide) _⟩
    · refine wpOp_step rfl (fun K' hK => ?_)
      simp [Region.binds] at hd
      have e2 : xv 2 = Value.slice a1 (N + A) k1 := hG.get g2.out (by simp [hd])
      have l6 : listed.getD 6 false = true := by simp [hd]
      have m6 := hF6.get l6 hnl
      clear hd hin hD
      go_simp
      refine (C2.out W _ hb m6).mono ?_
      rintro e w' ⟨v, rfl, hv, hb'⟩
      go_wp2_with fail
      exact ⟨updV xv 7 v, by simp [updV, e2], JS.out _ _ hb' hb, hG.any gk.out g7.out v trivial, Fd.off hnl, Fd.new (hv), hF8.on st8.out hb' (by decide) _, hF9.on st9.out hb' (by decide) _⟩
    · refine wpOp_step rfl (fun K' hK => ?_)
      simp [Region.binds] at hd
      have e1 : xv 1 = .int .i64 (B : Int) := hG.get g1.out (by simp [hd])
      have l7 : listed.getD 7 false = true := by simp [hd]
      have m7 := hF7.get l7 hnl
      clear hd hin hD
      go_simp
      refine (C3.out W _ hb m7).mono ?_
      rintro e w' ⟨v, rfl, hv, hb'⟩
      go_wp2_with fail
      exact ⟨updV xv 8 v, by simp [updV, e1], JS.out _ _ hb' hb, hG.any gk.out g8.out v trivial, hF6.on st6.out hb' (by decide) (by decide) _, Fd.off hnl, Fe.new (hv), hF9.on st9.out hb' (by decide) _⟩
    · refine wpOp_step rfl (fun K' hK => ?_)
      simp [Region.binds] at hd
      have l8 : listed.getD 8 false = true := by simp [hd]
      have m8 := hF8 l8
      clear hd hin hD
      go_simp
      exact hK _ _ ⟨updV xv 9 (xv 8), by simp [updV], hb, hG.any gk.out g9.out _ trivial, hF6.step (fun _ h => h) (by decide) (by decide) _, hF7.step (fun _ h => h) (by decide) (by decide) _, hF8.step (fun _ h => h) (by decide) _, Fe.new (m8)⟩
  · rintro listed ac W ⟨xv, rfl, hb, hG, hF6, hF7, hF8, hF9⟩ hall
    have m9 : Hid ((IsCb w1.heap.size B x) (xv 9) W) := hF9 (hall 9 (by decide))
    have XW : Hid ((fun W => Below w1.heap.size w1 W) W) := hb
    clear hall hG hb gk JS g0 g1 g2 g3 g4 g5 g6 g7 g8 g9 hF6 st6 hF7 st7 hF8 st8 hF9 st9
    obtain ⟨q, e9, hq, hk⟩ := m9.out
    rw [e9]
    have NN : Hid (NineB W q5 0 0 0 0 0 0 0 0 (.slice none 0 0)) := Z1.out.below XW.out
    have PW : Hid (Five W w.heap.size N B Q E F) := BX.out W XW.out
    have BW : Hid (Below w.heap.size w W) := on_below B1.out XW.out
    have KW : Hid (Blk W q [] x [] ∧ w.heap.size ≤ q ∧ q ≠ q5) := ⟨hk, by have := B1.out.size; omega, blk_ne hk NN.out⟩
    clear m9 e9 hq hk XW BX C1 C2 C3 S1 Z1 P1 B1
    obtain ⟨W2, hW2⟩ : ∃ W2, W2 = W := ⟨_, rfl⟩
    subst hW2
    obtain ⟨c0, c1, c2, c3, c4⟩ := PW.out
    have f0 := NN.out.fr 0
    have f1 := NN.out.fr 1
    have f2 := NN.out.fr 2
    have f3 := NN.out.fr 3
    have f4 := NN.out.fr 4
    have f5 := NN.out.fr 5
    have f6 := NN.out.fr 6
    have f7 := NN.out.fr 7
    have f8 := NN.out.fr 8
    obtain ⟨⟨n0, n1, n2, n3, n4, n5, n6, n7⟩, n8⟩ := NN.out.nine
    go_wp2
    refine bodyPost_ret (ret_cell1 rfl rfl (load9 (nineB_store NN.out S N B Q E F n id (.slice (some ⟨q, 0, none⟩) B B)).nine)) rfl ?_
    exact ⟨q, rfl, KW.out.2.1, KW.out.1.kept (set9_other _ _ _ _ _ _ _ _ _ _ _ KW.out.2.2), below9 BW.out (by have := Q5.out; omega) _ _ _ _ _ _ _ _ _⟩

set_option maxRecDepth 100000 in
set_option maxHeartbeats 4000000 in
/-- The document's Frame. -/
theorem rframe_any (N B Q A S E F n id k : Nat) (ov : Value) (l : List UInt8) (of : List Int) (w : World) (h : PrOk N B Q E F N Q A) (hS : S < 18446744073709551616) (hid : id < 18446744073709551616) (hm : MayD F E) (hN : N ≤ 1000) (hB : B ≤ 1000) (hA : A ≤ 1000000) (ho : Bs w ov l) (hn : l.length = n) (hc : Chk F E S (N + A) id k of) (hh : MayH N B Q E F n) :
    Calls Tryz.prog 9 #[.agg #[.int .i64 (N : Int), .int .i64 (B : Int), .int .i64 (Q : Int), .int .i64 (E : Int), .int .i64 (F : Int)], .int .u64 (S : Int), ov, .int .u64 (id : Int)] w fun e w' => ∃ v, e = .returned v ∧ Bs w' v (frameB S N B Q E F n id (chkD B (compD N B (hasR S A Q N) l) of)) ∧ Below w.heap.size w w' := by
  have hok : OkOf B (compD N B (hasR S A Q N) l) of := hc.ok (hasR_rw S A Q N) rfl
  obtain ⟨x, hx⟩ : ∃ x, chkD B (compD N B (hasR S A Q N) l) of = x := ⟨_, rfl⟩
  have XL : Hid (x.length = B) := by unfold Hid; rw [← hx]; exact chkD_length hok
  have CP : Hid (∀ W, Below w.heap.size w W → Calls Tryz.prog 12 #[.agg #[.int .i64 (N : Int), .int .i64 (B : Int), .int .i64 (Q : Int), .int .i64 (E : Int), .int .i64 (F : Int)], .int .u64 (S : Int), ov, .int .u64 (id : Int)] W fun e w' => ∃ q, e = .returned (.agg #[.int .u64 (S : Int), .int .i64 (N : Int), .int .i64 (B : Int), .int .i64 (Q : Int), .int .i64 (E : Int), .int .i64 (F : Int), .int .i64 (n : Int), .int .u64 (id : Int), .slice (some ⟨q, 0, none⟩) B B]) ∧ Blk w' q [] x [] ∧ Below W.heap.size W w') := by
    intro W hW
    refine (rpacket_any N B Q A S E F n id k ov l of W h hS hid hm hN hB hA (ho.below hW) hn hc).mono ?_
    rintro e w' ⟨q, rfl, -, h1, h2⟩
    rw [hx] at h1
    exact ⟨q, rfl, h1, h2⟩
  obtain ⟨fr, hfr⟩ : ∃ fr, frameB S N B Q E F n id x = fr := ⟨_, rfl⟩
  have CE : Hid (∀ W q, Blk W q [] x [] → Calls Tryz.prog 26 #[.agg #[.int .u64 (S : Int), .int .i64 (N : Int), .int .i64 (B : Int), .int .i64 (Q : Int), .int .i64 (E : Int), .int .i64 (F : Int), .int .i64 (n : Int), .int .u64 (id : Int), .slice (some ⟨q, 0, none⟩) B B]] W fun e w' => ∃ a' c', e = .returned (.tuple #[.slice a' (42 + B) c', .int .i64 0]) ∧ Bs w' (.slice a' (42 + B) c') fr ∧ Below W.heap.size W w') := by
    intro W q hq
    have := renc_yes S N B Q E F n id (some ⟨q, 0, none⟩) B x W hh hS hid (hq.bs0 B B XL.out.symm (Nat.le_refl _) (by unfold maxLen; omega)) XL.out (by omega)
    rw [hfr] at this
    exact this
  rw [hx, hfr]
  obtain ⟨-, ao, cap, rfl, -, h3, -, -⟩ := ho
  clear h hS hid hm hn hc hok hx hfr hh
  have P0 : Hid (Five (w.alloc (.cells #[.int .i64 N, .int .i64 B, .int .i64 Q, .int .i64 E, .int .i64 F] 23)) w.heap.size N B Q E F) := five_new w _ N B Q E F
  go_enter Tryz.func9, Tryz.ntmps9
  go_wp2_with fail
  refine (CP.out _ (below_alloc _ _)).mono ?_
  rintro e w1 ⟨q, rfl, hk, hb⟩
  have B1 : Hid (Below w.heap.size w w1) := on_below (below_alloc _ _) hb
  have K1 : Hid (Blk w1 q [] x []) := hk
  clear hk hb CP P0
  go_wp2_with fail
  refine (CE.out w1 q K1.out).mono ?_
  rintro e w2 ⟨a2, c2, rfl, hs, hb⟩
  have RR : Hid (Bs w2 (.slice a2 (42 + B) c2) fr ∧ Below w.heap.size w w2) := ⟨hs, on_below B1.out hb⟩
  clear hs hb CE K1 B1
  go_wp2
  go_ret
  exact ⟨_, rfl, RR.out⟩

end Go.Proofs.YtkcijbejngnalaaGreat
