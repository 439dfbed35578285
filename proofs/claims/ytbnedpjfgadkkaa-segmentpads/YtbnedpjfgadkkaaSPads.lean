/-
  SegmentPads.
-/
import Derived.Test.YtbnedpjfgadkkaaSBack
import Derived.Test.YtbnedpjfgadkkaaLFd
namespace Go.Proofs.Ytbnedpjfgadkkaa
open Go.RowKit
set_option linter.unusedVariables false

theorem step_appZ (W : World) {ops : Array Oper} {o : Oper} {a : Act} {K : Act → World → Prop} {Q : Exit → Act → World → Prop} {E : Prop} (hgd : o.guard = none) (s x : Operand)
    (ho : o.op = .call { callee := .builtin .append, args := #[s, x], argTypes := #[40, 5] }) (p : Nat) (l : List UInt8) (post : List Value) (m n cap : Nat)
    (hs : a.eval s = .slice (some ⟨p, 0, none⟩) n cap) (hx : a.eval x = .int .u8 m) (hB : Blk W p [] l post) (hm : l.length + post.length ≤ maxLen) (hm2 : m < 256) (hsz : l.length ≤ 1000000) (hn : n = l.length) (hcap : cap = l.length + post.length)
    (h : ∀ q cap' post' W', Blk W' q [] (l ++ zeros m) post' → cap' = l.length + m + post'.length → cap' ≤ maxLen →
      ((q = p ∧ m ≤ post.length ∧ W.grownBy W' (some p) ∧ W'.heap.size = W.heap.size) ∨ (q = W.heap.size ∧ post.length < m ∧ Below W.heap.size W W' ∧ W'.heap.size = W.heap.size + 1)) →
      K (a.put o.dst (.slice (some ⟨q, 0, none⟩) (l.length + m) cap')) W') :
    if Region.wanted o (yielded ops a.tmps) = true then Oper.wp Try.prog o a W K Q else E := by
  have hw : Region.wanted o (yielded ops a.tmps) = true := by simp [Region.wanted, hgd]
  rw [if_pos hw]
  obtain ⟨q, cap', post', W', hr, h1, h2, h3, h4⟩ := run_appZ W p l post m o.type hB hm hm2 hsz n cap hn hcap
  unfold Oper.wp execOp
  simp only [ho, resolve, invoke, builtin, Sem.run_bind, Sem.run_pure, Result.andThen_ok, List.map_toArray, List.map_cons, List.map_nil, hs, hx, hr]
  exact h q cap' post' W' h1 h2 h3 h4

/-- Blocks, as Split answers them. -/
def IsCt (B0 N n : Nat) (ls : List (List UInt8)) : Value → World → Prop := fun v W => ∃ q qs, v = .tuple #[.slice (some ⟨q, 0, none⟩) N N, .int .i64 0] ∧ Cut B0 W q n qs ls []
theorem stays_ct (B0 N n : Nat) (ls : List (List UInt8)) : Stays (IsCt B0 N n ls) := fun _ _ _ hb ⟨q, qs, h1, h2⟩ => ⟨q, qs, h1, h2.below hb⟩
def IsCs (B0 N n : Nat) (ls : List (List UInt8)) : Value → World → Prop := fun v W => ∃ q qs, v = .slice (some ⟨q, 0, none⟩) N N ∧ Cut B0 W q n qs ls []
theorem stays_cs (B0 N n : Nat) (ls : List (List UInt8)) : Stays (IsCs B0 N n ls) := fun _ _ _ hb ⟨q, qs, h1, h2⟩ => ⟨q, qs, h1, h2.below hb⟩

set_option maxRecDepth 100000 in
set_option maxHeartbeats 8000000 in
theorem segmentPads_walk (N B Q E F : Int) (ov : Value) (l : List UInt8) (M : Nat) (w : World) (ho : Bs w ov l) (hlz : l.length ≤ 140737488355328) (hM : M < 256) :
    Calls Try.prog 9 #[.agg #[.int .i64 N, .int .i64 B, .int .i64 Q, .int .i64 E, .int .i64 F], ov, .int .u8 (M : Int)] w fun e w' => e = .returned (.bool true) ∧ Below w.heap.size w w' := by
  have HO : Hid (Bs w ov l) := ho
  obtain ⟨-, ao, cap, rfl, h2, h3, -, -⟩ := ho
  unfold maxLen at h3
  obtain ⟨n, hn⟩ : ∃ n, l.length = n := ⟨_, rfl⟩
  rw [hn] at h2 HO hlz ⊢
  have Hn : Hid (l.length = n) := hn
  clear hn
  have CM : Hid (∀ W, Calls Try.prog 13 #[.agg #[.int .i64 N, .int .i64 B, .int .i64 Q, .int .i64 E, .int .i64 F]] W fun e w' => e = .returned (.bool (@decide (May N B Q E F) (decMay N B Q E F))) ∧ Below W.heap.size W w') := fun W => rmay_any N B Q E F W
  have hcv : IntKind.i64.wrap (M : Int) = (M : Int) := by rw [IntKind.wrap_i64]; omega
  go_enter Try.func9, Try.ntmps9
  go_wp2_with fail
  refine (speaks12_any _).mono ?_
  rintro e w1 ⟨rfl, hb⟩
  have B1 : Hid (Below w.heap.size w w1) := on_below (below_alloc _ _) hb
  have P1 : Hid (Five w1 w.heap.size N B Q E F) := (five_new w _ _ _ _ _ _).below hb
  clear hb
  obtain ⟨c0, c1, c2, c3, c4⟩ := P1.out
  go_wp2_with fail
  refine (CM.out _).mono ?_
  rintro e w2 ⟨rfl, hb⟩
  have B2 : Hid (Below w.heap.size w w2) := on_below B1.out hb
  have P2 : Hid (Five w2 w.heap.size N B Q E F) := P1.out.below hb
  clear hb CM c0 c1 c2 c3 c4 P1 B1
  obtain ⟨c0, c1, c2, c3, c4⟩ := P2.out
  by_cases hMy : May N B Q E F
  · rw [@decide_eq_true _ (decMay _ _ _ _ _) hMy]
    obtain ⟨N, B, rfl, rfl, n1, n2, b1, b2⟩ := may_nb hMy
    have HM : Hid (May (N : Int) (B : Int) Q E F) := hMy
    clear hMy
    by_cases g1 : N ≤ 100
    · have k1 : ¬ (N : Int) > 100 := by omega
      by_cases g2 : B ≤ 100
      · have k2 : ¬ (B : Int) > 100 := by omega
        obtain ⟨P, hP⟩ : ∃ P, N * B = P := ⟨_, rfl⟩
        have hP2 : N * B ≤ 100 * 100 := Nat.mul_le_mul g1 g2
        have hw : IntKind.i64.wrap ((N : Int) * (B : Int)) = (P : Int) := by rw [IntKind.wrap_i64, show (N : Int) * (B : Int) = ((N * B : Nat) : Int) by simp, hP]; omega
        have hw2 : IntKind.i64.wrap ((n : Int) + (M : Int)) = ((n + M : Nat) : Int) := by rw [IntKind.wrap_i64]; omega
        obtain ⟨nM, hnM⟩ : ∃ nM, n + M = nM := ⟨_, rfl⟩
        rw [hnM] at hw2
        by_cases g3 : nM ≤ P
        · have k3 : ¬ (nM : Int) > (P : Int) := by omega
          have HLe : Hid (l.length ≤ N * B) := by unfold Hid; rw [Hn.out, hP]; omega
          have HLe2 : Hid ((l ++ zeros M).length ≤ N * B) := by unfold Hid; rw [List.length_append, zeros_length, Hn.out, hP]; omega
          have hn2 : n ≤ 10000 := by omega
          clear hP hP2 hnM
          have CS : Hid (∀ W, Below w.heap.size w W → Calls Try.prog 19 #[.agg #[.int .i64 (N : Int), .int .i64 (B : Int), .int .i64 Q, .int .i64 E, .int .i64 F], .slice ao n cap] W fun e w' => ∃ q qs, e = .returned (.tuple #[.slice (some ⟨q, 0, none⟩) N N, .int .i64 0]) ∧ Cut W.heap.size w' q B qs (splitD N B l) [] ∧ Below W.heap.size W w') := fun W hW => split_yes N B Q E F _ l W HM.out (HO.out.below hW) HLe.out
          go_upto_region 6 with fail
          refine (CS.out _ B2.out).mono ?_
          rintro e w3 ⟨q, qs, rfl, hc, hb⟩
          have B3 : Hid (Below w.heap.size w w3) := on_below B2.out hb
          have P3 : Hid (Five w3 w.heap.size N B Q E F) := P2.out.below hb
          have C3 : Hid (Cut w2.heap.size w3 q B qs (splitD N B l) []) := hc
          have BX : Hid (∀ W, Below w3.heap.size w3 W → Five W w.heap.size N B Q E F) := fun W hW => P3.out.below hW
          have CT : Hid (∀ W v, Below w3.heap.size w3 W → IsOwn w3.heap.size (l ++ zeros M) v W → Calls Try.prog 19 #[.agg #[.int .i64 (N : Int), .int .i64 (B : Int), .int .i64 Q, .int .i64 E, .int .i64 F], v] W fun e w' => ∃ v', e = .returned v' ∧ IsCt w3.heap.size N B (splitD N B l) v' w' ∧ Below W.heap.size W w') := by
            rintro W v hW ⟨q5, k5, p5, rfl, hq5, hk5, hl5, hm5, hc5⟩
            refine (split_yes N B Q E F _ (l ++ zeros M) W HM.out (hk5.bs0 _ k5 rfl hl5 hm5) HLe2.out).mono ?_
            rintro e w' ⟨q, qs, rfl, hc, hb⟩
            rw [split_zeros] at hc
            exact ⟨_, rfl, ⟨q, qs, rfl, ⟨hc.row, Nat.le_trans hW.size hc.qb, hc.len, fun j p x hp hx => ⟨(hc.at_ j p x hp hx).1, Nat.le_trans hW.size (hc.at_ j p x hp hx).2.1, (hc.at_ j p x hp hx).2.2⟩⟩⟩, hb⟩
          have OB : Hid (∀ W, Below w3.heap.size w3 W → Bs W (.slice ao n cap) l) := fun W hW => HO.out.below (on_below B3.out hW)
          have HLn : Hid (l.length ≤ 10000) := by unfold Hid; rw [Hn.out]; exact hn2
          clear c0 c1 c2 c3 c4 P2 B2 hc hb CS HLe HLe2
          go_upto_region 6 with fail
          refine wp_region_any (by kernel_rfl) ?_
          obtain ⟨gs, hgs⟩ : ∃ gs : List (Value → World → Prop), gs = [IsV (.agg #[.int .i64 (N : Int), .int .i64 (B : Int), .int .i64 Q, .int .i64 E, .int .i64 F]), IsAnyV, IsV (Value.slice ao n cap), IsAnyV, IsV (Value.int IntKind.u8 ↑M), IsAnyV, IsAnyV, IsAnyV, IsAnyV, IsV (.int .i64 0), IsAnyV, IsV (.int .i64 0)] := ⟨_, rfl⟩
          have g0 : Hid (gs[0]? = some (IsV (.agg #[.int .i64 (N : Int), .int .i64 (B : Int), .int .i64 Q, .int .i64 E, .int .i64 F]))) := by unfold Hid; rw [hgs]; rfl
          have g1 : Hid (gs[1]? = some (IsAnyV)) := by unfold Hid; rw [hgs]; rfl
          have g2 : Hid (gs[2]? = some (IsV (Value.slice ao n cap))) := by unfold Hid; rw [hgs]; rfl
          have g3 : Hid (gs[3]? = some (IsAnyV)) := by unfold Hid; rw [hgs]; rfl
          have g4 : Hid (gs[4]? = some (IsV (Value.int IntKind.u8 ↑M))) := by unfold Hid; rw [hgs]; rfl
          have g5 : Hid (gs[5]? = some (IsAnyV)) := by unfold Hid; rw [hgs]; rfl
          have g6 : Hid (gs[6]? = some (IsAnyV)) := by unfold Hid; rw [hgs]; rfl
          have g7 : Hid (gs[7]? = some (IsAnyV)) := by unfold Hid; rw [hgs]; rfl
          have g8 : Hid (gs[8]? = some (IsAnyV)) := by unfold Hid; rw [hgs]; rfl
          have g9 : Hid (gs[9]? = some (IsV (.int .i64 0))) := by unfold Hid; rw [hgs]; rfl
          have g10 : Hid (gs[10]? = some (IsAnyV)) := by unfold Hid; rw [hgs]; rfl
          have g11 : Hid (gs[11]? = some (IsV (.int .i64 0))) := by unfold Hid; rw [hgs]; rfl
          have gk : Hid (∀ p ∈ gs, ∀ v (U U' : World), p v U → p v U') := by
            unfold Hid
            rw [hgs]
            simp only [List.forall_mem_cons]
            exact ⟨(fun _ _ _ h => h), (fun _ _ _ h => h), (fun _ _ _ h => h), (fun _ _ _ h => h), (fun _ _ _ h => h), (fun _ _ _ h => h), (fun _ _ _ h => h), (fun _ _ _ h => h), (fun _ _ _ h => h), (fun _ _ _ h => h), (fun _ _ _ h => h), (fun _ _ _ h => h), by simp⟩
          clear hgs
          have JS : Hid (∀ W W', Below W.heap.size W W' → (fun W => Below w3.heap.size w3 W) W → (fun W => Below w3.heap.size w3 W) W') := fun W W' hb h => h.trans (hb.mono h.size)
          have st1 : Hid (Stays (IsNone w3.heap.size)) := stays_none _
          have st3 : Hid (Stays (IsOwn w3.heap.size l)) := stays_own _ _
          have st5 : Hid (Stays (IsOwn w3.heap.size (l ++ zeros M))) := stays_own _ _
          have st6 : Hid (Stays (IsCt w3.heap.size N B (splitD N B l))) := stays_ct _ _ _ _
          have st7 : Hid (Stays (IsCt w3.heap.size N B (splitD N B l))) := stays_ct _ _ _ _
          have st8 : Hid (Stays (IsCs w3.heap.size N B (splitD N B l))) := stays_cs _ _ _ _
          have st10 : Hid (Stays (IsCs w3.heap.size N B (splitD N B l))) := stays_cs _ _ _ _
          refine wpAny_inv4 (fun listed ac W => ∃ xv : Nat → Value, ac = ⟨#[Value.agg #[Value.int IntKind.i64 ↑N, Value.int IntKind.i64 ↑B, Value.int IntKind.i64 Q, Value.int IntKind.i64 E, Value.int IntKind.i64 F], Value.slice ao n cap, Value.int IntKind.u8 ↑M, Value.pointer (some { block := w.heap.size, off := 0 }), undef, undef, Value.bool false, Value.slice (some { block := q, off := 0 }) N N, Value.int IntKind.i64 (0 : Int), xv 10, xv 11, undef, undef, undef, undef, Value.bool true, Value.bool false, Value.agg #[Value.int IntKind.i64 ↑N, Value.int IntKind.i64 ↑B, Value.int IntKind.i64 Q, Value.int IntKind.i64 E, Value.int IntKind.i64 F], Value.bool true, Value.bool false, Value.bool false, Value.pointer (some { block := w.heap.size, off := 0 }), Value.int IntKind.i64 ↑N, Value.bool (decide ((100 : Int) < ↑N)), Value.bool (decide ((100 : Int) < ↑N)), Value.bool (decide ((100 : Int) < ↑N)), Value.pointer (some { block := w.heap.size, off := 1 }), Value.int IntKind.i64 ↑B, Value.bool (decide ((100 : Int) < ↑B)), Value.bool (decide ((100 : Int) < ↑N) || decide ((100 : Int) < ↑B)), Value.bool (decide ((100 : Int) < ↑N) || decide ((100 : Int) < ↑B)), Value.slice ao n cap, Value.int IntKind.i64 ↑n, Value.int IntKind.u8 ↑M, Value.int IntKind.i64 ↑M, Value.int IntKind.i64 ↑nM, Value.pointer (some { block := w.heap.size, off := 0 }), Value.int IntKind.i64 ↑N, Value.pointer (some { block := w.heap.size, off := 1 }), Value.int IntKind.i64 ↑B, Value.int IntKind.i64 ↑P, Value.bool false, Value.bool (decide ((100 : Int) < ↑N) || decide ((100 : Int) < ↑B)), Value.tuple #[Value.slice (some { block := q, off := 0 }) N N, Value.int IntKind.i64 (0 : Int)], Value.agg #[Value.int IntKind.i64 ↑N, Value.int IntKind.i64 ↑B, Value.int IntKind.i64 Q, Value.int IntKind.i64 E, Value.int IntKind.i64 F], Value.slice ao n cap, Value.tuple #[Value.slice (some { block := q, off := 0 }) N N, Value.int IntKind.i64 (0 : Int)], Value.slice (some { block := q, off := 0 }) N N, Value.int IntKind.i64 (0 : Int), xv 7, xv 0, xv 1, xv 2, xv 3, xv 4, xv 5, xv 6, xv 8, xv 9, undef, undef, undef, undef, undef, undef, undef, undef, undef, undef, undef, undef, undef, undef, undef, undef, undef, undef, undef, undef, undef, undef, undef, undef, undef, undef, undef, undef, undef, undef, undef, undef, undef, undef, undef, undef, undef, undef, undef, undef, undef, undef, undef, undef, undef, undef, undef, undef], []⟩ ∧ (fun W => Below w3.heap.size w3 W) W ∧ Lst gs listed xv W ∧ Fd listed xv W 1 3 (IsNone w3.heap.size) ∧ Fd listed xv W 3 5 (IsOwn w3.heap.size l) ∧ Fd listed xv W 5 6 (IsOwn w3.heap.size (l ++ zeros M)) ∧ Fe listed xv W 6 (IsCt w3.heap.size N B (splitD N B l)) ∧ Fe listed xv W 7 (IsCt w3.heap.size N B (splitD N B l)) ∧ Fe listed xv W 8 (IsCs w3.heap.size N B (splitD N B l)) ∧ Fe listed xv W 10 (IsCs w3.heap.size N B (splitD N B l))) (by kernel_rfl) ?_ ?_ _ _ _ _ (by kernel_rfl) (of_decide_eq_true (by kernel_rfl)) (Down.start _) ⟨fun jx => undef, rfl, below0 _, Lst.start _ _ _ _, Fd.start _ _ _ _ _ _, Fd.start _ _ _ _ _ _, Fd.start _ _ _ _ _ _, Fe.start _ _ _ _ _, Fe.start _ _ _ _ _, Fe.start _ _ _ _ _, Fe.start _ _ _ _ _⟩
          · rintro listed ac W ⟨xv, rfl, hb, hG, hF1, hF3, hF5, hF6, hF7, hF8, hF10⟩ hD i hi hnl hd
            have hin : i < 12 := hi
            clear hi
            have hcase : i = 0 ∨ i = 1 ∨ i = 2 ∨ i = 3 ∨ i = 4 ∨ i = 5 ∨ i = 6 ∨ i = 7 ∨ i = 8 ∨ i = 9 ∨ i = 10 ∨ i = 11 := by omega
            rcases hcase with rfl | rfl | rfl | rfl | rfl | rfl | rfl | rfl | rfl | rfl | rfl | rfl
            · refine wpOp_step rfl (fun K' hK => ?_)
              obtain ⟨c0, c1, c2, c3, c4⟩ := BX.out W hb
              clear hd hin hD
              go_simp
              exact hK _ _ ⟨updV xv 0 (.agg #[.int .i64 (N : Int), .int .i64 (B : Int), .int .i64 Q, .int .i64 E, .int .i64 F]), by simp [updV], hb, hG.any gk.out g0.out _ rfl, hF1.step (fun _ h => h) (by decide) (by decide) _, hF3.step (fun _ h => h) (by decide) (by decide) _, hF5.step (fun _ h => h) (by decide) (by decide) _, hF6.step (fun _ h => h) (by decide) _, hF7.step (fun _ h => h) (by decide) _, hF8.step (fun _ h => h) (by decide) _, hF10.step (fun _ h => h) (by decide) _⟩
            · refine wpOp_step rfl (fun K' hK => ?_)
              clear hd hin hD
              go_simp
              exact hK _ _ ⟨updV xv 1 (.slice (some ⟨W.heap.size, 0, none⟩) 0 0), by simp [updV], JS.out _ _ (below_alloc _ _) hb, hG.any gk.out g1.out _ trivial, Fd.new (⟨_, rfl, hb.size, Blk.lit W _ [] _ rfl rfl⟩), hF3.on st3.out (below_alloc _ _) (by decide) (by decide) _, hF5.on st5.out (below_alloc _ _) (by decide) (by decide) _, hF6.on st6.out (below_alloc _ _) (by decide) _, hF7.on st7.out (below_alloc _ _) (by decide) _, hF8.on st8.out (below_alloc _ _) (by decide) _, hF10.on st10.out (below_alloc _ _) (by decide) _⟩
            · refine wpOp_step rfl (fun K' hK => ?_)
              clear hd hin hD
              go_simp
              exact hK _ _ ⟨updV xv 2 (Value.slice ao n cap), by simp [updV], hb, hG.any gk.out g2.out _ rfl, hF1.step (fun _ h => h) (by decide) (by decide) _, hF3.step (fun _ h => h) (by decide) (by decide) _, hF5.step (fun _ h => h) (by decide) (by decide) _, hF6.step (fun _ h => h) (by decide) _, hF7.step (fun _ h => h) (by decide) _, hF8.step (fun _ h => h) (by decide) _, hF10.step (fun _ h => h) (by decide) _⟩
            · refine wpOp_step rfl (fun K' hK => ?_)
              simp [Region.binds] at hd
              have l1 : listed.getD 1 false = true := by simp [hd]
              have m1 := hF1.get l1 hnl
              have e2 : xv 2 = Value.slice ao n cap := hG.get g2.out (by simp [hd])
              have f5 : listed.getD 5 false = false := by
                cases hx : listed.getD 5 false with
                | false => rfl
                | true =>
                  have r3 : listed.getD 3 false = true := by have h := hD 5 (by decide) hx; simp [Region.binds] at h; simp [h]
                  rw [getD_false hnl] at r3; cases r3
              clear hd hin hD
              obtain ⟨q1, e1, hq1, hk1⟩ := m1
              refine step_copy W rfl (.tmp 51) (.tmp 52) rfl q1 w3.heap.size l (.slice ao n cap) e1 e2 hk1 (OB.out W hb) (by have := HLn.out; omega) hq1 hb.size ?_
              intro q3 k3 w' hown _ hb'
              exact hK _ _ ⟨updV xv 3 (.slice (some ⟨q3, 0, none⟩) l.length k3), by simp [updV, Act.put], JS.out _ _ hb' hb, hG.any gk.out g3.out _ trivial, Fd.off hnl, Fd.new (hown), hF5.on st5.out hb' (by decide) (by decide) _, hF6.on st6.out hb' (by decide) _, hF7.on st7.out hb' (by decide) _, hF8.on st8.out hb' (by decide) _, hF10.on st10.out hb' (by decide) _⟩
            · refine wpOp_step rfl (fun K' hK => ?_)
              clear hd hin hD
              go_simp
              exact hK _ _ ⟨updV xv 4 (Value.int IntKind.u8 ↑M), by simp [updV], hb, hG.any gk.out g4.out _ rfl, hF1.step (fun _ h => h) (by decide) (by decide) _, hF3.step (fun _ h => h) (by decide) (by decide) _, hF5.step (fun _ h => h) (by decide) (by decide) _, hF6.step (fun _ h => h) (by decide) _, hF7.step (fun _ h => h) (by decide) _, hF8.step (fun _ h => h) (by decide) _, hF10.step (fun _ h => h) (by decide) _⟩
            · refine wpOp_step rfl (fun K' hK => ?_)
              simp [Region.binds] at hd
              have l3 : listed.getD 3 false = true := by simp [hd]
              have m3 := hF3.get l3 hnl
              have e4 : xv 4 = Value.int IntKind.u8 ↑M := hG.get g4.out (by simp [hd])
              have q3 : listed.getD 3 false = true := by simp [hd]
              have f6 : listed.getD 6 false = false := by
                cases hx : listed.getD 6 false with
                | false => rfl
                | true =>
                  have r5 : listed.getD 5 false = true := by have h := hD 6 (by decide) hx; simp [Region.binds] at h; simp [h]
                  rw [getD_false hnl] at r5; cases r5
              have f7 : listed.getD 7 false = false := by
                cases hx : listed.getD 7 false with
                | false => rfl
                | true =>
                  have r6 : listed.getD 6 false = true := by have h := hD 7 (by decide) hx; simp [Region.binds] at h; simp [h]
                  have r5 : listed.getD 5 false = true := by have h := hD 6 (by decide) r6; simp [Region.binds] at h; simp [h]
                  rw [getD_false hnl] at r5; cases r5
              have f8 : listed.getD 8 false = false := by
                cases hx : listed.getD 8 false with
                | false => rfl
                | true =>
                  have r7 : listed.getD 7 false = true := by have h := hD 8 (by decide) hx; simp [Region.binds] at h; simp [h]
                  have r6 : listed.getD 6 false = true := by have h := hD 7 (by decide) r7; simp [Region.binds] at h; simp [h]
                  have r5 : listed.getD 5 false = true := by have h := hD 6 (by decide) r6; simp [Region.binds] at h; simp [h]
                  rw [getD_false hnl] at r5; cases r5
              have f10 : listed.getD 10 false = false := by
                cases hx : listed.getD 10 false with
                | false => rfl
                | true =>
                  have r5 : listed.getD 5 false = true := by have h := hD 10 (by decide) hx; simp [Region.binds] at h; simp [h]
                  rw [getD_false hnl] at r5; cases r5
              clear hd hin hD
              obtain ⟨q3, k3, p3, e3, hq3, hk3, hl3, hm3, hc3⟩ := m3
              refine step_appZ W rfl (.tmp 53) (.tmp 54) rfl q3 l p3 M l.length k3 e3 e4 hk3 (by rw [← hc3]; exact hm3) hM (by have := HLn.out; omega) rfl hc3 ?_
              intro q5 k5 p5 w' hk5 hc5 hm5 hcase
              have hJ : Below w3.heap.size w3 w' := by rcases hcase with ⟨rfl, _, hg, _⟩ | ⟨rfl, _, hb5, _⟩; (exact hb.grown hg hb.size (fun k hk => by obtain rfl := Option.some.inj hk; exact hq3)); (exact hb.trans (hb5.mono hb.size))
              have hq5 : w3.heap.size ≤ q5 := by rcases hcase with ⟨rfl, _⟩ | ⟨rfl, _⟩; exact hq3; exact hb.size
              exact hK _ _ ⟨updV xv 5 (.slice (some ⟨q5, 0, none⟩) (l.length + M) k5), by simp [updV, Act.put], hJ, hG.any gk.out g5.out _ trivial, Fd.gone l3 (by decide), Fd.off hnl, Fd.new (⟨q5, k5, p5, by simp [zeros_length], hq5, hk5, by rw [List.length_append, zeros_length]; omega, hm5, by rw [List.length_append, zeros_length]; omega⟩), Fe.yet f6 (by decide) _, Fe.yet f7 (by decide) _, Fe.yet f8 (by decide) _, Fe.yet f10 (by decide) _⟩
            · refine wpOp_step rfl (fun K' hK => ?_)
              simp [Region.binds] at hd
              have e0 : xv 0 = .agg #[.int .i64 (N : Int), .int .i64 (B : Int), .int .i64 Q, .int .i64 E, .int .i64 F] := hG.get g0.out (by simp [hd])
              have l5 : listed.getD 5 false = true := by simp [hd]
              have m5 := hF5.get l5 hnl
              clear hd hin hD
              go_simp
              refine (CT.out W _ hb m5).mono ?_
              rintro e w' ⟨v, rfl, hv, hb'⟩
              go_wp2_with fail
              exact ⟨updV xv 6 v, by simp [updV, e0], JS.out _ _ hb' hb, hG.any gk.out g6.out v trivial, hF1.on st1.out hb' (by decide) (by decide) _, hF3.on st3.out hb' (by decide) (by decide) _, Fd.off hnl, Fe.new (hv), hF7.on st7.out hb' (by decide) _, hF8.on st8.out hb' (by decide) _, hF10.on st10.out hb' (by decide) _⟩
            · refine wpOp_step rfl (fun K' hK => ?_)
              simp [Region.binds] at hd
              have l6 : listed.getD 6 false = true := by simp [hd]
              have m6 := hF6 l6
              clear hd hin hD
              go_simp
              exact hK _ _ ⟨updV xv 7 (xv 6), by simp [updV], hb, hG.any gk.out g7.out _ trivial, hF1.step (fun _ h => h) (by decide) (by decide) _, hF3.step (fun _ h => h) (by decide) (by decide) _, hF5.step (fun _ h => h) (by decide) (by decide) _, hF6.step (fun _ h => h) (by decide) _, Fe.new (m6), hF8.step (fun _ h => h) (by decide) _, hF10.step (fun _ h => h) (by decide) _⟩
            · refine wpOp_step rfl (fun K' hK => ?_)
              simp [Region.binds] at hd
              have l7 : listed.getD 7 false = true := by simp [hd]
              have m7 := hF7 l7
              clear hd hin hD
              obtain ⟨q, qs, e7, h7⟩ := m7
              go_simp
              exact hK _ _ ⟨updV xv 8 (.slice (some ⟨q, 0, none⟩) N N), by simp [updV, e7], hb, hG.any gk.out g8.out _ trivial, hF1.step (fun _ h => h) (by decide) (by decide) _, hF3.step (fun _ h => h) (by decide) (by decide) _, hF5.step (fun _ h => h) (by decide) (by decide) _, hF6.step (fun _ h => h) (by decide) _, hF7.step (fun _ h => h) (by decide) _, Fe.new (⟨q, qs, rfl, h7⟩), hF10.step (fun _ h => h) (by decide) _⟩
            · refine wpOp_step rfl (fun K' hK => ?_)
              simp [Region.binds] at hd
              have l7 : listed.getD 7 false = true := by simp [hd]
              have m7 := hF7 l7
              clear hd hin hD
              obtain ⟨q, qs, e7, h7⟩ := m7
              go_simp
              exact hK _ _ ⟨updV xv 9 (.int .i64 0), by simp [updV, e7], hb, hG.any gk.out g9.out _ rfl, hF1.step (fun _ h => h) (by decide) (by decide) _, hF3.step (fun _ h => h) (by decide) (by decide) _, hF5.step (fun _ h => h) (by decide) (by decide) _, hF6.step (fun _ h => h) (by decide) _, hF7.step (fun _ h => h) (by decide) _, hF8.step (fun _ h => h) (by decide) _, hF10.step (fun _ h => h) (by decide) _⟩
            · refine wpOp_step rfl (fun K' hK => ?_)
              simp [Region.binds] at hd
              have l8 : listed.getD 8 false = true := by simp [hd]
              have m8 := hF8 l8
              clear hd hin hD
              go_simp
              exact hK _ _ ⟨updV xv 10 (xv 8), by simp [updV], hb, hG.any gk.out g10.out _ trivial, hF1.step (fun _ h => h) (by decide) (by decide) _, hF3.step (fun _ h => h) (by decide) (by decide) _, hF5.step (fun _ h => h) (by decide) (by decide) _, hF6.step (fun _ h => h) (by decide) _, hF7.step (fun _ h => h) (by decide) _, hF8.step (fun _ h => h) (by decide) _, Fe.new (m8)⟩
            · refine wpOp_step rfl (fun K' hK => ?_)
              simp [Region.binds] at hd
              have e9 : xv 9 = .int .i64 0 := hG.get g9.out (by simp [hd])
              clear hd hin hD
              go_simp
              exact hK _ _ ⟨updV xv 11 (.int .i64 0), by simp [updV, e9], hb, hG.any gk.out g11.out _ rfl, hF1.step (fun _ h => h) (by decide) (by decide) _, hF3.step (fun _ h => h) (by decide) (by decide) _, hF5.step (fun _ h => h) (by decide) (by decide) _, hF6.step (fun _ h => h) (by decide) _, hF7.step (fun _ h => h) (by decide) _, hF8.step (fun _ h => h) (by decide) _, hF10.step (fun _ h => h) (by decide) _⟩
          · rintro listed ac W ⟨xv, rfl, hb, hG, hF1, hF3, hF5, hF6, hF7, hF8, hF10⟩ hall
            have m10 : Hid ((IsCs w3.heap.size N B (splitD N B l)) (xv 10) W) := hF10 (hall 10 (by decide))
            have e11 : xv 11 = .int .i64 0 := hG.get g11.out (hall 11 (by decide))
            have XW : Hid ((fun W => Below w3.heap.size w3 W) W) := hb
            clear hall hG hb gk JS g0 g1 g2 g3 g4 g5 g6 g7 g8 g9 g10 g11 hF1 st1 hF3 st3 hF5 st5 hF6 st6 hF7 st7 hF8 st8 hF10 st10
            rw [e11]
            clear e11
            obtain ⟨q2, qs2, e10, h10⟩ := m10.out
            rw [e10]
            have B4 : Hid (Below w.heap.size w W) := on_below B3.out XW.out
            have P4 : Hid (Five W w.heap.size N B Q E F) := BX.out W XW.out
            have C4 : Hid (Cut w2.heap.size W q B qs (splitD N B l) []) := C3.out.below XW.out
            have D4 : Hid (Cut w3.heap.size W q2 B qs2 (splitD N B l) []) := h10
            clear m10 e10 h10 XW BX CT OB C3 B3 P3
            have hq1 : qs.length = N := by rw [C4.out.len, splitD_length]
            have hq2 : qs2.length = N := by rw [D4.out.len, splitD_length]
            have CE : Hid (Calls Try.prog 20 #[.slice (some ⟨q, 0, none⟩) N N, .slice (some ⟨q2, 0, none⟩) N N] W fun e w' => e = .returned (.bool true) ∧ Below W.heap.size W w') := same12_yes _ _ _ _ _ W (C4.out.sl N hq1.symm (by omega)) (C4.out.parts (by omega)) (D4.out.sl N hq2.symm (by omega)) (D4.out.parts (by omega))
            clear D4 hq2
            have c0 := P4.out.1
            go_wp2_with fail
            refine CE.out.mono ?_
            rintro e w5 ⟨rfl, hb⟩
            have B5 : Hid (Below w.heap.size w w5) := on_below B4.out hb
            have P5 : Hid (Five w5 w.heap.size N B Q E F) := P4.out.below hb
            have C5 : Hid (Cut w2.heap.size w5 q B qs (splitD N B l) []) := C4.out.below hb
            have QL : Hid (qs.length = N) := hq1
            clear hb CE c0 B4 P4 C4 hq1
            have c0 := P5.out.1
            have c1 := P5.out.2.1
            have kN : ((N : Int) != (N : Int)) = false := by simp
            go_wp2
            go_loop [80] (fun iv => ∃ i : Nat, i ≤ N ∧ iv = .int .i64 i) (fun iv => N - (intOf iv).toNat)
            case atStart => exact ⟨0, by omega, rfl⟩
            case round =>
              obtain ⟨i, hi, rfl⟩ := hrel
              by_cases hlt : i < N
              · obtain ⟨p, hp⟩ : ∃ p, qs[i]? = some p := ⟨_, List.getElem?_eq_getElem (by rw [QL.out]; exact hlt)⟩
                have cq : w5.cell? ⟨q, i, none⟩ = some (.slice (some ⟨p, 0, none⟩) B B) := C5.out.cell (by rw [List.append_nil, List.getElem?_map, hp]; rfl)
                have KP : Hid (Blk w5 p [] (blkAt B l i) []) := (C5.out.at_ i p _ hp (splitD_at hlt)).1
                clear hp
                go_wp2
                go_loop [87] (fun kv => ∃ k : Nat, k ≤ B ∧ kv = .int .i64 k) (fun kv => B - (intOf kv).toNat)
                case atStart => exact ⟨0, by omega, rfl⟩
                case round =>
                  obtain ⟨k, hk, rfl⟩ := hrel
                  by_cases hkB : k < B
                  · have ck : w5.cell? ⟨p, k, none⟩ = some (.int .u8 ((l.getD (i * B + k) 0).toNat : Int)) := by
                      have := KP.out.cell k (bv (l.getD (i * B + k) 0)) (by simp [blkAt, hkB])
                      simpa [bv] using this
                    obtain ⟨j, hj⟩ : ∃ j, i * B + k = j := ⟨_, rfl⟩
                    have hj1 : i * B ≤ 100 * 100 := Nat.mul_le_mul (show i ≤ 100 by omega) g2
                    have hw3 : IntKind.i64.wrap ((i : Int) * (B : Int)) = ((i * B : Nat) : Int) := by rw [IntKind.wrap_i64]; simp; omega
                    have hw4 : IntKind.i64.wrap (((i * B : Nat) : Int) + (k : Int)) = (j : Int) := by rw [IntKind.wrap_i64]; omega
                    have HZ : Hid (n ≤ j → (l.getD j 0).toNat = 0) := by
                      intro h
                      simp [List.getD, List.getElem?_eq_none (show l.length ≤ j by rw [Hn.out]; exact h)]
                    rw [hj] at ck
                    clear hj
                    generalize i * B = iB at *
                    generalize (l.getD j 0).toNat = z at *
                    by_cases hjn : n ≤ j
                    · have kj : (j : Int) ≥ (n : Int) := by omega
                      obtain rfl : z = 0 := HZ.out hjn
                      go_wp2
                      go_round
                      case rel => exact ⟨k + 1, by omega, by go_num⟩
                      case measure => simp [intOf]; omega
                    · have kj : ¬ (j : Int) ≥ (n : Int) := by omega
                      go_wp2
                      go_round
                      case rel => exact ⟨k + 1, by omega, by go_num⟩
                      case measure => simp [intOf]; omega
                  · go_wp2
                    go_round
                    case rel => exact ⟨i + 1, by omega, by go_num⟩
                    case measure => simp [intOf]; omega
              · go_wp2
                go_ret
                exact ⟨rfl, B5.out⟩
        · have k3 : (nM : Int) > (P : Int) := by omega
          clear hP hP2 hnM
          go_wp2
          go_ret
          exact ⟨rfl, B2.out⟩
      · have k2 : (B : Int) > 100 := by omega
        go_wp2
        go_ret
        exact ⟨rfl, B2.out⟩
    · have k1 : (N : Int) > 100 := by omega
      go_wp2
      go_ret
      exact ⟨rfl, B2.out⟩
  · rw [@decide_eq_false _ (decMay _ _ _ _ _) hMy]
    clear hMy
    go_wp2
    go_ret
    exact ⟨rfl, B2.out⟩

theorem segmentPads_law (N B Q E F : Int) (ov : Value) (l : List UInt8) (x : Int) (w : World) (hw : Ok .i64 N ∧ Ok .i64 B ∧ Ok .i64 Q ∧ Ok .i64 E ∧ Ok .i64 F) (ho : Bs w ov l) (hlz : l.length ≤ 140737488355328) (hx : (Lit.int .u8 x).wf = true) :
    Calls Try.prog 9 #[.agg #[.int .i64 N, .int .i64 B, .int .i64 Q, .int .i64 E, .int .i64 F], ov, .int .u8 x] w fun e w' => e = .returned (.bool true) ∧ Below w.heap.size w w' := by
  have hb := bounds_u8 hx
  obtain ⟨M, rfl⟩ : ∃ M : Nat, x = M := ⟨x.toNat, by omega⟩
  exact segmentPads_walk N B Q E F ov l M w ho hlz (by omega)

end Go.Proofs.Ytbnedpjfgadkkaa
