/-
  compose: Blocks.
-/
import Derived.Test.YtkcijbejngnalaaCoN
namespace Go.Proofs.Ytkcijbejngnalaa
open Go.RowKit
set_option linter.unusedVariables false

set_option maxRecDepth 100000 in
set_option maxHeartbeats 1000000 in
theorem cblocks_no (N B Q E F : Int) (S : Nat) (ov : Value) (oa : Option Addr) (on oc : Nat) (w : World) (h : ¬ May N B Q E F) (ho : ov = .slice oa on oc) :
    Calls Try.prog 44 #[.agg #[.int .i64 N, .int .i64 B, .int .i64 Q, .int .i64 E, .int .i64 F], .int .u64 (S : Int), ov] w fun e w' => e = .returned (.tuple #[.slice none 0 0, .int .i64 1]) ∧ Below w.heap.size w w' := by
  have CC : Hid (∀ W, Calls Try.prog 73 #[.agg #[.int .i64 N, .int .i64 B, .int .i64 Q, .int .i64 E, .int .i64 F], ov] W fun e w' => e = .returned (.tuple #[.slice none 0 0, .int .i64 1]) ∧ Below W.heap.size W w') := fun W => split_no N B Q E F ov W h
  subst ho
  clear h
  go_enter Try.func44, Try.ntmps44
  go_wp2_with fail
  refine (CC.out _).mono ?_
  rintro e w1 ⟨rfl, hb⟩
  have HB : Hid (Below w.heap.size w w1) := on_below (below_alloc _ _) hb
  clear hb CC
  go_wp2
  go_ret2
  exact ⟨rfl, HB.out⟩

set_option maxRecDepth 100000 in
set_option maxHeartbeats 1000000 in
theorem cblocks_long (N B : Nat) (Q E F : Int) (S : Nat) (ov : Value) (l : List UInt8) (w : World) (h : May (N : Int) (B : Int) Q E F) (ho : Bs w ov l) (hl : ¬ l.length ≤ N * B) :
    Calls Try.prog 44 #[.agg #[.int .i64 (N : Int), .int .i64 (B : Int), .int .i64 Q, .int .i64 E, .int .i64 F], .int .u64 (S : Int), ov] w fun e w' => e = .returned (.tuple #[.slice none 0 0, .int .i64 10]) ∧ Below w.heap.size w w' := by
  have CC : Hid (∀ W, Below w.heap.size w W → Calls Try.prog 73 #[.agg #[.int .i64 (N : Int), .int .i64 (B : Int), .int .i64 Q, .int .i64 E, .int .i64 F], ov] W fun e w' => e = .returned (.tuple #[.slice none 0 0, .int .i64 10]) ∧ Below W.heap.size W w') := fun W hW => split_long N B Q E F ov l W h (ho.below hW) hl
  obtain ⟨-, ao, cap, rfl, -, -, -, -⟩ := ho
  clear h hl
  go_enter Try.func44, Try.ntmps44
  go_wp2_with fail
  refine (CC.out _ (below_alloc _ _)).mono ?_
  rintro e w1 ⟨rfl, hb⟩
  have HB : Hid (Below w.heap.size w w1) := on_below (below_alloc _ _) hb
  clear hb CC
  go_wp2
  go_ret2
  exact ⟨rfl, HB.out⟩

set_option maxRecDepth 100000 in
set_option maxHeartbeats 4000000 in
/-- BLOCKS. -/
theorem cblocks_yes (N B Q A S : Nat) (E F : Int) (ov : Value) (l : List UInt8) (w : World) (h : PrOk N B Q E F N Q A) (hS : S < 18446744073709551616) (ho : Bs w ov l) (hl : l.length ≤ N * B) :
    Calls Try.prog 44 #[.agg #[.int .i64 (N : Int), .int .i64 (B : Int), .int .i64 (Q : Int), .int .i64 E, .int .i64 F], .int .u64 (S : Int), ov] w fun e w' => ∃ a c vs, e = .returned (.tuple #[.slice a (N + A) c, .int .i64 0]) ∧ w'.ownsRow w.heap.size 25 1 (.slice a (N + A) c) (N + A) vs ∧ RowsB w.heap.size w' vs (compD N B (hasR S A Q N) l) ∧ Below w.heap.size w w' := by
  have hok := h.ok hS
  have hN := hok.n
  have hA := hok.a
  have hB2 : B ≤ 65535 := by have := h.may.2.1; omega
  have CSp : Hid (∀ W, Below w.heap.size w W → Calls Try.prog 73 #[.agg #[.int .i64 (N : Int), .int .i64 (B : Int), .int .i64 (Q : Int), .int .i64 E, .int .i64 F], ov] W fun e w' => ∃ q qs, e = .returned (.tuple #[.slice (some ⟨q, 0, none⟩) N N, .int .i64 0]) ∧ Cut W.heap.size w' q B qs (splitD N B l) [] ∧ Below W.heap.size W w') := fun W hW => split_yes N B Q E F ov l W h.may (ho.below hW) hl
  have CN : Hid (∀ W, Calls Try.prog 50 #[.agg #[.int .i64 (N : Int), .int .i64 (B : Int), .int .i64 (Q : Int), .int .i64 E, .int .i64 F], .int .u64 (S : Int)] W fun e w' => ∃ g ro vs, e = .returned (.tuple #[.pointer (some ⟨g, 0, none⟩), .int .i64 0]) ∧ GrB W w' g ro S N Q A vs vs (hasR S A Q N)) := fun W => onew_own B E F N Q A S W h hS
  have RW : Hid (RwOk N A (hasR S A Q N)) := hasR_rw S A Q N
  obtain ⟨-, ao, cap, rfl, -, -, -, -⟩ := ho
  clear h hS hok hl
  generalize hasR S A Q N = rows at *
  have P0 : Hid (FiveB (w.alloc (.cells #[.int .i64 N, .int .i64 B, .int .i64 Q, .int .i64 E, .int .i64 F] 23)) w.heap.size N B Q E F) := FiveB.new _ _ _ _ _ _
  go_enter Try.func44, Try.ntmps44
  go_wp2_with fail
  refine (CSp.out _ (below_alloc _ _)).mono ?_
  rintro e w1 ⟨q, qs, rfl, hc1, hb1⟩
  have P1 : Hid (FiveB w1 w.heap.size N B Q E F) := P0.out.below hb1
  have O1 : Hid (w1.ownsRow w.heap.size 25 1 (.slice (some ⟨q, 0, none⟩) N N) N (qs.map (slv B)) ∧ RowsB w.heap.size w1 (qs.map (slv B)) (splitD N B l)) := hc1.owns (by rw [hc1.len, splitD_length]) (by omega) (by omega) (by simp)
  have B1 : Hid (Below w.heap.size w w1) := on_below (below_alloc _ _) hb1
  clear hc1 hb1 CSp P0
  generalize qs.map (slv B) = vs0 at *
  obtain ⟨c0, c1, c2, c3, c4⟩ := P1.out.five
  go_wp2_with fail
  refine (CN.out _).mono ?_
  rintro e w2 ⟨g, ro, gv, rfl, hg2⟩
  have B2 : Hid (Below w.heap.size w w2) := on_below B1.out hg2.bel
  have P2 : Hid (FiveB w2 w.heap.size N B Q E F) := P1.out.below hg2.bel
  have G2 : Hid (GrT w.heap.size w2 g ro S N Q A gv rows) := ⟨hg2.gc, hg2.hc, hg2.lv, hg2.lr, fun i v l hv hl => (hg2.own i v l hv hl).mono B1.out.size⟩
  have O2 : Hid (w2.ownsRow w.heap.size 25 1 (.slice (some ⟨q, 0, none⟩) N N) N vs0 ∧ RowsB w.heap.size w2 vs0 (splitD N B l)) := ⟨owns_below O1.out.1 hg2.bel, O1.out.2.below hg2.bel⟩
  clear hg2 CN P1 O1 B1 c0 c1 c2 c3 c4
  have CA : Hid (Calls Try.prog 52 #[.pointer (some ⟨g, 0, none⟩)] w2 fun e w' => e = .returned (.int .i64 (A : Int)) ∧ w' = w2) := oaux_any g ro S N Q A gv rows w2 G2.out.isGr
  go_wp2_with fail
  refine CA.out.mono ?_
  rintro e w3 ⟨rfl, rfl⟩
  clear CA
  go_wp2
  go_loopw [8, 34] (fun bv jv wr => ∃ (j c : Nat) (a : Option Addr) (vs : List Value), j ≤ A ∧ jv = .int .i64 j ∧ bv = .slice a (N + j) c ∧ Hid (wr.ownsRow w.heap.size 25 1 (.slice a (N + j) c) (N + j) vs) ∧ Hid (RowsB w.heap.size wr vs (compTo N B rows l j)) ∧ Hid (GrT w.heap.size wr g ro S N Q A gv rows) ∧ Hid (FiveB wr w.heap.size N B Q E F) ∧ Hid (Below w.heap.size w wr)) (fun _ jv _ => A - (intOf jv).toNat)
  case atStart => exact ⟨0, N, _, vs0, by omega, rfl, rfl, O2.out.1, by unfold Hid; rw [compTo_zero]; exact O2.out.2, G2, P2, B2⟩
  case round =>
    obtain ⟨j, c, a, vs, hj, rfl, rfl, O, R, G, P, BB⟩ := hrel
    clear O2 G2 P2 B2
    by_cases hlt : j < A
    · obtain ⟨r, hr⟩ : ∃ r, rows[j]? = some r := ⟨_, List.getElem?_eq_getElem (by rw [RW.out.1]; exact hlt)⟩
      have RJ := RW.out.2 j r hr
      obtain ⟨n, hn⟩ : ∃ n, r.length = n := ⟨_, rfl⟩
      have hnN : n ≤ N := by rw [← hn]; exact RJ.1
      have HRJ : Hid (∀ i ∈ r, 0 ≤ i ∧ i < (N : Int)) := RJ.2
      obtain ⟨x, hx⟩ : ∃ x, chkD B (splitD N B l) r = x := ⟨_, rfl⟩
      have NX : Hid (compTo N B rows l (j + 1) = compTo N B rows l j ++ [x]) := by unfold Hid; rw [← hx]; exact compTo_next hr
      have LX : Hid (x.length = B) := by unfold Hid; rw [← hx]; exact chkD_length (split_ok HRJ.out)
      have SLp : Hid (Sl 1 wr (.slice a (N + j) c) vs.length vs) := by
        have := owned_sl O.out
        have e : vs.length = N + j := by have := this.1; omega
        rw [e]
        exact this
      have CH : Hid (∀ W, Below wr.heap.size wr W → Calls Try.prog 74 #[.pointer (some ⟨g, 0, none⟩), .int .i64 j] W fun e w' => ∃ v, e = .returned v ∧ IsOz wr.heap.size n r v w' ∧ Below W.heap.size W w') := by
        intro W hW
        refine (ohas_yes g ro S N Q A j n gv rows r W (G.out.isGr.below hW) hA hr hn (by omega)).mono ?_
        rintro e w' ⟨a, c, rfl, ho, hb⟩
        exact ⟨_, rfl, ⟨a, c, rfl, ho.mono hW.size⟩, hb⟩
      have CC : Hid (∀ W v, Below wr.heap.size wr W → IsOz wr.heap.size n r v W → Calls Try.prog 45 #[.int .i64 B, .slice a (N + j) c, v] W fun e w' => ∃ v, e = .returned v ∧ IsCk w.heap.size B x v w' ∧ Below W.heap.size W w') := by
        intro W v hW hv
        obtain ⟨a2, c2, rfl, ho⟩ := hv
        refine (check_yes B _ _ vs (compTo N B rows l j) r W (by omega) (SLp.out.below hW) ((R.out.below hW).parts) ho.zs (compTo_ok HRJ.out)).mono ?_
        rintro e w' ⟨rfl, hk, hb⟩
        rw [compTo_chk HRJ.out, hx] at hk
        exact ⟨_, rfl, ⟨_, rfl, by have := BB.out.size; have := hW.size; omega, hk⟩, hb⟩
      have BX : Hid (∀ W, Below wr.heap.size wr W → Five W w.heap.size N B Q E F) := fun W hW => (P.out.below hW).five
      clear hr hn hx RJ SLp HRJ
      go_upto_region 10 with fail
      refine wp_region_any (by kernel_rfl) ?_
      obtain ⟨gs, hgs⟩ : ∃ gs : List (Value → World → Prop), gs = [IsV (.pointer (some ⟨w.heap.size, 1, none⟩)), IsV (.int .i64 (B : Int)), IsV (Value.slice a (N + j) c), IsV (Value.pointer (some { block := g, off := 0 })), IsV (Value.int IntKind.i64 ↑j), IsAnyV, IsAnyV, IsAnyV, IsAnyV, IsV (.bool true), IsAnyV, IsV (.bool true)] := ⟨_, rfl⟩
      have g0 : Hid (gs[0]? = some (IsV (.pointer (some ⟨w.heap.size, 1, none⟩)))) := by unfold Hid; rw [hgs]; rfl
      have g1 : Hid (gs[1]? = some (IsV (.int .i64 (B : Int)))) := by unfold Hid; rw [hgs]; rfl
      have g2 : Hid (gs[2]? = some (IsV (Value.slice a (N + j) c))) := by unfold Hid; rw [hgs]; rfl
      have g3 : Hid (gs[3]? = some (IsV (Value.pointer (some { block := g, off := 0 })))) := by unfold Hid; rw [hgs]; rfl
      have g4 : Hid (gs[4]? = some (IsV (Value.int IntKind.i64 ↑j))) := by unfold Hid; rw [hgs]; rfl
      have g5 : Hid (gs[5]? = some (IsAnyV)) := by unfold Hid; rw [hgs]; rfl
      have g6 : Hid (gs[6]? = some (IsAnyV)) := by unfold Hid; rw [hgs]; rfl
      have g7 : Hid (gs[7]? = some (IsAnyV)) := by unfold Hid; rw [hgs]; rfl
      have g8 : Hid (gs[8]? = some (IsAnyV)) := by unfold Hid; rw [hgs]; rfl
      have g9 : Hid (gs[9]? = some (IsV (.bool true))) := by unfold Hid; rw [hgs]; rfl
      have g10 : Hid (gs[10]? = some (IsAnyV)) := by unfold Hid; rw [hgs]; rfl
      have g11 : Hid (gs[11]? = some (IsV (.bool true))) := by unfold Hid; rw [hgs]; rfl
      have gk : Hid (∀ p ∈ gs, ∀ v (U U' : World), p v U → p v U') := by
        unfold Hid
        rw [hgs]
        simp only [List.forall_mem_cons]
        exact ⟨(fun _ _ _ h => h), (fun _ _ _ h => h), (fun _ _ _ h => h), (fun _ _ _ h => h), (fun _ _ _ h => h), (fun _ _ _ h => h), (fun _ _ _ h => h), (fun _ _ _ h => h), (fun _ _ _ h => h), (fun _ _ _ h => h), (fun _ _ _ h => h), (fun _ _ _ h => h), by simp⟩
      clear hgs
      have JS : Hid (∀ W W', Below W.heap.size W W' → (fun W => Below wr.heap.size wr W) W → (fun W => Below wr.heap.size wr W) W') := fun W W' hb h => h.trans (hb.mono h.size)
      have st5 : Hid (Stays (IsOz wr.heap.size n r)) := stays_oz _ _ _
      have st6 : Hid (Stays (IsCk w.heap.size B x)) := stays_ck _ _ _
      have st7 : Hid (Stays (IsCk w.heap.size B x)) := stays_ck _ _ _
      have st8 : Hid (Stays (IsCb w.heap.size B x)) := stays_cb _ _ _
      have st10 : Hid (Stays (IsCb w.heap.size B x)) := stays_cb _ _ _
      refine wpAny_inv4 (fun listed ac W => ∃ xv : Nat → Value, ac = ⟨#[Value.agg #[Value.int IntKind.i64 ↑N, Value.int IntKind.i64 ↑B, Value.int IntKind.i64 ↑Q, Value.int IntKind.i64 E, Value.int IntKind.i64 F], Value.int IntKind.u64 ↑S, Value.slice ao l.length cap, Value.pointer (some { block := w.heap.size, off := 0 }), undef, undef, Value.slice none 0 0, Value.int IntKind.i64 (0 : Int), Value.slice a (N + j) c, Value.int IntKind.i64 (0 : Int), Value.pointer (some { block := g, off := 0 }), Value.int IntKind.i64 ↑j, xv 10, xv 11, Value.tuple #[Value.slice (some { block := q, off := 0 }) N N, Value.int IntKind.i64 (0 : Int)], Value.agg #[Value.int IntKind.i64 ↑N, Value.int IntKind.i64 ↑B, Value.int IntKind.i64 ↑Q, Value.int IntKind.i64 E, Value.int IntKind.i64 F], Value.slice ao l.length cap, Value.tuple #[Value.slice (some { block := q, off := 0 }) N N, Value.int IntKind.i64 (0 : Int)], Value.slice (some { block := q, off := 0 }) N N, Value.int IntKind.i64 (0 : Int), Value.int IntKind.i64 (0 : Int), Value.bool false, undef, Value.tuple #[Value.pointer (some { block := g, off := 0 }), Value.int IntKind.i64 (0 : Int)], Value.agg #[Value.int IntKind.i64 ↑N, Value.int IntKind.i64 ↑B, Value.int IntKind.i64 ↑Q, Value.int IntKind.i64 E, Value.int IntKind.i64 F], Value.int IntKind.u64 ↑S, Value.tuple #[Value.pointer (some { block := g, off := 0 }), Value.int IntKind.i64 (0 : Int)], Value.pointer (some { block := g, off := 0 }), Value.int IntKind.i64 (0 : Int), Value.int IntKind.i64 (0 : Int), Value.bool false, undef, Value.pointer (some { block := g, off := 0 }), Value.int IntKind.i64 ↑A, Value.int IntKind.i64 ↑j, Value.bool true, Value.int IntKind.i64 ↑j, xv 7, xv 0, xv 1, xv 2, xv 3, xv 4, xv 5, xv 6, xv 8, xv 9, u47, u48, u49, u50, u51, undef], []⟩ ∧ (fun W => Below wr.heap.size wr W) W ∧ Lst gs listed xv W ∧ Fd listed xv W 5 6 (IsOz wr.heap.size n r) ∧ Fe listed xv W 6 (IsCk w.heap.size B x) ∧ Fe listed xv W 7 (IsCk w.heap.size B x) ∧ Fe listed xv W 8 (IsCb w.heap.size B x) ∧ Fe listed xv W 10 (IsCb w.heap.size B x)) (by kernel_rfl) ?_ ?_ _ _ _ _ (by kernel_rfl) (of_decide_eq_true (by kernel_rfl)) (Down.start _) ⟨fun jx => if jx = 0 then u38 else if jx = 1 then u39 else if jx = 2 then u40 else if jx = 3 then u41 else if jx = 4 then u42 else if jx = 5 then u43 else if jx = 6 then u44 else if jx = 7 then u37 else if jx = 8 then u45 else if jx = 9 then u46 else if jx = 10 then u12 else if jx = 11 then u13 else undef, rfl, below0 _, Lst.start _ _ _ _, Fd.start _ _ _ _ _ _, Fe.start _ _ _ _ _, Fe.start _ _ _ _ _, Fe.start _ _ _ _ _, Fe.start _ _ _ _ _⟩
      · rintro listed ac W ⟨xv, rfl, hb, hG, hF5, hF6, hF7, hF8, hF10⟩ hD i hi hnl hd
        have hin : i < 12 := hi
        clear hi
        have hcase : i = 0 ∨ i = 1 ∨ i = 2 ∨ i = 3 ∨ i = 4 ∨ i = 5 ∨ i = 6 ∨ i = 7 ∨ i = 8 ∨ i = 9 ∨ i = 10 ∨ i = 11 := by omega
        rcases hcase with rfl | rfl | rfl | rfl | rfl | rfl | rfl | rfl | rfl | rfl | rfl | rfl
        · refine wpOp_step rfl (fun K' hK => ?_)
          clear hd hin hD
          go_simp
          exact hK _ _ ⟨updV xv 0 (.pointer (some ⟨w.heap.size, 1, none⟩)), by simp [updV], hb, hG.any gk.out g0.out _ rfl, hF5.step (fun _ h => h) (by decide) (by decide) _, hF6.step (fun _ h => h) (by decide) _, hF7.step (fun _ h => h) (by decide) _, hF8.step (fun _ h => h) (by decide) _, hF10.step (fun _ h => h) (by decide) _⟩
        · refine wpOp_step rfl (fun K' hK => ?_)
          simp [Region.binds] at hd
          have e0 : xv 0 = .pointer (some ⟨w.heap.size, 1, none⟩) := hG.get g0.out (by simp [hd])
          obtain ⟨c0, c1, c2, c3, c4⟩ := BX.out W hb
          clear hd hin hD
          go_simp
          exact hK _ _ ⟨updV xv 1 (.int .i64 (B : Int)), by simp [updV, e0], hb, hG.any gk.out g1.out _ rfl, hF5.step (fun _ h => h) (by decide) (by decide) _, hF6.step (fun _ h => h) (by decide) _, hF7.step (fun _ h => h) (by decide) _, hF8.step (fun _ h => h) (by decide) _, hF10.step (fun _ h => h) (by decide) _⟩
        · refine wpOp_step rfl (fun K' hK => ?_)
          clear hd hin hD
          go_simp
          exact hK _ _ ⟨updV xv 2 (Value.slice a (N + j) c), by simp [updV], hb, hG.any gk.out g2.out _ rfl, hF5.step (fun _ h => h) (by decide) (by decide) _, hF6.step (fun _ h => h) (by decide) _, hF7.step (fun _ h => h) (by decide) _, hF8.step (fun _ h => h) (by decide) _, hF10.step (fun _ h => h) (by decide) _⟩
        · refine wpOp_step rfl (fun K' hK => ?_)
          clear hd hin hD
          go_simp
          exact hK _ _ ⟨updV xv 3 (Value.pointer (some { block := g, off := 0 })), by simp [updV], hb, hG.any gk.out g3.out _ rfl, hF5.step (fun _ h => h) (by decide) (by decide) _, hF6.step (fun _ h => h) (by decide) _, hF7.step (fun _ h => h) (by decide) _, hF8.step (fun _ h => h) (by decide) _, hF10.step (fun _ h => h) (by decide) _⟩
        · refine wpOp_step rfl (fun K' hK => ?_)
          clear hd hin hD
          go_simp
          exact hK _ _ ⟨updV xv 4 (Value.int IntKind.i64 ↑j), by simp [updV], hb, hG.any gk.out g4.out _ rfl, hF5.step (fun _ h => h) (by decide) (by decide) _, hF6.step (fun _ h => h) (by decide) _, hF7.step (fun _ h => h) (by decide) _, hF8.step (fun _ h => h) (by decide) _, hF10.step (fun _ h => h) (by decide) _⟩
        · refine wpOp_step rfl (fun K' hK => ?_)
          simp [Region.binds] at hd
          have e3 : xv 3 = Value.pointer (some { block := g, off := 0 }) := hG.get g3.out (by simp [hd])
          have e4 : xv 4 = Value.int IntKind.i64 ↑j := hG.get g4.out (by simp [hd])
          clear hd hin hD
          go_simp
          refine (CH.out W hb).mono ?_
          rintro e w' ⟨v, rfl, hv, hb'⟩
          go_wp2_with fail
          exact ⟨updV xv 5 v, by simp [updV, e3, e4], JS.out _ _ hb' hb, hG.any gk.out g5.out v trivial, Fd.new (hv), hF6.on st6.out hb' (by decide) _, hF7.on st7.out hb' (by decide) _, hF8.on st8.out hb' (by decide) _, hF10.on st10.out hb' (by decide) _⟩
        · refine wpOp_step rfl (fun K' hK => ?_)
          simp [Region.binds] at hd
          have e1 : xv 1 = .int .i64 (B : Int) := hG.get g1.out (by simp [hd])
          have e2 : xv 2 = Value.slice a (N + j) c := hG.get g2.out (by simp [hd])
          have l5 : listed.getD 5 false = true := by simp [hd]
          have m5 := hF5.get l5 hnl
          clear hd hin hD
          go_simp
          refine (CC.out W _ hb m5).mono ?_
          rintro e w' ⟨v, rfl, hv, hb'⟩
          go_wp2_with fail
          exact ⟨updV xv 6 v, by simp [updV, e1, e2], JS.out _ _ hb' hb, hG.any gk.out g6.out v trivial, Fd.off hnl, Fe.new (hv), hF7.on st7.out hb' (by decide) _, hF8.on st8.out hb' (by decide) _, hF10.on st10.out hb' (by decide) _⟩
        · refine wpOp_step rfl (fun K' hK => ?_)
          simp [Region.binds] at hd
          have l6 : listed.getD 6 false = true := by simp [hd]
          have m6 := hF6 l6
          clear hd hin hD
          go_simp
          exact hK _ _ ⟨updV xv 7 (xv 6), by simp [updV], hb, hG.any gk.out g7.out _ trivial, hF5.step (fun _ h => h) (by decide) (by decide) _, hF6.step (fun _ h => h) (by decide) _, Fe.new (m6), hF8.step (fun _ h => h) (by decide) _, hF10.step (fun _ h => h) (by decide) _⟩
        · refine wpOp_step rfl (fun K' hK => ?_)
          simp [Region.binds] at hd
          have l7 : listed.getD 7 false = true := by simp [hd]
          have m7 := hF7 l7
          clear hd hin hD
          obtain ⟨q7, e7, h7, k7⟩ := m7
          go_simp
          exact hK _ _ ⟨updV xv 8 (.slice (some ⟨q7, 0, none⟩) B B), by simp [updV, e7], hb, hG.any gk.out g8.out _ trivial, hF5.step (fun _ h => h) (by decide) (by decide) _, hF6.step (fun _ h => h) (by decide) _, hF7.step (fun _ h => h) (by decide) _, Fe.new (⟨q7, rfl, h7, k7⟩), hF10.step (fun _ h => h) (by decide) _⟩
        · refine wpOp_step rfl (fun K' hK => ?_)
          simp [Region.binds] at hd
          have l7 : listed.getD 7 false = true := by simp [hd]
          have m7 := hF7 l7
          clear hd hin hD
          obtain ⟨q7, e7, h7, k7⟩ := m7
          go_simp
          exact hK _ _ ⟨updV xv 9 (.bool true), by simp [updV, e7], hb, hG.any gk.out g9.out _ rfl, hF5.step (fun _ h => h) (by decide) (by decide) _, hF6.step (fun _ h => h) (by decide) _, hF7.step (fun _ h => h) (by decide) _, hF8.step (fun _ h => h) (by decide) _, hF10.step (fun _ h => h) (by decide) _⟩
        · refine wpOp_step rfl (fun K' hK => ?_)
          simp [Region.binds] at hd
          have l8 : listed.getD 8 false = true := by simp [hd]
          have m8 := hF8 l8
          clear hd hin hD
          go_simp
          exact hK _ _ ⟨updV xv 10 (xv 8), by simp [updV], hb, hG.any gk.out g10.out _ trivial, hF5.step (fun _ h => h) (by decide) (by decide) _, hF6.step (fun _ h => h) (by decide) _, hF7.step (fun _ h => h) (by decide) _, hF8.step (fun _ h => h) (by decide) _, Fe.new (m8)⟩
        · refine wpOp_step rfl (fun K' hK => ?_)
          simp [Region.binds] at hd
          have e9 : xv 9 = .bool true := hG.get g9.out (by simp [hd])
          clear hd hin hD
          go_simp
          exact hK _ _ ⟨updV xv 11 (.bool true), by simp [updV, e9], hb, hG.any gk.out g11.out _ rfl, hF5.step (fun _ h => h) (by decide) (by decide) _, hF6.step (fun _ h => h) (by decide) _, hF7.step (fun _ h => h) (by decide) _, hF8.step (fun _ h => h) (by decide) _, hF10.step (fun _ h => h) (by decide) _⟩
      · rintro listed ac W ⟨xv, rfl, hb, hG, hF5, hF6, hF7, hF8, hF10⟩ hall
        have m10 : Hid ((IsCb w.heap.size B x) (xv 10) W) := hF10 (hall 10 (by decide))
        have e11 : xv 11 = .bool true := hG.get g11.out (hall 11 (by decide))
        have XW : Hid ((fun W => Below wr.heap.size wr W) W) := hb
        clear hall hG hb gk JS g0 g1 g2 g3 g4 g5 g6 g7 g8 g9 g10 g11 hF5 st5 hF6 st6 hF7 st7 hF8 st8 hF10 st10
        rw [e11]
        clear e11
        obtain ⟨p, e10, hp, kp⟩ := m10.out
        rw [e10]
        clear m10 e10
        have XB := XW.out
        have O3 : Hid (W.ownsRow w.heap.size 25 1 (.slice a (N + j) c) (N + j) vs) := owns_below O.out XB
        have R3 : Hid (RowsB w.heap.size W (vs ++ [.slice (some ⟨p, 0, none⟩) B B]) (compTo N B rows l (j + 1))) := by
          unfold Hid
          rw [NX.out]
          exact (R.out.below XB).snoc (by have := kp.owb LX.out (by omega) hp; rw [← LX.out] at this ⊢; exact this)
        have G3 : Hid (GrT w.heap.size W g ro S N Q A gv rows) := G.out.below XB
        have P3 : Hid (FiveB W w.heap.size N B Q E F) := P.out.below XB
        have B3 : Hid (Below w.heap.size w W) := on_below BB.out XB
        clear hp kp XB XW O R G P BB NX LX CH CC BX
        go_wp2_with (at_builtin; refine wpList_addS _ rfl (.tmp 47) (.tmp 49) rfl w.heap.size (.slice a (N + j) c) (N + j) vs rfl (owns_below O3.out (below_alloc _ _)) _ (.slice (some ⟨p, 0, none⟩) B B) rfl rfl (alloc_one _ _) (by omega) (by have := B3.out.size; simp; omega) ?_; intro a4 c4 w4 ho4 hg4 hnc4 hcm4)
        have OA : w.heap.size ≤ (W.alloc (.cells #[.slice (some ⟨p, 0, none⟩) B B] 25)).heap.size := by have := B3.out.size; simp; omega
        have OW := owns_below O3.out (below_alloc W (.cells #[.slice (some ⟨p, 0, none⟩) B B] 25))
        have R4 : Hid (RowsB w.heap.size w4 (vs ++ [.slice (some ⟨p, 0, none⟩) B B]) (compTo N B rows l (j + 1))) := (R3.out.below (below_alloc _ _)).grown OW hg4
        have G4 : Hid (GrT w.heap.size w4 g ro S N Q A gv rows) := (G3.out.below (below_alloc _ _)).grown OW hg4
        have P4 : Hid (FiveB w4 w.heap.size N B Q E F) := (P3.out.below (below_alloc _ _)).grown OW hg4
        have B4 : Hid (Below w.heap.size w w4) := below_ownR (B3.out.alloc B3.out.size _) OW (Nat.le_refl _) OA hg4
        have O4 : Hid (w4.ownsRow w.heap.size 25 1 (.slice a4 (N + j + 1) c4) (N + j + 1) (vs ++ [.slice (some ⟨p, 0, none⟩) B B])) := ho4
        clear ho4 hg4 hnc4 hcm4 OA OW R3 G3 P3 B3 O3
        go_wp2
        go_roundw
        case rel => exact ⟨j + 1, c4, a4, _, by omega, by go_num, rfl, O4, R4, G4, P4, B4⟩
        case measure => simp [intOf]; omega
    · obtain rfl : j = A := by omega
      have RR : Hid (wr.ownsRow w.heap.size 25 1 (.slice a (N + j) c) (N + j) vs ∧ RowsB w.heap.size wr vs (compD N B rows l) ∧ Below w.heap.size w wr) := ⟨O.out, by rw [← compTo_all RW.out.1]; exact R.out, BB.out⟩
      clear O R G P BB
      go_wp2
      go_ret2
      exact ⟨a, c, vs, rfl, RR.out⟩

end Go.Proofs.Ytkcijbejngnalaa
