/-
  ComposeAdds.
-/
import Derived.Test.YtehpbnakdadedaaCAddsM
namespace Go.Proofs.Ytehpbnakdadedaa
open Go.RowKit
set_option linter.unusedVariables false

/-- Two values in a box. -/
def Pair2 (W : World) (b : Nat) (u z : Value) : Prop := W.cell? ⟨b, 0, none⟩ = some u ∧ W.cell? ⟨b, 1, none⟩ = some z
theorem Pair2.below {W W' : World} {b : Nat} {u z : Value} (h : Pair2 W b u z) (hb : Below W.heap.size W W') : Pair2 W' b u z := ⟨(hb.cell (cell_block_lt h.1)).trans h.1, (hb.cell (cell_block_lt h.2)).trans h.2⟩

set_option maxRecDepth 100000 in
set_option maxHeartbeats 8000000 in
theorem composeAdds_walk (N B Q E F : Int) (S : Nat) (u z : Value) (l0 l1 : List UInt8) (w : World) (hS : S < 18446744073709551616) (h0 : Bs w u l0) (h1 : Bs w z l1) :
    Calls Try.prog 7 #[.agg #[.int .i64 N, .int .i64 B, .int .i64 Q, .int .i64 E, .int .i64 F], .int .u64 S, .agg #[u, z]] w fun e w' => e = .returned (.bool true) ∧ Below w.heap.size w w' := by
  have H0 : Hid (Bs w u l0) := h0
  have H1 : Hid (Bs w z l1) := h1
  have HS : Hid (S < 18446744073709551616) := hS
  obtain ⟨-, a0, k0, rfl, g0, f0, -, -⟩ := h0
  obtain ⟨-, a1, k1, rfl, g1, f1, -, -⟩ := h1
  unfold maxLen at f0 f1
  obtain ⟨n0, hn0⟩ : ∃ n, l0.length = n := ⟨_, rfl⟩
  obtain ⟨n1, hn1⟩ : ∃ n, l1.length = n := ⟨_, rfl⟩
  rw [hn0] at g0 H0 ⊢
  rw [hn1] at g1 H1 ⊢
  obtain ⟨n, hn⟩ : ∃ n, min n0 n1 = n := ⟨_, rfl⟩
  have hmin := fun W => min2 n0 n1 (n1 : Int) rfl W
  rw [hn] at hmin
  have le0 : n ≤ n0 := by omega
  have le1 : n ≤ n1 := by omega
  have T0 : Hid (Bs w (.slice a0 n k0) (l0.take n)) := H0.out.take (by omega)
  have T1 : Hid (Bs w (.slice a1 n k1) (l1.take n)) := H1.out.take (by omega)
  have Y0 : Hid ((l0.take n).length = n) := by unfold Hid; rw [List.length_take]; omega
  have Y1 : Hid ((l1.take n).length = n) := by unfold Hid; rw [List.length_take]; omega
  generalize l0.take n = x0 at *
  generalize l1.take n = x1 at *
  clear hn hn0 hn1 hS H0 H1
  go_enter Try.func7, Try.ntmps7
  go_upto_region 1 with fail
  obtain ⟨w0, hw0⟩ : ∃ w0, (w.alloc (.cells #[.int .i64 N, .int .i64 B, .int .i64 Q, .int .i64 E, .int .i64 F] 23)).alloc (.cells #[.slice a0 n0 k0, .slice a1 n1 k1] 51) = w0 := ⟨_, rfl⟩
  have B0 : Hid (Below w.heap.size w w0) := by rw [← hw0]; exact on_below (below_alloc _ _) (below_alloc _ _)
  have P0 : Hid (Five w0 w.heap.size N B Q E F) := by rw [← hw0]; exact (five_new w _ N B Q E F).below (below_alloc _ _)
  obtain ⟨q5, hq5⟩ : ∃ q5, w.heap.size + 1 = q5 := ⟨_, rfl⟩
  have D0 : Hid (Pair2 w0 q5 (.slice a0 n0 k0) (.slice a1 n1 k1)) := by
    rw [← hw0, ← hq5]
    have e : w.heap.size + 1 = (w.alloc (.cells #[.int .i64 N, .int .i64 B, .int .i64 Q, .int .i64 E, .int .i64 F] 23)).heap.size := by simp
    rw [e]
    exact ⟨by simp, by simp⟩
  rw [hw0, hq5]
  clear hw0 hq5
  go_wp2_with fail
  refine (speaks13_any _).mono ?_
  rintro e w1 ⟨rfl, hb⟩
  have B1 : Hid (Below w.heap.size w w1) := on_below B0.out hb
  have P1 : Hid (Five w1 w.heap.size N B Q E F) := P0.out.below hb
  have D1 : Hid (Pair2 w1 q5 (.slice a0 n0 k0) (.slice a1 n1 k1)) := D0.out.below hb
  clear hb P0 D0 B0
  obtain ⟨c0, c1, c2, c3, c4⟩ := P1.out
  obtain ⟨d0, d1⟩ := D1.out
  go_wp2_with fail
  refine (big13_any N B Q E F w1).mono ?_
  rintro e w2 ⟨⟨b, rfl, hb⟩, hx⟩
  have B2 : Hid (Below w.heap.size w w2) := on_below B1.out hx
  have P2 : Hid (Five w2 w.heap.size N B Q E F) := P1.out.below hx
  have D2 : Hid (Pair2 w2 q5 (.slice a0 n0 k0) (.slice a1 n1 k1)) := D1.out.below hx
  clear hx B1 P1 D1 c0 c1 c2 c3 c4 d0 d1
  cases b with
  | true =>
    clear hb
    go_wp2
    go_ret
    exact ⟨rfl, B2.out⟩
  | false =>
    have NB : Hid (¬ bigP N B) := fun h => by have := hb.2 h; cases this
    clear hb
    obtain ⟨c0, c1, c2, c3, c4⟩ := P2.out
    by_cases hm : May N B Q E F
    · have hsm : N ≤ 60 ∧ B ≤ 60 := by have := NB.out; unfold bigP at this; omega
      clear NB
      obtain ⟨N, B, Q, A, rfl, rfl, rfl, hpr⟩ := pr_nat hm
      have CM : Hid (∀ W, Calls Try.prog 15 #[.agg #[.int .i64 (N : Int), .int .i64 (B : Int), .int .i64 (Q : Int), .int .i64 E, .int .i64 F]] W fun e w' => e = .returned (.bool true) ∧ Below W.heap.size W w') := fun W => rmay_yes N B Q E F W hm
      have hN60 : N ≤ 60 := by omega
      have hB60 : B ≤ 60 := by omega
      have hA6 : A ≤ 1000000 := may_small hpr (by omega)
      have PR : Hid (PrOk (N : Int) (B : Int) (Q : Int) E F N Q A) := hpr
      have hP : N * B ≤ 3600 := Nat.mul_le_mul hN60 hB60
      have wm : IntKind.i64.wrap ((N : Int) * (B : Int)) = ((N * B : Nat) : Int) := by rw [IntKind.wrap_i64]; simp; omega
      by_cases hl : n ≤ N * B
      · have CB : Hid (∀ W (v : Value) (x : List UInt8), x.length = n → Bs W v x → Calls Try.prog 14 #[.agg #[.int .i64 (N : Int), .int .i64 (B : Int), .int .i64 (Q : Int), .int .i64 E, .int .i64 F], .int .u64 (S : Int), v] W fun e w' => ∃ v, e = .returned v ∧ IsBt (N + A) (compD N B (hasR S A Q N) x) v w' ∧ Below W.heap.size W w') := by
          intro W v x hx hv
          refine (cblocks_yes N B Q A S E F v x W PR.out HS.out hv (by rw [hx]; exact hl)).mono ?_
          rintro e w' ⟨a, c, vs, rfl, ho, hr, hb⟩
          have e : vs.length = N + A := by have := ho.1; omega
          exact ⟨_, rfl, ⟨a, c, vs, rfl, by rw [e]; exact owned_sl ho, hr.parts⟩, hb⟩
        have RW : Hid (RwOk N A (hasR S A Q N)) := hasR_rw S A Q N
        have hle : ¬ (n : Int) > ((N * B : Nat) : Int) := by omega
        have hn63 : n ≤ 3600 := by omega
        clear hl hP hm hpr hsm
        generalize N * B = P at *
        have hnP : n ≤ P := by omega
        generalize hasR S A Q N = rows at *
        go_wp2_with fail
        refine (CM.out _).mono ?_
        rintro e w3 ⟨rfl, hb3⟩
        have B3 : Hid (Below w.heap.size w w3) := on_below B2.out hb3
        have P3 : Hid (Five w3 w.heap.size N B Q E F) := P2.out.below hb3
        have D3 : Hid (Pair2 w3 q5 (.slice a0 n0 k0) (.slice a1 n1 k1)) := D2.out.below hb3
        clear hb3 CM P2 D2 B2 c0 c1 c2 c3 c4
        obtain ⟨c0, c1, c2, c3, c4⟩ := P3.out
        have s0 := fun W => slice_to W a0 n0 k0 n (by omega)
        have s1 := fun W => slice_to W a1 n1 k1 n (by omega)
        obtain ⟨D0, hD0⟩ : ∃ D, compD N B rows x0 = D := ⟨_, rfl⟩
        obtain ⟨D1, hD1⟩ : ∃ D, compD N B rows x1 = D := ⟨_, rfl⟩
        obtain ⟨D2, hD2⟩ : ∃ D, compD N B rows (xorL x0 x1) = D := ⟨_, rfl⟩
        have L0 : Hid (D0.length = N + A) := by unfold Hid; rw [← hD0, compD_length, RW.out.1]
        have L1 : Hid (D1.length = N + A) := by unfold Hid; rw [← hD1, compD_length, RW.out.1]
        have L2 : Hid (D2.length = N + A) := by unfold Hid; rw [← hD2, compD_length, RW.out.1]
        have ADD : Hid (∀ (i : Nat) (x y : List UInt8), D0[i]? = some x → D1[i]? = some y → D2[i]? = some (xorL x y) ∧ x.length = B ∧ y.length = B) := by
          intro i x y hx hy
          rw [← hD2]
          rw [← hD0] at hx
          rw [← hD1] at hy
          exact ⟨comp_two_at N B rows (by rw [Y1.out, Y0.out]) hx hy, compD_mem RW.out _ (List.mem_of_getElem? hx), compD_mem RW.out _ (List.mem_of_getElem? hy)⟩
        have BX : Hid (∀ W, Below w3.heap.size w3 W → Five W w.heap.size N B Q E F) := fun W hW => P3.out.below hW
        have BY : Hid (∀ W, Below w3.heap.size w3 W → Pair2 W q5 (.slice a0 n0 k0) (.slice a1 n1 k1)) := fun W hW => D3.out.below hW
        have C0 : Hid (∀ W, Below w3.heap.size w3 W → Calls Try.prog 14 #[.agg #[.int .i64 (N : Int), .int .i64 (B : Int), .int .i64 (Q : Int), .int .i64 E, .int .i64 F], .int .u64 (S : Int), .slice a0 n k0] W fun e w' => ∃ v, e = .returned v ∧ IsBt (N + A) D0 v w' ∧ Below W.heap.size W w') := by
          intro W hW
          have := CB.out W _ x0 Y0.out (T0.out.below (on_below B3.out hW))
          rw [hD0] at this
          exact this
        have XX : Hid (∀ W, Below w3.heap.size w3 W → Calls Try.prog 14 #[.agg #[.int .i64 (N : Int), .int .i64 (B : Int), .int .i64 (Q : Int), .int .i64 E, .int .i64 F], .int .u64 (S : Int), .slice a1 n k1] W fun e w' => ∃ v, e = .returned v ∧ IsBt (N + A) D1 v w' ∧ Below W.heap.size W w') := by
          intro W hW
          have := CB.out W _ x1 Y1.out (T1.out.below (on_below B3.out hW))
          rw [hD1] at this
          exact this
        have CZ : Hid (∀ W v, Below w3.heap.size w3 W → IsBs (xorL x0 x1) v W → Calls Try.prog 14 #[.agg #[.int .i64 (N : Int), .int .i64 (B : Int), .int .i64 (Q : Int), .int .i64 E, .int .i64 F], .int .u64 (S : Int), v] W fun e w' => ∃ v, e = .returned v ∧ IsBt (N + A) D2 v w' ∧ Below W.heap.size W w') := by
          intro W v hW hv
          have := CB.out W v (xorL x0 x1) (by rw [xorL_length (by rw [Y1.out, Y0.out]), Y0.out]) hv
          rw [hD2] at this
          exact this
        have CS : Hid (∀ W v, Below w3.heap.size w3 W → IsRow [.slice a0 n k0, .slice a1 n k1] v W → Calls Try.prog 23 #[.int .i64 n, v] W fun e w' => ∃ v, e = .returned v ∧ IsBs (xorL x0 x1) v w' ∧ Below W.heap.size W w') := by
          intro W v hW hv
          have h3 := on_below B3.out hW
          refine (rsum_any n v [.slice a0 n k0, .slice a1 n k1] [x0, x1] W (by omega) (row_sl hv (by simp)) (parts_two (T0.out.below h3) (T1.out.below h3)) (fitB_of (by intro y hy; simp at hy; rcases hy with rfl | rfl; exact Y0.out; exact Y1.out))).mono ?_
          rintro e w' ⟨rfl, h5, h6⟩
          rw [xorAll_first Y0.out] at h5
          exact ⟨_, rfl, h5.bs0 n n (by show n = (xorL x0 x1).length; rw [xorL_length (by rw [Y1.out, Y0.out]), Y0.out]) (Nat.le_refl _) (by unfold maxLen; omega), h6⟩
        clear hD0 hD1 hD2 CB P3 D3
        go_upto_region 6 with fail
        clear c0 c1 c2 c3 c4
        refine wp_region_any (by kernel_rfl) ?_
        obtain ⟨gs, hgs⟩ : ∃ gs : List (Value → World → Prop), gs = [IsV (.agg #[.int .i64 (N : Int), .int .i64 (B : Int), .int .i64 (Q : Int), .int .i64 E, .int .i64 F]), IsV (Value.int IntKind.u64 ↑S), IsV (.pointer (some ⟨q5, 0, none⟩)), IsV (.slice a0 n0 k0), IsV (Value.int IntKind.i64 ↑n), IsV (.slice a0 n k0), IsAnyV, IsAnyV, IsAnyV, IsV (.int .i64 0), IsAnyV, IsV (.int .i64 0)] := ⟨_, rfl⟩
        have g0 : Hid (gs[0]? = some (IsV (.agg #[.int .i64 (N : Int), .int .i64 (B : Int), .int .i64 (Q : Int), .int .i64 E, .int .i64 F]))) := by unfold Hid; rw [hgs]; rfl
        have g1 : Hid (gs[1]? = some (IsV (Value.int IntKind.u64 ↑S))) := by unfold Hid; rw [hgs]; rfl
        have g2 : Hid (gs[2]? = some (IsV (.pointer (some ⟨q5, 0, none⟩)))) := by unfold Hid; rw [hgs]; rfl
        have g3 : Hid (gs[3]? = some (IsV (.slice a0 n0 k0))) := by unfold Hid; rw [hgs]; rfl
        have g4 : Hid (gs[4]? = some (IsV (Value.int IntKind.i64 ↑n))) := by unfold Hid; rw [hgs]; rfl
        have g5 : Hid (gs[5]? = some (IsV (.slice a0 n k0))) := by unfold Hid; rw [hgs]; rfl
        have g6 : Hid (gs[6]? = some (IsAnyV)) := by unfold Hid; rw [hgs]; rfl
        have g7 : Hid (gs[7]? = some (IsAnyV)) := by unfold Hid; rw [hgs]; rfl
        have g8 : Hid (gs[8]? = some (IsAnyV)) := by unfold Hid; rw [hgs]; rfl
        have g9 : Hid (gs[9]? = some (IsV (.int .i64 0))) := by unfold Hid; rw [hgs]; rfl
        have g10 : Hid (gs[10]? = some (IsAnyV)) := by unfold Hid; rw [hgs]; rfl
        have g11 : Hid (gs[11]? = some (IsV (.int .i64 0))) := by unfold Hid; rw [hgs]; rfl
        have gk : Hid (∀ p ∈ gs, ∀ v (U U' : World), p v U → p v U') := by
          unfold Hid
          rw [hgs]
          simp only [List.forall_mem_cons]
          exact ⟨(fun _ _ _ h => h), (fun _ _ _ h => h), (fun _ _ _ h => h), (fun _ _ _ h => h), (fun _ _ _ h => h), (fun _ _ _ h => h), (fun _ _ _ h => h), (fun _ _ _ h => h), (fun _ _ _ h => h), (fun _ _ _ h => h), (fun _ _ _ h => h), (fun _ _ _ h => h), by simp⟩
        clear hgs
        have JS : Hid (∀ W W', Below W.heap.size W W' → (fun W => Below w3.heap.size w3 W) W → (fun W => Below w3.heap.size w3 W) W') := fun W W' hb h => h.trans (hb.mono h.size)
        have st6 : Hid (Stays (IsBt (N + A) D0)) := stays_bt _ _
        have st7 : Hid (Stays (IsBt (N + A) D0)) := stays_bt _ _
        have st8 : Hid (Stays (IsBv (N + A) D0)) := stays_bv _ _
        have st10 : Hid (Stays (IsBv (N + A) D0)) := stays_bv _ _
        refine wpAny_inv4 (fun listed ac W => ∃ xv : Nat → Value, ac = ⟨#[Value.agg #[Value.int IntKind.i64 ↑N, Value.int IntKind.i64 ↑B, Value.int IntKind.i64 ↑Q, Value.int IntKind.i64 E, Value.int IntKind.i64 F], Value.int IntKind.u64 ↑S, Value.agg #[Value.slice a0 n0 k0, Value.slice a1 n1 k1], Value.pointer (some { block := w.heap.size, off := 0 }), undef, Value.pointer (some { block := q5, off := 0 }), Value.bool false, Value.int IntKind.i64 ↑n, xv 10, xv 11, undef, undef, undef, undef, undef, Value.bool true, Value.bool false, Value.pointer (some { block := q5, off := 0 }), Value.slice a0 n0 k0, Value.int IntKind.i64 ↑n0, Value.pointer (some { block := q5, off := 1 }), Value.slice a1 n1 k1, Value.int IntKind.i64 ↑n1, Value.int IntKind.i64 ↑n, Value.agg #[Value.int IntKind.i64 ↑N, Value.int IntKind.i64 ↑B, Value.int IntKind.i64 ↑Q, Value.int IntKind.i64 E, Value.int IntKind.i64 F], Value.bool false, Value.bool false, Value.agg #[Value.int IntKind.i64 ↑N, Value.int IntKind.i64 ↑B, Value.int IntKind.i64 ↑Q, Value.int IntKind.i64 E, Value.int IntKind.i64 F], Value.bool true, Value.bool false, Value.bool false, Value.bool false, Value.int IntKind.i64 ↑n, Value.pointer (some { block := w.heap.size, off := 0 }), Value.int IntKind.i64 ↑N, Value.pointer (some { block := w.heap.size, off := 1 }), Value.int IntKind.i64 ↑B, Value.int IntKind.i64 ↑P, Value.bool (decide (P < n)), Value.bool (decide (P < n)), xv 7, xv 0, xv 1, xv 2, xv 3, xv 4, xv 5, xv 6, xv 8, xv 9, undef, undef, undef, undef, undef, undef, undef, undef, undef, undef, undef, undef, undef, undef, undef, undef, undef, undef, undef, undef, undef, undef, undef, undef, undef, undef, undef, undef, undef, undef, undef, undef, undef, undef, undef, undef, undef, undef, undef, undef, undef, undef, undef, undef, undef, undef, undef, undef, undef, undef, undef, undef, undef, undef, undef, undef, undef, undef, undef, undef, undef, undef, undef, undef, undef, undef, undef, undef, undef, undef, undef, undef, undef, undef, undef, undef, undef, undef, undef, undef, undef, undef, undef, undef, undef, undef, undef, undef, undef, undef, undef, undef, undef, undef, undef, undef], []⟩ ∧ (fun W => Below w3.heap.size w3 W) W ∧ Lst gs listed xv W ∧ Fe listed xv W 6 (IsBt (N + A) D0) ∧ Fe listed xv W 7 (IsBt (N + A) D0) ∧ Fe listed xv W 8 (IsBv (N + A) D0) ∧ Fe listed xv W 10 (IsBv (N + A) D0)) (by kernel_rfl) ?_ ?_ _ _ _ _ (by kernel_rfl) (of_decide_eq_true (by kernel_rfl)) (Down.start _) ⟨fun jx => undef, rfl, below0 _, Lst.start _ _ _ _, Fe.start _ _ _ _ _, Fe.start _ _ _ _ _, Fe.start _ _ _ _ _, Fe.start _ _ _ _ _⟩
        · rintro listed ac W ⟨xv, rfl, hb, hG, hF6, hF7, hF8, hF10⟩ hD i hi hnl hd
          have hin : i < 12 := hi
          clear hi
          have hcase : i = 0 ∨ i = 1 ∨ i = 2 ∨ i = 3 ∨ i = 4 ∨ i = 5 ∨ i = 6 ∨ i = 7 ∨ i = 8 ∨ i = 9 ∨ i = 10 ∨ i = 11 := by omega
          rcases hcase with rfl | rfl | rfl | rfl | rfl | rfl | rfl | rfl | rfl | rfl | rfl | rfl
          · refine wpOp_step rfl (fun K' hK => ?_)
            obtain ⟨c0, c1, c2, c3, c4⟩ := BX.out W hb
            clear hd hin hD
            go_simp
            exact hK _ _ ⟨updV xv 0 (.agg #[.int .i64 (N : Int), .int .i64 (B : Int), .int .i64 (Q : Int), .int .i64 E, .int .i64 F]), by simp [updV, hnP], hb, hG.any gk.out g0.out _ rfl, hF6.step (fun _ h => h) (by decide) _, hF7.step (fun _ h => h) (by decide) _, hF8.step (fun _ h => h) (by decide) _, hF10.step (fun _ h => h) (by decide) _⟩
          · refine wpOp_step rfl (fun K' hK => ?_)
            clear hd hin hD
            go_simp
            exact hK _ _ ⟨updV xv 1 (Value.int IntKind.u64 ↑S), by simp [updV, hnP], hb, hG.any gk.out g1.out _ rfl, hF6.step (fun _ h => h) (by decide) _, hF7.step (fun _ h => h) (by decide) _, hF8.step (fun _ h => h) (by decide) _, hF10.step (fun _ h => h) (by decide) _⟩
          · refine wpOp_step rfl (fun K' hK => ?_)
            clear hd hin hD
            go_simp
            exact hK _ _ ⟨updV xv 2 (.pointer (some ⟨q5, 0, none⟩)), by simp [updV, hnP], hb, hG.any gk.out g2.out _ rfl, hF6.step (fun _ h => h) (by decide) _, hF7.step (fun _ h => h) (by decide) _, hF8.step (fun _ h => h) (by decide) _, hF10.step (fun _ h => h) (by decide) _⟩
          · refine wpOp_step rfl (fun K' hK => ?_)
            simp [Region.binds] at hd
            have e2 : xv 2 = .pointer (some ⟨q5, 0, none⟩) := hG.get g2.out (by simp [hd])
            obtain ⟨c0, c1⟩ := BY.out W hb
            clear hd hin hD
            go_simp
            exact hK _ _ ⟨updV xv 3 (.slice a0 n0 k0), by simp [updV, e2, hnP], hb, hG.any gk.out g3.out _ rfl, hF6.step (fun _ h => h) (by decide) _, hF7.step (fun _ h => h) (by decide) _, hF8.step (fun _ h => h) (by decide) _, hF10.step (fun _ h => h) (by decide) _⟩
          · refine wpOp_step rfl (fun K' hK => ?_)
            clear hd hin hD
            go_simp
            exact hK _ _ ⟨updV xv 4 (Value.int IntKind.i64 ↑n), by simp [updV, hnP], hb, hG.any gk.out g4.out _ rfl, hF6.step (fun _ h => h) (by decide) _, hF7.step (fun _ h => h) (by decide) _, hF8.step (fun _ h => h) (by decide) _, hF10.step (fun _ h => h) (by decide) _⟩
          · refine wpOp_step rfl (fun K' hK => ?_)
            simp [Region.binds] at hd
            have e3 : xv 3 = .slice a0 n0 k0 := hG.get g3.out (by simp [hd])
            have e4 : xv 4 = Value.int IntKind.i64 ↑n := hG.get g4.out (by simp [hd])
            have hs := s0 W
            clear hd hin hD
            go_simp
            exact hK _ _ ⟨updV xv 5 (.slice a0 n k0), by simp [updV, e3, e4, hnP], hb, hG.any gk.out g5.out _ rfl, hF6.step (fun _ h => h) (by decide) _, hF7.step (fun _ h => h) (by decide) _, hF8.step (fun _ h => h) (by decide) _, hF10.step (fun _ h => h) (by decide) _⟩
          · refine wpOp_step rfl (fun K' hK => ?_)
            simp [Region.binds] at hd
            have e0 : xv 0 = .agg #[.int .i64 (N : Int), .int .i64 (B : Int), .int .i64 (Q : Int), .int .i64 E, .int .i64 F] := hG.get g0.out (by simp [hd])
            have e1 : xv 1 = Value.int IntKind.u64 ↑S := hG.get g1.out (by simp [hd])
            have e5 : xv 5 = .slice a0 n k0 := hG.get g5.out (by simp [hd])
            clear hd hin hD
            go_simp
            refine (C0.out W hb).mono ?_
            rintro e w' ⟨v, rfl, hv, hb'⟩
            go_wp2_with fail
            exact ⟨updV xv 6 v, by simp [updV, e0, e1, e5, hnP], JS.out _ _ hb' hb, hG.any gk.out g6.out v trivial, Fe.new (hv), hF7.on st7.out hb' (by decide) _, hF8.on st8.out hb' (by decide) _, hF10.on st10.out hb' (by decide) _⟩
          · refine wpOp_step rfl (fun K' hK => ?_)
            simp [Region.binds] at hd
            have l6 : listed.getD 6 false = true := by simp [hd]
            have m6 := hF6 l6
            clear hd hin hD
            go_simp
            exact hK _ _ ⟨updV xv 7 (xv 6), by simp [updV, hnP], hb, hG.any gk.out g7.out _ trivial, hF6.step (fun _ h => h) (by decide) _, Fe.new (m6), hF8.step (fun _ h => h) (by decide) _, hF10.step (fun _ h => h) (by decide) _⟩
          · refine wpOp_step rfl (fun K' hK => ?_)
            simp [Region.binds] at hd
            have l7 : listed.getD 7 false = true := by simp [hd]
            have m7 := hF7 l7
            clear hd hin hD
            obtain ⟨a7, c7, vs7, e7, h7, k7⟩ := m7
            go_simp
            exact hK _ _ ⟨updV xv 8 (.slice a7 (N + A) c7), by simp [updV, e7, hnP], hb, hG.any gk.out g8.out _ trivial, hF6.step (fun _ h => h) (by decide) _, hF7.step (fun _ h => h) (by decide) _, Fe.new (⟨a7, c7, vs7, rfl, h7, k7⟩), hF10.step (fun _ h => h) (by decide) _⟩
          · refine wpOp_step rfl (fun K' hK => ?_)
            simp [Region.binds] at hd
            have l7 : listed.getD 7 false = true := by simp [hd]
            have m7 := hF7 l7
            clear hd hin hD
            obtain ⟨a7, c7, vs7, e7, h7, k7⟩ := m7
            go_simp
            exact hK _ _ ⟨updV xv 9 (.int .i64 0), by simp [updV, e7, hnP], hb, hG.any gk.out g9.out _ rfl, hF6.step (fun _ h => h) (by decide) _, hF7.step (fun _ h => h) (by decide) _, hF8.step (fun _ h => h) (by decide) _, hF10.step (fun _ h => h) (by decide) _⟩
          · refine wpOp_step rfl (fun K' hK => ?_)
            simp [Region.binds] at hd
            have l8 : listed.getD 8 false = true := by simp [hd]
            have m8 := hF8 l8
            clear hd hin hD
            go_simp
            exact hK _ _ ⟨updV xv 10 (xv 8), by simp [updV, hnP], hb, hG.any gk.out g10.out _ trivial, hF6.step (fun _ h => h) (by decide) _, hF7.step (fun _ h => h) (by decide) _, hF8.step (fun _ h => h) (by decide) _, Fe.new (m8)⟩
          · refine wpOp_step rfl (fun K' hK => ?_)
            simp [Region.binds] at hd
            have e9 : xv 9 = .int .i64 0 := hG.get g9.out (by simp [hd])
            clear hd hin hD
            go_simp
            exact hK _ _ ⟨updV xv 11 (.int .i64 0), by simp [updV, e9, hnP], hb, hG.any gk.out g11.out _ rfl, hF6.step (fun _ h => h) (by decide) _, hF7.step (fun _ h => h) (by decide) _, hF8.step (fun _ h => h) (by decide) _, hF10.step (fun _ h => h) (by decide) _⟩
        · rintro listed ac W ⟨xv, rfl, hb, hG, hF6, hF7, hF8, hF10⟩ hall
          have m10 : Hid ((IsBv (N + A) D0) (xv 10) W) := hF10 (hall 10 (by decide))
          have e11 : xv 11 = .int .i64 0 := hG.get g11.out (hall 11 (by decide))
          have XW : Hid ((fun W => Below w3.heap.size w3 W) W) := hb
          clear hall hG hb gk JS g0 g1 g2 g3 g4 g5 g6 g7 g8 g9 g10 g11 hF6 st6 hF7 st7 hF8 st8 hF10 st10
          rw [e11]
          clear e11
          obtain ⟨b0, t0, us0, e10, h10, k10⟩ := m10.out
          rw [e10]
          have M0 : Hid (∀ U, Below W.heap.size W U → Sl 1 U (.slice b0 (N + A) t0) us0.length us0 ∧ Parts U us0 D0) := fun U hU => ⟨h10.below hU, k10.below hU⟩
          have X4 : Hid (Below w3.heap.size w3 W) := XW.out
          clear m10 e10 h10 k10 XW
          obtain ⟨w4, hw4⟩ : ∃ w4, w4 = W := ⟨_, rfl⟩
          subst hw4
          have BX4 : Hid (∀ U, Below w4.heap.size w4 U → Five U w.heap.size N B Q E F) := fun U hU => BX.out U (on_below X4.out hU)
          have BY4 : Hid (∀ U, Below w4.heap.size w4 U → Pair2 U q5 (.slice a0 n0 k0) (.slice a1 n1 k1)) := fun U hU => BY.out U (on_below X4.out hU)
          have C1 : Hid (∀ U, Below w4.heap.size w4 U → Calls Try.prog 14 #[.agg #[.int .i64 (N : Int), .int .i64 (B : Int), .int .i64 (Q : Int), .int .i64 E, .int .i64 F], .int .u64 (S : Int), .slice a1 n k1] U fun e w' => ∃ v, e = .returned v ∧ IsBt (N + A) D1 v w' ∧ Below U.heap.size U w') := fun U hU => XX.out U (on_below X4.out hU)
          clear XX C0
          go_upto_region 7 with fail
          refine wp_region_any (by kernel_rfl) ?_
          obtain ⟨gs, hgs⟩ : ∃ gs : List (Value → World → Prop), gs = [IsV (.agg #[.int .i64 (N : Int), .int .i64 (B : Int), .int .i64 (Q : Int), .int .i64 E, .int .i64 F]), IsV (Value.int IntKind.u64 ↑S), IsV (.pointer (some ⟨q5, 1, none⟩)), IsV (.slice a1 n1 k1), IsV (Value.int IntKind.i64 ↑n), IsV (.slice a1 n k1), IsAnyV, IsAnyV, IsAnyV, IsV (.int .i64 0), IsAnyV, IsV (.int .i64 0)] := ⟨_, rfl⟩
          have g0 : Hid (gs[0]? = some (IsV (.agg #[.int .i64 (N : Int), .int .i64 (B : Int), .int .i64 (Q : Int), .int .i64 E, .int .i64 F]))) := by unfold Hid; rw [hgs]; rfl
          have g1 : Hid (gs[1]? = some (IsV (Value.int IntKind.u64 ↑S))) := by unfold Hid; rw [hgs]; rfl
          have g2 : Hid (gs[2]? = some (IsV (.pointer (some ⟨q5, 1, none⟩)))) := by unfold Hid; rw [hgs]; rfl
          have g3 : Hid (gs[3]? = some (IsV (.slice a1 n1 k1))) := by unfold Hid; rw [hgs]; rfl
          have g4 : Hid (gs[4]? = some (IsV (Value.int IntKind.i64 ↑n))) := by unfold Hid; rw [hgs]; rfl
          have g5 : Hid (gs[5]? = some (IsV (.slice a1 n k1))) := by unfold Hid; rw [hgs]; rfl
          have g6 : Hid (gs[6]? = some (IsAnyV)) := by unfold Hid; rw [hgs]; rfl
          have g7 : Hid (gs[7]? = some (IsAnyV)) := by unfold Hid; rw [hgs]; rfl
          have g8 : Hid (gs[8]? = some (IsAnyV)) := by unfold Hid; rw [hgs]; rfl
          have g9 : Hid (gs[9]? = some (IsV (.int .i64 0))) := by unfold Hid; rw [hgs]; rfl
          have g10 : Hid (gs[10]? = some (IsAnyV)) := by unfold Hid; rw [hgs]; rfl
          have g11 : Hid (gs[11]? = some (IsV (.int .i64 0))) := by unfold Hid; rw [hgs]; rfl
          have gk : Hid (∀ p ∈ gs, ∀ v (U U' : World), p v U → p v U') := by
            unfold Hid
            rw [hgs]
            simp only [List.forall_mem_cons]
            exact ⟨(fun _ _ _ h => h), (fun _ _ _ h => h), (fun _ _ _ h => h), (fun _ _ _ h => h), (fun _ _ _ h => h), (fun _ _ _ h => h), (fun _ _ _ h => h), (fun _ _ _ h => h), (fun _ _ _ h => h), (fun _ _ _ h => h), (fun _ _ _ h => h), (fun _ _ _ h => h), by simp⟩
          clear hgs
          have JS : Hid (∀ Wb Wb', Below Wb.heap.size Wb Wb' → (fun Wb => Below w4.heap.size w4 Wb) Wb → (fun Wb => Below w4.heap.size w4 Wb) Wb') := fun Wb Wb' hb h => h.trans (hb.mono h.size)
          have st6 : Hid (Stays (IsBt (N + A) D1)) := stays_bt _ _
          have st7 : Hid (Stays (IsBt (N + A) D1)) := stays_bt _ _
          have st8 : Hid (Stays (IsBv (N + A) D1)) := stays_bv _ _
          have st10 : Hid (Stays (IsBv (N + A) D1)) := stays_bv _ _
          refine wpAny_inv4 (fun listed ac Wb => ∃ xvb : Nat → Value, ac = ⟨#[Value.agg #[Value.int IntKind.i64 ↑N, Value.int IntKind.i64 ↑B, Value.int IntKind.i64 ↑Q, Value.int IntKind.i64 E, Value.int IntKind.i64 F], Value.int IntKind.u64 ↑S, Value.agg #[Value.slice a0 n0 k0, Value.slice a1 n1 k1], Value.pointer (some { block := w.heap.size, off := 0 }), undef, Value.pointer (some { block := q5, off := 0 }), Value.bool false, Value.int IntKind.i64 ↑n, Value.slice b0 (N + A) t0, Value.int IntKind.i64 (0 : Int), xvb 10, xvb 11, undef, undef, undef, Value.bool true, Value.bool false, Value.pointer (some { block := q5, off := 0 }), Value.slice a0 n0 k0, Value.int IntKind.i64 ↑n0, Value.pointer (some { block := q5, off := 1 }), Value.slice a1 n1 k1, Value.int IntKind.i64 ↑n1, Value.int IntKind.i64 ↑n, Value.agg #[Value.int IntKind.i64 ↑N, Value.int IntKind.i64 ↑B, Value.int IntKind.i64 ↑Q, Value.int IntKind.i64 E, Value.int IntKind.i64 F], Value.bool false, Value.bool false, Value.agg #[Value.int IntKind.i64 ↑N, Value.int IntKind.i64 ↑B, Value.int IntKind.i64 ↑Q, Value.int IntKind.i64 E, Value.int IntKind.i64 F], Value.bool true, Value.bool false, Value.bool false, Value.bool false, Value.int IntKind.i64 ↑n, Value.pointer (some { block := w.heap.size, off := 0 }), Value.int IntKind.i64 ↑N, Value.pointer (some { block := w.heap.size, off := 1 }), Value.int IntKind.i64 ↑B, Value.int IntKind.i64 ↑P, Value.bool (decide (P < n)), Value.bool (decide (P < n)), xv 7, xv 0, xv 1, xv 2, xv 3, xv 4, xv 5, xv 6, xv 8, xv 9, xvb 7, xvb 0, xvb 1, xvb 2, xvb 3, xvb 4, xvb 5, xvb 6, xvb 8, xvb 9, undef, undef, undef, undef, undef, undef, undef, undef, undef, undef, undef, undef, undef, undef, undef, undef, undef, undef, undef, undef, undef, undef, undef, undef, undef, undef, undef, undef, undef, undef, undef, undef, undef, undef, undef, undef, undef, undef, undef, undef, undef, undef, undef, undef, undef, undef, undef, undef, undef, undef, undef, undef, undef, undef, undef, undef, undef, undef, undef, undef, undef, undef, undef, undef, undef, undef, undef, undef, undef, undef, undef, undef, undef, undef, undef, undef, undef, undef, undef, undef, undef, undef, undef, undef, undef, undef], []⟩ ∧ (fun Wb => Below w4.heap.size w4 Wb) Wb ∧ Lst gs listed xvb Wb ∧ Fe listed xvb Wb 6 (IsBt (N + A) D1) ∧ Fe listed xvb Wb 7 (IsBt (N + A) D1) ∧ Fe listed xvb Wb 8 (IsBv (N + A) D1) ∧ Fe listed xvb Wb 10 (IsBv (N + A) D1)) (by kernel_rfl) ?_ ?_ _ _ _ _ (by kernel_rfl) (of_decide_eq_true (by kernel_rfl)) (Down.start _) ⟨fun jx => undef, rfl, below0 _, Lst.start _ _ _ _, Fe.start _ _ _ _ _, Fe.start _ _ _ _ _, Fe.start _ _ _ _ _, Fe.start _ _ _ _ _⟩
          · rintro listed ac Wb ⟨xvb, rfl, hb, hG, hF6, hF7, hF8, hF10⟩ hD i hi hnl hd
            have hin : i < 12 := hi
            clear hi
            have hcase : i = 0 ∨ i = 1 ∨ i = 2 ∨ i = 3 ∨ i = 4 ∨ i = 5 ∨ i = 6 ∨ i = 7 ∨ i = 8 ∨ i = 9 ∨ i = 10 ∨ i = 11 := by omega
            rcases hcase with rfl | rfl | rfl | rfl | rfl | rfl | rfl | rfl | rfl | rfl | rfl | rfl
            · refine wpOp_step rfl (fun K' hK => ?_)
              obtain ⟨c0, c1, c2, c3, c4⟩ := BX4.out Wb hb
              clear hd hin hD
              go_simp
              exact hK _ _ ⟨updV xvb 0 (.agg #[.int .i64 (N : Int), .int .i64 (B : Int), .int .i64 (Q : Int), .int .i64 E, .int .i64 F]), by simp [updV, hnP], hb, hG.any gk.out g0.out _ rfl, hF6.step (fun _ h => h) (by decide) _, hF7.step (fun _ h => h) (by decide) _, hF8.step (fun _ h => h) (by decide) _, hF10.step (fun _ h => h) (by decide) _⟩
            · refine wpOp_step rfl (fun K' hK => ?_)
              clear hd hin hD
              go_simp
              exact hK _ _ ⟨updV xvb 1 (Value.int IntKind.u64 ↑S), by simp [updV, hnP], hb, hG.any gk.out g1.out _ rfl, hF6.step (fun _ h => h) (by decide) _, hF7.step (fun _ h => h) (by decide) _, hF8.step (fun _ h => h) (by decide) _, hF10.step (fun _ h => h) (by decide) _⟩
            · refine wpOp_step rfl (fun K' hK => ?_)
              clear hd hin hD
              go_simp
              exact hK _ _ ⟨updV xvb 2 (.pointer (some ⟨q5, 1, none⟩)), by simp [updV, hnP], hb, hG.any gk.out g2.out _ rfl, hF6.step (fun _ h => h) (by decide) _, hF7.step (fun _ h => h) (by decide) _, hF8.step (fun _ h => h) (by decide) _, hF10.step (fun _ h => h) (by decide) _⟩
            · refine wpOp_step rfl (fun K' hK => ?_)
              simp [Region.binds] at hd
              have e2 : xvb 2 = .pointer (some ⟨q5, 1, none⟩) := hG.get g2.out (by simp [hd])
              obtain ⟨c0, c1⟩ := BY4.out Wb hb
              clear hd hin hD
              go_simp
              exact hK _ _ ⟨updV xvb 3 (.slice a1 n1 k1), by simp [updV, e2, hnP], hb, hG.any gk.out g3.out _ rfl, hF6.step (fun _ h => h) (by decide) _, hF7.step (fun _ h => h) (by decide) _, hF8.step (fun _ h => h) (by decide) _, hF10.step (fun _ h => h) (by decide) _⟩
            · refine wpOp_step rfl (fun K' hK => ?_)
              clear hd hin hD
              go_simp
              exact hK _ _ ⟨updV xvb 4 (Value.int IntKind.i64 ↑n), by simp [updV, hnP], hb, hG.any gk.out g4.out _ rfl, hF6.step (fun _ h => h) (by decide) _, hF7.step (fun _ h => h) (by decide) _, hF8.step (fun _ h => h) (by decide) _, hF10.step (fun _ h => h) (by decide) _⟩
            · refine wpOp_step rfl (fun K' hK => ?_)
              simp [Region.binds] at hd
              have e3 : xvb 3 = .slice a1 n1 k1 := hG.get g3.out (by simp [hd])
              have e4 : xvb 4 = Value.int IntKind.i64 ↑n := hG.get g4.out (by simp [hd])
              have hs := s1 Wb
              clear hd hin hD
              go_simp
              exact hK _ _ ⟨updV xvb 5 (.slice a1 n k1), by simp [updV, e3, e4, hnP], hb, hG.any gk.out g5.out _ rfl, hF6.step (fun _ h => h) (by decide) _, hF7.step (fun _ h => h) (by decide) _, hF8.step (fun _ h => h) (by decide) _, hF10.step (fun _ h => h) (by decide) _⟩
            · refine wpOp_step rfl (fun K' hK => ?_)
              simp [Region.binds] at hd
              have e0 : xvb 0 = .agg #[.int .i64 (N : Int), .int .i64 (B : Int), .int .i64 (Q : Int), .int .i64 E, .int .i64 F] := hG.get g0.out (by simp [hd])
              have e1 : xvb 1 = Value.int IntKind.u64 ↑S := hG.get g1.out (by simp [hd])
              have e5 : xvb 5 = .slice a1 n k1 := hG.get g5.out (by simp [hd])
              clear hd hin hD
              go_simp
              refine (C1.out Wb hb).mono ?_
              rintro e w' ⟨v, rfl, hv, hb'⟩
              go_wp2_with fail
              exact ⟨updV xvb 6 v, by simp [updV, e0, e1, e5, hnP], JS.out _ _ hb' hb, hG.any gk.out g6.out v trivial, Fe.new (hv), hF7.on st7.out hb' (by decide) _, hF8.on st8.out hb' (by decide) _, hF10.on st10.out hb' (by decide) _⟩
            · refine wpOp_step rfl (fun K' hK => ?_)
              simp [Region.binds] at hd
              have l6 : listed.getD 6 false = true := by simp [hd]
              have m6 := hF6 l6
              clear hd hin hD
              go_simp
              exact hK _ _ ⟨updV xvb 7 (xvb 6), by simp [updV, hnP], hb, hG.any gk.out g7.out _ trivial, hF6.step (fun _ h => h) (by decide) _, Fe.new (m6), hF8.step (fun _ h => h) (by decide) _, hF10.step (fun _ h => h) (by decide) _⟩
            · refine wpOp_step rfl (fun K' hK => ?_)
              simp [Region.binds] at hd
              have l7 : listed.getD 7 false = true := by simp [hd]
              have m7 := hF7 l7
              clear hd hin hD
              obtain ⟨a7, c7, vs7, e7, h7, k7⟩ := m7
              go_simp
              exact hK _ _ ⟨updV xvb 8 (.slice a7 (N + A) c7), by simp [updV, e7, hnP], hb, hG.any gk.out g8.out _ trivial, hF6.step (fun _ h => h) (by decide) _, hF7.step (fun _ h => h) (by decide) _, Fe.new (⟨a7, c7, vs7, rfl, h7, k7⟩), hF10.step (fun _ h => h) (by decide) _⟩
            · refine wpOp_step rfl (fun K' hK => ?_)
              simp [Region.binds] at hd
              have l7 : listed.getD 7 false = true := by simp [hd]
              have m7 := hF7 l7
              clear hd hin hD
              obtain ⟨a7, c7, vs7, e7, h7, k7⟩ := m7
              go_simp
              exact hK _ _ ⟨updV xvb 9 (.int .i64 0), by simp [updV, e7, hnP], hb, hG.any gk.out g9.out _ rfl, hF6.step (fun _ h => h) (by decide) _, hF7.step (fun _ h => h) (by decide) _, hF8.step (fun _ h => h) (by decide) _, hF10.step (fun _ h => h) (by decide) _⟩
            · refine wpOp_step rfl (fun K' hK => ?_)
              simp [Region.binds] at hd
              have l8 : listed.getD 8 false = true := by simp [hd]
              have m8 := hF8 l8
              clear hd hin hD
              go_simp
              exact hK _ _ ⟨updV xvb 10 (xvb 8), by simp [updV, hnP], hb, hG.any gk.out g10.out _ trivial, hF6.step (fun _ h => h) (by decide) _, hF7.step (fun _ h => h) (by decide) _, hF8.step (fun _ h => h) (by decide) _, Fe.new (m8)⟩
            · refine wpOp_step rfl (fun K' hK => ?_)
              simp [Region.binds] at hd
              have e9 : xvb 9 = .int .i64 0 := hG.get g9.out (by simp [hd])
              clear hd hin hD
              go_simp
              exact hK _ _ ⟨updV xvb 11 (.int .i64 0), by simp [updV, e9, hnP], hb, hG.any gk.out g11.out _ rfl, hF6.step (fun _ h => h) (by decide) _, hF7.step (fun _ h => h) (by decide) _, hF8.step (fun _ h => h) (by decide) _, hF10.step (fun _ h => h) (by decide) _⟩
          · rintro listed ac Wb ⟨xvb, rfl, hb, hG, hF6, hF7, hF8, hF10⟩ hall
            have m10 : Hid ((IsBv (N + A) D1) (xvb 10) Wb) := hF10 (hall 10 (by decide))
            have e11 : xvb 11 = .int .i64 0 := hG.get g11.out (hall 11 (by decide))
            have XW : Hid ((fun Wb => Below w4.heap.size w4 Wb) Wb) := hb
            clear hall hG hb gk JS g0 g1 g2 g3 g4 g5 g6 g7 g8 g9 g10 g11 hF6 st6 hF7 st7 hF8 st8 hF10 st10
            rw [e11]
            clear e11
            obtain ⟨b1, t1, us1, e10, h10, k10⟩ := m10.out
            rw [e10]
            have M1 : Hid (∀ U, Below Wb.heap.size Wb U → Sl 1 U (.slice b1 (N + A) t1) us1.length us1 ∧ Parts U us1 D1) := fun U hU => ⟨h10.below hU, k10.below hU⟩
            have M0' : Hid (∀ U, Below Wb.heap.size Wb U → Sl 1 U (.slice b0 (N + A) t0) us0.length us0 ∧ Parts U us0 D0) := fun U hU => M0.out U (on_below XW.out hU)
            have X5 : Hid (Below w3.heap.size w3 Wb) := on_below X4.out XW.out
            clear m10 e10 h10 k10 XW M0 X4 BX4 BY4 C1
            obtain ⟨w5, hw5⟩ : ∃ w5, w5 = Wb := ⟨_, rfl⟩
            subst hw5
            have BX5 : Hid (∀ U, Below w5.heap.size w5 U → Five U w.heap.size N B Q E F) := fun U hU => BX.out U (on_below X5.out hU)
            have BY5 : Hid (∀ U, Below w5.heap.size w5 U → Pair2 U q5 (.slice a0 n0 k0) (.slice a1 n1 k1)) := fun U hU => BY.out U (on_below X5.out hU)
            have C2 : Hid (∀ U v, Below w5.heap.size w5 U → IsBs (xorL x0 x1) v U → Calls Try.prog 14 #[.agg #[.int .i64 (N : Int), .int .i64 (B : Int), .int .i64 (Q : Int), .int .i64 E, .int .i64 F], .int .u64 (S : Int), v] U fun e w' => ∃ v, e = .returned v ∧ IsBt (N + A) D2 v w' ∧ Below U.heap.size U w') := fun U v hU hv => CZ.out U v (on_below X5.out hU) hv
            have S2 : Hid (∀ U v, Below w5.heap.size w5 U → IsRow [.slice a0 n k0, .slice a1 n k1] v U → Calls Try.prog 23 #[.int .i64 n, v] U fun e w' => ∃ v, e = .returned v ∧ IsBs (xorL x0 x1) v w' ∧ Below U.heap.size U w') := fun U v hU hv => CS.out U v (on_below X5.out hU) hv
            clear CZ CS
            go_upto_region 8 with fail
            refine wp_region_any (by kernel_rfl) ?_
            obtain ⟨gs, hgs⟩ : ∃ gs : List (Value → World → Prop), gs = [IsV (.agg #[.int .i64 (N : Int), .int .i64 (B : Int), .int .i64 (Q : Int), .int .i64 E, .int .i64 F]), IsV (Value.int IntKind.u64 ↑S), IsV (Value.int IntKind.i64 ↑n), IsV (.pointer (some ⟨q5, 0, none⟩)), IsV (.slice a0 n0 k0), IsV (Value.int IntKind.i64 ↑n), IsV (.slice a0 n k0), IsV (.pointer (some ⟨q5, 1, none⟩)), IsV (.slice a1 n1 k1), IsV (Value.int IntKind.i64 ↑n), IsV (.slice a1 n k1), IsAnyV, IsAnyV, IsAnyV, IsAnyV, IsAnyV, IsV (.int .i64 0), IsAnyV, IsV (.int .i64 0)] := ⟨_, rfl⟩
            have g0 : Hid (gs[0]? = some (IsV (.agg #[.int .i64 (N : Int), .int .i64 (B : Int), .int .i64 (Q : Int), .int .i64 E, .int .i64 F]))) := by unfold Hid; rw [hgs]; rfl
            have g1 : Hid (gs[1]? = some (IsV (Value.int IntKind.u64 ↑S))) := by unfold Hid; rw [hgs]; rfl
            have g2 : Hid (gs[2]? = some (IsV (Value.int IntKind.i64 ↑n))) := by unfold Hid; rw [hgs]; rfl
            have g3 : Hid (gs[3]? = some (IsV (.pointer (some ⟨q5, 0, none⟩)))) := by unfold Hid; rw [hgs]; rfl
            have g4 : Hid (gs[4]? = some (IsV (.slice a0 n0 k0))) := by unfold Hid; rw [hgs]; rfl
            have g5 : Hid (gs[5]? = some (IsV (Value.int IntKind.i64 ↑n))) := by unfold Hid; rw [hgs]; rfl
            have g6 : Hid (gs[6]? = some (IsV (.slice a0 n k0))) := by unfold Hid; rw [hgs]; rfl
            have g7 : Hid (gs[7]? = some (IsV (.pointer (some ⟨q5, 1, none⟩)))) := by unfold Hid; rw [hgs]; rfl
            have g8 : Hid (gs[8]? = some (IsV (.slice a1 n1 k1))) := by unfold Hid; rw [hgs]; rfl
            have g9 : Hid (gs[9]? = some (IsV (Value.int IntKind.i64 ↑n))) := by unfold Hid; rw [hgs]; rfl
            have g10 : Hid (gs[10]? = some (IsV (.slice a1 n k1))) := by unfold Hid; rw [hgs]; rfl
            have g11 : Hid (gs[11]? = some (IsAnyV)) := by unfold Hid; rw [hgs]; rfl
            have g12 : Hid (gs[12]? = some (IsAnyV)) := by unfold Hid; rw [hgs]; rfl
            have g13 : Hid (gs[13]? = some (IsAnyV)) := by unfold Hid; rw [hgs]; rfl
            have g14 : Hid (gs[14]? = some (IsAnyV)) := by unfold Hid; rw [hgs]; rfl
            have g15 : Hid (gs[15]? = some (IsAnyV)) := by unfold Hid; rw [hgs]; rfl
            have g16 : Hid (gs[16]? = some (IsV (.int .i64 0))) := by unfold Hid; rw [hgs]; rfl
            have g17 : Hid (gs[17]? = some (IsAnyV)) := by unfold Hid; rw [hgs]; rfl
            have g18 : Hid (gs[18]? = some (IsV (.int .i64 0))) := by unfold Hid; rw [hgs]; rfl
            have gk : Hid (∀ p ∈ gs, ∀ v (U U' : World), p v U → p v U') := by
              unfold Hid
              rw [hgs]
              simp only [List.forall_mem_cons]
              exact ⟨(fun _ _ _ h => h), (fun _ _ _ h => h), (fun _ _ _ h => h), (fun _ _ _ h => h), (fun _ _ _ h => h), (fun _ _ _ h => h), (fun _ _ _ h => h), (fun _ _ _ h => h), (fun _ _ _ h => h), (fun _ _ _ h => h), (fun _ _ _ h => h), (fun _ _ _ h => h), (fun _ _ _ h => h), (fun _ _ _ h => h), (fun _ _ _ h => h), (fun _ _ _ h => h), (fun _ _ _ h => h), (fun _ _ _ h => h), (fun _ _ _ h => h), by simp⟩
            clear hgs
            have JS : Hid (∀ Wc Wc', Below Wc.heap.size Wc Wc' → (fun Wc => Below w5.heap.size w5 Wc) Wc → (fun Wc => Below w5.heap.size w5 Wc) Wc') := fun Wc Wc' hb h => h.trans (hb.mono h.size)
            have st11 : Hid (Stays (IsRow [.slice a0 n k0, .slice a1 n k1])) := stays_row _
            have st12 : Hid (Stays (IsBs (xorL x0 x1))) := stays_bs _
            have st13 : Hid (Stays (IsBt (N + A) D2)) := stays_bt _ _
            have st14 : Hid (Stays (IsBt (N + A) D2)) := stays_bt _ _
            have st15 : Hid (Stays (IsBv (N + A) D2)) := stays_bv _ _
            have st17 : Hid (Stays (IsBv (N + A) D2)) := stays_bv _ _
            refine wpAny_inv4 (fun listed ac Wc => ∃ xvc : Nat → Value, ac = ⟨#[Value.agg #[Value.int IntKind.i64 ↑N, Value.int IntKind.i64 ↑B, Value.int IntKind.i64 ↑Q, Value.int IntKind.i64 E, Value.int IntKind.i64 F], Value.int IntKind.u64 ↑S, Value.agg #[Value.slice a0 n0 k0, Value.slice a1 n1 k1], Value.pointer (some { block := w.heap.size, off := 0 }), undef, Value.pointer (some { block := q5, off := 0 }), Value.bool false, Value.int IntKind.i64 ↑n, Value.slice b0 (N + A) t0, Value.int IntKind.i64 (0 : Int), Value.slice b1 (N + A) t1, Value.int IntKind.i64 (0 : Int), xvc 17, xvc 18, undef, Value.bool true, Value.bool false, Value.pointer (some { block := q5, off := 0 }), Value.slice a0 n0 k0, Value.int IntKind.i64 ↑n0, Value.pointer (some { block := q5, off := 1 }), Value.slice a1 n1 k1, Value.int IntKind.i64 ↑n1, Value.int IntKind.i64 ↑n, Value.agg #[Value.int IntKind.i64 ↑N, Value.int IntKind.i64 ↑B, Value.int IntKind.i64 ↑Q, Value.int IntKind.i64 E, Value.int IntKind.i64 F], Value.bool false, Value.bool false, Value.agg #[Value.int IntKind.i64 ↑N, Value.int IntKind.i64 ↑B, Value.int IntKind.i64 ↑Q, Value.int IntKind.i64 E, Value.int IntKind.i64 F], Value.bool true, Value.bool false, Value.bool false, Value.bool false, Value.int IntKind.i64 ↑n, Value.pointer (some { block := w.heap.size, off := 0 }), Value.int IntKind.i64 ↑N, Value.pointer (some { block := w.heap.size, off := 1 }), Value.int IntKind.i64 ↑B, Value.int IntKind.i64 ↑P, Value.bool (decide (P < n)), Value.bool (decide (P < n)), xv 7, xv 0, xv 1, xv 2, xv 3, xv 4, xv 5, xv 6, xv 8, xv 9, xvb 7, xvb 0, xvb 1, xvb 2, xvb 3, xvb 4, xvb 5, xvb 6, xvb 8, xvb 9, xvc 14, xvc 0, xvc 1, xvc 2, xvc 3, xvc 4, xvc 5, xvc 6, xvc 7, xvc 8, xvc 9, xvc 10, xvc 11, xvc 12, xvc 13, xvc 15, xvc 16, undef, undef, undef, undef, undef, undef, undef, undef, undef, undef, undef, undef, undef, undef, undef, undef, undef, undef, undef, undef, undef, undef, undef, undef, undef, undef, undef, undef, undef, undef, undef, undef, undef, undef, undef, undef, undef, undef, undef, undef, undef, undef, undef, undef, undef, undef, undef, undef, undef, undef, undef, undef, undef, undef, undef, undef, undef, undef, undef, undef, undef, undef, undef, undef, undef, undef, undef, undef, undef], []⟩ ∧ (fun Wc => Below w5.heap.size w5 Wc) Wc ∧ Lst gs listed xvc Wc ∧ Fe listed xvc Wc 11 (IsRow [.slice a0 n k0, .slice a1 n k1]) ∧ Fe listed xvc Wc 12 (IsBs (xorL x0 x1)) ∧ Fe listed xvc Wc 13 (IsBt (N + A) D2) ∧ Fe listed xvc Wc 14 (IsBt (N + A) D2) ∧ Fe listed xvc Wc 15 (IsBv (N + A) D2) ∧ Fe listed xvc Wc 17 (IsBv (N + A) D2)) (by kernel_rfl) ?_ ?_ _ _ _ _ (by kernel_rfl) (of_decide_eq_true (by kernel_rfl)) (Down.start _) ⟨fun jx => undef, rfl, below0 _, Lst.start _ _ _ _, Fe.start _ _ _ _ _, Fe.start _ _ _ _ _, Fe.start _ _ _ _ _, Fe.start _ _ _ _ _, Fe.start _ _ _ _ _, Fe.start _ _ _ _ _⟩
            · rintro listed ac Wc ⟨xvc, rfl, hb, hG, hF11, hF12, hF13, hF14, hF15, hF17⟩ hD i hi hnl hd
              have hin : i < 19 := hi
              clear hi
              have hcase : i = 0 ∨ i = 1 ∨ i = 2 ∨ i = 3 ∨ i = 4 ∨ i = 5 ∨ i = 6 ∨ i = 7 ∨ i = 8 ∨ i = 9 ∨ i = 10 ∨ i = 11 ∨ i = 12 ∨ i = 13 ∨ i = 14 ∨ i = 15 ∨ i = 16 ∨ i = 17 ∨ i = 18 := by omega
              rcases hcase with rfl | rfl | rfl | rfl | rfl | rfl | rfl | rfl | rfl | rfl | rfl | rfl | rfl | rfl | rfl | rfl | rfl | rfl | rfl
              · refine wpOp_step rfl (fun K' hK => ?_)
                obtain ⟨c0, c1, c2, c3, c4⟩ := BX5.out Wc hb
                clear hd hin hD
                go_simp
                exact hK _ _ ⟨updV xvc 0 (.agg #[.int .i64 (N : Int), .int .i64 (B : Int), .int .i64 (Q : Int), .int .i64 E, .int .i64 F]), by simp [updV, hnP], hb, hG.any gk.out g0.out _ rfl, hF11.step (fun _ h => h) (by decide) _, hF12.step (fun _ h => h) (by decide) _, hF13.step (fun _ h => h) (by decide) _, hF14.step (fun _ h => h) (by decide) _, hF15.step (fun _ h => h) (by decide) _, hF17.step (fun _ h => h) (by decide) _⟩
              · refine wpOp_step rfl (fun K' hK => ?_)
                clear hd hin hD
                go_simp
                exact hK _ _ ⟨updV xvc 1 (Value.int IntKind.u64 ↑S), by simp [updV, hnP], hb, hG.any gk.out g1.out _ rfl, hF11.step (fun _ h => h) (by decide) _, hF12.step (fun _ h => h) (by decide) _, hF13.step (fun _ h => h) (by decide) _, hF14.step (fun _ h => h) (by decide) _, hF15.step (fun _ h => h) (by decide) _, hF17.step (fun _ h => h) (by decide) _⟩
              · refine wpOp_step rfl (fun K' hK => ?_)
                clear hd hin hD
                go_simp
                exact hK _ _ ⟨updV xvc 2 (Value.int IntKind.i64 ↑n), by simp [updV, hnP], hb, hG.any gk.out g2.out _ rfl, hF11.step (fun _ h => h) (by decide) _, hF12.step (fun _ h => h) (by decide) _, hF13.step (fun _ h => h) (by decide) _, hF14.step (fun _ h => h) (by decide) _, hF15.step (fun _ h => h) (by decide) _, hF17.step (fun _ h => h) (by decide) _⟩
              · refine wpOp_step rfl (fun K' hK => ?_)
                clear hd hin hD
                go_simp
                exact hK _ _ ⟨updV xvc 3 (.pointer (some ⟨q5, 0, none⟩)), by simp [updV, hnP], hb, hG.any gk.out g3.out _ rfl, hF11.step (fun _ h => h) (by decide) _, hF12.step (fun _ h => h) (by decide) _, hF13.step (fun _ h => h) (by decide) _, hF14.step (fun _ h => h) (by decide) _, hF15.step (fun _ h => h) (by decide) _, hF17.step (fun _ h => h) (by decide) _⟩
              · refine wpOp_step rfl (fun K' hK => ?_)
                simp [Region.binds] at hd
                have e3 : xvc 3 = .pointer (some ⟨q5, 0, none⟩) := hG.get g3.out (by simp [hd])
                obtain ⟨c0, c1⟩ := BY5.out Wc hb
                clear hd hin hD
                go_simp
                exact hK _ _ ⟨updV xvc 4 (.slice a0 n0 k0), by simp [updV, e3, hnP], hb, hG.any gk.out g4.out _ rfl, hF11.step (fun _ h => h) (by decide) _, hF12.step (fun _ h => h) (by decide) _, hF13.step (fun _ h => h) (by decide) _, hF14.step (fun _ h => h) (by decide) _, hF15.step (fun _ h => h) (by decide) _, hF17.step (fun _ h => h) (by decide) _⟩
              · refine wpOp_step rfl (fun K' hK => ?_)
                clear hd hin hD
                go_simp
                exact hK _ _ ⟨updV xvc 5 (Value.int IntKind.i64 ↑n), by simp [updV, hnP], hb, hG.any gk.out g5.out _ rfl, hF11.step (fun _ h => h) (by decide) _, hF12.step (fun _ h => h) (by decide) _, hF13.step (fun _ h => h) (by decide) _, hF14.step (fun _ h => h) (by decide) _, hF15.step (fun _ h => h) (by decide) _, hF17.step (fun _ h => h) (by decide) _⟩
              · refine wpOp_step rfl (fun K' hK => ?_)
                simp [Region.binds] at hd
                have e4 : xvc 4 = .slice a0 n0 k0 := hG.get g4.out (by simp [hd])
                have e5 : xvc 5 = Value.int IntKind.i64 ↑n := hG.get g5.out (by simp [hd])
                have hs := s0 Wc
                clear hd hin hD
                go_simp
                exact hK _ _ ⟨updV xvc 6 (.slice a0 n k0), by simp [updV, e4, e5, hnP], hb, hG.any gk.out g6.out _ rfl, hF11.step (fun _ h => h) (by decide) _, hF12.step (fun _ h => h) (by decide) _, hF13.step (fun _ h => h) (by decide) _, hF14.step (fun _ h => h) (by decide) _, hF15.step (fun _ h => h) (by decide) _, hF17.step (fun _ h => h) (by decide) _⟩
              · refine wpOp_step rfl (fun K' hK => ?_)
                clear hd hin hD
                go_simp
                exact hK _ _ ⟨updV xvc 7 (.pointer (some ⟨q5, 1, none⟩)), by simp [updV, hnP], hb, hG.any gk.out g7.out _ rfl, hF11.step (fun _ h => h) (by decide) _, hF12.step (fun _ h => h) (by decide) _, hF13.step (fun _ h => h) (by decide) _, hF14.step (fun _ h => h) (by decide) _, hF15.step (fun _ h => h) (by decide) _, hF17.step (fun _ h => h) (by decide) _⟩
              · refine wpOp_step rfl (fun K' hK => ?_)
                simp [Region.binds] at hd
                have e7 : xvc 7 = .pointer (some ⟨q5, 1, none⟩) := hG.get g7.out (by simp [hd])
                obtain ⟨c0, c1⟩ := BY5.out Wc hb
                clear hd hin hD
                go_simp
                exact hK _ _ ⟨updV xvc 8 (.slice a1 n1 k1), by simp [updV, e7, hnP], hb, hG.any gk.out g8.out _ rfl, hF11.step (fun _ h => h) (by decide) _, hF12.step (fun _ h => h) (by decide) _, hF13.step (fun _ h => h) (by decide) _, hF14.step (fun _ h => h) (by decide) _, hF15.step (fun _ h => h) (by decide) _, hF17.step (fun _ h => h) (by decide) _⟩
              · refine wpOp_step rfl (fun K' hK => ?_)
                clear hd hin hD
                go_simp
                exact hK _ _ ⟨updV xvc 9 (Value.int IntKind.i64 ↑n), by simp [updV, hnP], hb, hG.any gk.out g9.out _ rfl, hF11.step (fun _ h => h) (by decide) _, hF12.step (fun _ h => h) (by decide) _, hF13.step (fun _ h => h) (by decide) _, hF14.step (fun _ h => h) (by decide) _, hF15.step (fun _ h => h) (by decide) _, hF17.step (fun _ h => h) (by decide) _⟩
              · refine wpOp_step rfl (fun K' hK => ?_)
                simp [Region.binds] at hd
                have e8 : xvc 8 = .slice a1 n1 k1 := hG.get g8.out (by simp [hd])
                have e9 : xvc 9 = Value.int IntKind.i64 ↑n := hG.get g9.out (by simp [hd])
                have hs := s1 Wc
                clear hd hin hD
                go_simp
                exact hK _ _ ⟨updV xvc 10 (.slice a1 n k1), by simp [updV, e8, e9, hnP], hb, hG.any gk.out g10.out _ rfl, hF11.step (fun _ h => h) (by decide) _, hF12.step (fun _ h => h) (by decide) _, hF13.step (fun _ h => h) (by decide) _, hF14.step (fun _ h => h) (by decide) _, hF15.step (fun _ h => h) (by decide) _, hF17.step (fun _ h => h) (by decide) _⟩
              · refine wpOp_step rfl (fun K' hK => ?_)
                simp [Region.binds] at hd
                have e6 : xvc 6 = .slice a0 n k0 := hG.get g6.out (by simp [hd])
                have e10 : xvc 10 = .slice a1 n k1 := hG.get g10.out (by simp [hd])
                clear hd hin hD
                go_simp
                exact hK _ _ ⟨updV xvc 11 (.slice (some ⟨Wc.heap.size, 0, none⟩) 2 2), by simp [updV, e6, e10, hnP], JS.out _ _ (below_alloc _ _) hb, hG.any gk.out g11.out _ trivial, Fe.new (⟨_, rfl, fun j u hj => by rw [World.cell?_alloc_new]; simpa using hj⟩), hF12.on st12.out (below_alloc _ _) (by decide) _, hF13.on st13.out (below_alloc _ _) (by decide) _, hF14.on st14.out (below_alloc _ _) (by decide) _, hF15.on st15.out (below_alloc _ _) (by decide) _, hF17.on st17.out (below_alloc _ _) (by decide) _⟩
              · refine wpOp_step rfl (fun K' hK => ?_)
                simp [Region.binds] at hd
                have e2 : xvc 2 = Value.int IntKind.i64 ↑n := hG.get g2.out (by simp [hd])
                have l11 : listed.getD 11 false = true := by simp [hd]
                have m11 := hF11 l11
                clear hd hin hD
                go_simp
                refine (S2.out Wc _ hb m11).mono ?_
                rintro e w' ⟨v, rfl, hv, hb'⟩
                go_wp2_with fail
                exact ⟨updV xvc 12 v, by simp [updV, e2, hnP], JS.out _ _ hb' hb, hG.any gk.out g12.out v trivial, hF11.on st11.out hb' (by decide) _, Fe.new (hv), hF13.on st13.out hb' (by decide) _, hF14.on st14.out hb' (by decide) _, hF15.on st15.out hb' (by decide) _, hF17.on st17.out hb' (by decide) _⟩
              · refine wpOp_step rfl (fun K' hK => ?_)
                simp [Region.binds] at hd
                have e0 : xvc 0 = .agg #[.int .i64 (N : Int), .int .i64 (B : Int), .int .i64 (Q : Int), .int .i64 E, .int .i64 F] := hG.get g0.out (by simp [hd])
                have e1 : xvc 1 = Value.int IntKind.u64 ↑S := hG.get g1.out (by simp [hd])
                have l12 : listed.getD 12 false = true := by simp [hd]
                have m12 := hF12 l12
                clear hd hin hD
                go_simp
                refine (C2.out Wc _ hb m12).mono ?_
                rintro e w' ⟨v, rfl, hv, hb'⟩
                go_wp2_with fail
                exact ⟨updV xvc 13 v, by simp [updV, e0, e1, hnP], JS.out _ _ hb' hb, hG.any gk.out g13.out v trivial, hF11.on st11.out hb' (by decide) _, hF12.on st12.out hb' (by decide) _, Fe.new (hv), hF14.on st14.out hb' (by decide) _, hF15.on st15.out hb' (by decide) _, hF17.on st17.out hb' (by decide) _⟩
              · refine wpOp_step rfl (fun K' hK => ?_)
                simp [Region.binds] at hd
                have l13 : listed.getD 13 false = true := by simp [hd]
                have m13 := hF13 l13
                clear hd hin hD
                go_simp
                exact hK _ _ ⟨updV xvc 14 (xvc 13), by simp [updV, hnP], hb, hG.any gk.out g14.out _ trivial, hF11.step (fun _ h => h) (by decide) _, hF12.step (fun _ h => h) (by decide) _, hF13.step (fun _ h => h) (by decide) _, Fe.new (m13), hF15.step (fun _ h => h) (by decide) _, hF17.step (fun _ h => h) (by decide) _⟩
              · refine wpOp_step rfl (fun K' hK => ?_)
                simp [Region.binds] at hd
                have l14 : listed.getD 14 false = true := by simp [hd]
                have m14 := hF14 l14
                clear hd hin hD
                obtain ⟨a7, c7, vs7, e7, h7, k7⟩ := m14
                go_simp
                exact hK _ _ ⟨updV xvc 15 (.slice a7 (N + A) c7), by simp [updV, e7, hnP], hb, hG.any gk.out g15.out _ trivial, hF11.step (fun _ h => h) (by decide) _, hF12.step (fun _ h => h) (by decide) _, hF13.step (fun _ h => h) (by decide) _, hF14.step (fun _ h => h) (by decide) _, Fe.new (⟨a7, c7, vs7, rfl, h7, k7⟩), hF17.step (fun _ h => h) (by decide) _⟩
              · refine wpOp_step rfl (fun K' hK => ?_)
                simp [Region.binds] at hd
                have l14 : listed.getD 14 false = true := by simp [hd]
                have m14 := hF14 l14
                clear hd hin hD
                obtain ⟨a7, c7, vs7, e7, h7, k7⟩ := m14
                go_simp
                exact hK _ _ ⟨updV xvc 16 (.int .i64 0), by simp [updV, e7, hnP], hb, hG.any gk.out g16.out _ rfl, hF11.step (fun _ h => h) (by decide) _, hF12.step (fun _ h => h) (by decide) _, hF13.step (fun _ h => h) (by decide) _, hF14.step (fun _ h => h) (by decide) _, hF15.step (fun _ h => h) (by decide) _, hF17.step (fun _ h => h) (by decide) _⟩
              · refine wpOp_step rfl (fun K' hK => ?_)
                simp [Region.binds] at hd
                have l15 : listed.getD 15 false = true := by simp [hd]
                have m15 := hF15 l15
                clear hd hin hD
                go_simp
                exact hK _ _ ⟨updV xvc 17 (xvc 15), by simp [updV, hnP], hb, hG.any gk.out g17.out _ trivial, hF11.step (fun _ h => h) (by decide) _, hF12.step (fun _ h => h) (by decide) _, hF13.step (fun _ h => h) (by decide) _, hF14.step (fun _ h => h) (by decide) _, hF15.step (fun _ h => h) (by decide) _, Fe.new (m15)⟩
              · refine wpOp_step rfl (fun K' hK => ?_)
                simp [Region.binds] at hd
                have e16 : xvc 16 = .int .i64 0 := hG.get g16.out (by simp [hd])
                clear hd hin hD
                go_simp
                exact hK _ _ ⟨updV xvc 18 (.int .i64 0), by simp [updV, e16, hnP], hb, hG.any gk.out g18.out _ rfl, hF11.step (fun _ h => h) (by decide) _, hF12.step (fun _ h => h) (by decide) _, hF13.step (fun _ h => h) (by decide) _, hF14.step (fun _ h => h) (by decide) _, hF15.step (fun _ h => h) (by decide) _, hF17.step (fun _ h => h) (by decide) _⟩
            · rintro listed ac Wc ⟨xvc, rfl, hb, hG, hF11, hF12, hF13, hF14, hF15, hF17⟩ hall
              have m17 : Hid ((IsBv (N + A) D2) (xvc 17) Wc) := hF17 (hall 17 (by decide))
              have e18 : xvc 18 = .int .i64 0 := hG.get g18.out (hall 18 (by decide))
              have XW : Hid ((fun Wc => Below w5.heap.size w5 Wc) Wc) := hb
              clear hall hG hb gk JS g0 g1 g2 g3 g4 g5 g6 g7 g8 g9 g10 g11 g12 g13 g14 g15 g16 g17 g18 hF11 st11 hF12 st12 hF13 st13 hF14 st14 hF15 st15 hF17 st17
              rw [e18]
              clear e18
              obtain ⟨b2, t2, us2, e17, h17, k17⟩ := m17.out
              rw [e17]
              have M2 : Hid (∀ U, Below Wc.heap.size Wc U → Sl 1 U (.slice b2 (N + A) t2) us2.length us2 ∧ Parts U us2 D2) := fun U hU => ⟨h17.below hU, k17.below hU⟩
              have M1' : Hid (∀ U, Below Wc.heap.size Wc U → Sl 1 U (.slice b1 (N + A) t1) us1.length us1 ∧ Parts U us1 D1) := fun U hU => M1.out U (on_below XW.out hU)
              have M0 : Hid (∀ U, Below Wc.heap.size Wc U → Sl 1 U (.slice b0 (N + A) t0) us0.length us0 ∧ Parts U us0 D0) := fun U hU => M0'.out U (on_below XW.out hU)
              have X6 : Hid (Below w3.heap.size w3 Wc) := on_below X5.out XW.out
              clear m17 e17 h17 k17 XW M0' M1 X5 BX5 BY5 C2 S2 BY
              obtain ⟨w6, hw6⟩ : ∃ w6, w6 = Wc := ⟨_, rfl⟩
              subst hw6
              have hne : (((N + A : Nat) : Int) != ((N + A : Nat) : Int)) = false := by simp
              go_wp2
              go_loopw [103] (fun iv wr => ∃ i : Nat, i ≤ N + A ∧ iv = .int .i64 i ∧ Hid (Below w6.heap.size w6 wr)) (fun iv _ => N + A - (intOf iv).toNat)
              case atStart => exact ⟨0, by omega, rfl, Below.refl _ _⟩
              case round =>
                obtain ⟨i, hi, rfl, BB⟩ := hrel
                by_cases hlt : i < N + A
                · have hltI : (i : Int) < (N : Int) + (A : Int) := by omega
                  have i0 : i < D0.length := by rw [L0.out]; exact hlt
                  have i1 : i < D1.length := by rw [L1.out]; exact hlt
                  obtain ⟨y0, hy0⟩ : ∃ y, D0[i]? = some y := ⟨_, List.getElem?_eq_getElem i0⟩
                  obtain ⟨y1, hy1⟩ : ∃ y, D1[i]? = some y := ⟨_, List.getElem?_eq_getElem i1⟩
                  obtain ⟨hy2, hl0, hl1⟩ := ADD.out i y0 y1 hy0 hy1
                  obtain ⟨s0', p0'⟩ := M0.out wr BB.out
                  obtain ⟨s1', p1'⟩ := M1'.out wr BB.out
                  obtain ⟨s2', p2'⟩ := M2.out wr BB.out
                  have v0 : us0.length = N + A := by rw [p0'.1]; exact L0.out
                  have v1 : us1.length = N + A := by rw [p1'.1]; exact L1.out
                  have v2 : us2.length = N + A := by rw [p2'.1]; exact L2.out
                  rw [v0] at s0'
                  rw [v1] at s1'
                  rw [v2] at s2'
                  obtain ⟨bb0, o0, rfl, u0, hu0, ck0⟩ := s0'.at_addr hlt
                  obtain ⟨bb1, o1, rfl, u1, hu1, ck1⟩ := s1'.at_addr hlt
                  obtain ⟨bb2, o2, rfl, u2, hu2, ck2⟩ := s2'.at_addr hlt
                  have hb0 := p0'.2 i u0 y0 hu0 hy0
                  have hb1 := p1'.2 i u1 y1 hu1 hy1
                  have hb2 := p2'.2 i u2 _ hu2 hy2
                  obtain ⟨q0, d0, rfl⟩ : ∃ q d, u0 = .slice q B d := by obtain ⟨-, q, d, h, -⟩ := hb0; exact ⟨q, d, by rw [h, hl0]⟩
                  obtain ⟨q1, d1, rfl⟩ : ∃ q d, u1 = .slice q B d := by obtain ⟨-, q, d, h, -⟩ := hb1; exact ⟨q, d, by rw [h, hl1]⟩
                  have hl2 : (xorL y0 y1).length = B := by rw [xorL_length (by rw [hl1, hl0]), hl0]
                  obtain ⟨q2, d2, rfl⟩ : ∃ q d, u2 = .slice q B d := by obtain ⟨-, q, d, h, -⟩ := hb2; exact ⟨q, d, by rw [h, hl2]⟩
                  have CX : Hid (∀ U, Below wr.heap.size wr U → U.cell? ⟨bb0, o0 + i, none⟩ = some (.slice q0 B d0) ∧ U.cell? ⟨bb1, o1 + i, none⟩ = some (.slice q1 B d1) ∧ U.cell? ⟨bb2, o2 + i, none⟩ = some (.slice q2 B d2)) := fun U hU => ⟨(hU.cell (cell_block_lt ck0)).trans ck0, (hU.cell (cell_block_lt ck1)).trans ck1, (hU.cell (cell_block_lt ck2)).trans ck2⟩
                  have BXr : Hid (∀ U, Below wr.heap.size wr U → Five U w.heap.size N B Q E F) := fun U hU => BX.out U (on_below (on_below X6.out BB.out) hU)
                  have KC : Hid (∀ U, Below wr.heap.size wr U → (convert 25 9 (.slice q2 B d2)).run Try.prog U = .ok (.string (str (xorL y0 y1))) U) := fun U hU => conv_bytes (hb2.below hU)
                  have SS : Hid (∀ U v, Below wr.heap.size wr U → IsRow [.slice q0 B d0, .slice q1 B d1] v U → Calls Try.prog 23 #[.int .i64 B, v] U fun e w' => ∃ v, e = .returned v ∧ IsBs (xorL y0 y1) v w' ∧ Below U.heap.size U w') := by
                    intro U v hU hv
                    refine (rsum_any B v [.slice q0 B d0, .slice q1 B d1] [y0, y1] U (by omega) (row_sl hv (by simp)) (parts_two (hb0.below hU) (hb1.below hU)) (fitB_of (by intro y hy; simp at hy; rcases hy with rfl | rfl; exact hl0; exact hl1))).mono ?_
                    rintro e w' ⟨rfl, h5, h6⟩
                    rw [xorAll_first hl0] at h5
                    exact ⟨_, rfl, h5.bs0 B B hl2.symm (Nat.le_refl _) (by unfold maxLen; omega), h6⟩
                  obtain ⟨y2, hy2e⟩ : ∃ y, xorL y0 y1 = y := ⟨_, rfl⟩
                  rw [hy2e] at KC SS
                  clear hy0 hy1 hy2 hl0 hl1 hl2 s0' p0' s1' p1' s2' p2' v0 v1 v2 hu0 hu1 hu2 hb0 hb1 hb2 ck0 ck1 ck2 hy2e i0 i1
                  go_upto_region 14 with fail
                  refine wp_region_any (by kernel_rfl) ?_
                  obtain ⟨gs, hgs⟩ : ∃ gs : List (Value → World → Prop), gs = [IsV (Value.slice (some { block := bb0, off := o0 }) (N + A) t0), IsV (Value.int IntKind.i64 ↑i), IsV (.pointer (some ⟨bb0, o0 + i, none⟩)), IsV (.slice q0 B d0), IsV (.int .i64 (B : Int)), IsV (.pointer (some ⟨w.heap.size, 1, none⟩)), IsV (.int .i64 (B : Int)), IsV (.bool false), IsV (.bool false), IsV (Value.slice (some { block := bb1, off := o1 }) (N + A) t1), IsV (Value.int IntKind.i64 ↑i), IsV (.pointer (some ⟨bb1, o1 + i, none⟩)), IsV (.slice q1 B d1), IsV (.int .i64 (B : Int)), IsV (.pointer (some ⟨w.heap.size, 1, none⟩)), IsV (.int .i64 (B : Int)), IsV (.bool false), IsV (.bool false), IsV (.bool false), IsV (.pointer (some ⟨w.heap.size, 1, none⟩)), IsV (.int .i64 (B : Int)), IsV (Value.slice (some { block := bb0, off := o0 }) (N + A) t0), IsV (Value.int IntKind.i64 ↑i), IsV (.pointer (some ⟨bb0, o0 + i, none⟩)), IsV (.slice q0 B d0), IsV (Value.slice (some { block := bb1, off := o1 }) (N + A) t1), IsV (Value.int IntKind.i64 ↑i), IsV (.pointer (some ⟨bb1, o1 + i, none⟩)), IsV (.slice q1 B d1), IsRow [.slice q0 B d0, .slice q1 B d1], IsBs y2, IsV (.string (str y2)), IsV (Value.slice (some { block := bb2, off := o2 }) (N + A) t2), IsV (Value.int IntKind.i64 ↑i), IsV (.pointer (some ⟨bb2, o2 + i, none⟩)), IsV (.slice q2 B d2), IsV (.string (str y2)), IsV (.bool false), IsV (.bool false)] := ⟨_, rfl⟩
                  have g0 : Hid (gs[0]? = some (IsV (Value.slice (some { block := bb0, off := o0 }) (N + A) t0))) := by unfold Hid; rw [hgs]; rfl
                  have g1 : Hid (gs[1]? = some (IsV (Value.int IntKind.i64 ↑i))) := by unfold Hid; rw [hgs]; rfl
                  have g2 : Hid (gs[2]? = some (IsV (.pointer (some ⟨bb0, o0 + i, none⟩)))) := by unfold Hid; rw [hgs]; rfl
                  have g3 : Hid (gs[3]? = some (IsV (.slice q0 B d0))) := by unfold Hid; rw [hgs]; rfl
                  have g4 : Hid (gs[4]? = some (IsV (.int .i64 (B : Int)))) := by unfold Hid; rw [hgs]; rfl
                  have g5 : Hid (gs[5]? = some (IsV (.pointer (some ⟨w.heap.size, 1, none⟩)))) := by unfold Hid; rw [hgs]; rfl
                  have g6 : Hid (gs[6]? = some (IsV (.int .i64 (B : Int)))) := by unfold Hid; rw [hgs]; rfl
                  have g7 : Hid (gs[7]? = some (IsV (.bool false))) := by unfold Hid; rw [hgs]; rfl
                  have g8 : Hid (gs[8]? = some (IsV (.bool false))) := by unfold Hid; rw [hgs]; rfl
                  have g9 : Hid (gs[9]? = some (IsV (Value.slice (some { block := bb1, off := o1 }) (N + A) t1))) := by unfold Hid; rw [hgs]; rfl
                  have g10 : Hid (gs[10]? = some (IsV (Value.int IntKind.i64 ↑i))) := by unfold Hid; rw [hgs]; rfl
                  have g11 : Hid (gs[11]? = some (IsV (.pointer (some ⟨bb1, o1 + i, none⟩)))) := by unfold Hid; rw [hgs]; rfl
                  have g12 : Hid (gs[12]? = some (IsV (.slice q1 B d1))) := by unfold Hid; rw [hgs]; rfl
                  have g13 : Hid (gs[13]? = some (IsV (.int .i64 (B : Int)))) := by unfold Hid; rw [hgs]; rfl
                  have g14 : Hid (gs[14]? = some (IsV (.pointer (some ⟨w.heap.size, 1, none⟩)))) := by unfold Hid; rw [hgs]; rfl
                  have g15 : Hid (gs[15]? = some (IsV (.int .i64 (B : Int)))) := by unfold Hid; rw [hgs]; rfl
                  have g16 : Hid (gs[16]? = some (IsV (.bool false))) := by unfold Hid; rw [hgs]; rfl
                  have g17 : Hid (gs[17]? = some (IsV (.bool false))) := by unfold Hid; rw [hgs]; rfl
                  have g18 : Hid (gs[18]? = some (IsV (.bool false))) := by unfold Hid; rw [hgs]; rfl
                  have g19 : Hid (gs[19]? = some (IsV (.pointer (some ⟨w.heap.size, 1, none⟩)))) := by unfold Hid; rw [hgs]; rfl
                  have g20 : Hid (gs[20]? = some (IsV (.int .i64 (B : Int)))) := by unfold Hid; rw [hgs]; rfl
                  have g21 : Hid (gs[21]? = some (IsV (Value.slice (some { block := bb0, off := o0 }) (N + A) t0))) := by unfold Hid; rw [hgs]; rfl
                  have g22 : Hid (gs[22]? = some (IsV (Value.int IntKind.i64 ↑i))) := by unfold Hid; rw [hgs]; rfl
                  have g23 : Hid (gs[23]? = some (IsV (.pointer (some ⟨bb0, o0 + i, none⟩)))) := by unfold Hid; rw [hgs]; rfl
                  have g24 : Hid (gs[24]? = some (IsV (.slice q0 B d0))) := by unfold Hid; rw [hgs]; rfl
                  have g25 : Hid (gs[25]? = some (IsV (Value.slice (some { block := bb1, off := o1 }) (N + A) t1))) := by unfold Hid; rw [hgs]; rfl
                  have g26 : Hid (gs[26]? = some (IsV (Value.int IntKind.i64 ↑i))) := by unfold Hid; rw [hgs]; rfl
                  have g27 : Hid (gs[27]? = some (IsV (.pointer (some ⟨bb1, o1 + i, none⟩)))) := by unfold Hid; rw [hgs]; rfl
                  have g28 : Hid (gs[28]? = some (IsV (.slice q1 B d1))) := by unfold Hid; rw [hgs]; rfl
                  have g29 : Hid (gs[29]? = some (IsRow [.slice q0 B d0, .slice q1 B d1])) := by unfold Hid; rw [hgs]; rfl
                  have g30 : Hid (gs[30]? = some (IsBs y2)) := by unfold Hid; rw [hgs]; rfl
                  have g31 : Hid (gs[31]? = some (IsV (.string (str y2)))) := by unfold Hid; rw [hgs]; rfl
                  have g32 : Hid (gs[32]? = some (IsV (Value.slice (some { block := bb2, off := o2 }) (N + A) t2))) := by unfold Hid; rw [hgs]; rfl
                  have g33 : Hid (gs[33]? = some (IsV (Value.int IntKind.i64 ↑i))) := by unfold Hid; rw [hgs]; rfl
                  have g34 : Hid (gs[34]? = some (IsV (.pointer (some ⟨bb2, o2 + i, none⟩)))) := by unfold Hid; rw [hgs]; rfl
                  have g35 : Hid (gs[35]? = some (IsV (.slice q2 B d2))) := by unfold Hid; rw [hgs]; rfl
                  have g36 : Hid (gs[36]? = some (IsV (.string (str y2)))) := by unfold Hid; rw [hgs]; rfl
                  have g37 : Hid (gs[37]? = some (IsV (.bool false))) := by unfold Hid; rw [hgs]; rfl
                  have g38 : Hid (gs[38]? = some (IsV (.bool false))) := by unfold Hid; rw [hgs]; rfl
                  have gk : Hid (∀ p ∈ gs, Stays p) := by
                    unfold Hid
                    rw [hgs]
                    simp only [List.forall_mem_cons]
                    exact ⟨stays_v _, stays_v _, stays_v _, stays_v _, stays_v _, stays_v _, stays_v _, stays_v _, stays_v _, stays_v _, stays_v _, stays_v _, stays_v _, stays_v _, stays_v _, stays_v _, stays_v _, stays_v _, stays_v _, stays_v _, stays_v _, stays_v _, stays_v _, stays_v _, stays_v _, stays_v _, stays_v _, stays_v _, stays_v _, stays_row _, stays_bs _, stays_v _, stays_v _, stays_v _, stays_v _, stays_v _, stays_v _, stays_v _, stays_v _, by simp⟩
                  clear hgs
                  refine wpAny_inv (fun listed ac Wd => ∃ xvd : Nat → Value, ac = ⟨#[Value.agg #[Value.int IntKind.i64 ↑N, Value.int IntKind.i64 ↑B, Value.int IntKind.i64 ↑Q, Value.int IntKind.i64 E, Value.int IntKind.i64 F], Value.int IntKind.u64 ↑S, Value.agg #[Value.slice a0 n0 k0, Value.slice a1 n1 k1], Value.pointer (some { block := w.heap.size, off := 0 }), undef, Value.pointer (some { block := q5, off := 0 }), u6, Value.int IntKind.i64 ↑n, Value.slice (some { block := bb0, off := o0 }) (N + A) t0, Value.int IntKind.i64 (0 : Int), Value.slice (some { block := bb1, off := o1 }) (N + A) t1, Value.int IntKind.i64 (0 : Int), Value.slice (some { block := bb2, off := o2 }) (N + A) t2, Value.int IntKind.i64 (0 : Int), Value.int IntKind.i64 ↑i, Value.bool true, Value.bool false, Value.pointer (some { block := q5, off := 0 }), Value.slice a0 n0 k0, Value.int IntKind.i64 ↑n0, Value.pointer (some { block := q5, off := 1 }), Value.slice a1 n1 k1, Value.int IntKind.i64 ↑n1, Value.int IntKind.i64 ↑n, Value.agg #[Value.int IntKind.i64 ↑N, Value.int IntKind.i64 ↑B, Value.int IntKind.i64 ↑Q, Value.int IntKind.i64 E, Value.int IntKind.i64 F], Value.bool false, Value.bool false, Value.agg #[Value.int IntKind.i64 ↑N, Value.int IntKind.i64 ↑B, Value.int IntKind.i64 ↑Q, Value.int IntKind.i64 E, Value.int IntKind.i64 F], Value.bool true, Value.bool false, Value.bool false, Value.bool false, Value.int IntKind.i64 ↑n, Value.pointer (some { block := w.heap.size, off := 0 }), Value.int IntKind.i64 ↑N, Value.pointer (some { block := w.heap.size, off := 1 }), Value.int IntKind.i64 ↑B, Value.int IntKind.i64 ↑P, Value.bool (decide (P < n)), Value.bool (decide (P < n)), xv 7, xv 0, xv 1, xv 2, xv 3, xv 4, xv 5, xv 6, xv 8, xv 9, xvb 7, xvb 0, xvb 1, xvb 2, xvb 3, xvb 4, xvb 5, xvb 6, xvb 8, xvb 9, xvc 14, xvc 0, xvc 1, xvc 2, xvc 3, xvc 4, xvc 5, xvc 6, xvc 7, xvc 8, xvc 9, xvc 10, xvc 11, xvc 12, xvc 13, xvc 15, xvc 16, Value.int IntKind.i64 (0 : Int), Value.bool false, Value.bool false, Value.int IntKind.i64 (0 : Int), Value.bool false, Value.bool false, Value.bool false, Value.int IntKind.i64 (0 : Int), Value.bool false, Value.bool false, Value.bool false, Value.slice (some { block := bb0, off := o0 }) (N + A) t0, Value.int IntKind.i64 (↑N + ↑A), Value.slice (some { block := bb1, off := o1 }) (N + A) t1, Value.int IntKind.i64 (↑N + ↑A), Value.bool false, Value.bool false, Value.bool false, Value.slice (some { block := bb0, off := o0 }) (N + A) t0, Value.int IntKind.i64 (↑N + ↑A), Value.slice (some { block := bb2, off := o2 }) (N + A) t2, Value.int IntKind.i64 (↑N + ↑A), Value.bool false, Value.bool false, Value.slice (some { block := bb0, off := o0 }) (N + A) t0, Value.int IntKind.i64 (↑N + ↑A), Value.int IntKind.i64 ↑i, Value.bool true, Value.int IntKind.i64 ↑i, xvd 0, xvd 1, xvd 2, xvd 3, xvd 4, xvd 5, xvd 6, xvd 7, xvd 8, xvd 9, xvd 10, xvd 11, xvd 12, xvd 13, xvd 14, xvd 15, xvd 16, xvd 17, xvd 18, xvd 19, xvd 20, xvd 21, xvd 22, xvd 23, xvd 24, xvd 25, xvd 26, xvd 27, xvd 28, xvd 29, xvd 30, xvd 31, xvd 32, xvd 33, xvd 34, xvd 35, xvd 36, xvd 37, xvd 38, u145], []⟩ ∧ Below wr.heap.size wr Wd ∧ Lst gs listed xvd Wd) (by kernel_rfl) ?_ ?_ _ _ _ _ (by kernel_rfl) (of_decide_eq_true (by kernel_rfl)) ⟨fun j => if j = 0 then u106 else if j = 1 then u107 else if j = 2 then u108 else if j = 3 then u109 else if j = 4 then u110 else if j = 5 then u111 else if j = 6 then u112 else if j = 7 then u113 else if j = 8 then u114 else if j = 9 then u115 else if j = 10 then u116 else if j = 11 then u117 else if j = 12 then u118 else if j = 13 then u119 else if j = 14 then u120 else if j = 15 then u121 else if j = 16 then u122 else if j = 17 then u123 else if j = 18 then u124 else if j = 19 then u125 else if j = 20 then u126 else if j = 21 then u127 else if j = 22 then u128 else if j = 23 then u129 else if j = 24 then u130 else if j = 25 then u131 else if j = 26 then u132 else if j = 27 then u133 else if j = 28 then u134 else if j = 29 then u135 else if j = 30 then u136 else if j = 31 then u137 else if j = 32 then u138 else if j = 33 then u139 else if j = 34 then u140 else if j = 35 then u141 else if j = 36 then u142 else if j = 37 then u143 else if j = 38 then u144 else undef, rfl, below0 _, Lst.start _ _ _ _⟩
                  · rintro listed ac Wd ⟨xvd, rfl, hb, hG⟩ i hi hd
                    have hin : i < 39 := hi
                    clear hi
                    have hcase : i = 0 ∨ i = 1 ∨ i = 2 ∨ i = 3 ∨ i = 4 ∨ i = 5 ∨ i = 6 ∨ i = 7 ∨ i = 8 ∨ i = 9 ∨ i = 10 ∨ i = 11 ∨ i = 12 ∨ i = 13 ∨ i = 14 ∨ i = 15 ∨ i = 16 ∨ i = 17 ∨ i = 18 ∨ i = 19 ∨ i = 20 ∨ i = 21 ∨ i = 22 ∨ i = 23 ∨ i = 24 ∨ i = 25 ∨ i = 26 ∨ i = 27 ∨ i = 28 ∨ i = 29 ∨ i = 30 ∨ i = 31 ∨ i = 32 ∨ i = 33 ∨ i = 34 ∨ i = 35 ∨ i = 36 ∨ i = 37 ∨ i = 38 := by omega
                    rcases hcase with rfl | rfl | rfl | rfl | rfl | rfl | rfl | rfl | rfl | rfl | rfl | rfl | rfl | rfl | rfl | rfl | rfl | rfl | rfl | rfl | rfl | rfl | rfl | rfl | rfl | rfl | rfl | rfl | rfl | rfl | rfl | rfl | rfl | rfl | rfl | rfl | rfl | rfl | rfl
                    · refine wpOp_step rfl (fun K' hK => ?_)
                      clear hd hin
                      go_simp
                      exact hK _ _ ⟨updV xvd 0 (Value.slice (some { block := bb0, off := o0 }) (N + A) t0), by simp [updV, hnP], hb, hG.same gk.out g0.out _ rfl⟩
                    · refine wpOp_step rfl (fun K' hK => ?_)
                      clear hd hin
                      go_simp
                      exact hK _ _ ⟨updV xvd 1 (Value.int IntKind.i64 ↑i), by simp [updV, hnP], hb, hG.same gk.out g1.out _ rfl⟩
                    · refine wpOp_step rfl (fun K' hK => ?_)
                      simp [Region.binds] at hd
                      have e0 : xvd 0 = Value.slice (some { block := bb0, off := o0 }) (N + A) t0 := hG.get g0.out (by simp [hd])
                      have e1 : xvd 1 = Value.int IntKind.i64 ↑i := hG.get g1.out (by simp [hd])
                      clear hd hin
                      go_simp
                      exact hK _ _ ⟨updV xvd 2 (.pointer (some ⟨bb0, o0 + i, none⟩)), by simp [updV, e0, e1, hnP], hb, hG.same gk.out g2.out _ rfl⟩
                    · refine wpOp_step rfl (fun K' hK => ?_)
                      simp [Region.binds] at hd
                      have e2 : xvd 2 = .pointer (some ⟨bb0, o0 + i, none⟩) := hG.get g2.out (by simp [hd])
                      have hc := (CX.out Wd hb).1
                      clear hd hin
                      go_simp
                      exact hK _ _ ⟨updV xvd 3 (.slice q0 B d0), by simp [updV, e2, hnP], hb, hG.same gk.out g3.out _ rfl⟩
                    · refine wpOp_step rfl (fun K' hK => ?_)
                      simp [Region.binds] at hd
                      have e3 : xvd 3 = .slice q0 B d0 := hG.get g3.out (by simp [hd])
                      clear hd hin
                      go_simp
                      exact hK _ _ ⟨updV xvd 4 (.int .i64 (B : Int)), by simp [updV, e3, hnP], hb, hG.same gk.out g4.out _ rfl⟩
                    · refine wpOp_step rfl (fun K' hK => ?_)
                      clear hd hin
                      go_simp
                      exact hK _ _ ⟨updV xvd 5 (.pointer (some ⟨w.heap.size, 1, none⟩)), by simp [updV, hnP], hb, hG.same gk.out g5.out _ rfl⟩
                    · refine wpOp_step rfl (fun K' hK => ?_)
                      simp [Region.binds] at hd
                      have e5 : xvd 5 = .pointer (some ⟨w.heap.size, 1, none⟩) := hG.get g5.out (by simp [hd])
                      obtain ⟨c0, c1, c2, c3, c4⟩ := BXr.out Wd hb
                      clear hd hin
                      go_simp
                      exact hK _ _ ⟨updV xvd 6 (.int .i64 (B : Int)), by simp [updV, e5, hnP], hb, hG.same gk.out g6.out _ rfl⟩
                    · refine wpOp_step rfl (fun K' hK => ?_)
                      simp [Region.binds] at hd
                      have e4 : xvd 4 = .int .i64 (B : Int) := hG.get g4.out (by simp [hd])
                      have e6 : xvd 6 = .int .i64 (B : Int) := hG.get g6.out (by simp [hd])
                      clear hd hin
                      go_simp
                      exact hK _ _ ⟨updV xvd 7 (.bool false), by simp [updV, e4, e6, hnP], hb, hG.same gk.out g7.out _ rfl⟩
                    · refine wpOp_step rfl (fun K' hK => ?_)
                      simp [Region.binds] at hd
                      have e7 : xvd 7 = .bool false := hG.get g7.out (by simp [hd])
                      clear hd hin
                      go_simp
                      exact hK _ _ ⟨updV xvd 8 (.bool false), by simp [updV, e7, hnP], hb, hG.same gk.out g8.out _ rfl⟩
                    · refine wpOp_step rfl (fun K' hK => ?_)
                      simp [Region.binds] at hd
                      have e8 : xvd 8 = .bool false := hG.get g8.out (by simp [hd])
                      clear hd hin
                      go_simp
                      exact hK _ _ ⟨updV xvd 9 (Value.slice (some { block := bb1, off := o1 }) (N + A) t1), by simp [updV, e8, hnP], hb, hG.same gk.out g9.out _ rfl⟩
                    · refine wpOp_step rfl (fun K' hK => ?_)
                      simp [Region.binds] at hd
                      have e8 : xvd 8 = .bool false := hG.get g8.out (by simp [hd])
                      clear hd hin
                      go_simp
                      exact hK _ _ ⟨updV xvd 10 (Value.int IntKind.i64 ↑i), by simp [updV, e8, hnP], hb, hG.same gk.out g10.out _ rfl⟩
                    · refine wpOp_step rfl (fun K' hK => ?_)
                      simp [Region.binds] at hd
                      have e9 : xvd 9 = Value.slice (some { block := bb1, off := o1 }) (N + A) t1 := hG.get g9.out (by simp [hd])
                      have e10 : xvd 10 = Value.int IntKind.i64 ↑i := hG.get g10.out (by simp [hd])
                      have e8 : xvd 8 = .bool false := hG.get g8.out (by simp [hd])
                      clear hd hin
                      go_simp
                      exact hK _ _ ⟨updV xvd 11 (.pointer (some ⟨bb1, o1 + i, none⟩)), by simp [updV, e9, e10, e8, hnP], hb, hG.same gk.out g11.out _ rfl⟩
                    · refine wpOp_step rfl (fun K' hK => ?_)
                      simp [Region.binds] at hd
                      have e11 : xvd 11 = .pointer (some ⟨bb1, o1 + i, none⟩) := hG.get g11.out (by simp [hd])
                      have e8 : xvd 8 = .bool false := hG.get g8.out (by simp [hd])
                      have hc := (CX.out Wd hb).2.1
                      clear hd hin
                      go_simp
                      exact hK _ _ ⟨updV xvd 12 (.slice q1 B d1), by simp [updV, e11, e8, hnP], hb, hG.same gk.out g12.out _ rfl⟩
                    · refine wpOp_step rfl (fun K' hK => ?_)
                      simp [Region.binds] at hd
                      have e12 : xvd 12 = .slice q1 B d1 := hG.get g12.out (by simp [hd])
                      have e8 : xvd 8 = .bool false := hG.get g8.out (by simp [hd])
                      clear hd hin
                      go_simp
                      exact hK _ _ ⟨updV xvd 13 (.int .i64 (B : Int)), by simp [updV, e12, e8, hnP], hb, hG.same gk.out g13.out _ rfl⟩
                    · refine wpOp_step rfl (fun K' hK => ?_)
                      simp [Region.binds] at hd
                      have e8 : xvd 8 = .bool false := hG.get g8.out (by simp [hd])
                      clear hd hin
                      go_simp
                      exact hK _ _ ⟨updV xvd 14 (.pointer (some ⟨w.heap.size, 1, none⟩)), by simp [updV, e8, hnP], hb, hG.same gk.out g14.out _ rfl⟩
                    · refine wpOp_step rfl (fun K' hK => ?_)
                      simp [Region.binds] at hd
                      have e14 : xvd 14 = .pointer (some ⟨w.heap.size, 1, none⟩) := hG.get g14.out (by simp [hd])
                      have e8 : xvd 8 = .bool false := hG.get g8.out (by simp [hd])
                      obtain ⟨c0, c1, c2, c3, c4⟩ := BXr.out Wd hb
                      clear hd hin
                      go_simp
                      exact hK _ _ ⟨updV xvd 15 (.int .i64 (B : Int)), by simp [updV, e14, e8, hnP], hb, hG.same gk.out g15.out _ rfl⟩
                    · refine wpOp_step rfl (fun K' hK => ?_)
                      simp [Region.binds] at hd
                      have e13 : xvd 13 = .int .i64 (B : Int) := hG.get g13.out (by simp [hd])
                      have e15 : xvd 15 = .int .i64 (B : Int) := hG.get g15.out (by simp [hd])
                      have e8 : xvd 8 = .bool false := hG.get g8.out (by simp [hd])
                      clear hd hin
                      go_simp
                      exact hK _ _ ⟨updV xvd 16 (.bool false), by simp [updV, e13, e15, e8, hnP], hb, hG.same gk.out g16.out _ rfl⟩
                    · refine wpOp_step rfl (fun K' hK => ?_)
                      simp [Region.binds] at hd
                      have e8 : xvd 8 = .bool false := hG.get g8.out (by simp [hd])
                      have e16 : xvd 16 = .bool false := hG.get g16.out (by simp [hd])
                      clear hd hin
                      go_simp
                      exact hK _ _ ⟨updV xvd 17 (.bool false), by simp [updV, e8, e16, hnP], hb, hG.same gk.out g17.out _ rfl⟩
                    · refine wpOp_step rfl (fun K' hK => ?_)
                      simp [Region.binds] at hd
                      have e17 : xvd 17 = .bool false := hG.get g17.out (by simp [hd])
                      clear hd hin
                      go_simp
                      exact hK _ _ ⟨updV xvd 18 (.bool false), by simp [updV, e17, hnP], hb, hG.same gk.out g18.out _ rfl⟩
                    · refine wpOp_step rfl (fun K' hK => ?_)
                      simp [Region.binds] at hd
                      have e18 : xvd 18 = .bool false := hG.get g18.out (by simp [hd])
                      clear hd hin
                      go_simp
                      exact hK _ _ ⟨updV xvd 19 (.pointer (some ⟨w.heap.size, 1, none⟩)), by simp [updV, e18, hnP], hb, hG.same gk.out g19.out _ rfl⟩
                    · refine wpOp_step rfl (fun K' hK => ?_)
                      simp [Region.binds] at hd
                      have e19 : xvd 19 = .pointer (some ⟨w.heap.size, 1, none⟩) := hG.get g19.out (by simp [hd])
                      have e18 : xvd 18 = .bool false := hG.get g18.out (by simp [hd])
                      obtain ⟨c0, c1, c2, c3, c4⟩ := BXr.out Wd hb
                      clear hd hin
                      go_simp
                      exact hK _ _ ⟨updV xvd 20 (.int .i64 (B : Int)), by simp [updV, e19, e18, hnP], hb, hG.same gk.out g20.out _ rfl⟩
                    · refine wpOp_step rfl (fun K' hK => ?_)
                      simp [Region.binds] at hd
                      have e18 : xvd 18 = .bool false := hG.get g18.out (by simp [hd])
                      clear hd hin
                      go_simp
                      exact hK _ _ ⟨updV xvd 21 (Value.slice (some { block := bb0, off := o0 }) (N + A) t0), by simp [updV, e18, hnP], hb, hG.same gk.out g21.out _ rfl⟩
                    · refine wpOp_step rfl (fun K' hK => ?_)
                      simp [Region.binds] at hd
                      have e18 : xvd 18 = .bool false := hG.get g18.out (by simp [hd])
                      clear hd hin
                      go_simp
                      exact hK _ _ ⟨updV xvd 22 (Value.int IntKind.i64 ↑i), by simp [updV, e18, hnP], hb, hG.same gk.out g22.out _ rfl⟩
                    · refine wpOp_step rfl (fun K' hK => ?_)
                      simp [Region.binds] at hd
                      have e21 : xvd 21 = Value.slice (some { block := bb0, off := o0 }) (N + A) t0 := hG.get g21.out (by simp [hd])
                      have e22 : xvd 22 = Value.int IntKind.i64 ↑i := hG.get g22.out (by simp [hd])
                      have e18 : xvd 18 = .bool false := hG.get g18.out (by simp [hd])
                      clear hd hin
                      go_simp
                      exact hK _ _ ⟨updV xvd 23 (.pointer (some ⟨bb0, o0 + i, none⟩)), by simp [updV, e21, e22, e18, hnP], hb, hG.same gk.out g23.out _ rfl⟩
                    · refine wpOp_step rfl (fun K' hK => ?_)
                      simp [Region.binds] at hd
                      have e23 : xvd 23 = .pointer (some ⟨bb0, o0 + i, none⟩) := hG.get g23.out (by simp [hd])
                      have e18 : xvd 18 = .bool false := hG.get g18.out (by simp [hd])
                      have hc := (CX.out Wd hb).1
                      clear hd hin
                      go_simp
                      exact hK _ _ ⟨updV xvd 24 (.slice q0 B d0), by simp [updV, e23, e18, hnP], hb, hG.same gk.out g24.out _ rfl⟩
                    · refine wpOp_step rfl (fun K' hK => ?_)
                      simp [Region.binds] at hd
                      have e18 : xvd 18 = .bool false := hG.get g18.out (by simp [hd])
                      clear hd hin
                      go_simp
                      exact hK _ _ ⟨updV xvd 25 (Value.slice (some { block := bb1, off := o1 }) (N + A) t1), by simp [updV, e18, hnP], hb, hG.same gk.out g25.out _ rfl⟩
                    · refine wpOp_step rfl (fun K' hK => ?_)
                      simp [Region.binds] at hd
                      have e18 : xvd 18 = .bool false := hG.get g18.out (by simp [hd])
                      clear hd hin
                      go_simp
                      exact hK _ _ ⟨updV xvd 26 (Value.int IntKind.i64 ↑i), by simp [updV, e18, hnP], hb, hG.same gk.out g26.out _ rfl⟩
                    · refine wpOp_step rfl (fun K' hK => ?_)
                      simp [Region.binds] at hd
                      have e25 : xvd 25 = Value.slice (some { block := bb1, off := o1 }) (N + A) t1 := hG.get g25.out (by simp [hd])
                      have e26 : xvd 26 = Value.int IntKind.i64 ↑i := hG.get g26.out (by simp [hd])
                      have e18 : xvd 18 = .bool false := hG.get g18.out (by simp [hd])
                      clear hd hin
                      go_simp
                      exact hK _ _ ⟨updV xvd 27 (.pointer (some ⟨bb1, o1 + i, none⟩)), by simp [updV, e25, e26, e18, hnP], hb, hG.same gk.out g27.out _ rfl⟩
                    · refine wpOp_step rfl (fun K' hK => ?_)
                      simp [Region.binds] at hd
                      have e27 : xvd 27 = .pointer (some ⟨bb1, o1 + i, none⟩) := hG.get g27.out (by simp [hd])
                      have e18 : xvd 18 = .bool false := hG.get g18.out (by simp [hd])
                      have hc := (CX.out Wd hb).2.1
                      clear hd hin
                      go_simp
                      exact hK _ _ ⟨updV xvd 28 (.slice q1 B d1), by simp [updV, e27, e18, hnP], hb, hG.same gk.out g28.out _ rfl⟩
                    · refine wpOp_step rfl (fun K' hK => ?_)
                      simp [Region.binds] at hd
                      have e24 : xvd 24 = .slice q0 B d0 := hG.get g24.out (by simp [hd])
                      have e28 : xvd 28 = .slice q1 B d1 := hG.get g28.out (by simp [hd])
                      have e18 : xvd 18 = .bool false := hG.get g18.out (by simp [hd])
                      clear hd hin
                      go_simp
                      exact hK _ _ ⟨updV xvd 29 (.slice (some ⟨Wd.heap.size, 0, none⟩) 2 2), by simp [updV, e24, e28, e18, hnP], hb.trans ((below_alloc _ _).mono hb.size), hG.step gk.out (below_alloc _ _) g29.out _ ⟨_, rfl, fun j u hj => by rw [World.cell?_alloc_new]; simpa using hj⟩⟩
                    · refine wpOp_step rfl (fun K' hK => ?_)
                      simp [Region.binds] at hd
                      have e20 : xvd 20 = .int .i64 (B : Int) := hG.get g20.out (by simp [hd])
                      have m29 : IsRow [.slice q0 B d0, .slice q1 B d1] (xvd 29) Wd := hG.get g29.out (by simp [hd])
                      have e18 : xvd 18 = .bool false := hG.get g18.out (by simp [hd])
                      clear hd hin
                      go_simp
                      refine (SS.out Wd _ hb m29).mono ?_
                      rintro e w' ⟨v, rfl, hv, hb'⟩
                      go_wp2_with fail
                      exact ⟨updV xvd 30 v, by simp [updV, e20, e18, hnP], hb.trans (hb'.mono hb.size), hG.step gk.out hb' g30.out v hv⟩
                    · refine wpOp_step rfl (fun K' hK => ?_)
                      simp [Region.binds] at hd
                      have m30 : IsBs y2 (xvd 30) Wd := hG.get g30.out (by simp [hd])
                      have e18 : xvd 18 = .bool false := hG.get g18.out (by simp [hd])
                      have kr := conv_bytes m30
                      clear hd hin
                      go_simp
                      exact hK _ _ ⟨updV xvd 31 (.string (str y2)), by simp [updV, e18, hnP], hb, hG.same gk.out g31.out _ rfl⟩
                    · refine wpOp_step rfl (fun K' hK => ?_)
                      simp [Region.binds] at hd
                      have e18 : xvd 18 = .bool false := hG.get g18.out (by simp [hd])
                      clear hd hin
                      go_simp
                      exact hK _ _ ⟨updV xvd 32 (Value.slice (some { block := bb2, off := o2 }) (N + A) t2), by simp [updV, e18, hnP], hb, hG.same gk.out g32.out _ rfl⟩
                    · refine wpOp_step rfl (fun K' hK => ?_)
                      simp [Region.binds] at hd
                      have e18 : xvd 18 = .bool false := hG.get g18.out (by simp [hd])
                      clear hd hin
                      go_simp
                      exact hK _ _ ⟨updV xvd 33 (Value.int IntKind.i64 ↑i), by simp [updV, e18, hnP], hb, hG.same gk.out g33.out _ rfl⟩
                    · refine wpOp_step rfl (fun K' hK => ?_)
                      simp [Region.binds] at hd
                      have e32 : xvd 32 = Value.slice (some { block := bb2, off := o2 }) (N + A) t2 := hG.get g32.out (by simp [hd])
                      have e33 : xvd 33 = Value.int IntKind.i64 ↑i := hG.get g33.out (by simp [hd])
                      have e18 : xvd 18 = .bool false := hG.get g18.out (by simp [hd])
                      clear hd hin
                      go_simp
                      exact hK _ _ ⟨updV xvd 34 (.pointer (some ⟨bb2, o2 + i, none⟩)), by simp [updV, e32, e33, e18, hnP], hb, hG.same gk.out g34.out _ rfl⟩
                    · refine wpOp_step rfl (fun K' hK => ?_)
                      simp [Region.binds] at hd
                      have e34 : xvd 34 = .pointer (some ⟨bb2, o2 + i, none⟩) := hG.get g34.out (by simp [hd])
                      have e18 : xvd 18 = .bool false := hG.get g18.out (by simp [hd])
                      have hc := (CX.out Wd hb).2.2
                      clear hd hin
                      go_simp
                      exact hK _ _ ⟨updV xvd 35 (.slice q2 B d2), by simp [updV, e34, e18, hnP], hb, hG.same gk.out g35.out _ rfl⟩
                    · refine wpOp_step rfl (fun K' hK => ?_)
                      simp [Region.binds] at hd
                      have e35 : xvd 35 = .slice q2 B d2 := hG.get g35.out (by simp [hd])
                      have e18 : xvd 18 = .bool false := hG.get g18.out (by simp [hd])
                      have kr := KC.out Wd hb
                      clear hd hin
                      go_simp
                      exact hK _ _ ⟨updV xvd 36 (.string (str y2)), by simp [updV, e35, e18, hnP], hb, hG.same gk.out g36.out _ rfl⟩
                    · refine wpOp_step rfl (fun K' hK => ?_)
                      simp [Region.binds] at hd
                      have e31 : xvd 31 = .string (str y2) := hG.get g31.out (by simp [hd])
                      have e36 : xvd 36 = .string (str y2) := hG.get g36.out (by simp [hd])
                      have e18 : xvd 18 = .bool false := hG.get g18.out (by simp [hd])
                      clear hd hin
                      go_simp
                      exact hK _ _ ⟨updV xvd 37 (.bool false), by simp [updV, e31, e36, e18, hnP], hb, hG.same gk.out g37.out _ rfl⟩
                    · refine wpOp_step rfl (fun K' hK => ?_)
                      simp [Region.binds] at hd
                      have e18 : xvd 18 = .bool false := hG.get g18.out (by simp [hd])
                      have e37 : xvd 37 = .bool false := hG.get g37.out (by simp [hd])
                      clear hd hin
                      go_simp
                      exact hK _ _ ⟨updV xvd 38 (.bool false), by simp [updV, e18, e37, hnP], hb, hG.same gk.out g38.out _ rfl⟩
                  · rintro listed ac Wd ⟨xvd, rfl, hb, hG⟩ hall
                    have e38 : xvd 38 = .bool false := hG.get g38.out (hall 38 (by decide))
                    have XW : Hid (Below wr.heap.size wr Wd) := hb
                    clear hall hG hb gk g0 g1 g2 g3 g4 g5 g6 g7 g8 g9 g10 g11 g12 g13 g14 g15 g16 g17 g18 g19 g20 g21 g22 g23 g24 g25 g26 g27 g28 g29 g30 g31 g32 g33 g34 g35 g36 g37 g38
                    rw [e38]
                    clear e38
                    have B9 : Hid (Below w6.heap.size w6 Wd) := on_below BB.out XW.out
                    clear BB CX KC SS XW BXr
                    go_wp2
                    go_roundw
                    case rel => exact ⟨i + 1, by omega, by go_num, B9⟩
                    case measure => simp [intOf]; omega
                · have BE : Hid (Below w.heap.size w wr) := on_below (on_below B3.out X6.out) BB.out
                  clear BB
                  go_wp2
                  go_ret
                  exact ⟨rfl, BE.out⟩
      · have hgt : (n : Int) > ((N * B : Nat) : Int) := by omega
        clear hl hP hm hpr hsm
        generalize N * B = P at *
        go_wp2_with fail
        refine (CM.out _).mono ?_
        rintro e w3 ⟨rfl, hb3⟩
        have B3 : Hid (Below w.heap.size w w3) := on_below B2.out hb3
        have P3 : Hid (Five w3 w.heap.size N B Q E F) := P2.out.below hb3
        clear hb3 CM P2 c0 c1 c2 c3 c4
        obtain ⟨c0, c1, c2, c3, c4⟩ := P3.out
        go_wp2
        go_ret
        exact ⟨rfl, B3.out⟩
    · have CM : Hid (∀ W, Calls Try.prog 15 #[.agg #[.int .i64 N, .int .i64 B, .int .i64 Q, .int .i64 E, .int .i64 F]] W fun e w' => e = .returned (.bool false) ∧ Below W.heap.size W w') := fun W => rmay_no N B Q E F W hm
      clear hm NB
      go_wp2_with fail
      refine (CM.out _).mono ?_
      rintro e w3 ⟨rfl, hb3⟩
      have B3 : Hid (Below w.heap.size w w3) := on_below B2.out hb3
      clear hb3 CM c0 c1 c2 c3 c4
      go_wp2
      go_ret
      exact ⟨rfl, B3.out⟩

theorem composeAdds_law (N B Q E F S : Int) (u : Value) (l0 : List UInt8) (z : Value) (l1 : List UInt8) (w : World) (hw : Ok .i64 N ∧ Ok .i64 B ∧ Ok .i64 Q ∧ Ok .i64 E ∧ Ok .i64 F) (hS : (Lit.int .u64 S).wf = true) (h : Bs w u l0 ∧ Bs w z l1) :
    Calls Try.prog 7 #[.agg #[.int .i64 N, .int .i64 B, .int .i64 Q, .int .i64 E, .int .i64 F], .int .u64 S, .agg #[u, z]] w fun e w' => e = .returned (.bool true) ∧ Below w.heap.size w w' := by
  simp [Lit.wf, IntKind.min, IntKind.max, IntKind.bits, IntKind.signed] at hS
  obtain ⟨s, rfl⟩ : ∃ s : Nat, S = s := ⟨S.toNat, by omega⟩
  exact composeAdds_walk N B Q E F s u z l0 l1 w (by omega) h.1 h.2

end Go.Proofs.Ytehpbnakdadedaa
