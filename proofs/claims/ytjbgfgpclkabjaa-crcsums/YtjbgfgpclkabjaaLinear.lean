/-
  The walk of the statement CrcLinear.
-/
import Derived.Test.YtjbgfgpclkabjaaLinearA
import Derived.Test.YtjbgfgpclkabjaaOrders
namespace Go.Proofs.Ytjbgfgpclkabjaa
open Go.RowKit
set_option linter.unusedVariables false

/-- A slice of one, and what lies in it. -/
def OneIn (v u : Value) (W : World) : Prop := ∃ p, v = .slice (some ⟨p, 0, none⟩) 1 1 ∧ W.cell? ⟨p, 0, none⟩ = some u

theorem OneIn.below {v u : Value} {W W' : World} (h : OneIn v u W) (hb : Below W.heap.size W W') : OneIn v u W' := by
  obtain ⟨p, h1, h2⟩ := h
  exact ⟨p, h1, (hb.cell (cell_block_lt h2)).trans h2⟩

/-- What each operation of the last expression answers. -/
def Good6 (T V A0 A1 A2 B0 B1 B2 : Value) (N sx s0 s1 s2 : Nat) : Nat → Value → World → Prop
  | 0, v, _ => v = T
  | 1, v, _ => v = V
  | 2, v, W => OneIn v V W
  | 3, v, _ => v = .int .u32 sx
  | 4, v, _ => v = T
  | 5, v, _ => v = A0
  | 6, v, _ => v = .int .i64 N
  | 7, v, _ => v = B0
  | 8, v, W => OneIn v B0 W
  | 9, v, _ => v = .int .u32 s0
  | 10, v, _ => v = T
  | 11, v, _ => v = A1
  | 12, v, _ => v = .int .i64 N
  | 13, v, _ => v = B1
  | 14, v, W => OneIn v B1 W
  | 15, v, _ => v = .int .u32 s1
  | 16, v, _ => v = .int .u32 (bits BinOp.xor IntKind.u32 (s0 : Int) (s1 : Int))
  | 17, v, _ => v = T
  | 18, v, _ => v = A2
  | 19, v, _ => v = .int .i64 N
  | 20, v, _ => v = B2
  | 21, v, W => OneIn v B2 W
  | 22, v, _ => v = .int .u32 s2
  | 23, v, _ => v = .int .u32 sx
  | 24, v, _ => v = .bool true
  | 25, v, _ => v = .bool true
  | _, _, _ => True

theorem Good6.below {T V A0 A1 A2 B0 B1 B2 : Value} {N sx s0 s1 s2 : Nat} {W W' : World} (hb : Below W.heap.size W W') (j : Nat) (u : Value) (h : Good6 T V A0 A1 A2 B0 B1 B2 N sx s0 s1 s2 j u W) : Good6 T V A0 A1 A2 B0 B1 B2 N sx s0 s1 s2 j u W' := by
  unfold Good6 at h ⊢
  split <;> first | exact h | exact OneIn.below h hb | trivial

theorem below_alloc (W : World) (o : Obj) : Below W.heap.size W (W.alloc o) := (Below.refl _ _).alloc (Nat.le_refl _) _

set_option maxRecDepth 100000 in
set_option maxHeartbeats 40000000 in
theorem linear_walk (v0 : Value) (l0 : List UInt8) (v1 : Value) (l1 : List UInt8) (v2 : Value) (l2 : List UInt8) (w : World) (h0 : Bs w v0 l0) (h1 : Bs w v1 l1) (h2 : Bs w v2 l2) :
    Calls Try.prog 6 #[v0, v1, v2] w fun e w' => e = .returned (.bool true) ∧ Below w.heap.size w w' := by
  obtain ⟨i0, hi, hz0, hz1, hz2⟩ := info_parts Try.info5
  have B0 := h0
  have B1 := h1
  have B2 := h2
  obtain ⟨hll0, a0, c0, rfl, hc0, hm0, _, hcc0⟩ := h0
  obtain ⟨hll1, a1, c1, rfl, hc1, hm1, _, hcc1⟩ := h1
  obtain ⟨hll2, a2, c2, rfl, hc2, hm2, _, hcc2⟩ := h2
  clear hll0 hll1 hll2
  unfold maxLen at hm0 hm1 hm2
  have H0 : Hid (Bs w (.slice a0 l0.length c0) l0) := B0
  have H1 : Hid (Bs w (.slice a1 l1.length c1) l1) := B1
  have H2 : Hid (Bs w (.slice a2 l2.length c2) l2) := B2
  clear B0 B1 B2
  obtain ⟨N, hN0, hN1, hN2, hN300, hmin⟩ := min4 l0.length l1.length l2.length
  go_enter Try.func6, Try.ntmps6
  go_wp2_with fail
  refine (speaks_any w).mono ?_
  rintro e w1 ⟨rfl, hb1⟩
  have X1 : Hid (Below w.heap.size w w1) := hb1
  clear hb1
  obtain ⟨X, hX⟩ : ∃ X, MathA.xor3 (l0.take N) (l1.take N) (l2.take N) = X := ⟨_, rfl⟩
  have HX : Hid (MathA.xor3 (l0.take N) (l1.take N) (l2.take N) = X) := hX
  have HXl : Hid (X.length = N) := by
    rw [← hX]
    unfold Hid
    rw [MathA.xor3_length _ _ _ (by simp; omega) (by simp; omega)]
    simp; omega
  have HXa : Hid (∀ k, k < N → X[k]? = some (l0.getD k 0 ^^^ l1.getD k 0 ^^^ l2.getD k 0)) := by
    intro k hk
    rw [← hX, MathA.xor3_at _ _ _ _ (by simp; omega) (by simp; omega) (by simp; omega)]
    simp [List.getD, hk]
  clear hX
  go_wp2_with (at_make; refine wpList_make_full _ rfl _ _ 22 rfl w.heap.size 5 i0 (.int .u8 0) 1 Try.underlying22 hi hz0 hz1 _ _ _ _ N rfl rfl rfl rfl (by rw [hz2]; omega) (by unfold maxLen; omega) X1.out.size ?_; intro w2 ho hgrow)
  have X2 : Hid (Below w.heap.size w w2) := X1.out.grown hgrow X1.out.size (by intro k hk; cases hk)
  have O2 : Hid (w2.ownsRow w.heap.size 5 1 (.slice (some ⟨w1.heap.size, 0, none⟩) N N) N (filled X 0)) := by
    rw [filled_zero, HXl.out]
    simp only [Value.cells, Nat.mul_one, toList_madeCells_one] at ho
    exact ho
  have HQ : Hid (w.heap.size ≤ w1.heap.size) := X1.out.size
  clear hgrow ho X1 hmin
  generalize w1.heap.size = q at *
  go_loopw [24] (fun i wr => ∃ k : Nat, k ≤ N ∧ i = .int .i64 k ∧ wr.ownsRow w.heap.size 5 1 (.slice (some ⟨q, 0, none⟩) N N) N (filled X k) ∧ Below w.heap.size w wr) (fun i _ => N - (intOf i).toNat)
  case atStart => exact ⟨0, by omega, rfl, O2.out, X2.out⟩
  case round =>
    obtain ⟨k, hk, rfl, hown, hbel⟩ := hrel
    have XB : Hid (Below w.heap.size w wr) := hbel
    clear hbel
    by_cases hlt : k < N
    · rcases hcc0 with hh0 | ⟨b0, o0, rfl, hcl0⟩
      · omega
      rcases hcc1 with hh1 | ⟨b1, o1, rfl, hcl1⟩
      · omega
      rcases hcc2 with hh2 | ⟨b2, o2, rfl, hcl2⟩
      · omega
      have f0 := cell_at hcl0 k (by omega)
      have f1 := cell_at hcl1 k (by omega)
      have f2 := cell_at hcl2 k (by omega)
      have g0 := (XB.out.cell (cell_block_lt f0)).trans f0
      have g1 := (XB.out.cell (cell_block_lt f1)).trans f1
      have g2 := (XB.out.cell (cell_block_lt f2)).trans f2
      have e0 : (k : Int) < (l0.length : Int) := by omega
      have e1 : (k : Int) < (l1.length : Int) := by omega
      have e2 : (k : Int) < (l2.length : Int) := by omega
      have hfl : (filled X k).length = N := by have := hown.1; simpa using this
      obtain ⟨u, hu⟩ : ∃ u, (filled X k)[k]? = some u := ⟨_, List.getElem?_eq_getElem (by omega)⟩
      have hcl := hown.cellAt k (by omega)
      rw [hu] at hcl
      have hfr := hown.frozenAt k
      have HO : Hid (∀ u, (wr.setCell ⟨q, k, none⟩ u).ownsRow w.heap.size 5 1 (.slice (some ⟨q, 0, none⟩) N N) N ((filled X k).set k u) ∧ wr.grownBy (wr.setCell ⟨q, k, none⟩ u) (some q)) := hown.stored k
      have hxk := HXa.out k hlt
      have Hxk : Hid (X[k]? = some (l0.getD k 0 ^^^ l1.getD k 0 ^^^ l2.getD k 0)) := hxk
      clear hxk hcl0 hcl1 hcl2 f0 f1 f2 hfl hu hown
      generalize l0.getD k 0 = y0 at *
      generalize l1.getD k 0 = y1 at *
      generalize l2.getD k 0 = y2 at *
      go_wp2
      go_region
      go_wp2
      go_roundw
      case rel => exact ⟨k + 1, by omega, by go_num, by rw [xor_bytes, ← filled_set X k _ Hxk.out]; exact (HO.out _).1.drew, (XB.out.setCell (by exact HQ.out) _).drew⟩
      case measure => simp [intOf]; omega
    · have hS : Bs wr (.slice (some ⟨q, 0, none⟩) N N) X := by
        have h1 := owned_sl hown
        rw [filled_all X k (by have := HXl.out; omega)] at h1
        unfold Bs
        rw [HXl.out]
        exact h1
      have HS : Hid (Bs wr (.slice (some ⟨q, 0, none⟩) N N) X) := hS
      clear hown hcc0 hcc1 hcc2 hS O2 X2
      go_wp2_with fail
      refine (new_c _).mono ?_
      rintro e w5 ⟨rfl, hT, hb5, hs5⟩
      have X5 : Hid (Below w.heap.size w w5) := XB.out.trans (hb5.mono XB.out.size)
      clear hs5
      have S5 : Hid (Bs w5 (.slice (some ⟨q, 0, none⟩) N N) X) := HS.out.below hb5
      have T5' : IsTab w5 wr.heap.size := hT
      generalize wr.heap.size = g at *
      have T5 : Hid (IsTab w5 g) := T5'
      clear hb5 hT XB HS T5'
      have hs0 := fun W => slice_to W a0 l0.length c0 N (by omega)
      have hs1 := fun W => slice_to W a1 l1.length c1 N (by omega)
      have hs2 := fun W => slice_to W a2 l2.length c2 N (by omega)
      have FX : Hid (∀ W p, Below w5.heap.size w5 W → W.cell? ⟨p, 0, none⟩ = some (.slice (some ⟨q, 0, none⟩) N N) → Calls Try.prog 17 #[.pointer (some ⟨g, 0, none⟩), .slice (some ⟨p, 0, none⟩) 1 1] W fun e w' => e = .returned (.int .u32 (MathA.sum X)) ∧ w' = W) :=
        fun W p hW hc => sum_at g p _ _ W (T5.out.below hW) hc (S5.out.below hW)
      have F0 : Hid (∀ W p, Below w5.heap.size w5 W → W.cell? ⟨p, 0, none⟩ = some (.slice a0 N c0) → Calls Try.prog 17 #[.pointer (some ⟨g, 0, none⟩), .slice (some ⟨p, 0, none⟩) 1 1] W fun e w' => e = .returned (.int .u32 (MathA.sum (l0.take N))) ∧ w' = W) :=
        fun W p hW hc => sum_at g p _ _ W (T5.out.below hW) hc (((H0.out.below X5.out).take hN0).below hW)
      have F1 : Hid (∀ W p, Below w5.heap.size w5 W → W.cell? ⟨p, 0, none⟩ = some (.slice a1 N c1) → Calls Try.prog 17 #[.pointer (some ⟨g, 0, none⟩), .slice (some ⟨p, 0, none⟩) 1 1] W fun e w' => e = .returned (.int .u32 (MathA.sum (l1.take N))) ∧ w' = W) :=
        fun W p hW hc => sum_at g p _ _ W (T5.out.below hW) hc (((H1.out.below X5.out).take hN1).below hW)
      have F2 : Hid (∀ W p, Below w5.heap.size w5 W → W.cell? ⟨p, 0, none⟩ = some (.slice a2 N c2) → Calls Try.prog 17 #[.pointer (some ⟨g, 0, none⟩), .slice (some ⟨p, 0, none⟩) 1 1] W fun e w' => e = .returned (.int .u32 (MathA.sum (l2.take N))) ∧ w' = W) :=
        fun W p hW hc => sum_at g p _ _ W (T5.out.below hW) hc (((H2.out.below X5.out).take hN2).below hW)
      have hv := xor_sums (MathA.sum (l0.take N)) (MathA.sum (l1.take N)) (MathA.sum (l2.take N)) (MathA.sum_lt _) (MathA.sum_lt _) (MathA.sum_lt _)
      rw [← MathA.sum_xor3 _ _ _ (by simp; omega) (by simp; omega), HX.out] at hv
      clear S5 T5 H0 H1 H2 HX HXl HXa hi hz0 hz1 hz2 hlt hk
      generalize MathA.sum X = sx at *
      generalize MathA.sum (l0.take N) = s0 at *
      generalize MathA.sum (l1.take N) = s1 at *
      generalize MathA.sum (l2.take N) = s2 at *
      have hvx : (bits BinOp.xor IntKind.u32 (bits BinOp.xor IntKind.u32 (s0 : Int) (s1 : Int)) (s2 : Int)) = (sx : Int) := hv
      clear hv
      go_wp2
      refine wp_region_any (by kernel_rfl) ?_
      refine wpAny_inv (fun listed a W => ∃ x : Nat → Value, a = ⟨#[.slice a0 l0.length c0, .slice a1 l1.length c1, .slice a2 l2.length c2, undef, undef, undef, x 25, .int .i64 N, .slice (some ⟨q, 0, none⟩) N N, u9, .pointer (some ⟨g, 0, none⟩), .bool true, .bool false, .slice a0 l0.length c0, .int .i64 l0.length, .slice a1 l1.length c1, .int .i64 l1.length, .slice a2 l2.length c2, .int .i64 l2.length, .int .i64 N, .int .i64 N, .slice (some ⟨q, 0, none⟩) N N, .slice (some ⟨q, 0, none⟩) N N, .int .i64 N, .int .i64 k, .bool false, u26, u27, u28, u29, u30, u31, u32, u33, u34, u35, u36, u37, u38, u39, u40, u41, u42, u43, u44, .pointer (some ⟨g, 0, none⟩), x 0, x 1, x 2, x 3, x 4, x 5, x 6, x 7, x 8, x 9, x 10, x 11, x 12, x 13, x 14, x 15, x 16, x 17, x 18, x 19, x 20, x 21, x 22, x 23, x 24], []⟩ ∧ Below w5.heap.size w5 W ∧ Listed (Good6 (.pointer (some ⟨g, 0, none⟩)) (.slice (some ⟨q, 0, none⟩) N N) (.slice a0 l0.length c0) (.slice a1 l1.length c1) (.slice a2 l2.length c2) (.slice a0 N c0) (.slice a1 N c1) (.slice a2 N c2) N sx s0 s1 s2) listed x W) (by kernel_rfl) ?_ ?_ _ _ _ _ (by kernel_rfl) (of_decide_eq_true (by kernel_rfl)) ⟨fun j => if j = 25 then .bool false else undef, rfl, below0 _, Listed.start _ _ _ _⟩
      · rintro listed a W ⟨x, rfl, hb, hG⟩ i hi hd
        have hi26 : i < 26 := hi
        clear hi
        have hcase : i = 0 ∨ i = 1 ∨ i = 2 ∨ i = 3 ∨ i = 4 ∨ i = 5 ∨ i = 6 ∨ i = 7 ∨ i = 8 ∨ i = 9 ∨ i = 10 ∨ i = 11 ∨ i = 12 ∨ i = 13 ∨ i = 14 ∨ i = 15 ∨ i = 16 ∨ i = 17 ∨ i = 18 ∨ i = 19 ∨ i = 20 ∨ i = 21 ∨ i = 22 ∨ i = 23 ∨ i = 24 ∨ i = 25 := by omega
        rcases hcase with rfl | rfl | rfl | rfl | rfl | rfl | rfl | rfl | rfl | rfl | rfl | rfl | rfl | rfl | rfl | rfl | rfl | rfl | rfl | rfl | rfl | rfl | rfl | rfl | rfl | rfl
        · refine wpOp_step rfl (fun K' hK => ?_)
          clear hd hi26
          go_simp
          exact hK _ _ ⟨updV x 0 (.pointer (some ⟨g, 0, none⟩)), by simp [updV], hb, hG.step 0 _ (fun j u h => h) rfl⟩
        · refine wpOp_step rfl (fun K' hK => ?_)
          clear hd hi26
          go_simp
          exact hK _ _ ⟨updV x 1 (.slice (some ⟨q, 0, none⟩) N N), by simp [updV], hb, hG.step 1 _ (fun j u h => h) rfl⟩
        · refine wpOp_step rfl (fun K' hK => ?_)
          simp [Region.binds] at hd
          have e1 : x 1 = .slice (some ⟨q, 0, none⟩) N N := hG 1 (by simp [hd])
          clear hd hi26
          go_simp
          exact hK _ _ ⟨updV x 2 (.slice (some ⟨W.heap.size, 0, none⟩) 1 1), by simp [updV, e1], hb.trans ((below_alloc _ _).mono hb.size), hG.step 2 _ (fun j u h => h.below (below_alloc _ _)) ⟨_, rfl, by simp⟩⟩
        · refine wpOp_step rfl (fun K' hK => ?_)
          simp [Region.binds] at hd
          have e0 : x 0 = .pointer (some ⟨g, 0, none⟩) := hG 0 (by simp [hd])
          obtain ⟨p2, e2, m2⟩ : OneIn (x 2) (.slice (some ⟨q, 0, none⟩) N N) W := hG 2 (by simp [hd])
          clear hd hi26
          go_simp
          refine (FX.out _ _ hb m2).mono ?_
          rintro e w' ⟨rfl, rfl⟩
          go_wp2_with fail
          exact ⟨updV x 3 (.int .u32 sx), by simp [updV, e0, e2], hb, hG.step 3 _ (fun j u h => h) rfl⟩
        · refine wpOp_step rfl (fun K' hK => ?_)
          clear hd hi26
          go_simp
          exact hK _ _ ⟨updV x 4 (.pointer (some ⟨g, 0, none⟩)), by simp [updV], hb, hG.step 4 _ (fun j u h => h) rfl⟩
        · refine wpOp_step rfl (fun K' hK => ?_)
          clear hd hi26
          go_simp
          exact hK _ _ ⟨updV x 5 (.slice a0 l0.length c0), by simp [updV], hb, hG.step 5 _ (fun j u h => h) rfl⟩
        · refine wpOp_step rfl (fun K' hK => ?_)
          clear hd hi26
          go_simp
          exact hK _ _ ⟨updV x 6 (.int .i64 N), by simp [updV], hb, hG.step 6 _ (fun j u h => h) rfl⟩
        · refine wpOp_step rfl (fun K' hK => ?_)
          simp [Region.binds] at hd
          have e5 : x 5 = .slice a0 l0.length c0 := hG 5 (by simp [hd])
          have e6 : x 6 = .int .i64 N := hG 6 (by simp [hd])
          clear hd hi26
          go_simp
          exact hK _ _ ⟨updV x 7 (.slice a0 N c0), by simp [updV, e5, e6], hb, hG.step 7 _ (fun j u h => h) rfl⟩
        · refine wpOp_step rfl (fun K' hK => ?_)
          simp [Region.binds] at hd
          have e7 : x 7 = .slice a0 N c0 := hG 7 (by simp [hd])
          clear hd hi26
          go_simp
          exact hK _ _ ⟨updV x 8 (.slice (some ⟨W.heap.size, 0, none⟩) 1 1), by simp [updV, e7], hb.trans ((below_alloc _ _).mono hb.size), hG.step 8 _ (fun j u h => h.below (below_alloc _ _)) ⟨_, rfl, by simp⟩⟩
        · refine wpOp_step rfl (fun K' hK => ?_)
          simp [Region.binds] at hd
          have e4 : x 4 = .pointer (some ⟨g, 0, none⟩) := hG 4 (by simp [hd])
          obtain ⟨p8, e8, m8⟩ : OneIn (x 8) (.slice a0 N c0) W := hG 8 (by simp [hd])
          clear hd hi26
          go_simp
          refine (F0.out _ _ hb m8).mono ?_
          rintro e w' ⟨rfl, rfl⟩
          go_wp2_with fail
          exact ⟨updV x 9 (.int .u32 s0), by simp [updV, e4, e8], hb, hG.step 9 _ (fun j u h => h) rfl⟩
        · refine wpOp_step rfl (fun K' hK => ?_)
          clear hd hi26
          go_simp
          exact hK _ _ ⟨updV x 10 (.pointer (some ⟨g, 0, none⟩)), by simp [updV], hb, hG.step 10 _ (fun j u h => h) rfl⟩
        · refine wpOp_step rfl (fun K' hK => ?_)
          clear hd hi26
          go_simp
          exact hK _ _ ⟨updV x 11 (.slice a1 l1.length c1), by simp [updV], hb, hG.step 11 _ (fun j u h => h) rfl⟩
        · refine wpOp_step rfl (fun K' hK => ?_)
          clear hd hi26
          go_simp
          exact hK _ _ ⟨updV x 12 (.int .i64 N), by simp [updV], hb, hG.step 12 _ (fun j u h => h) rfl⟩
        · refine wpOp_step rfl (fun K' hK => ?_)
          simp [Region.binds] at hd
          have e11 : x 11 = .slice a1 l1.length c1 := hG 11 (by simp [hd])
          have e12 : x 12 = .int .i64 N := hG 12 (by simp [hd])
          clear hd hi26
          go_simp
          exact hK _ _ ⟨updV x 13 (.slice a1 N c1), by simp [updV, e11, e12], hb, hG.step 13 _ (fun j u h => h) rfl⟩
        · refine wpOp_step rfl (fun K' hK => ?_)
          simp [Region.binds] at hd
          have e13 : x 13 = .slice a1 N c1 := hG 13 (by simp [hd])
          clear hd hi26
          go_simp
          exact hK _ _ ⟨updV x 14 (.slice (some ⟨W.heap.size, 0, none⟩) 1 1), by simp [updV, e13], hb.trans ((below_alloc _ _).mono hb.size), hG.step 14 _ (fun j u h => h.below (below_alloc _ _)) ⟨_, rfl, by simp⟩⟩
        · refine wpOp_step rfl (fun K' hK => ?_)
          simp [Region.binds] at hd
          have e10 : x 10 = .pointer (some ⟨g, 0, none⟩) := hG 10 (by simp [hd])
          obtain ⟨p14, e14, m14⟩ : OneIn (x 14) (.slice a1 N c1) W := hG 14 (by simp [hd])
          clear hd hi26
          go_simp
          refine (F1.out _ _ hb m14).mono ?_
          rintro e w' ⟨rfl, rfl⟩
          go_wp2_with fail
          exact ⟨updV x 15 (.int .u32 s1), by simp [updV, e10, e14], hb, hG.step 15 _ (fun j u h => h) rfl⟩
        · refine wpOp_step rfl (fun K' hK => ?_)
          simp [Region.binds] at hd
          have e9 : x 9 = .int .u32 s0 := hG 9 (by simp [hd])
          have e15 : x 15 = .int .u32 s1 := hG 15 (by simp [hd])
          clear hd hi26
          go_simp
          exact hK _ _ ⟨updV x 16 (.int .u32 (bits BinOp.xor IntKind.u32 (s0 : Int) (s1 : Int))), by simp [updV, e9, e15], hb, hG.step 16 _ (fun j u h => h) rfl⟩
        · refine wpOp_step rfl (fun K' hK => ?_)
          clear hd hi26
          go_simp
          exact hK _ _ ⟨updV x 17 (.pointer (some ⟨g, 0, none⟩)), by simp [updV], hb, hG.step 17 _ (fun j u h => h) rfl⟩
        · refine wpOp_step rfl (fun K' hK => ?_)
          clear hd hi26
          go_simp
          exact hK _ _ ⟨updV x 18 (.slice a2 l2.length c2), by simp [updV], hb, hG.step 18 _ (fun j u h => h) rfl⟩
        · refine wpOp_step rfl (fun K' hK => ?_)
          clear hd hi26
          go_simp
          exact hK _ _ ⟨updV x 19 (.int .i64 N), by simp [updV], hb, hG.step 19 _ (fun j u h => h) rfl⟩
        · refine wpOp_step rfl (fun K' hK => ?_)
          simp [Region.binds] at hd
          have e18 : x 18 = .slice a2 l2.length c2 := hG 18 (by simp [hd])
          have e19 : x 19 = .int .i64 N := hG 19 (by simp [hd])
          clear hd hi26
          go_simp
          exact hK _ _ ⟨updV x 20 (.slice a2 N c2), by simp [updV, e18, e19], hb, hG.step 20 _ (fun j u h => h) rfl⟩
        · refine wpOp_step rfl (fun K' hK => ?_)
          simp [Region.binds] at hd
          have e20 : x 20 = .slice a2 N c2 := hG 20 (by simp [hd])
          clear hd hi26
          go_simp
          exact hK _ _ ⟨updV x 21 (.slice (some ⟨W.heap.size, 0, none⟩) 1 1), by simp [updV, e20], hb.trans ((below_alloc _ _).mono hb.size), hG.step 21 _ (fun j u h => h.below (below_alloc _ _)) ⟨_, rfl, by simp⟩⟩
        · refine wpOp_step rfl (fun K' hK => ?_)
          simp [Region.binds] at hd
          have e17 : x 17 = .pointer (some ⟨g, 0, none⟩) := hG 17 (by simp [hd])
          obtain ⟨p21, e21, m21⟩ : OneIn (x 21) (.slice a2 N c2) W := hG 21 (by simp [hd])
          clear hd hi26
          go_simp
          refine (F2.out _ _ hb m21).mono ?_
          rintro e w' ⟨rfl, rfl⟩
          go_wp2_with fail
          exact ⟨updV x 22 (.int .u32 s2), by simp [updV, e17, e21], hb, hG.step 22 _ (fun j u h => h) rfl⟩
        · refine wpOp_step rfl (fun K' hK => ?_)
          simp [Region.binds] at hd
          have e16 : x 16 = .int .u32 (bits BinOp.xor IntKind.u32 (s0 : Int) (s1 : Int)) := hG 16 (by simp [hd])
          have e22 : x 22 = .int .u32 s2 := hG 22 (by simp [hd])
          clear hd hi26
          go_simp
          exact hK _ _ ⟨updV x 23 (.int .u32 sx), by simp [updV, e16, e22], hb, hG.step 23 _ (fun j u h => h) rfl⟩
        · refine wpOp_step rfl (fun K' hK => ?_)
          simp [Region.binds] at hd
          have e3 : x 3 = .int .u32 sx := hG 3 (by simp [hd])
          have e23 : x 23 = .int .u32 sx := hG 23 (by simp [hd])
          clear hd hi26
          go_simp
          exact hK _ _ ⟨updV x 24 (.bool true), by simp [updV, e3, e23], hb, hG.step 24 _ (fun j u h => h) rfl⟩
        · refine wpOp_step rfl (fun K' hK => ?_)
          simp [Region.binds] at hd
          have e24 : x 24 = .bool true := hG 24 (by simp [hd])
          clear hd hi26
          go_simp
          exact hK _ _ ⟨updV x 25 (.bool true), by simp [updV, e24], hb, hG.step 25 _ (fun j u h => h) rfl⟩
      · rintro listed a W ⟨x, rfl, hb, hG⟩ hall
        have e25 : x 25 = .bool true := hG 25 (hall 25 (by decide))
        have XW : Hid (Below w.heap.size w W) := X5.out.trans (hb.mono X5.out.size)
        clear hall hG hb
        rw [e25]
        go_wp2
        go_ret
        exact ⟨rfl, XW.out⟩

end Go.Proofs.Ytjbgfgpclkabjaa
