/-
  EmitAdds.
-/
import Derived.Test.YtehpbnakdadedaaESums
namespace Go.Proofs.Ytehpbnakdadedaa
open Go.RowKit
set_option linter.unusedVariables false

theorem comp_xorR (N B : Nat) (rows : List (List Int)) {l m : List UInt8} (h : m.length = l.length) : compD N B rows (xorL l m) = xorR (compD N B rows l) (compD N B rows m) := by
  have e : (compD N B rows m).length = (compD N B rows l).length := by rw [compD_length, compD_length]
  apply List.ext_getElem?
  intro i
  unfold xorR
  rw [List.getElem?_zipWith]
  by_cases hi : i < (compD N B rows l).length
  · have h1 := List.getElem?_eq_getElem hi
    have h2 := List.getElem?_eq_getElem (show i < (compD N B rows m).length by omega)
    rw [h1, h2, comp_two_at N B rows h h1 h2]
  · rw [List.getElem?_eq_none (by rw [compD_length] at hi ⊢; omega), List.getElem?_eq_none (show (compD N B rows l).length ≤ i by omega)]
/-- Two and both upon each other: nothing. -/
theorem sum_three {n : Nat} {x y : List UInt8} (hx : x.length = n) (hy : y.length = n) : fitB n [x, y, xorL x y] = true ∧ xorAll (zeros n) [x, y, xorL x y] = zeros n := by
  have hz : (xorL x y).length = n := by rw [xorL_length (by omega), hx]
  refine ⟨fitB_of (by intro u hu; simp at hu; rcases hu with rfl | rfl | rfl; exact hx; exact hy; exact hz), ?_⟩
  rw [xorAll_first hx]
  show xorL (xorL x y) (xorL x y) = _
  rw [xorL_self, hz]
/-- What New answers, and an encoder. -/
def IsNt (S N B Q E F L K : Nat) (D : List (List UInt8)) : Value → World → Prop := fun v W => ∃ p B0, v = .tuple #[.pointer (some ⟨p, 0, none⟩), .int .i64 0] ∧ Enc B0 W p S N B Q E F L K D
theorem stays_nt (S N B Q E F L K : Nat) (D : List (List UInt8)) : Stays (IsNt S N B Q E F L K D) := fun _ _ _ hb ⟨p, b, h1, h2⟩ => ⟨p, b, h1, h2.below hb⟩
def IsNp (S N B Q E F L K : Nat) (D : List (List UInt8)) : Value → World → Prop := fun v W => ∃ p B0, v = .pointer (some ⟨p, 0, none⟩) ∧ Enc B0 W p S N B Q E F L K D
theorem stays_np (S N B Q E F L K : Nat) (D : List (List UInt8)) : Stays (IsNp S N B Q E F L K D) := fun _ _ _ hb ⟨p, b, h1, h2⟩ => ⟨p, b, h1, h2.below hb⟩

set_option maxRecDepth 100000 in
set_option maxHeartbeats 8000000 in
theorem emitAdds_walk (N B Q E F : Int) (S : Nat) (ov : Value) (l0 : List UInt8) (iv : Value) (ids : List Nat) (u : Value) (l1 : List UInt8) (w : World) (hS : S < 18446744073709551616) (ho : Bs w ov l0) (hi : Us w iv ids) (h1 : Bs w u l1) :
    Calls Try.prog 10 #[.agg #[.int .i64 N, .int .i64 B, .int .i64 Q, .int .i64 E, .int .i64 F, .int .u64 (S : Int), ov, iv], u] w fun e w' => e = .returned (.bool true) ∧ Below w.heap.size w w' := by
  have HO : Hid (Bs w ov l0) := ho
  have H1 : Hid (Bs w u l1) := h1
  have HS : Hid (S < 18446744073709551616) := hS
  have HU : Hid (Us w iv ids) := hi
  obtain ⟨⟨-, io, icap, rfl, hi2, hi3, -, -⟩, -⟩ := hi
  obtain ⟨-, a0, k0, rfl, e0, d0, -, -⟩ := ho
  obtain ⟨-, a1, k1, rfl, e1, d1, -, -⟩ := h1
  unfold maxLen at d0 d1 hi3
  obtain ⟨n0, hn0⟩ : ∃ n, l0.length = n := ⟨_, rfl⟩
  obtain ⟨n1, hn1⟩ : ∃ n, l1.length = n := ⟨_, rfl⟩
  obtain ⟨m, hm⟩ : ∃ m, ids.length = m := ⟨_, rfl⟩
  rw [hn0] at e0 HO ⊢
  rw [hn1] at e1 H1 ⊢
  rw [hm] at hi2 HU ⊢
  have HM : Hid (ids.length = m) := hm
  have HL0 : Hid (l0.length = n0) := hn0
  obtain ⟨n, hn⟩ : ∃ n, min n0 n1 = n := ⟨_, rfl⟩
  have hmin := fun W => min2 n0 n1 (n1 : Int) rfl W
  rw [hn] at hmin
  have le0 : n ≤ n0 := by omega
  have le1 : n ≤ n1 := by omega
  have T0 : Hid (Bs w (.slice a0 n k0) (l0.take n)) := HO.out.take (by omega)
  have T1 : Hid (Bs w (.slice a1 n k1) (l1.take n)) := H1.out.take (by omega)
  have Y0 : Hid ((l0.take n).length = n) := by unfold Hid; rw [List.length_take]; omega
  have Y1 : Hid ((l1.take n).length = n) := by unfold Hid; rw [List.length_take]; omega
  generalize l0.take n = x0 at *
  generalize l1.take n = x1 at *
  clear hn hn0 hn1 hm hS H1
  go_enter Try.func10, Try.ntmps10
  go_wp2_with fail
  refine (speaks14_any _).mono ?_
  rintro e w1 ⟨rfl, hb⟩
  have B1 : Hid (Below w.heap.size w w1) := on_below (below_alloc _ _) hb
  have F1 : Hid (CaseC w1 w.heap.size N B Q E F S (.slice a0 n0 k0) (.slice io m icap)) := (case_new w _ N B Q E F S _ _).below hb
  clear hb
  obtain ⟨c0, c1, c2, c3, c4, c5, c6, c7⟩ := F1.out
  go_wp2_with fail
  refine (small14_any N B Q E F _ l0 n0 w1 (HO.out.below B1.out) HL0.out).mono ?_
  rintro e w3 ⟨⟨b, rfl, hb⟩, hx⟩
  have B3 : Hid (Below w.heap.size w w3) := on_below B1.out hx
  have F3 : Hid (CaseC w3 w.heap.size N B Q E F S (.slice a0 n0 k0) (.slice io m icap)) := F1.out.below hx
  clear hx B1 F1 c0 c1 c2 c3 c4 c5 c6 c7
  cases b with
  | false =>
    clear hb
    go_wp2
    go_ret
    exact ⟨rfl, B3.out⟩
  | true =>
    obtain ⟨hm, h60, hb60, hf, hl⟩ := hb.1 rfl
    clear hb
    obtain ⟨c0, c1, c2, c3, c4, c5, c6, c7⟩ := F3.out
    by_cases hm20 : 20 < m
    · clear hm
      go_wp2
      go_ret
      exact ⟨rfl, B3.out⟩
    have hm20I : ¬ (20 : Int) < (m : Int) := by omega
    obtain ⟨N, B, Q, E, F, A, rfl, rfl, rfl, rfl, rfl, hpr, hmd⟩ := pr_natE hm
    have hN60 : N ≤ 60 := by omega
    have hB60 : B ≤ 60 := by omega
    have hA6 : A ≤ 1000000 := may_small hpr (by omega)
    have hl' : n0 ≤ N * B := by exact_mod_cast hl
    have hl2 : n ≤ N * B := by omega
    have hP : N * B ≤ 3600 := Nat.mul_le_mul hN60 hB60
    have hn63 : n ≤ 3600 := by omega
    have HD : Hid (MayD F E) := hmd
    have RW : Hid (RwOk N A (hasR S A Q N)) := hasR_rw S A Q N
    have CB : Hid (∀ W (v : Value) (x : List UInt8), x.length = n → Bs W v x → Calls Try.prog 27 #[.agg #[.int .i64 (N : Int), .int .i64 (B : Int), .int .i64 (Q : Int), .int .i64 (E : Int), .int .i64 (F : Int)], .int .u64 (S : Int), v] W fun e w' => ∃ v, e = .returned v ∧ IsNt S N B Q E F n (N + A) (compD N B (hasR S A Q N) x) v w' ∧ Below W.heap.size W w') := by
      intro W v x hx hv
      refine (enew_yes N B Q A S E F n v x W hpr HS.out hv hx hl2).mono ?_
      rintro e w' ⟨p, rfl, he, hb⟩
      exact ⟨_, rfl, ⟨p, _, rfl, he⟩, hb⟩
    clear hm h60 hb60 hf hl hpr hmd hl' hl2 hP
    generalize hasR S A Q N = rows at *
    have s0 := fun W => slice_to W a0 n0 k0 n (by omega)
    have s1 := fun W => slice_to W a1 n1 k1 n (by omega)
    have D2E : Hid (compD N B rows (xorL x0 x1) = xorR (compD N B rows x0) (compD N B rows x1)) := comp_xorR N B rows (by rw [Y0.out, Y1.out])
    have OK0 : Hid (∀ (id k : Nat) (of : List Int), Chk F E S (N + A) id k of → OkOf B (compD N B rows x0) of ∧ OkOf B (compD N B rows x1) of ∧ OkOf B (compD N B rows (xorL x0 x1)) of) := fun id k of hc => ⟨hc.ok RW.out rfl, hc.ok RW.out rfl, hc.ok RW.out rfl⟩
    have L01 : Hid ((compD N B rows x1).length = (compD N B rows x0).length) := by unfold Hid; rw [compD_length, compD_length]
    obtain ⟨D0, hD0⟩ : ∃ D, compD N B rows x0 = D := ⟨_, rfl⟩
    obtain ⟨D1, hD1⟩ : ∃ D, compD N B rows x1 = D := ⟨_, rfl⟩
    obtain ⟨D2, hD2⟩ : ∃ D, compD N B rows (xorL x0 x1) = D := ⟨_, rfl⟩
    rw [hD0, hD1] at D2E
    rw [hD2] at D2E OK0
    rw [hD0, hD1] at OK0 L01
    have BX : Hid (∀ W, Below w3.heap.size w3 W → CaseC W w.heap.size N B Q E F S (.slice a0 n0 k0) (.slice io m icap)) := fun W hW => F3.out.below hW
    have C0 : Hid (∀ W, Below w3.heap.size w3 W → Calls Try.prog 27 #[.agg #[.int .i64 (N : Int), .int .i64 (B : Int), .int .i64 (Q : Int), .int .i64 (E : Int), .int .i64 (F : Int)], .int .u64 (S : Int), .slice a0 n k0] W fun e w' => ∃ v, e = .returned v ∧ IsNt S N B Q E F n (N + A) D0 v w' ∧ Below W.heap.size W w') := by
      intro W hW
      have := CB.out W _ x0 Y0.out (T0.out.below (on_below B3.out hW))
      rw [hD0] at this
      exact this
    have XX : Hid (∀ W, Below w3.heap.size w3 W → Calls Try.prog 27 #[.agg #[.int .i64 (N : Int), .int .i64 (B : Int), .int .i64 (Q : Int), .int .i64 (E : Int), .int .i64 (F : Int)], .int .u64 (S : Int), .slice a1 n k1] W fun e w' => ∃ v, e = .returned v ∧ IsNt S N B Q E F n (N + A) D1 v w' ∧ Below W.heap.size W w') := by
      intro W hW
      have := CB.out W _ x1 Y1.out (T1.out.below (on_below B3.out hW))
      rw [hD1] at this
      exact this
    have CZ : Hid (∀ W v, Below w3.heap.size w3 W → IsBs (xorL x0 x1) v W → Calls Try.prog 27 #[.agg #[.int .i64 (N : Int), .int .i64 (B : Int), .int .i64 (Q : Int), .int .i64 (E : Int), .int .i64 (F : Int)], .int .u64 (S : Int), v] W fun e w' => ∃ v, e = .returned v ∧ IsNt S N B Q E F n (N + A) D2 v w' ∧ Below W.heap.size W w') := by
      intro W v hW hv
      have := CB.out W v (xorL x0 x1) (by rw [xorL_length (by rw [Y1.out, Y0.out]), Y0.out]) hv
      rw [hD2] at this
      exact this
    have CS : Hid (∀ W v, Below w3.heap.size w3 W → IsRow [.slice a0 n k0, .slice a1 n k1] v W → Calls Try.prog 23 #[.int .i64 n, v] W fun e w' => ∃ v, e = .returned v ∧ IsBs (xorL x0 x1) v w' ∧ Below W.heap.size W w') := by
      intro W v hW hv
      have h3 := on_below B3.out hW
      refine (rsum_any n v [.slice a0 n k0, .slice a1 n k1] [x0, x1] W (by omega) (row_sl hv (by simp)) (parts_two (T0.out.below h3) (T1.out.below h3)) (fitB_of (by intro y hy; simp at hy; rcases hy with rfl | rfl; exact Y0.out; exact Y1.out))).mono ?_
      rintro e w' ⟨rfl, h5, h6⟩
      rw [xorAll_first Y0.out] at h5
      exact ⟨_, rfl, h5.bs0 n n (by show n = (xorL x0 x1).length; rw [xorL_length (by rw [Y1.out, Y0.out]), Y0.out]) (Nat.le_refl _) (by unfold maxLen; omega), h6⟩
    clear hD0 hD1 hD2 CB
    go_upto_region 6 with fail
    clear c0 c1 c2 c3 c4 c5 c6 c7
    refine wp_region_any (by kernel_rfl) ?_
    obtain ⟨gs, hgs⟩ : ∃ gs : List (Value → World → Prop), gs = [IsV (.pointer (some ⟨w.heap.size, 0, none⟩)), IsV (.agg #[.int .i64 (N : Int), .int .i64 (B : Int), .int .i64 (Q : Int), .int .i64 (E : Int), .int .i64 (F : Int)]), IsV (.pointer (some ⟨w.heap.size, 5, none⟩)), IsV (.int .u64 (S : Int)), IsV (.pointer (some ⟨w.heap.size, 6, none⟩)), IsV (.slice a0 n0 k0), IsV (Value.int IntKind.i64 ↑n), IsV (.slice a0 n k0), IsAnyV, IsAnyV, IsAnyV, IsV (.int .i64 0), IsAnyV, IsV (.int .i64 0)] := ⟨_, rfl⟩
    have g0 : Hid (gs[0]? = some (IsV (.pointer (some ⟨w.heap.size, 0, none⟩)))) := by unfold Hid; rw [hgs]; rfl
    have g1 : Hid (gs[1]? = some (IsV (.agg #[.int .i64 (N : Int), .int .i64 (B : Int), .int .i64 (Q : Int), .int .i64 (E : Int), .int .i64 (F : Int)]))) := by unfold Hid; rw [hgs]; rfl
    have g2 : Hid (gs[2]? = some (IsV (.pointer (some ⟨w.heap.size, 5, none⟩)))) := by unfold Hid; rw [hgs]; rfl
    have g3 : Hid (gs[3]? = some (IsV (.int .u64 (S : Int)))) := by unfold Hid; rw [hgs]; rfl
    have g4 : Hid (gs[4]? = some (IsV (.pointer (some ⟨w.heap.size, 6, none⟩)))) := by unfold Hid; rw [hgs]; rfl
    have g5 : Hid (gs[5]? = some (IsV (.slice a0 n0 k0))) := by unfold Hid; rw [hgs]; rfl
    have g6 : Hid (gs[6]? = some (IsV (Value.int IntKind.i64 ↑n))) := by unfold Hid; rw [hgs]; rfl
    have g7 : Hid (gs[7]? = some (IsV (.slice a0 n k0))) := by unfold Hid; rw [hgs]; rfl
    have g8 : Hid (gs[8]? = some (IsAnyV)) := by unfold Hid; rw [hgs]; rfl
    have g9 : Hid (gs[9]? = some (IsAnyV)) := by unfold Hid; rw [hgs]; rfl
    have g10 : Hid (gs[10]? = some (IsAnyV)) := by unfold Hid; rw [hgs]; rfl
    have g11 : Hid (gs[11]? = some (IsV (.int .i64 0))) := by unfold Hid; rw [hgs]; rfl
    have g12 : Hid (gs[12]? = some (IsAnyV)) := by unfold Hid; rw [hgs]; rfl
    have g13 : Hid (gs[13]? = some (IsV (.int .i64 0))) := by unfold Hid; rw [hgs]; rfl
    have gk : Hid (∀ p ∈ gs, ∀ v (U U' : World), p v U → p v U') := by
      unfold Hid
      rw [hgs]
      simp only [List.forall_mem_cons]
      exact ⟨(fun _ _ _ h => h), (fun _ _ _ h => h), (fun _ _ _ h => h), (fun _ _ _ h => h), (fun _ _ _ h => h), (fun _ _ _ h => h), (fun _ _ _ h => h), (fun _ _ _ h => h), (fun _ _ _ h => h), (fun _ _ _ h => h), (fun _ _ _ h => h), (fun _ _ _ h => h), (fun _ _ _ h => h), (fun _ _ _ h => h), by simp⟩
    clear hgs
    have JS : Hid (∀ W W', Below W.heap.size W W' → (fun W => Below w3.heap.size w3 W) W → (fun W => Below w3.heap.size w3 W) W') := fun W W' hb h => h.trans (hb.mono h.size)
    have st8 : Hid (Stays (IsNt S N B Q E F n (N + A) D0)) := stays_nt _ _ _ _ _ _ _ _ _
    have st9 : Hid (Stays (IsNt S N B Q E F n (N + A) D0)) := stays_nt _ _ _ _ _ _ _ _ _
    have st10 : Hid (Stays (IsNp S N B Q E F n (N + A) D0)) := stays_np _ _ _ _ _ _ _ _ _
    have st12 : Hid (Stays (IsNp S N B Q E F n (N + A) D0)) := stays_np _ _ _ _ _ _ _ _ _
    refine wpAny_inv4 (fun listed ac W => ∃ xv : Nat → Value, ac = ⟨#[Value.agg #[Value.int IntKind.i64 ↑N, Value.int IntKind.i64 ↑B, Value.int IntKind.i64 ↑Q, Value.int IntKind.i64 ↑E, Value.int IntKind.i64 ↑F, Value.int IntKind.u64 ↑S, Value.slice a0 n0 k0, Value.slice io m icap], Value.slice a1 n1 k1, Value.pointer (some { block := w.heap.size, off := 0 }), undef, Value.bool false, Value.int IntKind.i64 ↑n, xv 12, xv 13, undef, undef, undef, undef, undef, undef, undef, Value.bool true, Value.bool false, Value.pointer (some { block := w.heap.size, off := 6 }), Value.slice a0 n0 k0, Value.int IntKind.i64 ↑n0, Value.slice a1 n1 k1, Value.int IntKind.i64 ↑n1, Value.int IntKind.i64 ↑n, Value.pointer (some { block := w.heap.size, off := 0 }), Value.agg #[Value.int IntKind.i64 ↑N, Value.int IntKind.i64 ↑B, Value.int IntKind.i64 ↑Q, Value.int IntKind.i64 ↑E, Value.int IntKind.i64 ↑F], Value.pointer (some { block := w.heap.size, off := 6 }), Value.slice a0 n0 k0, Value.bool true, Value.bool false, Value.bool false, Value.pointer (some { block := w.heap.size, off := 7 }), Value.slice io m icap, Value.int IntKind.i64 ↑m, Value.bool (decide ((20 : Int) < ↑m)), Value.bool (decide ((20 : Int) < ↑m)), xv 9, xv 0, xv 1, xv 2, xv 3, xv 4, xv 5, xv 6, xv 7, xv 8, xv 10, xv 11, undef, undef, undef, undef, undef, undef, undef, undef, undef, undef, undef, undef, undef, undef, undef, undef, undef, undef, undef, undef, undef, undef, undef, undef, undef, undef, undef, undef, undef, undef, undef, undef, undef, undef, undef, undef, undef, undef, undef, undef, undef, undef, undef, undef, undef, undef, undef, undef, undef, undef, undef, undef, undef, undef, undef, undef, undef, undef, undef, undef, undef, undef, undef, undef, undef, undef, undef, undef, undef, undef, undef, undef, undef, undef, undef, undef, undef, undef, undef, undef, undef, undef, undef, undef, undef, undef, undef], []⟩ ∧ (fun W => Below w3.heap.size w3 W) W ∧ Lst gs listed xv W ∧ Fe listed xv W 8 (IsNt S N B Q E F n (N + A) D0) ∧ Fe listed xv W 9 (IsNt S N B Q E F n (N + A) D0) ∧ Fe listed xv W 10 (IsNp S N B Q E F n (N + A) D0) ∧ Fe listed xv W 12 (IsNp S N B Q E F n (N + A) D0)) (by kernel_rfl) ?_ ?_ _ _ _ _ (by kernel_rfl) (of_decide_eq_true (by kernel_rfl)) (Down.start _) ⟨fun jx => undef, rfl, below0 _, Lst.start _ _ _ _, Fe.start _ _ _ _ _, Fe.start _ _ _ _ _, Fe.start _ _ _ _ _, Fe.start _ _ _ _ _⟩
    · rintro listed ac W ⟨xv, rfl, hb, hG, hF8, hF9, hF10, hF12⟩ hD i hi hnl hd
      have hin : i < 14 := hi
      clear hi
      have hcase : i = 0 ∨ i = 1 ∨ i = 2 ∨ i = 3 ∨ i = 4 ∨ i = 5 ∨ i = 6 ∨ i = 7 ∨ i = 8 ∨ i = 9 ∨ i = 10 ∨ i = 11 ∨ i = 12 ∨ i = 13 := by omega
      rcases hcase with rfl | rfl | rfl | rfl | rfl | rfl | rfl | rfl | rfl | rfl | rfl | rfl | rfl | rfl
      · refine wpOp_step rfl (fun K' hK => ?_)
        clear hd hin hD
        go_simp
        exact hK _ _ ⟨updV xv 0 (.pointer (some ⟨w.heap.size, 0, none⟩)), by simp [updV], hb, hG.any gk.out g0.out _ rfl, hF8.step (fun _ h => h) (by decide) _, hF9.step (fun _ h => h) (by decide) _, hF10.step (fun _ h => h) (by decide) _, hF12.step (fun _ h => h) (by decide) _⟩
      · refine wpOp_step rfl (fun K' hK => ?_)
        simp [Region.binds] at hd
        have e0 : xv 0 = .pointer (some ⟨w.heap.size, 0, none⟩) := hG.get g0.out (by simp [hd])
        obtain ⟨c0, c1, c2, c3, c4, c5, c6, c7⟩ := BX.out W hb
        clear hd hin hD
        go_simp
        exact hK _ _ ⟨updV xv 1 (.agg #[.int .i64 (N : Int), .int .i64 (B : Int), .int .i64 (Q : Int), .int .i64 (E : Int), .int .i64 (F : Int)]), by simp [updV, e0], hb, hG.any gk.out g1.out _ rfl, hF8.step (fun _ h => h) (by decide) _, hF9.step (fun _ h => h) (by decide) _, hF10.step (fun _ h => h) (by decide) _, hF12.step (fun _ h => h) (by decide) _⟩
      · refine wpOp_step rfl (fun K' hK => ?_)
        clear hd hin hD
        go_simp
        exact hK _ _ ⟨updV xv 2 (.pointer (some ⟨w.heap.size, 5, none⟩)), by simp [updV], hb, hG.any gk.out g2.out _ rfl, hF8.step (fun _ h => h) (by decide) _, hF9.step (fun _ h => h) (by decide) _, hF10.step (fun _ h => h) (by decide) _, hF12.step (fun _ h => h) (by decide) _⟩
      · refine wpOp_step rfl (fun K' hK => ?_)
        simp [Region.binds] at hd
        have e2 : xv 2 = .pointer (some ⟨w.heap.size, 5, none⟩) := hG.get g2.out (by simp [hd])
        obtain ⟨c0, c1, c2, c3, c4, c5, c6, c7⟩ := BX.out W hb
        clear hd hin hD
        go_simp
        exact hK _ _ ⟨updV xv 3 (.int .u64 (S : Int)), by simp [updV, e2], hb, hG.any gk.out g3.out _ rfl, hF8.step (fun _ h => h) (by decide) _, hF9.step (fun _ h => h) (by decide) _, hF10.step (fun _ h => h) (by decide) _, hF12.step (fun _ h => h) (by decide) _⟩
      · refine wpOp_step rfl (fun K' hK => ?_)
        clear hd hin hD
        go_simp
        exact hK _ _ ⟨updV xv 4 (.pointer (some ⟨w.heap.size, 6, none⟩)), by simp [updV], hb, hG.any gk.out g4.out _ rfl, hF8.step (fun _ h => h) (by decide) _, hF9.step (fun _ h => h) (by decide) _, hF10.step (fun _ h => h) (by decide) _, hF12.step (fun _ h => h) (by decide) _⟩
      · refine wpOp_step rfl (fun K' hK => ?_)
        simp [Region.binds] at hd
        have e4 : xv 4 = .pointer (some ⟨w.heap.size, 6, none⟩) := hG.get g4.out (by simp [hd])
        obtain ⟨c0, c1, c2, c3, c4, c5, c6, c7⟩ := BX.out W hb
        clear hd hin hD
        go_simp
        exact hK _ _ ⟨updV xv 5 (.slice a0 n0 k0), by simp [updV, e4], hb, hG.any gk.out g5.out _ rfl, hF8.step (fun _ h => h) (by decide) _, hF9.step (fun _ h => h) (by decide) _, hF10.step (fun _ h => h) (by decide) _, hF12.step (fun _ h => h) (by decide) _⟩
      · refine wpOp_step rfl (fun K' hK => ?_)
        clear hd hin hD
        go_simp
        exact hK _ _ ⟨updV xv 6 (Value.int IntKind.i64 ↑n), by simp [updV], hb, hG.any gk.out g6.out _ rfl, hF8.step (fun _ h => h) (by decide) _, hF9.step (fun _ h => h) (by decide) _, hF10.step (fun _ h => h) (by decide) _, hF12.step (fun _ h => h) (by decide) _⟩
      · refine wpOp_step rfl (fun K' hK => ?_)
        simp [Region.binds] at hd
        have e5 : xv 5 = .slice a0 n0 k0 := hG.get g5.out (by simp [hd])
        have e6 : xv 6 = Value.int IntKind.i64 ↑n := hG.get g6.out (by simp [hd])
        have hs := s0 W
        clear hd hin hD
        go_simp
        exact hK _ _ ⟨updV xv 7 (.slice a0 n k0), by simp [updV, e5, e6], hb, hG.any gk.out g7.out _ rfl, hF8.step (fun _ h => h) (by decide) _, hF9.step (fun _ h => h) (by decide) _, hF10.step (fun _ h => h) (by decide) _, hF12.step (fun _ h => h) (by decide) _⟩
      · refine wpOp_step rfl (fun K' hK => ?_)
        simp [Region.binds] at hd
        have e1 : xv 1 = .agg #[.int .i64 (N : Int), .int .i64 (B : Int), .int .i64 (Q : Int), .int .i64 (E : Int), .int .i64 (F : Int)] := hG.get g1.out (by simp [hd])
        have e3 : xv 3 = .int .u64 (S : Int) := hG.get g3.out (by simp [hd])
        have e7 : xv 7 = .slice a0 n k0 := hG.get g7.out (by simp [hd])
        clear hd hin hD
        go_simp
        refine (C0.out W hb).mono ?_
        rintro e w' ⟨v, rfl, hv, hb'⟩
        go_wp2_with fail
        exact ⟨updV xv 8 v, by simp [updV, e1, e3, e7], JS.out _ _ hb' hb, hG.any gk.out g8.out v trivial, Fe.new (hv), hF9.on st9.out hb' (by decide) _, hF10.on st10.out hb' (by decide) _, hF12.on st12.out hb' (by decide) _⟩
      · refine wpOp_step rfl (fun K' hK => ?_)
        simp [Region.binds] at hd
        have l8 : listed.getD 8 false = true := by simp [hd]
        have m8 := hF8 l8
        clear hd hin hD
        go_simp
        exact hK _ _ ⟨updV xv 9 (xv 8), by simp [updV], hb, hG.any gk.out g9.out _ trivial, hF8.step (fun _ h => h) (by decide) _, Fe.new (m8), hF10.step (fun _ h => h) (by decide) _, hF12.step (fun _ h => h) (by decide) _⟩
      · refine wpOp_step rfl (fun K' hK => ?_)
        simp [Region.binds] at hd
        have l9 : listed.getD 9 false = true := by simp [hd]
        have m9 := hF9 l9
        clear hd hin hD
        obtain ⟨p7, q7, e7, h7⟩ := m9
        go_simp
        exact hK _ _ ⟨updV xv 10 (.pointer (some ⟨p7, 0, none⟩)), by simp [updV, e7], hb, hG.any gk.out g10.out _ trivial, hF8.step (fun _ h => h) (by decide) _, hF9.step (fun _ h => h) (by decide) _, Fe.new (⟨p7, q7, rfl, h7⟩), hF12.step (fun _ h => h) (by decide) _⟩
      · refine wpOp_step rfl (fun K' hK => ?_)
        simp [Region.binds] at hd
        have l9 : listed.getD 9 false = true := by simp [hd]
        have m9 := hF9 l9
        clear hd hin hD
        obtain ⟨p7, q7, e7, h7⟩ := m9
        go_simp
        exact hK _ _ ⟨updV xv 11 (.int .i64 0), by simp [updV, e7], hb, hG.any gk.out g11.out _ rfl, hF8.step (fun _ h => h) (by decide) _, hF9.step (fun _ h => h) (by decide) _, hF10.step (fun _ h => h) (by decide) _, hF12.step (fun _ h => h) (by decide) _⟩
      · refine wpOp_step rfl (fun K' hK => ?_)
        simp [Region.binds] at hd
        have l10 : listed.getD 10 false = true := by simp [hd]
        have m10 := hF10 l10
        clear hd hin hD
        go_simp
        exact hK _ _ ⟨updV xv 12 (xv 10), by simp [updV], hb, hG.any gk.out g12.out _ trivial, hF8.step (fun _ h => h) (by decide) _, hF9.step (fun _ h => h) (by decide) _, hF10.step (fun _ h => h) (by decide) _, Fe.new (m10)⟩
      · refine wpOp_step rfl (fun K' hK => ?_)
        simp [Region.binds] at hd
        have e11 : xv 11 = .int .i64 0 := hG.get g11.out (by simp [hd])
        clear hd hin hD
        go_simp
        exact hK _ _ ⟨updV xv 13 (.int .i64 0), by simp [updV, e11], hb, hG.any gk.out g13.out _ rfl, hF8.step (fun _ h => h) (by decide) _, hF9.step (fun _ h => h) (by decide) _, hF10.step (fun _ h => h) (by decide) _, hF12.step (fun _ h => h) (by decide) _⟩
    · rintro listed ac W ⟨xv, rfl, hb, hG, hF8, hF9, hF10, hF12⟩ hall
      have m12 : Hid ((IsNp S N B Q E F n (N + A) D0) (xv 12) W) := hF12 (hall 12 (by decide))
      have e13 : xv 13 = .int .i64 0 := hG.get g13.out (hall 13 (by decide))
      have XW : Hid ((fun W => Below w3.heap.size w3 W) W) := hb
      clear hall hG hb gk JS g0 g1 g2 g3 g4 g5 g6 g7 g8 g9 g10 g11 g12 g13 hF8 st8 hF9 st9 hF10 st10 hF12 st12
      rw [e13]
      clear e13
      obtain ⟨p0, q0, e12, h12⟩ := m12.out
      rw [e12]
      have M0 : Hid (∀ U, Below W.heap.size W U → Enc q0 U p0 S N B Q E F n (N + A) D0) := fun U hU => h12.below hU
      have X4 : Hid (Below w3.heap.size w3 W) := XW.out
      clear m12 e12 h12 XW
      obtain ⟨w4, hw4⟩ : ∃ w4, w4 = W := ⟨_, rfl⟩
      subst hw4
      have BX4 : Hid (∀ U, Below w4.heap.size w4 U → CaseC U w.heap.size N B Q E F S (.slice a0 n0 k0) (.slice io m icap)) := fun U hU => BX.out U (on_below X4.out hU)
      have C1 : Hid (∀ U, Below w4.heap.size w4 U → Calls Try.prog 27 #[.agg #[.int .i64 (N : Int), .int .i64 (B : Int), .int .i64 (Q : Int), .int .i64 (E : Int), .int .i64 (F : Int)], .int .u64 (S : Int), .slice a1 n k1] U fun e w' => ∃ v, e = .returned v ∧ IsNt S N B Q E F n (N + A) D1 v w' ∧ Below U.heap.size U w') := fun U hU => XX.out U (on_below X4.out hU)
      clear XX C0
      go_upto_region 7 with fail
      refine wp_region_any (by kernel_rfl) ?_
      obtain ⟨gs, hgs⟩ : ∃ gs : List (Value → World → Prop), gs = [IsV (.pointer (some ⟨w.heap.size, 0, none⟩)), IsV (.agg #[.int .i64 (N : Int), .int .i64 (B : Int), .int .i64 (Q : Int), .int .i64 (E : Int), .int .i64 (F : Int)]), IsV (.pointer (some ⟨w.heap.size, 5, none⟩)), IsV (.int .u64 (S : Int)), IsV (Value.slice a1 n1 k1), IsV (Value.int IntKind.i64 ↑n), IsV (.slice a1 n k1), IsAnyV, IsAnyV, IsAnyV, IsV (.int .i64 0), IsAnyV, IsV (.int .i64 0)] := ⟨_, rfl⟩
      have g0 : Hid (gs[0]? = some (IsV (.pointer (some ⟨w.heap.size, 0, none⟩)))) := by unfold Hid; rw [hgs]; rfl
      have g1 : Hid (gs[1]? = some (IsV (.agg #[.int .i64 (N : Int), .int .i64 (B : Int), .int .i64 (Q : Int), .int .i64 (E : Int), .int .i64 (F : Int)]))) := by unfold Hid; rw [hgs]; rfl
      have g2 : Hid (gs[2]? = some (IsV (.pointer (some ⟨w.heap.size, 5, none⟩)))) := by unfold Hid; rw [hgs]; rfl
      have g3 : Hid (gs[3]? = some (IsV (.int .u64 (S : Int)))) := by unfold Hid; rw [hgs]; rfl
      have g4 : Hid (gs[4]? = some (IsV (Value.slice a1 n1 k1))) := by unfold Hid; rw [hgs]; rfl
      have g5 : Hid (gs[5]? = some (IsV (Value.int IntKind.i64 ↑n))) := by unfold Hid; rw [hgs]; rfl
      have g6 : Hid (gs[6]? = some (IsV (.slice a1 n k1))) := by unfold Hid; rw [hgs]; rfl
      have g7 : Hid (gs[7]? = some (IsAnyV)) := by unfold Hid; rw [hgs]; rfl
      have g8 : Hid (gs[8]? = some (IsAnyV)) := by unfold Hid; rw [hgs]; rfl
      have g9 : Hid (gs[9]? = some (IsAnyV)) := by unfold Hid; rw [hgs]; rfl
      have g10 : Hid (gs[10]? = some (IsV (.int .i64 0))) := by unfold Hid; rw [hgs]; rfl
      have g11 : Hid (gs[11]? = some (IsAnyV)) := by unfold Hid; rw [hgs]; rfl
      have g12 : Hid (gs[12]? = some (IsV (.int .i64 0))) := by unfold Hid; rw [hgs]; rfl
      have gk : Hid (∀ p ∈ gs, ∀ v (U U' : World), p v U → p v U') := by
        unfold Hid
        rw [hgs]
        simp only [List.forall_mem_cons]
        exact ⟨(fun _ _ _ h => h), (fun _ _ _ h => h), (fun _ _ _ h => h), (fun _ _ _ h => h), (fun _ _ _ h => h), (fun _ _ _ h => h), (fun _ _ _ h => h), (fun _ _ _ h => h), (fun _ _ _ h => h), (fun _ _ _ h => h), (fun _ _ _ h => h), (fun _ _ _ h => h), (fun _ _ _ h => h), by simp⟩
      clear hgs
      have JS : Hid (∀ Wb Wb', Below Wb.heap.size Wb Wb' → (fun Wb => Below w4.heap.size w4 Wb) Wb → (fun Wb => Below w4.heap.size w4 Wb) Wb') := fun Wb Wb' hb h => h.trans (hb.mono h.size)
      have st7 : Hid (Stays (IsNt S N B Q E F n (N + A) D1)) := stays_nt _ _ _ _ _ _ _ _ _
      have st8 : Hid (Stays (IsNt S N B Q E F n (N + A) D1)) := stays_nt _ _ _ _ _ _ _ _ _
      have st9 : Hid (Stays (IsNp S N B Q E F n (N + A) D1)) := stays_np _ _ _ _ _ _ _ _ _
      have st11 : Hid (Stays (IsNp S N B Q E F n (N + A) D1)) := stays_np _ _ _ _ _ _ _ _ _
      refine wpAny_inv4 (fun listed ac Wb => ∃ xvb : Nat → Value, ac = ⟨#[Value.agg #[Value.int IntKind.i64 ↑N, Value.int IntKind.i64 ↑B, Value.int IntKind.i64 ↑Q, Value.int IntKind.i64 ↑E, Value.int IntKind.i64 ↑F, Value.int IntKind.u64 ↑S, Value.slice a0 n0 k0, Value.slice io m icap], Value.slice a1 n1 k1, Value.pointer (some { block := w.heap.size, off := 0 }), undef, Value.bool false, Value.int IntKind.i64 ↑n, Value.pointer (some { block := p0, off := 0 }), Value.int IntKind.i64 (0 : Int), xvb 11, xvb 12, undef, undef, undef, undef, undef, Value.bool true, Value.bool false, Value.pointer (some { block := w.heap.size, off := 6 }), Value.slice a0 n0 k0, Value.int IntKind.i64 ↑n0, Value.slice a1 n1 k1, Value.int IntKind.i64 ↑n1, Value.int IntKind.i64 ↑n, Value.pointer (some { block := w.heap.size, off := 0 }), Value.agg #[Value.int IntKind.i64 ↑N, Value.int IntKind.i64 ↑B, Value.int IntKind.i64 ↑Q, Value.int IntKind.i64 ↑E, Value.int IntKind.i64 ↑F], Value.pointer (some { block := w.heap.size, off := 6 }), Value.slice a0 n0 k0, Value.bool true, Value.bool false, Value.bool false, Value.pointer (some { block := w.heap.size, off := 7 }), Value.slice io m icap, Value.int IntKind.i64 ↑m, Value.bool (decide ((20 : Int) < ↑m)), Value.bool (decide ((20 : Int) < ↑m)), xv 9, xv 0, xv 1, xv 2, xv 3, xv 4, xv 5, xv 6, xv 7, xv 8, xv 10, xv 11, xvb 8, xvb 0, xvb 1, xvb 2, xvb 3, xvb 4, xvb 5, xvb 6, xvb 7, xvb 9, xvb 10, undef, undef, undef, undef, undef, undef, undef, undef, undef, undef, undef, undef, undef, undef, undef, undef, undef, undef, undef, undef, undef, undef, undef, undef, undef, undef, undef, undef, undef, undef, undef, undef, undef, undef, undef, undef, undef, undef, undef, undef, undef, undef, undef, undef, undef, undef, undef, undef, undef, undef, undef, undef, undef, undef, undef, undef, undef, undef, undef, undef, undef, undef, undef, undef, undef, undef, undef, undef, undef, undef, undef, undef, undef, undef, undef, undef], []⟩ ∧ (fun Wb => Below w4.heap.size w4 Wb) Wb ∧ Lst gs listed xvb Wb ∧ Fe listed xvb Wb 7 (IsNt S N B Q E F n (N + A) D1) ∧ Fe listed xvb Wb 8 (IsNt S N B Q E F n (N + A) D1) ∧ Fe listed xvb Wb 9 (IsNp S N B Q E F n (N + A) D1) ∧ Fe listed xvb Wb 11 (IsNp S N B Q E F n (N + A) D1)) (by kernel_rfl) ?_ ?_ _ _ _ _ (by kernel_rfl) (of_decide_eq_true (by kernel_rfl)) (Down.start _) ⟨fun jx => undef, rfl, below0 _, Lst.start _ _ _ _, Fe.start _ _ _ _ _, Fe.start _ _ _ _ _, Fe.start _ _ _ _ _, Fe.start _ _ _ _ _⟩
      · rintro listed ac Wb ⟨xvb, rfl, hb, hG, hF7, hF8, hF9, hF11⟩ hD i hi hnl hd
        have hin : i < 13 := hi
        clear hi
        have hcase : i = 0 ∨ i = 1 ∨ i = 2 ∨ i = 3 ∨ i = 4 ∨ i = 5 ∨ i = 6 ∨ i = 7 ∨ i = 8 ∨ i = 9 ∨ i = 10 ∨ i = 11 ∨ i = 12 := by omega
        rcases hcase with rfl | rfl | rfl | rfl | rfl | rfl | rfl | rfl | rfl | rfl | rfl | rfl | rfl
        · refine wpOp_step rfl (fun K' hK => ?_)
          clear hd hin hD
          go_simp
          exact hK _ _ ⟨updV xvb 0 (.pointer (some ⟨w.heap.size, 0, none⟩)), by simp [updV], hb, hG.any gk.out g0.out _ rfl, hF7.step (fun _ h => h) (by decide) _, hF8.step (fun _ h => h) (by decide) _, hF9.step (fun _ h => h) (by decide) _, hF11.step (fun _ h => h) (by decide) _⟩
        · refine wpOp_step rfl (fun K' hK => ?_)
          simp [Region.binds] at hd
          have e0 : xvb 0 = .pointer (some ⟨w.heap.size, 0, none⟩) := hG.get g0.out (by simp [hd])
          obtain ⟨c0, c1, c2, c3, c4, c5, c6, c7⟩ := BX4.out Wb hb
          clear hd hin hD
          go_simp
          exact hK _ _ ⟨updV xvb 1 (.agg #[.int .i64 (N : Int), .int .i64 (B : Int), .int .i64 (Q : Int), .int .i64 (E : Int), .int .i64 (F : Int)]), by simp [updV, e0], hb, hG.any gk.out g1.out _ rfl, hF7.step (fun _ h => h) (by decide) _, hF8.step (fun _ h => h) (by decide) _, hF9.step (fun _ h => h) (by decide) _, hF11.step (fun _ h => h) (by decide) _⟩
        · refine wpOp_step rfl (fun K' hK => ?_)
          clear hd hin hD
          go_simp
          exact hK _ _ ⟨updV xvb 2 (.pointer (some ⟨w.heap.size, 5, none⟩)), by simp [updV], hb, hG.any gk.out g2.out _ rfl, hF7.step (fun _ h => h) (by decide) _, hF8.step (fun _ h => h) (by decide) _, hF9.step (fun _ h => h) (by decide) _, hF11.step (fun _ h => h) (by decide) _⟩
        · refine wpOp_step rfl (fun K' hK => ?_)
          simp [Region.binds] at hd
          have e2 : xvb 2 = .pointer (some ⟨w.heap.size, 5, none⟩) := hG.get g2.out (by simp [hd])
          obtain ⟨c0, c1, c2, c3, c4, c5, c6, c7⟩ := BX4.out Wb hb
          clear hd hin hD
          go_simp
          exact hK _ _ ⟨updV xvb 3 (.int .u64 (S : Int)), by simp [updV, e2], hb, hG.any gk.out g3.out _ rfl, hF7.step (fun _ h => h) (by decide) _, hF8.step (fun _ h => h) (by decide) _, hF9.step (fun _ h => h) (by decide) _, hF11.step (fun _ h => h) (by decide) _⟩
        · refine wpOp_step rfl (fun K' hK => ?_)
          clear hd hin hD
          go_simp
          exact hK _ _ ⟨updV xvb 4 (Value.slice a1 n1 k1), by simp [updV], hb, hG.any gk.out g4.out _ rfl, hF7.step (fun _ h => h) (by decide) _, hF8.step (fun _ h => h) (by decide) _, hF9.step (fun _ h => h) (by decide) _, hF11.step (fun _ h => h) (by decide) _⟩
        · refine wpOp_step rfl (fun K' hK => ?_)
          clear hd hin hD
          go_simp
          exact hK _ _ ⟨updV xvb 5 (Value.int IntKind.i64 ↑n), by simp [updV], hb, hG.any gk.out g5.out _ rfl, hF7.step (fun _ h => h) (by decide) _, hF8.step (fun _ h => h) (by decide) _, hF9.step (fun _ h => h) (by decide) _, hF11.step (fun _ h => h) (by decide) _⟩
        · refine wpOp_step rfl (fun K' hK => ?_)
          simp [Region.binds] at hd
          have e4 : xvb 4 = Value.slice a1 n1 k1 := hG.get g4.out (by simp [hd])
          have e5 : xvb 5 = Value.int IntKind.i64 ↑n := hG.get g5.out (by simp [hd])
          have hs := s1 Wb
          clear hd hin hD
          go_simp
          exact hK _ _ ⟨updV xvb 6 (.slice a1 n k1), by simp [updV, e4, e5], hb, hG.any gk.out g6.out _ rfl, hF7.step (fun _ h => h) (by decide) _, hF8.step (fun _ h => h) (by decide) _, hF9.step (fun _ h => h) (by decide) _, hF11.step (fun _ h => h) (by decide) _⟩
        · refine wpOp_step rfl (fun K' hK => ?_)
          simp [Region.binds] at hd
          have e1 : xvb 1 = .agg #[.int .i64 (N : Int), .int .i64 (B : Int), .int .i64 (Q : Int), .int .i64 (E : Int), .int .i64 (F : Int)] := hG.get g1.out (by simp [hd])
          have e3 : xvb 3 = .int .u64 (S : Int) := hG.get g3.out (by simp [hd])
          have e6 : xvb 6 = .slice a1 n k1 := hG.get g6.out (by simp [hd])
          clear hd hin hD
          go_simp
          refine (C1.out Wb hb).mono ?_
          rintro e w' ⟨v, rfl, hv, hb'⟩
          go_wp2_with fail
          exact ⟨updV xvb 7 v, by simp [updV, e1, e3, e6], JS.out _ _ hb' hb, hG.any gk.out g7.out v trivial, Fe.new (hv), hF8.on st8.out hb' (by decide) _, hF9.on st9.out hb' (by decide) _, hF11.on st11.out hb' (by decide) _⟩
        · refine wpOp_step rfl (fun K' hK => ?_)
          simp [Region.binds] at hd
          have l7 : listed.getD 7 false = true := by simp [hd]
          have m7 := hF7 l7
          clear hd hin hD
          go_simp
          exact hK _ _ ⟨updV xvb 8 (xvb 7), by simp [updV], hb, hG.any gk.out g8.out _ trivial, hF7.step (fun _ h => h) (by decide) _, Fe.new (m7), hF9.step (fun _ h => h) (by decide) _, hF11.step (fun _ h => h) (by decide) _⟩
        · refine wpOp_step rfl (fun K' hK => ?_)
          simp [Region.binds] at hd
          have l8 : listed.getD 8 false = true := by simp [hd]
          have m8 := hF8 l8
          clear hd hin hD
          obtain ⟨p7, q7, e7, h7⟩ := m8
          go_simp
          exact hK _ _ ⟨updV xvb 9 (.pointer (some ⟨p7, 0, none⟩)), by simp [updV, e7], hb, hG.any gk.out g9.out _ trivial, hF7.step (fun _ h => h) (by decide) _, hF8.step (fun _ h => h) (by decide) _, Fe.new (⟨p7, q7, rfl, h7⟩), hF11.step (fun _ h => h) (by decide) _⟩
        · refine wpOp_step rfl (fun K' hK => ?_)
          simp [Region.binds] at hd
          have l8 : listed.getD 8 false = true := by simp [hd]
          have m8 := hF8 l8
          clear hd hin hD
          obtain ⟨p7, q7, e7, h7⟩ := m8
          go_simp
          exact hK _ _ ⟨updV xvb 10 (.int .i64 0), by simp [updV, e7], hb, hG.any gk.out g10.out _ rfl, hF7.step (fun _ h => h) (by decide) _, hF8.step (fun _ h => h) (by decide) _, hF9.step (fun _ h => h) (by decide) _, hF11.step (fun _ h => h) (by decide) _⟩
        · refine wpOp_step rfl (fun K' hK => ?_)
          simp [Region.binds] at hd
          have l9 : listed.getD 9 false = true := by simp [hd]
          have m9 := hF9 l9
          clear hd hin hD
          go_simp
          exact hK _ _ ⟨updV xvb 11 (xvb 9), by simp [updV], hb, hG.any gk.out g11.out _ trivial, hF7.step (fun _ h => h) (by decide) _, hF8.step (fun _ h => h) (by decide) _, hF9.step (fun _ h => h) (by decide) _, Fe.new (m9)⟩
        · refine wpOp_step rfl (fun K' hK => ?_)
          simp [Region.binds] at hd
          have e10 : xvb 10 = .int .i64 0 := hG.get g10.out (by simp [hd])
          clear hd hin hD
          go_simp
          exact hK _ _ ⟨updV xvb 12 (.int .i64 0), by simp [updV, e10], hb, hG.any gk.out g12.out _ rfl, hF7.step (fun _ h => h) (by decide) _, hF8.step (fun _ h => h) (by decide) _, hF9.step (fun _ h => h) (by decide) _, hF11.step (fun _ h => h) (by decide) _⟩
      · rintro listed ac Wb ⟨xvb, rfl, hb, hG, hF7, hF8, hF9, hF11⟩ hall
        have m11 : Hid ((IsNp S N B Q E F n (N + A) D1) (xvb 11) Wb) := hF11 (hall 11 (by decide))
        have e12 : xvb 12 = .int .i64 0 := hG.get g12.out (hall 12 (by decide))
        have XW : Hid ((fun Wb => Below w4.heap.size w4 Wb) Wb) := hb
        clear hall hG hb gk JS g0 g1 g2 g3 g4 g5 g6 g7 g8 g9 g10 g11 g12 hF7 st7 hF8 st8 hF9 st9 hF11 st11
        rw [e12]
        clear e12
        obtain ⟨p1, q1, e11, h11⟩ := m11.out
        rw [e11]
        have M1 : Hid (∀ U, Below Wb.heap.size Wb U → Enc q1 U p1 S N B Q E F n (N + A) D1) := fun U hU => h11.below hU
        have M0' : Hid (∀ U, Below Wb.heap.size Wb U → Enc q0 U p0 S N B Q E F n (N + A) D0) := fun U hU => M0.out U (on_below XW.out hU)
        have X5 : Hid (Below w3.heap.size w3 Wb) := on_below X4.out XW.out
        clear m11 e11 h11 XW M0 X4 BX4 C1
        obtain ⟨w5, hw5⟩ : ∃ w5, w5 = Wb := ⟨_, rfl⟩
        subst hw5
        have BX5 : Hid (∀ U, Below w5.heap.size w5 U → CaseC U w.heap.size N B Q E F S (.slice a0 n0 k0) (.slice io m icap)) := fun U hU => BX.out U (on_below X5.out hU)
        have C2 : Hid (∀ U v, Below w5.heap.size w5 U → IsBs (xorL x0 x1) v U → Calls Try.prog 27 #[.agg #[.int .i64 (N : Int), .int .i64 (B : Int), .int .i64 (Q : Int), .int .i64 (E : Int), .int .i64 (F : Int)], .int .u64 (S : Int), v] U fun e w' => ∃ v, e = .returned v ∧ IsNt S N B Q E F n (N + A) D2 v w' ∧ Below U.heap.size U w') := fun U v hU hv => CZ.out U v (on_below X5.out hU) hv
        have S2 : Hid (∀ U v, Below w5.heap.size w5 U → IsRow [.slice a0 n k0, .slice a1 n k1] v U → Calls Try.prog 23 #[.int .i64 n, v] U fun e w' => ∃ v, e = .returned v ∧ IsBs (xorL x0 x1) v w' ∧ Below U.heap.size U w') := fun U v hU hv => CS.out U v (on_below X5.out hU) hv
        clear CZ CS
        go_upto_region 8 with fail
        refine wp_region_any (by kernel_rfl) ?_
        obtain ⟨gs, hgs⟩ : ∃ gs : List (Value → World → Prop), gs = [IsV (.pointer (some ⟨w.heap.size, 0, none⟩)), IsV (.agg #[.int .i64 (N : Int), .int .i64 (B : Int), .int .i64 (Q : Int), .int .i64 (E : Int), .int .i64 (F : Int)]), IsV (.pointer (some ⟨w.heap.size, 5, none⟩)), IsV (.int .u64 (S : Int)), IsV (Value.int IntKind.i64 ↑n), IsV (.pointer (some ⟨w.heap.size, 6, none⟩)), IsV (.slice a0 n0 k0), IsV (Value.int IntKind.i64 ↑n), IsV (.slice a0 n k0), IsV (Value.slice a1 n1 k1), IsV (Value.int IntKind.i64 ↑n), IsV (.slice a1 n k1), IsAnyV, IsAnyV, IsAnyV, IsAnyV, IsAnyV, IsV (.int .i64 0), IsAnyV, IsV (.int .i64 0)] := ⟨_, rfl⟩
        have g0 : Hid (gs[0]? = some (IsV (.pointer (some ⟨w.heap.size, 0, none⟩)))) := by unfold Hid; rw [hgs]; rfl
        have g1 : Hid (gs[1]? = some (IsV (.agg #[.int .i64 (N : Int), .int .i64 (B : Int), .int .i64 (Q : Int), .int .i64 (E : Int), .int .i64 (F : Int)]))) := by unfold Hid; rw [hgs]; rfl
        have g2 : Hid (gs[2]? = some (IsV (.pointer (some ⟨w.heap.size, 5, none⟩)))) := by unfold Hid; rw [hgs]; rfl
        have g3 : Hid (gs[3]? = some (IsV (.int .u64 (S : Int)))) := by unfold Hid; rw [hgs]; rfl
        have g4 : Hid (gs[4]? = some (IsV (Value.int IntKind.i64 ↑n))) := by unfold Hid; rw [hgs]; rfl
        have g5 : Hid (gs[5]? = some (IsV (.pointer (some ⟨w.heap.size, 6, none⟩)))) := by unfold Hid; rw [hgs]; rfl
        have g6 : Hid (gs[6]? = some (IsV (.slice a0 n0 k0))) := by unfold Hid; rw [hgs]; rfl
        have g7 : Hid (gs[7]? = some (IsV (Value.int IntKind.i64 ↑n))) := by unfold Hid; rw [hgs]; rfl
        have g8 : Hid (gs[8]? = some (IsV (.slice a0 n k0))) := by unfold Hid; rw [hgs]; rfl
        have g9 : Hid (gs[9]? = some (IsV (Value.slice a1 n1 k1))) := by unfold Hid; rw [hgs]; rfl
        have g10 : Hid (gs[10]? = some (IsV (Value.int IntKind.i64 ↑n))) := by unfold Hid; rw [hgs]; rfl
        have g11 : Hid (gs[11]? = some (IsV (.slice a1 n k1))) := by unfold Hid; rw [hgs]; rfl
        have g12 : Hid (gs[12]? = some (IsAnyV)) := by unfold Hid; rw [hgs]; rfl
        have g13 : Hid (gs[13]? = some (IsAnyV)) := by unfold Hid; rw [hgs]; rfl
        have g14 : Hid (gs[14]? = some (IsAnyV)) := by unfold Hid; rw [hgs]; rfl
        have g15 : Hid (gs[15]? = some (IsAnyV)) := by unfold Hid; rw [hgs]; rfl
        have g16 : Hid (gs[16]? = some (IsAnyV)) := by unfold Hid; rw [hgs]; rfl
        have g17 : Hid (gs[17]? = some (IsV (.int .i64 0))) := by unfold Hid; rw [hgs]; rfl
        have g18 : Hid (gs[18]? = some (IsAnyV)) := by unfold Hid; rw [hgs]; rfl
        have g19 : Hid (gs[19]? = some (IsV (.int .i64 0))) := by unfold Hid; rw [hgs]; rfl
        have gk : Hid (∀ p ∈ gs, ∀ v (U U' : World), p v U → p v U') := by
          unfold Hid
          rw [hgs]
          simp only [List.forall_mem_cons]
          exact ⟨(fun _ _ _ h => h), (fun _ _ _ h => h), (fun _ _ _ h => h), (fun _ _ _ h => h), (fun _ _ _ h => h), (fun _ _ _ h => h), (fun _ _ _ h => h), (fun _ _ _ h => h), (fun _ _ _ h => h), (fun _ _ _ h => h), (fun _ _ _ h => h), (fun _ _ _ h => h), (fun _ _ _ h => h), (fun _ _ _ h => h), (fun _ _ _ h => h), (fun _ _ _ h => h), (fun _ _ _ h => h), (fun _ _ _ h => h), (fun _ _ _ h => h), (fun _ _ _ h => h), by simp⟩
        clear hgs
        have JS : Hid (∀ Wc Wc', Below Wc.heap.size Wc Wc' → (fun Wc => Below w5.heap.size w5 Wc) Wc → (fun Wc => Below w5.heap.size w5 Wc) Wc') := fun Wc Wc' hb h => h.trans (hb.mono h.size)
        have st12 : Hid (Stays (IsRow [.slice a0 n k0, .slice a1 n k1])) := stays_row _
        have st13 : Hid (Stays (IsBs (xorL x0 x1))) := stays_bs _
        have st14 : Hid (Stays (IsNt S N B Q E F n (N + A) D2)) := stays_nt _ _ _ _ _ _ _ _ _
        have st15 : Hid (Stays (IsNt S N B Q E F n (N + A) D2)) := stays_nt _ _ _ _ _ _ _ _ _
        have st16 : Hid (Stays (IsNp S N B Q E F n (N + A) D2)) := stays_np _ _ _ _ _ _ _ _ _
        have st18 : Hid (Stays (IsNp S N B Q E F n (N + A) D2)) := stays_np _ _ _ _ _ _ _ _ _
        refine wpAny_inv4 (fun listed ac Wc => ∃ xvc : Nat → Value, ac = ⟨#[Value.agg #[Value.int IntKind.i64 ↑N, Value.int IntKind.i64 ↑B, Value.int IntKind.i64 ↑Q, Value.int IntKind.i64 ↑E, Value.int IntKind.i64 ↑F, Value.int IntKind.u64 ↑S, Value.slice a0 n0 k0, Value.slice io m icap], Value.slice a1 n1 k1, Value.pointer (some { block := w.heap.size, off := 0 }), undef, Value.bool false, Value.int IntKind.i64 ↑n, Value.pointer (some { block := p0, off := 0 }), Value.int IntKind.i64 (0 : Int), Value.pointer (some { block := p1, off := 0 }), Value.int IntKind.i64 (0 : Int), xvc 18, xvc 19, undef, undef, undef, Value.bool true, Value.bool false, Value.pointer (some { block := w.heap.size, off := 6 }), Value.slice a0 n0 k0, Value.int IntKind.i64 ↑n0, Value.slice a1 n1 k1, Value.int IntKind.i64 ↑n1, Value.int IntKind.i64 ↑n, Value.pointer (some { block := w.heap.size, off := 0 }), Value.agg #[Value.int IntKind.i64 ↑N, Value.int IntKind.i64 ↑B, Value.int IntKind.i64 ↑Q, Value.int IntKind.i64 ↑E, Value.int IntKind.i64 ↑F], Value.pointer (some { block := w.heap.size, off := 6 }), Value.slice a0 n0 k0, Value.bool true, Value.bool false, Value.bool false, Value.pointer (some { block := w.heap.size, off := 7 }), Value.slice io m icap, Value.int IntKind.i64 ↑m, Value.bool (decide ((20 : Int) < ↑m)), Value.bool (decide ((20 : Int) < ↑m)), xv 9, xv 0, xv 1, xv 2, xv 3, xv 4, xv 5, xv 6, xv 7, xv 8, xv 10, xv 11, xvb 8, xvb 0, xvb 1, xvb 2, xvb 3, xvb 4, xvb 5, xvb 6, xvb 7, xvb 9, xvb 10, xvc 15, xvc 0, xvc 1, xvc 2, xvc 3, xvc 4, xvc 5, xvc 6, xvc 7, xvc 8, xvc 9, xvc 10, xvc 11, xvc 12, xvc 13, xvc 14, xvc 16, xvc 17, undef, undef, undef, undef, undef, undef, undef, undef, undef, undef, undef, undef, undef, undef, undef, undef, undef, undef, undef, undef, undef, undef, undef, undef, undef, undef, undef, undef, undef, undef, undef, undef, undef, undef, undef, undef, undef, undef, undef, undef, undef, undef, undef, undef, undef, undef, undef, undef, undef, undef, undef, undef, undef, undef, undef, undef, undef, undef], []⟩ ∧ (fun Wc => Below w5.heap.size w5 Wc) Wc ∧ Lst gs listed xvc Wc ∧ Fe listed xvc Wc 12 (IsRow [.slice a0 n k0, .slice a1 n k1]) ∧ Fe listed xvc Wc 13 (IsBs (xorL x0 x1)) ∧ Fe listed xvc Wc 14 (IsNt S N B Q E F n (N + A) D2) ∧ Fe listed xvc Wc 15 (IsNt S N B Q E F n (N + A) D2) ∧ Fe listed xvc Wc 16 (IsNp S N B Q E F n (N + A) D2) ∧ Fe listed xvc Wc 18 (IsNp S N B Q E F n (N + A) D2)) (by kernel_rfl) ?_ ?_ _ _ _ _ (by kernel_rfl) (of_decide_eq_true (by kernel_rfl)) (Down.start _) ⟨fun jx => undef, rfl, below0 _, Lst.start _ _ _ _, Fe.start _ _ _ _ _, Fe.start _ _ _ _ _, Fe.start _ _ _ _ _, Fe.start _ _ _ _ _, Fe.start _ _ _ _ _, Fe.start _ _ _ _ _⟩
        · rintro listed ac Wc ⟨xvc, rfl, hb, hG, hF12, hF13, hF14, hF15, hF16, hF18⟩ hD i hi hnl hd
          have hin : i < 20 := hi
          clear hi
          have hcase : i = 0 ∨ i = 1 ∨ i = 2 ∨ i = 3 ∨ i = 4 ∨ i = 5 ∨ i = 6 ∨ i = 7 ∨ i = 8 ∨ i = 9 ∨ i = 10 ∨ i = 11 ∨ i = 12 ∨ i = 13 ∨ i = 14 ∨ i = 15 ∨ i = 16 ∨ i = 17 ∨ i = 18 ∨ i = 19 := by omega
          rcases hcase with rfl | rfl | rfl | rfl | rfl | rfl | rfl | rfl | rfl | rfl | rfl | rfl | rfl | rfl | rfl | rfl | rfl | rfl | rfl | rfl
          · refine wpOp_step rfl (fun K' hK => ?_)
            clear hd hin hD
            go_simp
            exact hK _ _ ⟨updV xvc 0 (.pointer (some ⟨w.heap.size, 0, none⟩)), by simp [updV], hb, hG.any gk.out g0.out _ rfl, hF12.step (fun _ h => h) (by decide) _, hF13.step (fun _ h => h) (by decide) _, hF14.step (fun _ h => h) (by decide) _, hF15.step (fun _ h => h) (by decide) _, hF16.step (fun _ h => h) (by decide) _, hF18.step (fun _ h => h) (by decide) _⟩
          · refine wpOp_step rfl (fun K' hK => ?_)
            simp [Region.binds] at hd
            have e0 : xvc 0 = .pointer (some ⟨w.heap.size, 0, none⟩) := hG.get g0.out (by simp [hd])
            obtain ⟨c0, c1, c2, c3, c4, c5, c6, c7⟩ := BX5.out Wc hb
            clear hd hin hD
            go_simp
            exact hK _ _ ⟨updV xvc 1 (.agg #[.int .i64 (N : Int), .int .i64 (B : Int), .int .i64 (Q : Int), .int .i64 (E : Int), .int .i64 (F : Int)]), by simp [updV, e0], hb, hG.any gk.out g1.out _ rfl, hF12.step (fun _ h => h) (by decide) _, hF13.step (fun _ h => h) (by decide) _, hF14.step (fun _ h => h) (by decide) _, hF15.step (fun _ h => h) (by decide) _, hF16.step (fun _ h => h) (by decide) _, hF18.step (fun _ h => h) (by decide) _⟩
          · refine wpOp_step rfl (fun K' hK => ?_)
            clear hd hin hD
            go_simp
            exact hK _ _ ⟨updV xvc 2 (.pointer (some ⟨w.heap.size, 5, none⟩)), by simp [updV], hb, hG.any gk.out g2.out _ rfl, hF12.step (fun _ h => h) (by decide) _, hF13.step (fun _ h => h) (by decide) _, hF14.step (fun _ h => h) (by decide) _, hF15.step (fun _ h => h) (by decide) _, hF16.step (fun _ h => h) (by decide) _, hF18.step (fun _ h => h) (by decide) _⟩
          · refine wpOp_step rfl (fun K' hK => ?_)
            simp [Region.binds] at hd
            have e2 : xvc 2 = .pointer (some ⟨w.heap.size, 5, none⟩) := hG.get g2.out (by simp [hd])
            obtain ⟨c0, c1, c2, c3, c4, c5, c6, c7⟩ := BX5.out Wc hb
            clear hd hin hD
            go_simp
            exact hK _ _ ⟨updV xvc 3 (.int .u64 (S : Int)), by simp [updV, e2], hb, hG.any gk.out g3.out _ rfl, hF12.step (fun _ h => h) (by decide) _, hF13.step (fun _ h => h) (by decide) _, hF14.step (fun _ h => h) (by decide) _, hF15.step (fun _ h => h) (by decide) _, hF16.step (fun _ h => h) (by decide) _, hF18.step (fun _ h => h) (by decide) _⟩
          · refine wpOp_step rfl (fun K' hK => ?_)
            clear hd hin hD
            go_simp
            exact hK _ _ ⟨updV xvc 4 (Value.int IntKind.i64 ↑n), by simp [updV], hb, hG.any gk.out g4.out _ rfl, hF12.step (fun _ h => h) (by decide) _, hF13.step (fun _ h => h) (by decide) _, hF14.step (fun _ h => h) (by decide) _, hF15.step (fun _ h => h) (by decide) _, hF16.step (fun _ h => h) (by decide) _, hF18.step (fun _ h => h) (by decide) _⟩
          · refine wpOp_step rfl (fun K' hK => ?_)
            clear hd hin hD
            go_simp
            exact hK _ _ ⟨updV xvc 5 (.pointer (some ⟨w.heap.size, 6, none⟩)), by simp [updV], hb, hG.any gk.out g5.out _ rfl, hF12.step (fun _ h => h) (by decide) _, hF13.step (fun _ h => h) (by decide) _, hF14.step (fun _ h => h) (by decide) _, hF15.step (fun _ h => h) (by decide) _, hF16.step (fun _ h => h) (by decide) _, hF18.step (fun _ h => h) (by decide) _⟩
          · refine wpOp_step rfl (fun K' hK => ?_)
            simp [Region.binds] at hd
            have e5 : xvc 5 = .pointer (some ⟨w.heap.size, 6, none⟩) := hG.get g5.out (by simp [hd])
            obtain ⟨c0, c1, c2, c3, c4, c5, c6, c7⟩ := BX5.out Wc hb
            clear hd hin hD
            go_simp
            exact hK _ _ ⟨updV xvc 6 (.slice a0 n0 k0), by simp [updV, e5], hb, hG.any gk.out g6.out _ rfl, hF12.step (fun _ h => h) (by decide) _, hF13.step (fun _ h => h) (by decide) _, hF14.step (fun _ h => h) (by decide) _, hF15.step (fun _ h => h) (by decide) _, hF16.step (fun _ h => h) (by decide) _, hF18.step (fun _ h => h) (by decide) _⟩
          · refine wpOp_step rfl (fun K' hK => ?_)
            clear hd hin hD
            go_simp
            exact hK _ _ ⟨updV xvc 7 (Value.int IntKind.i64 ↑n), by simp [updV], hb, hG.any gk.out g7.out _ rfl, hF12.step (fun _ h => h) (by decide) _, hF13.step (fun _ h => h) (by decide) _, hF14.step (fun _ h => h) (by decide) _, hF15.step (fun _ h => h) (by decide) _, hF16.step (fun _ h => h) (by decide) _, hF18.step (fun _ h => h) (by decide) _⟩
          · refine wpOp_step rfl (fun K' hK => ?_)
            simp [Region.binds] at hd
            have e6 : xvc 6 = .slice a0 n0 k0 := hG.get g6.out (by simp [hd])
            have e7 : xvc 7 = Value.int IntKind.i64 ↑n := hG.get g7.out (by simp [hd])
            have hs := s0 Wc
            clear hd hin hD
            go_simp
            exact hK _ _ ⟨updV xvc 8 (.slice a0 n k0), by simp [updV, e6, e7], hb, hG.any gk.out g8.out _ rfl, hF12.step (fun _ h => h) (by decide) _, hF13.step (fun _ h => h) (by decide) _, hF14.step (fun _ h => h) (by decide) _, hF15.step (fun _ h => h) (by decide) _, hF16.step (fun _ h => h) (by decide) _, hF18.step (fun _ h => h) (by decide) _⟩
          · refine wpOp_step rfl (fun K' hK => ?_)
            clear hd hin hD
            go_simp
            exact hK _ _ ⟨updV xvc 9 (Value.slice a1 n1 k1), by simp [updV], hb, hG.any gk.out g9.out _ rfl, hF12.step (fun _ h => h) (by decide) _, hF13.step (fun _ h => h) (by decide) _, hF14.step (fun _ h => h) (by decide) _, hF15.step (fun _ h => h) (by decide) _, hF16.step (fun _ h => h) (by decide) _, hF18.step (fun _ h => h) (by decide) _⟩
          · refine wpOp_step rfl (fun K' hK => ?_)
            clear hd hin hD
            go_simp
            exact hK _ _ ⟨updV xvc 10 (Value.int IntKind.i64 ↑n), by simp [updV], hb, hG.any gk.out g10.out _ rfl, hF12.step (fun _ h => h) (by decide) _, hF13.step (fun _ h => h) (by decide) _, hF14.step (fun _ h => h) (by decide) _, hF15.step (fun _ h => h) (by decide) _, hF16.step (fun _ h => h) (by decide) _, hF18.step (fun _ h => h) (by decide) _⟩
          · refine wpOp_step rfl (fun K' hK => ?_)
            simp [Region.binds] at hd
            have e9 : xvc 9 = Value.slice a1 n1 k1 := hG.get g9.out (by simp [hd])
            have e10 : xvc 10 = Value.int IntKind.i64 ↑n := hG.get g10.out (by simp [hd])
            have hs := s1 Wc
            clear hd hin hD
            go_simp
            exact hK _ _ ⟨updV xvc 11 (.slice a1 n k1), by simp [updV, e9, e10], hb, hG.any gk.out g11.out _ rfl, hF12.step (fun _ h => h) (by decide) _, hF13.step (fun _ h => h) (by decide) _, hF14.step (fun _ h => h) (by decide) _, hF15.step (fun _ h => h) (by decide) _, hF16.step (fun _ h => h) (by decide) _, hF18.step (fun _ h => h) (by decide) _⟩
          · refine wpOp_step rfl (fun K' hK => ?_)
            simp [Region.binds] at hd
            have e8 : xvc 8 = .slice a0 n k0 := hG.get g8.out (by simp [hd])
            have e11 : xvc 11 = .slice a1 n k1 := hG.get g11.out (by simp [hd])
            clear hd hin hD
            go_simp
            exact hK _ _ ⟨updV xvc 12 (.slice (some ⟨Wc.heap.size, 0, none⟩) 2 2), by simp [updV, e8, e11], JS.out _ _ (below_alloc _ _) hb, hG.any gk.out g12.out _ trivial, Fe.new (⟨_, rfl, fun j u hj => by rw [World.cell?_alloc_new]; simpa using hj⟩), hF13.on st13.out (below_alloc _ _) (by decide) _, hF14.on st14.out (below_alloc _ _) (by decide) _, hF15.on st15.out (below_alloc _ _) (by decide) _, hF16.on st16.out (below_alloc _ _) (by decide) _, hF18.on st18.out (below_alloc _ _) (by decide) _⟩
          · refine wpOp_step rfl (fun K' hK => ?_)
            simp [Region.binds] at hd
            have e4 : xvc 4 = Value.int IntKind.i64 ↑n := hG.get g4.out (by simp [hd])
            have l12 : listed.getD 12 false = true := by simp [hd]
            have m12 := hF12 l12
            clear hd hin hD
            go_simp
            refine (S2.out Wc _ hb m12).mono ?_
            rintro e w' ⟨v, rfl, hv, hb'⟩
            go_wp2_with fail
            exact ⟨updV xvc 13 v, by simp [updV, e4], JS.out _ _ hb' hb, hG.any gk.out g13.out v trivial, hF12.on st12.out hb' (by decide) _, Fe.new (hv), hF14.on st14.out hb' (by decide) _, hF15.on st15.out hb' (by decide) _, hF16.on st16.out hb' (by decide) _, hF18.on st18.out hb' (by decide) _⟩
          · refine wpOp_step rfl (fun K' hK => ?_)
            simp [Region.binds] at hd
            have e1 : xvc 1 = .agg #[.int .i64 (N : Int), .int .i64 (B : Int), .int .i64 (Q : Int), .int .i64 (E : Int), .int .i64 (F : Int)] := hG.get g1.out (by simp [hd])
            have e3 : xvc 3 = .int .u64 (S : Int) := hG.get g3.out (by simp [hd])
            have l13 : listed.getD 13 false = true := by simp [hd]
            have m13 := hF13 l13
            clear hd hin hD
            go_simp
            refine (C2.out Wc _ hb m13).mono ?_
            rintro e w' ⟨v, rfl, hv, hb'⟩
            go_wp2_with fail
            exact ⟨updV xvc 14 v, by simp [updV, e1, e3], JS.out _ _ hb' hb, hG.any gk.out g14.out v trivial, hF12.on st12.out hb' (by decide) _, hF13.on st13.out hb' (by decide) _, Fe.new (hv), hF15.on st15.out hb' (by decide) _, hF16.on st16.out hb' (by decide) _, hF18.on st18.out hb' (by decide) _⟩
          · refine wpOp_step rfl (fun K' hK => ?_)
            simp [Region.binds] at hd
            have l14 : listed.getD 14 false = true := by simp [hd]
            have m14 := hF14 l14
            clear hd hin hD
            go_simp
            exact hK _ _ ⟨updV xvc 15 (xvc 14), by simp [updV], hb, hG.any gk.out g15.out _ trivial, hF12.step (fun _ h => h) (by decide) _, hF13.step (fun _ h => h) (by decide) _, hF14.step (fun _ h => h) (by decide) _, Fe.new (m14), hF16.step (fun _ h => h) (by decide) _, hF18.step (fun _ h => h) (by decide) _⟩
          · refine wpOp_step rfl (fun K' hK => ?_)
            simp [Region.binds] at hd
            have l15 : listed.getD 15 false = true := by simp [hd]
            have m15 := hF15 l15
            clear hd hin hD
            obtain ⟨p7, q7, e7, h7⟩ := m15
            go_simp
            exact hK _ _ ⟨updV xvc 16 (.pointer (some ⟨p7, 0, none⟩)), by simp [updV, e7], hb, hG.any gk.out g16.out _ trivial, hF12.step (fun _ h => h) (by decide) _, hF13.step (fun _ h => h) (by decide) _, hF14.step (fun _ h => h) (by decide) _, hF15.step (fun _ h => h) (by decide) _, Fe.new (⟨p7, q7, rfl, h7⟩), hF18.step (fun _ h => h) (by decide) _⟩
          · refine wpOp_step rfl (fun K' hK => ?_)
            simp [Region.binds] at hd
            have l15 : listed.getD 15 false = true := by simp [hd]
            have m15 := hF15 l15
            clear hd hin hD
            obtain ⟨p7, q7, e7, h7⟩ := m15
            go_simp
            exact hK _ _ ⟨updV xvc 17 (.int .i64 0), by simp [updV, e7], hb, hG.any gk.out g17.out _ rfl, hF12.step (fun _ h => h) (by decide) _, hF13.step (fun _ h => h) (by decide) _, hF14.step (fun _ h => h) (by decide) _, hF15.step (fun _ h => h) (by decide) _, hF16.step (fun _ h => h) (by decide) _, hF18.step (fun _ h => h) (by decide) _⟩
          · refine wpOp_step rfl (fun K' hK => ?_)
            simp [Region.binds] at hd
            have l16 : listed.getD 16 false = true := by simp [hd]
            have m16 := hF16 l16
            clear hd hin hD
            go_simp
            exact hK _ _ ⟨updV xvc 18 (xvc 16), by simp [updV], hb, hG.any gk.out g18.out _ trivial, hF12.step (fun _ h => h) (by decide) _, hF13.step (fun _ h => h) (by decide) _, hF14.step (fun _ h => h) (by decide) _, hF15.step (fun _ h => h) (by decide) _, hF16.step (fun _ h => h) (by decide) _, Fe.new (m16)⟩
          · refine wpOp_step rfl (fun K' hK => ?_)
            simp [Region.binds] at hd
            have e17 : xvc 17 = .int .i64 0 := hG.get g17.out (by simp [hd])
            clear hd hin hD
            go_simp
            exact hK _ _ ⟨updV xvc 19 (.int .i64 0), by simp [updV, e17], hb, hG.any gk.out g19.out _ rfl, hF12.step (fun _ h => h) (by decide) _, hF13.step (fun _ h => h) (by decide) _, hF14.step (fun _ h => h) (by decide) _, hF15.step (fun _ h => h) (by decide) _, hF16.step (fun _ h => h) (by decide) _, hF18.step (fun _ h => h) (by decide) _⟩
        · rintro listed ac Wc ⟨xvc, rfl, hb, hG, hF12, hF13, hF14, hF15, hF16, hF18⟩ hall
          have m18 : Hid ((IsNp S N B Q E F n (N + A) D2) (xvc 18) Wc) := hF18 (hall 18 (by decide))
          have e19 : xvc 19 = .int .i64 0 := hG.get g19.out (hall 19 (by decide))
          have XW : Hid ((fun Wc => Below w5.heap.size w5 Wc) Wc) := hb
          clear hall hG hb gk JS g0 g1 g2 g3 g4 g5 g6 g7 g8 g9 g10 g11 g12 g13 g14 g15 g16 g17 g18 g19 hF12 st12 hF13 st13 hF14 st14 hF15 st15 hF16 st16 hF18 st18
          rw [e19]
          clear e19
          obtain ⟨p2, q2, e18, h18⟩ := m18.out
          rw [e18]
          have M2 : Hid (∀ U, Below Wc.heap.size Wc U → Enc q2 U p2 S N B Q E F n (N + A) D2) := fun U hU => h18.below hU
          have M1' : Hid (∀ U, Below Wc.heap.size Wc U → Enc q1 U p1 S N B Q E F n (N + A) D1) := fun U hU => M1.out U (on_below XW.out hU)
          have M0 : Hid (∀ U, Below Wc.heap.size Wc U → Enc q0 U p0 S N B Q E F n (N + A) D0) := fun U hU => M0'.out U (on_below XW.out hU)
          have X6 : Hid (Below w3.heap.size w3 Wc) := on_below X5.out XW.out
          clear m18 e18 h18 XW M0' M1 X5 BX5 C2 S2
          obtain ⟨w6, hw6⟩ : ∃ w6, w6 = Wc := ⟨_, rfl⟩
          subst hw6
          have F6 : Hid (CaseC w6 w.heap.size N B Q E F S (.slice a0 n0 k0) (.slice io m icap)) := BX.out w6 X6.out
          obtain ⟨c0, c1, c2, c3, c4, c5, c6, c7⟩ := F6.out
          go_wp2
          clear c0 c1 c2 c3 c4 c5 c6 c7
          go_loopw [101] (fun jv wr => ∃ i : Nat, i ≤ m ∧ jv = .int .i64 i ∧ Hid (Below w6.heap.size w6 wr)) (fun jv _ => m - (intOf jv).toNat)
          case atStart => exact ⟨0, by omega, rfl, Below.refl _ _⟩
          case round =>
            obtain ⟨i, hi, rfl, BB⟩ := hrel
            by_cases hlt : i < m
            · obtain ⟨wa, hwa⟩ : ∃ x, x = wr := ⟨_, rfl⟩
              subst hwa
              have hil : i < ids.length := by rw [HM.out]; exact hlt
              obtain ⟨⟨-, ao', cap', hv0, -, -, -, h5⟩, hbd⟩ := HU.out
              injection hv0 with y1 y2 y3
              subst y1
              obtain ⟨bi, oi, rfl, hc0⟩ : ∃ b off, io = some ⟨b, off, none⟩ ∧ ∀ j u, (ids.map uv)[j]? = some u → w.cell? ⟨b, off + j, none⟩ = some u := by
                rcases h5 with h0 | h0
                · omega
                · exact h0
              have ck0 := hc0 i _ (map_uv_at ids i hil)
              have ck := ((on_below (on_below B3.out X6.out) BB.out).cell (cell_block_lt ck0)).trans ck0
              have HI : Hid (ids[i] < 18446744073709551616) := hbd _ (List.getElem_mem hil)
              clear hc0 ck0 y2 y3 hbd
              generalize ids[i] = id at *
              obtain ⟨k, of, hch⟩ := chk_is E S (N + A) id HD.out.f2
              obtain ⟨ok0, ok1, ok2⟩ := OK0.out id k of hch
              obtain ⟨x, hx⟩ : ∃ x, chkD B D0 of = x := ⟨_, rfl⟩
              obtain ⟨y, hy⟩ : ∃ x, chkD B D1 of = x := ⟨_, rfl⟩
              have hz : chkD B D2 of = xorL x y := by rw [D2E.out, chkD_two L01.out, hx, hy]
              have XL : x.length = B := by rw [← hx]; exact chkD_length ok0
              have YL : y.length = B := by rw [← hy]; exact chkD_length ok1
              have ZL : (xorL x y).length = B := by rw [xorL_length (by omega), XL]
              have SC : Hid (fitB B [x, y, xorL x y] = true ∧ xorAll (zeros B) [x, y, xorL x y] = zeros B) := sum_three XL YL
              have PK : Hid (∀ (p q : Nat) (D : List (List UInt8)) (z : List UInt8) W, Enc q W p S N B Q E F n (N + A) D → OkOf B D of → chkD B D of = z → z.length = B → Calls Try.prog 29 #[.pointer (some ⟨p, 0, none⟩), .int .u64 id] W fun e w' => ∃ q, e = .returned (.agg #[.int .u64 (S : Int), .int .i64 (N : Int), .int .i64 (B : Int), .int .i64 (Q : Int), .int .i64 (E : Int), .int .i64 (F : Int), .int .i64 (n : Int), .int .u64 (id : Int), .slice (some ⟨q, 0, none⟩) B B]) ∧ Bs w' (.slice (some ⟨q, 0, none⟩) B B) z ∧ Below W.heap.size W w') := by
                intro p q D z W hE hok hz hl
                refine (epacket_any q p S N B Q E F n (N + A) id k D of W hE (by omega) hch HD.out (by omega) HS.out HI.out hok).mono ?_
                rintro e w' ⟨r, rfl, -, h1, h2⟩
                rw [hz] at h1
                exact ⟨r, rfl, h1.bs0 B B hl.symm (Nat.le_refl _) (by unfold maxLen; omega), h2⟩
              have P0 : Hid (Calls Try.prog 29 #[.pointer (some ⟨p0, 0, none⟩), .int .u64 id] wa fun e w' => ∃ q, e = .returned (.agg #[.int .u64 (S : Int), .int .i64 (N : Int), .int .i64 (B : Int), .int .i64 (Q : Int), .int .i64 (E : Int), .int .i64 (F : Int), .int .i64 (n : Int), .int .u64 (id : Int), .slice (some ⟨q, 0, none⟩) B B]) ∧ Bs w' (.slice (some ⟨q, 0, none⟩) B B) x ∧ Below wa.heap.size wa w') := PK.out p0 q0 D0 x wa (M0.out wa BB.out) ok0 hx XL
              have P1 : Hid (∀ W, Below wa.heap.size wa W → Calls Try.prog 29 #[.pointer (some ⟨p1, 0, none⟩), .int .u64 id] W fun e w' => ∃ q, e = .returned (.agg #[.int .u64 (S : Int), .int .i64 (N : Int), .int .i64 (B : Int), .int .i64 (Q : Int), .int .i64 (E : Int), .int .i64 (F : Int), .int .i64 (n : Int), .int .u64 (id : Int), .slice (some ⟨q, 0, none⟩) B B]) ∧ Bs w' (.slice (some ⟨q, 0, none⟩) B B) y ∧ Below W.heap.size W w') := fun W hW => PK.out p1 q1 D1 y W (M1'.out W (on_below BB.out hW)) ok1 hy YL
              have P2 : Hid (∀ W, Below wa.heap.size wa W → Calls Try.prog 29 #[.pointer (some ⟨p2, 0, none⟩), .int .u64 id] W fun e w' => ∃ q, e = .returned (.agg #[.int .u64 (S : Int), .int .i64 (N : Int), .int .i64 (B : Int), .int .i64 (Q : Int), .int .i64 (E : Int), .int .i64 (F : Int), .int .i64 (n : Int), .int .u64 (id : Int), .slice (some ⟨q, 0, none⟩) B B]) ∧ Bs w' (.slice (some ⟨q, 0, none⟩) B B) (xorL x y) ∧ Below W.heap.size W w') := fun W hW => PK.out p2 q2 D2 (xorL x y) W (M2.out W (on_below BB.out hW)) ok2 hz ZL
              have hfd := fun q => run_payload (S : Int) (N : Int) (B : Int) (Q : Int) (E : Int) (F : Int) (n : Int) (id : Int) (.slice (some ⟨q, 0, none⟩) B B)
              clear hch ok0 ok1 ok2 hx hy hz XL YL ZL PK HI
              obtain ⟨z, hz⟩ : ∃ z, xorL x y = z := ⟨_, rfl⟩
              rw [hz] at SC P2
              clear hz
              go_wp2_with fail
              refine P0.out.mono ?_
              rintro e w7 ⟨r0, rfl, hs0, hb7⟩
              have B7 : Hid (Below wa.heap.size wa w7) := hb7
              have S7 : Hid (Bs w7 (.slice (some ⟨r0, 0, none⟩) B B) x) := hs0
              clear hb7 hs0 P0
              go_wp2_with fail
              refine (P1.out w7 B7.out).mono ?_
              rintro e w8 ⟨r1, rfl, hs1, hb8⟩
              have B8 : Hid (Below wa.heap.size wa w8) := on_below B7.out hb8
              have S8 : Hid (Bs w8 (.slice (some ⟨r0, 0, none⟩) B B) x ∧ Bs w8 (.slice (some ⟨r1, 0, none⟩) B B) y) := ⟨S7.out.below hb8, hs1⟩
              clear hb8 hs1 P1 S7 B7
              go_wp2_with fail
              refine (P2.out w8 B8.out).mono ?_
              rintro e w9 ⟨r2, rfl, hs2, hb9⟩
              have B9 : Hid (Below wa.heap.size wa w9) := on_below B8.out hb9
              have S9 : Hid (Parts w9 [.slice (some ⟨r0, 0, none⟩) B B, .slice (some ⟨r1, 0, none⟩) B B, .slice (some ⟨r2, 0, none⟩) B B] [x, y, z]) := parts_three (S8.out.1.below hb9) (S8.out.2.below hb9) hs2
              clear hb9 hs2 P2 S8 B8
              go_upto_region 15 with fail
              obtain ⟨w10, hw10⟩ : ∃ w10, w9.alloc (.cells #[.slice (some ⟨r0, 0, none⟩) B B, .slice (some ⟨r1, 0, none⟩) B B, .slice (some ⟨r2, 0, none⟩) B B] 25) = w10 := ⟨_, rfl⟩
              obtain ⟨rr, hrr⟩ : ∃ rr, w9.heap.size = rr := ⟨_, rfl⟩
              have B10 : Hid (Below w6.heap.size w6 w10) := by rw [← hw10]; exact on_below BB.out (on_below B9.out (below_alloc _ _))
              have S10 : Hid (Sl 1 w10 (.slice (some ⟨rr, 0, none⟩) 3 3) [Value.slice (some ⟨r0, 0, none⟩) B B, .slice (some ⟨r1, 0, none⟩) B B, .slice (some ⟨r2, 0, none⟩) B B].length [.slice (some ⟨r0, 0, none⟩) B B, .slice (some ⟨r1, 0, none⟩) B B, .slice (some ⟨r2, 0, none⟩) B B] ∧ Parts w10 [.slice (some ⟨r0, 0, none⟩) B B, .slice (some ⟨r1, 0, none⟩) B B, .slice (some ⟨r2, 0, none⟩) B B] [x, y, z]) := by
                rw [← hw10]
                exact ⟨Sl.lit w9 [.slice (some ⟨r0, 0, none⟩) B B, .slice (some ⟨r1, 0, none⟩) B B, .slice (some ⟨r2, 0, none⟩) B B] _ _ _ hrr.symm rfl (by simp), S9.out.below (below_alloc _ _)⟩
              rw [hw10, hrr]
              clear hw10 hrr S9 B9 hfd
              have CF : Hid (Calls Try.prog 31 #[.int .i64 B, .slice (some ⟨rr, 0, none⟩) 3 3] w10 fun e w' => e = .returned (.bool true) ∧ w' = w10) := by
                have := rfits_any (B : Int) _ _ [x, y, z] w10 S10.out.1 S10.out.2
                rw [Int.toNat_natCast, SC.out.1, decide_eq_true (show (0 : Int) ≤ (B : Int) by omega)] at this
                exact this
              have CT : Hid (∀ W, Below w10.heap.size w10 W → Calls Try.prog 23 #[.int .i64 B, .slice (some ⟨rr, 0, none⟩) 3 3] W fun e w' => ∃ q, e = .returned (.slice (some ⟨q, 0, none⟩) B B) ∧ Blk w' q [] (zeros B) [] ∧ Below W.heap.size W w') := by
                intro W hW
                have := rsum_any B _ _ [x, y, z] W (by omega) (S10.out.1.below hW) (S10.out.2.below hW) SC.out.1
                rw [SC.out.2] at this
                refine this.mono ?_
                rintro e w' ⟨rfl, h1, h2⟩
                exact ⟨_, rfl, h1, h2⟩
              have FW : Hid (CaseC w10 w.heap.size N B Q E F S (.slice a0 n0 k0) (.slice (some ⟨bi, oi, none⟩) m icap)) := F6.out.below B10.out
              clear S10 BB SC
              obtain ⟨c0, c1, c2, c3, c4, c5, c6, c7⟩ := FW.out
              go_wp2_with fail
              refine CF.out.mono ?_
              rintro e w11 ⟨rfl, rfl⟩
              go_wp2_with fail
              refine (CT.out w11 (by first | exact Below.refl _ _ | exact below0 _)).mono ?_
              rintro e w12 ⟨q9, rfl, hk9, hb9⟩
              have B12 : Hid (Below w6.heap.size w6 w12) := on_below B10.out hb9
              have CZ : Hid (Calls Try.prog 22 #[.slice (some ⟨q9, 0, none⟩) B B] w12 fun e w' => e = .returned (.bool true) ∧ w' = w12) := by
                have := rzero_any _ (zeros B) w12 (hk9.bs0 B B (by rw [zeros_length]) (Nat.le_refl _) (by unfold maxLen; omega))
                rw [zeroB_zeros] at this
                exact this
              clear hk9 hb9 CT CF B10 FW c0 c1 c2 c3 c4 c5 c6 c7
              go_wp2_with fail
              refine CZ.out.mono ?_
              rintro e w13 ⟨rfl, rfl⟩
              clear CZ
              go_wp2
              go_roundw
              case rel => exact ⟨i + 1, by omega, by go_num, B12⟩
              case measure => simp [intOf]; omega
            · obtain rfl : i = m := by omega
              have BE : Hid (Below w.heap.size w wr) := on_below (on_below B3.out X6.out) BB.out
              clear BB
              go_wp2
              go_ret
              exact ⟨rfl, BE.out⟩

theorem emitAdds_law (N B Q E F S : Int) (ov : Value) (l : List UInt8) (iv : Value) (il : List Int) (u : Value) (l1 : List UInt8) (w : World) (h : (Lit.int .u64 S).wf = true ∧ Bs w ov l ∧ Sl 1 w iv il.length (il.map (Value.int .u64)) ∧ ∀ z ∈ il, (Lit.int .u64 z).wf = true) (h1 : Bs w u l1) :
    Calls Try.prog 10 #[.agg #[.int .i64 N, .int .i64 B, .int .i64 Q, .int .i64 E, .int .i64 F, .int .u64 S, ov, iv], u] w fun e w' => e = .returned (.bool true) ∧ Below w.heap.size w w' := by
  obtain ⟨hS, ho, hi, hk⟩ := h
  simp [Lit.wf, IntKind.min, IntKind.max, IntKind.bits, IntKind.signed] at hS
  obtain ⟨s, rfl⟩ : ∃ s : Nat, S = s := ⟨S.toNat, by omega⟩
  obtain ⟨ids, hs⟩ := us_of hi hk
  exact emitAdds_walk N B Q E F s ov l iv ids u l1 w (by omega) ho hs h1

end Go.Proofs.Ytehpbnakdadedaa
