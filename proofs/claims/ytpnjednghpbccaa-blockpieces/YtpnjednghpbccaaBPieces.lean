/-
  The walk of the statement BlockPieces.
-/
import Derived.Test.YtpnjednghpbccaaBlkS
import Derived.Test.YtpnjednghpbccaaLSlice
import Derived.Test.YtpnjednghpbccaaLCopy
import Derived.Test.YtpnjednghpbccaaLPh
import Derived.Deep.QuietTactic
import Derived.BigQuiet
import Derived.Deep.RegionWith
import Derived.Deep.CutRange
namespace Go.Proofs.Ytpnjednghpbccaa
open Go.RowKit
set_option linter.unusedVariables false

theorem slice_mid_at (q o n c T S : Nat) (h : T + S ≤ c) (h2 : T < c) (W : World) : (Instr.slice 25 (.slice (some ⟨q, o, none⟩) n c) (some (.int .i64 T)) (some (.int .i64 ((T : Int) + (S : Int)))) none).run Try.prog W = .ok (.slice (some ⟨q, o + T, none⟩) S (c - T)) W := by
  rw [slice_mid W _ n c T S h, if_neg (by omega)]
  simp only [Option.map_some, Nat.mul_one, Addr.add_lit]

theorem Bs.mid_at {w : World} {q o n c : Nat} {l : List UInt8} (h : Bs w (.slice (some ⟨q, o, none⟩) n c) l) (T S : Nat) (hT : T + S ≤ n) (h2 : T < c) : Bs w (.slice (some ⟨q, o + T, none⟩) S (c - T)) ((l.drop T).take S) := by
  have h1 := h.mid T S hT
  rw [if_neg (by omega)] at h1
  simpa only [Option.map_some, Nat.mul_one, Addr.add_lit] using h1

theorem wrap_i64 (x : Int) (h1 : -9223372036854775808 ≤ x) (h2 : x ≤ 9223372036854775807) : IntKind.i64.wrap x = x := by
  simp [IntKind.wrap, IntKind.bits, IntKind.signed]
  omega

theorem xorTo_parts (x b : List UInt8) (A K : Nat) (hb : b.length = x.length) (h : A + K ≤ x.length) :
    xorTo x b A = xorL (x.take A) (b.take A) ++ ((x.drop A).take K ++ x.drop (A + K)) ∧ xorTo x b (A + K) = xorL (x.take A) (b.take A) ++ (xorL ((x.drop A).take K) ((b.drop A).take K) ++ x.drop (A + K)) := by
  constructor
  · unfold xorTo
    rw [← List.drop_drop, List.take_append_drop]
  · unfold xorTo
    rw [List.take_add, List.take_add]
    unfold xorL
    rw [List.zipWith_append (by simp; omega), List.append_assoc]

set_option maxRecDepth 100000 in
set_option maxHeartbeats 4000000 in
theorem blockPieces_walk (v0 : Value) (l0 : List UInt8) (v1 : Value) (l1 : List UInt8) (v2 : Value) (l2 : List UInt8) (w : World) (h0 : Bs w v0 l0) (h1 : Bs w v1 l1) (h2 : Bs w v2 l2) :
    Calls Try.prog 6 #[v0, v1, v2] w fun e w' => e = .returned (.bool true) ∧ Below w.heap.size w w' := by
  have H0 : Hid (Bs w v0 l0) := h0
  have H1 : Hid (Bs w v1 l1) := h1
  have H2 : Hid (Bs w v2 l2) := h2
  obtain ⟨-, a0, c0, rfl, hc0, hm0, -, -⟩ := h0
  obtain ⟨-, a1, c1, rfl, hc1, hm1, -, -⟩ := h1
  obtain ⟨-, a2, c2, rfl, hc2, hm2, -, -⟩ := h2
  unfold maxLen at hm0 hm1 hm2
  by_cases hA : 300 < l0.length
  · go_enter Try.func6, Try.ntmps6
    go_wp2_with fail
    refine (speaks3_any w).mono ?_
    rintro e w1 ⟨rfl, hb1⟩
    have X1 : Hid (Below w.heap.size w w1) := hb1
    clear hb1
    go_wp2
    go_ret
    exact ⟨rfl, X1.out⟩
  by_cases hB : 100 < l2.length
  · go_enter Try.func6, Try.ntmps6
    go_wp2_with fail
    refine (speaks3_any w).mono ?_
    rintro e w1 ⟨rfl, hb1⟩
    have X1 : Hid (Below w.heap.size w w1) := hb1
    clear hb1
    go_wp2
    go_ret
    exact ⟨rfl, X1.out⟩
  have hA' : l0.length ≤ 300 := by omega
  have hB' : l2.length ≤ 100 := by omega
  clear hA hB
  have hmin := min2 l0.length l1.length _ rfl
  obtain ⟨n, hn⟩ : ∃ n, min l0.length l1.length = n := ⟨_, rfl⟩
  rw [hn] at hmin
  have hn0 : n ≤ l0.length := by omega
  have hn1 : n ≤ l1.length := by omega
  have hn3 : n ≤ 300 := by omega
  clear hn
  have s0 := fun W => slice_to W a0 l0.length c0 n (by omega)
  have s1 := fun W => slice_to W a1 l1.length c1 n (by omega)
  have T0 : Hid (Bs w (.slice a0 n c0) (l0.take n)) := H0.out.take hn0
  have T1 : Hid (Bs w (.slice a1 n c1) (l1.take n)) := H1.out.take hn1
  have L0 : Hid ((l0.take n).length = n) := by unfold Hid; simp; omega
  have L1 : Hid ((l1.take n).length = n) := by unfold Hid; simp; omega
  obtain ⟨x0, hx0⟩ : ∃ x, l0.take n = x := ⟨_, rfl⟩
  obtain ⟨x1, hx1⟩ : ∃ x, l1.take n = x := ⟨_, rfl⟩
  rw [hx0] at T0 L0
  rw [hx1] at T1 L1
  have E1 : Hid (l1.take n = x1) := hx1
  clear hx0 hx1
  go_enter Try.func6, Try.ntmps6
  go_wp2_with fail
  refine (speaks3_any w).mono ?_
  rintro e w1 ⟨rfl, hb1⟩
  have X1 : Hid (Below w.heap.size w w1) := hb1
  clear hb1
  have F0 : Hid (∀ W, Below w1.heap.size w1 W → Bs W (.slice a0 n c0) x0) := fun W hW => (T0.out.below X1.out).below hW
  go_wp2
  refine wp_region_any (by kernel_rfl) ?_
  obtain ⟨gs, hgs⟩ : ∃ gs : List (Value → World → Prop), gs = [IsNone w1.heap.size, IsV (Value.slice a0 l0.length c0), IsV (Value.int IntKind.i64 ↑n), IsV (.slice a0 n c0), IsOwn w1.heap.size x0, IsNone w1.heap.size, IsV (Value.slice a0 l0.length c0), IsV (Value.int IntKind.i64 ↑n), IsV (.slice a0 n c0), IsOwn w1.heap.size x0, IsOwn w1.heap.size x0, IsOwn w1.heap.size x0, IsV (Value.int IntKind.i64 (0 : Int))] := ⟨_, rfl⟩
  have g0 : Hid (gs[0]? = some (IsNone w1.heap.size)) := by unfold Hid; rw [hgs]; rfl
  have g1 : Hid (gs[1]? = some (IsV (Value.slice a0 l0.length c0))) := by unfold Hid; rw [hgs]; rfl
  have g2 : Hid (gs[2]? = some (IsV (Value.int IntKind.i64 ↑n))) := by unfold Hid; rw [hgs]; rfl
  have g3 : Hid (gs[3]? = some (IsV (.slice a0 n c0))) := by unfold Hid; rw [hgs]; rfl
  have g4 : Hid (gs[4]? = some (IsOwn w1.heap.size x0)) := by unfold Hid; rw [hgs]; rfl
  have g5 : Hid (gs[5]? = some (IsNone w1.heap.size)) := by unfold Hid; rw [hgs]; rfl
  have g6 : Hid (gs[6]? = some (IsV (Value.slice a0 l0.length c0))) := by unfold Hid; rw [hgs]; rfl
  have g7 : Hid (gs[7]? = some (IsV (Value.int IntKind.i64 ↑n))) := by unfold Hid; rw [hgs]; rfl
  have g8 : Hid (gs[8]? = some (IsV (.slice a0 n c0))) := by unfold Hid; rw [hgs]; rfl
  have g9 : Hid (gs[9]? = some (IsOwn w1.heap.size x0)) := by unfold Hid; rw [hgs]; rfl
  have g10 : Hid (gs[10]? = some (IsOwn w1.heap.size x0)) := by unfold Hid; rw [hgs]; rfl
  have g11 : Hid (gs[11]? = some (IsOwn w1.heap.size x0)) := by unfold Hid; rw [hgs]; rfl
  have g12 : Hid (gs[12]? = some (IsV (Value.int IntKind.i64 (0 : Int)))) := by unfold Hid; rw [hgs]; rfl
  have gk : Hid (∀ p ∈ gs, Stays p) := by
    unfold Hid
    rw [hgs]
    simp only [List.forall_mem_cons]
    exact ⟨stays_none _, stays_v _, stays_v _, stays_v _, stays_own _ _, stays_none _, stays_v _, stays_v _, stays_v _, stays_own _ _, stays_own _ _, stays_own _ _, stays_v _, by simp⟩
  clear hgs
  refine wpAny_inv (fun listed a W => ∃ xv : Nat → Value, a = ⟨#[Value.slice a0 l0.length c0, Value.slice a1 l1.length c1, Value.slice a2 l2.length c2, undef, undef, undef, Value.bool false, Value.int IntKind.i64 ↑n, xv 10, xv 11, xv 12, undef, undef, Value.bool true, Value.bool false, Value.slice a0 l0.length c0, Value.int IntKind.i64 ↑l0.length, Value.bool (decide ((300 : Int) < ↑l0.length)), Value.bool (decide ((300 : Int) < ↑l0.length)), Value.slice a2 l2.length c2, Value.int IntKind.i64 ↑l2.length, Value.bool (decide ((100 : Int) < ↑l2.length)), Value.bool (decide ((300 : Int) < ↑l0.length) || decide ((100 : Int) < ↑l2.length)), Value.slice a0 l0.length c0, Value.int IntKind.i64 ↑l0.length, Value.slice a1 l1.length c1, Value.int IntKind.i64 ↑l1.length, Value.int IntKind.i64 ↑n, xv 0, xv 1, xv 2, xv 3, xv 4, xv 5, xv 6, xv 7, xv 8, xv 9, undef, undef, undef, undef, undef, undef, undef, undef, undef, undef, undef, undef, undef, undef, undef, undef, undef, undef, undef, undef, undef, undef, undef, undef, undef, undef, undef, undef, undef, undef, undef, undef, undef, undef, undef, undef, undef, undef, undef, undef, undef, undef, undef, undef, undef, undef, undef, undef, undef, undef, undef], []⟩ ∧ Below w1.heap.size w1 W ∧ Lst gs listed xv W ∧ Ap listed xv 0 5 ∧ Ap listed xv 0 9 ∧ Ap listed xv 4 5 ∧ Ap listed xv 4 9 ∧ Ap listed xv 10 11 ∧ Ap listed xv 4 11 ∧ Ap listed xv 10 9 ∧ Ap listed xv 0 11 ∧ Ap listed xv 10 5) (by kernel_rfl) ?_ ?_ _ _ _ _ (by kernel_rfl) (of_decide_eq_true (by kernel_rfl)) ⟨fun j => undef, rfl, below0 _, Lst.start _ _ _ _, Ap.start _ _ _ _, Ap.start _ _ _ _, Ap.start _ _ _ _, Ap.start _ _ _ _, Ap.start _ _ _ _, Ap.start _ _ _ _, Ap.start _ _ _ _, Ap.start _ _ _ _, Ap.start _ _ _ _⟩
  · rintro listed a W ⟨xv, rfl, hb, hG, hP0, hP1, hP2, hP3, hP4, hP5, hP6, hP7, hP8⟩ i hi hd
    have hin : i < 13 := hi
    clear hi
    have hcase : i = 0 ∨ i = 1 ∨ i = 2 ∨ i = 3 ∨ i = 4 ∨ i = 5 ∨ i = 6 ∨ i = 7 ∨ i = 8 ∨ i = 9 ∨ i = 10 ∨ i = 11 ∨ i = 12 := by omega
    rcases hcase with rfl | rfl | rfl | rfl | rfl | rfl | rfl | rfl | rfl | rfl | rfl | rfl | rfl
    · refine wpOp_step rfl (fun K' hK => ?_)
      clear hd hin
      go_simp
      exact hK _ _ ⟨updV xv 0 (.slice (some ⟨W.heap.size, 0, none⟩) 0 0), by simp [updV], hb.trans ((below_alloc _ _).mono hb.size), hG.step gk.out (below_alloc _ _) g0.out _ ⟨_, rfl, hb.size, Blk.lit _ _ [] _ rfl rfl⟩, Ap.left (by decide) (fun hl => new_apart rfl (hG.get g5.out hl).lt), Ap.left (by decide) (fun hl => new_apart rfl (hG.get g9.out hl).lt), hP2.skip (by decide) (by decide), hP3.skip (by decide) (by decide), hP4.skip (by decide) (by decide), hP5.skip (by decide) (by decide), hP6.skip (by decide) (by decide), Ap.left (by decide) (fun hl => new_apart rfl (hG.get g11.out hl).lt), hP8.skip (by decide) (by decide)⟩
    · refine wpOp_step rfl (fun K' hK => ?_)
      clear hd hin
      go_simp
      exact hK _ _ ⟨updV xv 1 (Value.slice a0 l0.length c0), by simp [updV], hb, hG.same gk.out g1.out _ rfl, hP0.skip (by decide) (by decide), hP1.skip (by decide) (by decide), hP2.skip (by decide) (by decide), hP3.skip (by decide) (by decide), hP4.skip (by decide) (by decide), hP5.skip (by decide) (by decide), hP6.skip (by decide) (by decide), hP7.skip (by decide) (by decide), hP8.skip (by decide) (by decide)⟩
    · refine wpOp_step rfl (fun K' hK => ?_)
      clear hd hin
      go_simp
      exact hK _ _ ⟨updV xv 2 (Value.int IntKind.i64 ↑n), by simp [updV], hb, hG.same gk.out g2.out _ rfl, hP0.skip (by decide) (by decide), hP1.skip (by decide) (by decide), hP2.skip (by decide) (by decide), hP3.skip (by decide) (by decide), hP4.skip (by decide) (by decide), hP5.skip (by decide) (by decide), hP6.skip (by decide) (by decide), hP7.skip (by decide) (by decide), hP8.skip (by decide) (by decide)⟩
    · refine wpOp_step rfl (fun K' hK => ?_)
      simp [Region.binds] at hd
      have e1 : xv 1 = Value.slice a0 l0.length c0 := hG.get g1.out (by simp [hd])
      have e2 : xv 2 = Value.int IntKind.i64 ↑n := hG.get g2.out (by simp [hd])
      clear hd hin
      go_simp
      exact hK _ _ ⟨updV xv 3 (.slice a0 n c0), by simp [updV, e1, e2], hb, hG.same gk.out g3.out _ rfl, hP0.skip (by decide) (by decide), hP1.skip (by decide) (by decide), hP2.skip (by decide) (by decide), hP3.skip (by decide) (by decide), hP4.skip (by decide) (by decide), hP5.skip (by decide) (by decide), hP6.skip (by decide) (by decide), hP7.skip (by decide) (by decide), hP8.skip (by decide) (by decide)⟩
    · refine wpOp_step rfl (fun K' hK => ?_)
      simp [Region.binds] at hd
      have m0 : IsNone w1.heap.size (xv 0) W := hG.get g0.out (by simp [hd])
      have e3 : xv 3 = .slice a0 n c0 := hG.get g3.out (by simp [hd])
      have l0 : listed.getD 0 false = true := by simp [hd]
      obtain ⟨p0, e0, hp0, hbl0⟩ := m0
      clear hd hin
      refine step_copy W rfl (.tmp 28) (.tmp 31) rfl p0 _ x0 _ e0 e3 hbl0 (F0.out W hb) (by rw [L0.out]; omega) hp0 hb.size ?_
      intro q cap' w' hown hq hb'
      exact hK _ _ ⟨updV xv 4 (.slice (some ⟨q, 0, none⟩) x0.length cap'), by simp [updV, Act.put], hb.trans (hb'.mono hb.size), hG.step gk.out hb' g4.out _ hown, hP0.skip (by decide) (by decide), hP1.skip (by decide) (by decide), Ap.left (by decide) (fun hl => by rcases hq with ⟨hq, -⟩ | hq <;> subst hq <;> first | exact (by have h := hP0 l0 hl; rw [e0] at h; exact h) | exact new_apart rfl (hG.get g5.out hl).lt), Ap.left (by decide) (fun hl => by rcases hq with ⟨hq, -⟩ | hq <;> subst hq <;> first | exact (by have h := hP1 l0 hl; rw [e0] at h; exact h) | exact new_apart rfl (hG.get g9.out hl).lt), hP4.skip (by decide) (by decide), Ap.left (by decide) (fun hl => by rcases hq with ⟨hq, -⟩ | hq <;> subst hq <;> first | exact (by have h := hP7 l0 hl; rw [e0] at h; exact h) | exact new_apart rfl (hG.get g11.out hl).lt), hP6.skip (by decide) (by decide), hP7.skip (by decide) (by decide), hP8.skip (by decide) (by decide)⟩
    · refine wpOp_step rfl (fun K' hK => ?_)
      clear hd hin
      go_simp
      exact hK _ _ ⟨updV xv 5 (.slice (some ⟨W.heap.size, 0, none⟩) 0 0), by simp [updV], hb.trans ((below_alloc _ _).mono hb.size), hG.step gk.out (below_alloc _ _) g5.out _ ⟨_, rfl, hb.size, Blk.lit _ _ [] _ rfl rfl⟩, Ap.right (by decide) (fun hl => (new_apart rfl (hG.get g0.out hl).lt).symm), hP1.skip (by decide) (by decide), Ap.right (by decide) (fun hl => (new_apart rfl (hG.get g4.out hl).lt).symm), hP3.skip (by decide) (by decide), hP4.skip (by decide) (by decide), hP5.skip (by decide) (by decide), hP6.skip (by decide) (by decide), hP7.skip (by decide) (by decide), Ap.right (by decide) (fun hl => (new_apart rfl (hG.get g10.out hl).lt).symm)⟩
    · refine wpOp_step rfl (fun K' hK => ?_)
      clear hd hin
      go_simp
      exact hK _ _ ⟨updV xv 6 (Value.slice a0 l0.length c0), by simp [updV], hb, hG.same gk.out g6.out _ rfl, hP0.skip (by decide) (by decide), hP1.skip (by decide) (by decide), hP2.skip (by decide) (by decide), hP3.skip (by decide) (by decide), hP4.skip (by decide) (by decide), hP5.skip (by decide) (by decide), hP6.skip (by decide) (by decide), hP7.skip (by decide) (by decide), hP8.skip (by decide) (by decide)⟩
    · refine wpOp_step rfl (fun K' hK => ?_)
      clear hd hin
      go_simp
      exact hK _ _ ⟨updV xv 7 (Value.int IntKind.i64 ↑n), by simp [updV], hb, hG.same gk.out g7.out _ rfl, hP0.skip (by decide) (by decide), hP1.skip (by decide) (by decide), hP2.skip (by decide) (by decide), hP3.skip (by decide) (by decide), hP4.skip (by decide) (by decide), hP5.skip (by decide) (by decide), hP6.skip (by decide) (by decide), hP7.skip (by decide) (by decide), hP8.skip (by decide) (by decide)⟩
    · refine wpOp_step rfl (fun K' hK => ?_)
      simp [Region.binds] at hd
      have e6 : xv 6 = Value.slice a0 l0.length c0 := hG.get g6.out (by simp [hd])
      have e7 : xv 7 = Value.int IntKind.i64 ↑n := hG.get g7.out (by simp [hd])
      clear hd hin
      go_simp
      exact hK _ _ ⟨updV xv 8 (.slice a0 n c0), by simp [updV, e6, e7], hb, hG.same gk.out g8.out _ rfl, hP0.skip (by decide) (by decide), hP1.skip (by decide) (by decide), hP2.skip (by decide) (by decide), hP3.skip (by decide) (by decide), hP4.skip (by decide) (by decide), hP5.skip (by decide) (by decide), hP6.skip (by decide) (by decide), hP7.skip (by decide) (by decide), hP8.skip (by decide) (by decide)⟩
    · refine wpOp_step rfl (fun K' hK => ?_)
      simp [Region.binds] at hd
      have m5 : IsNone w1.heap.size (xv 5) W := hG.get g5.out (by simp [hd])
      have e8 : xv 8 = .slice a0 n c0 := hG.get g8.out (by simp [hd])
      have l5 : listed.getD 5 false = true := by simp [hd]
      obtain ⟨p5, e5, hp5, hbl5⟩ := m5
      clear hd hin
      refine step_copy W rfl (.tmp 33) (.tmp 36) rfl p5 _ x0 _ e5 e8 hbl5 (F0.out W hb) (by rw [L0.out]; omega) hp5 hb.size ?_
      intro q cap' w' hown hq hb'
      exact hK _ _ ⟨updV xv 9 (.slice (some ⟨q, 0, none⟩) x0.length cap'), by simp [updV, Act.put], hb.trans (hb'.mono hb.size), hG.step gk.out hb' g9.out _ hown, hP0.skip (by decide) (by decide), Ap.right (by decide) (fun hl => by rcases hq with ⟨hq, -⟩ | hq <;> subst hq <;> first | exact (by have h := hP0 hl l5; rw [e5] at h; exact h) | exact (new_apart rfl (hG.get g0.out hl).lt).symm), hP2.skip (by decide) (by decide), Ap.right (by decide) (fun hl => by rcases hq with ⟨hq, -⟩ | hq <;> subst hq <;> first | exact (by have h := hP2 hl l5; rw [e5] at h; exact h) | exact (new_apart rfl (hG.get g4.out hl).lt).symm), hP4.skip (by decide) (by decide), hP5.skip (by decide) (by decide), Ap.right (by decide) (fun hl => by rcases hq with ⟨hq, -⟩ | hq <;> subst hq <;> first | exact (by have h := hP8 hl l5; rw [e5] at h; exact h) | exact (new_apart rfl (hG.get g10.out hl).lt).symm), hP7.skip (by decide) (by decide), hP8.skip (by decide) (by decide)⟩
    · refine wpOp_step rfl (fun K' hK => ?_)
      simp [Region.binds] at hd
      have m4 : IsOwn w1.heap.size x0 (xv 4) W := hG.get g4.out (by simp [hd])
      have l4 : listed.getD 4 false = true := by simp [hd]
      clear hd hin
      go_simp
      exact hK _ _ ⟨updV xv 10 (xv 4), by simp [updV], hb, hG.same gk.out g10.out _ m4, hP0.skip (by decide) (by decide), hP1.skip (by decide) (by decide), hP2.skip (by decide) (by decide), hP3.skip (by decide) (by decide), Ap.left (by decide) (fun hl => hP5 l4 hl), hP5.skip (by decide) (by decide), Ap.left (by decide) (fun hl => hP3 l4 hl), hP7.skip (by decide) (by decide), Ap.left (by decide) (fun hl => hP2 l4 hl)⟩
    · refine wpOp_step rfl (fun K' hK => ?_)
      simp [Region.binds] at hd
      have m9 : IsOwn w1.heap.size x0 (xv 9) W := hG.get g9.out (by simp [hd])
      have l9 : listed.getD 9 false = true := by simp [hd]
      clear hd hin
      go_simp
      exact hK _ _ ⟨updV xv 11 (xv 9), by simp [updV], hb, hG.same gk.out g11.out _ m9, hP0.skip (by decide) (by decide), hP1.skip (by decide) (by decide), hP2.skip (by decide) (by decide), hP3.skip (by decide) (by decide), Ap.right (by decide) (fun hl => hP6 hl l9), Ap.right (by decide) (fun hl => hP3 hl l9), hP6.skip (by decide) (by decide), Ap.right (by decide) (fun hl => hP1 hl l9), hP8.skip (by decide) (by decide)⟩
    · refine wpOp_step rfl (fun K' hK => ?_)
      clear hd hin
      go_simp
      exact hK _ _ ⟨updV xv 12 (Value.int IntKind.i64 (0 : Int)), by simp [updV], hb, hG.same gk.out g12.out _ rfl, hP0.skip (by decide) (by decide), hP1.skip (by decide) (by decide), hP2.skip (by decide) (by decide), hP3.skip (by decide) (by decide), hP4.skip (by decide) (by decide), hP5.skip (by decide) (by decide), hP6.skip (by decide) (by decide), hP7.skip (by decide) (by decide), hP8.skip (by decide) (by decide)⟩
  · rintro listed a W ⟨xv, rfl, hb, hG, hP0, hP1, hP2, hP3, hP4, hP5, hP6, hP7, hP8⟩ hall
    have m10 : Hid (IsOwn w1.heap.size x0 (xv 10) W) := hG.get g10.out (hall 10 (by decide))
    have m11 : Hid (IsOwn w1.heap.size x0 (xv 11) W) := hG.get g11.out (hall 11 (by decide))
    have e12 : xv 12 = Value.int IntKind.i64 (0 : Int) := hG.get g12.out (hall 12 (by decide))
    have XW : Hid (Below w1.heap.size w1 W) := hb
    have hA0 : Hid ((xv 0).ownBlock ≠ (xv 5).ownBlock) := hP0 (hall 0 (by decide)) (hall 5 (by decide))
    have hA1 : Hid ((xv 0).ownBlock ≠ (xv 9).ownBlock) := hP1 (hall 0 (by decide)) (hall 9 (by decide))
    have hA2 : Hid ((xv 4).ownBlock ≠ (xv 5).ownBlock) := hP2 (hall 4 (by decide)) (hall 5 (by decide))
    have hA3 : Hid ((xv 4).ownBlock ≠ (xv 9).ownBlock) := hP3 (hall 4 (by decide)) (hall 9 (by decide))
    have hA4 : Hid ((xv 10).ownBlock ≠ (xv 11).ownBlock) := hP4 (hall 10 (by decide)) (hall 11 (by decide))
    have hA5 : Hid ((xv 4).ownBlock ≠ (xv 11).ownBlock) := hP5 (hall 4 (by decide)) (hall 11 (by decide))
    have hA6 : Hid ((xv 10).ownBlock ≠ (xv 9).ownBlock) := hP6 (hall 10 (by decide)) (hall 9 (by decide))
    have hA7 : Hid ((xv 0).ownBlock ≠ (xv 11).ownBlock) := hP7 (hall 0 (by decide)) (hall 11 (by decide))
    have hA8 : Hid ((xv 10).ownBlock ≠ (xv 5).ownBlock) := hP8 (hall 10 (by decide)) (hall 5 (by decide))
    clear hall hG hb hP0 hP1 hP2 hP3 hP4 hP5 hP6 hP7 hP8 gk g0 g1 g2 g3 g4 g5 g6 g7 g8 g9 g10 g11 g12
    rw [e12]
    clear e12
    obtain ⟨qx, cx, px, ex, hqx, bx, hlx, hmx, hcx⟩ := m10.out
    obtain ⟨qy, cy, py, ey, hqy, by', hly, hmy, hcy⟩ := m11.out
    have HNE : Hid (qx ≠ qy) := by
      have h := hA4.out
      rw [ex, ey] at h
      exact fun e => h (by rw [e]; rfl)
    rw [L0.out] at ex ey hlx hly
    rw [ex, ey]
    have HX : Hid (Below w.heap.size w W) := X1.out.trans (XW.out.mono X1.out.size)
    have GY : Hid (w.heap.size ≤ qy ∧ w.heap.size ≤ qx) := by have := X1.out.size; unfold Hid; omega
    have OX : Hid (Off qx (.slice a1 n c1)) := Bs.off_new (T1.out.below X1.out) hqx
    have OY : Hid (Off qy (.slice a1 l1.length c1)) := Bs.off_new (H1.out.below X1.out) hqy
    have BX : Hid (Blk W qx [] x0 px) := bx
    have BY : Hid (Blk W qy [] x0 py) := by'
    have MX : Hid (n ≤ cx ∧ cx ≤ maxLen) := ⟨hlx, hmx⟩
    have MY : Hid (cy ≤ maxLen) := hmy
    clear m10 m11 hA0 hA1 hA2 hA3 hA4 hA5 hA6 hA7 hA8 hqx hqy bx by' hlx hmx hcx hmy hcy ex ey XW F0 s0 hmin
    unfold maxLen at MY
    have hcy : cy ≤ 9223372036854775807 := MY.out
    go_wp2_with fail
    refine (xor_top qx cx [] px x0 x1 _ _ BX.out (by rw [L0.out]; exact MX.out.1) MX.out.2 (T1.out.below HX.out) OX.out (by rw [L0.out, L1.out]) n 0 _ L0.out.symm rfl rfl).mono ?_
    rintro e w2 ⟨rfl, hb2, hg2, -⟩
    have B2 : Hid (Blk w2 qx [] (xorL x0 x1) px ∧ Blk w2 qy [] x0 py ∧ Below w.heap.size w w2) := ⟨hb2, BY.out.kept (hg2.block qy BY.out.lt (fun e => HNE.out (Option.some.inj e).symm)), below_grown HX.out hg2 HX.out.size GY.out.2⟩
    clear hb2 hg2 BX BY
    go_wp2
    go_loopw [10, 11] (fun a i wr => Hid (∃ A I : Nat, A ≤ n ∧ I ≤ A ∧ a = .int .i64 A ∧ i = .int .i64 I ∧ Blk wr qx [] (xorL x0 x1) px ∧ Blk wr qy [] (xorTo x0 x1 A) py ∧ Below w.heap.size w wr)) (fun a _ _ => n - (intOf a).toNat)
    case atStart => exact ⟨0, 0, by omega, by omega, rfl, rfl, B2.out.1, by rw [xorTo_zero]; exact B2.out.2.1, B2.out.2.2⟩
    case round =>
      obtain ⟨A, I, hA, hI, rfl, rfl, hbx, hby, hbe⟩ := hrel.out
      have HR : Hid (Blk wr qx [] (xorL x0 x1) px ∧ Blk wr qy [] (xorTo x0 x1 A) py ∧ Below w.heap.size w wr) := ⟨hbx, hby, hbe⟩
      clear hbx hby hbe
      by_cases hlt : A < n
      · go_upto_if 56 with fail
        go_cut [12] from 45 to 83 (fun s wx => wx = wr ∧ ∃ K : Nat, 1 ≤ K ∧ A + K ≤ n ∧ s = .int .i64 K)
        case first =>
          by_cases hil : I < l2.length
          · obtain ⟨-, a', c', hv, -, -, -, h5⟩ := H2.out.below HR.out.2.2
            injection hv with e1 e1b e1c
            subst e1
            rcases h5 with h0 | ⟨b2, o2, e2, hc2'⟩
            · omega
            subst e2
            have hck := hc2' I _ (map_bv_at l2 I hil)
            clear hc2' e1b e1c
            have hy := l2[I].toNat_lt
            have hm := min2 (n - A) (1 + l2[I].toNat % 20) (1 + (l2[I].toNat : Int) % 20) (by omega)
            rw [show ((n - A : Nat) : Int) = (n : Int) - (A : Int) by omega] at hm
            generalize l2[I].toNat = y at *
            go_wp2
            go_meet
            case rel => exact ⟨rfl, _, by omega, by omega, rfl⟩
          · go_wp2
            go_meet
            case rel => exact ⟨rfl, n - A, by omega, by omega, by go_num⟩
        case rest =>
          obtain ⟨rfl, K, hK1, hKn, rfl⟩ := hcut
          have hKn' : A + K ≤ x0.length := by rw [L0.out]; exact hKn
          obtain ⟨hp1, hp2⟩ := xorTo_parts x0 x1 A K (by rw [L0.out, L1.out]) hKn'
          obtain ⟨-, a', c', hv, -, -, -, h5⟩ := H1.out.below HR.out.2.2
          injection hv with e1 e1b e1c
          subst e1
          rcases h5 with h0 | ⟨pb, po, e2, hcb⟩
          · omega
          subst e2
          clear e1b e1c hcb
          have sy := slice_mid_at qy 0 n cy A K (by omega) (by omega)
          rw [Nat.zero_add] at sy
          have sb := slice_mid_at pb po l1.length c1 A K (by omega) (by omega)
          have XC : Hid (∀ W v, KeepsBut (fun k => k = qy) wc W → (Blk W qx [] (xorL x0 x1) px ∧ Blk W qy [] (xorTo x0 x1 A) py) → IsOneS (fun k => k = qy) (.slice (some ⟨pb, po + A, none⟩) K (c1 - A)) v W → Calls Try.prog 19 #[.slice (some ⟨qy, A, none⟩) K (cy - A), v] W fun e w' => ∃ u, e = .returned u ∧ IsV (.bool true) u w' ∧ KeepsBut (fun k => k = qy) W w' ∧ (Blk w' qx [] (xorL x0 x1) px ∧ Blk w' qy [] (xorTo x0 x1 (A + K)) py)) := by
            intro W v hW hP hv
            have hBY : Blk W qy ((xorL (x0.take A) (x1.take A)).map bv) ((x0.drop A).take K) ((x0.drop (A + K)).map bv ++ py) := by
              have h := hP.2
              rw [hp1, Blk.split, Blk.split', List.nil_append] at h
              exact h
            have hlp : (List.map bv (xorL (x0.take A) (x1.take A))).length = A := by
              rw [List.length_map, xorL_length (by simp; have := L0.out; have := L1.out; omega)]
              simp
              omega
            have hlm : ((x0.drop A).take K).length = K := by simp; omega
            have hoff : Off qy (.slice (some ⟨pb, po + A, none⟩) K (c1 - A)) := by
              intro a m c hv
              injection hv with e1 _ _
              obtain rfl := Option.some.inj e1
              rcases OY.out ⟨pb, po, none⟩ _ _ rfl with h | h
              · omega
              · exact .inr h
            have hbs : Bs W (.slice (some ⟨pb, po + A, none⟩) K (c1 - A)) ((x1.drop A).take K) := by
              have h := (H1.out.below HR.out.2.2).mid_at A K (by omega) (by omega)
              have e : (l1.drop A).take K = (x1.drop A).take K := by
                rw [← E1.out, List.drop_take, List.take_take]
                congr 1
                omega
              rw [e] at h
              exact h.keeps (OffS.of (fun q hq => by rw [hq]; exact hoff)) hW
            obtain ⟨p, rfl, hpq, hcell⟩ := hv
            refine (xor_one qy (cy - A) p _ _ _ _ _ W hBY (by rw [hlm]; omega) (by unfold maxLen; omega) hcell hbs hpq hoff (by simp; have := L0.out; have := L1.out; omega) K A hlm.symm hlp.symm).mono ?_
            rintro e w' ⟨rfl, h1, h2, -⟩
            refine ⟨_, rfl, rfl, KeepsBut.ofGrown h2 rfl, hP.1.kept (h2.block qx hP.1.lt (fun e => HNE.out (Option.some.inj e))), ?_⟩
            rw [hp2, Blk.split, Blk.split', List.nil_append]
            exact h1
          have hcyI : (A : Int) + (K : Int) ≤ (cy : Int) := by omega
          have hwr := wrap_i64 ((A : Int) + (K : Int)) (by omega) (by omega)
          have HQ : Hid (qy < wc.heap.size) := HR.out.2.1.lt
          clear hp1 hp2 hKn' s1
          go_wp2
          refine wp_region_any (by kernel_rfl) ?_
          obtain ⟨gs, hgs⟩ : ∃ gs : List (Value → World → Prop), gs = [IsV (Value.slice (some { block := qy, off := 0 }) n cy), IsV (Value.int IntKind.i64 ↑A), IsV (Value.int IntKind.i64 ↑A), IsV (Value.int IntKind.i64 ↑K), IsV (.int .i64 ((A : Int) + (K : Int))), IsV (.slice (some ⟨qy, A, none⟩) K (cy - A)), IsV (Value.slice (some { block := pb, off := po }) l1.length c1), IsV (Value.int IntKind.i64 ↑A), IsV (Value.int IntKind.i64 ↑A), IsV (Value.int IntKind.i64 ↑K), IsV (.int .i64 ((A : Int) + (K : Int))), IsV (.slice (some ⟨pb, po + A, none⟩) K (c1 - A)), IsOneS (fun k => k = qy) (.slice (some ⟨pb, po + A, none⟩) K (c1 - A)), IsV (.bool true), IsV (.bool false)] := ⟨_, rfl⟩
          have g0 : Hid (gs[0]? = some (IsV (Value.slice (some { block := qy, off := 0 }) n cy))) := by unfold Hid; rw [hgs]; rfl
          have g1 : Hid (gs[1]? = some (IsV (Value.int IntKind.i64 ↑A))) := by unfold Hid; rw [hgs]; rfl
          have g2 : Hid (gs[2]? = some (IsV (Value.int IntKind.i64 ↑A))) := by unfold Hid; rw [hgs]; rfl
          have g3 : Hid (gs[3]? = some (IsV (Value.int IntKind.i64 ↑K))) := by unfold Hid; rw [hgs]; rfl
          have g4 : Hid (gs[4]? = some (IsV (.int .i64 ((A : Int) + (K : Int))))) := by unfold Hid; rw [hgs]; rfl
          have g5 : Hid (gs[5]? = some (IsV (.slice (some ⟨qy, A, none⟩) K (cy - A)))) := by unfold Hid; rw [hgs]; rfl
          have g6 : Hid (gs[6]? = some (IsV (Value.slice (some { block := pb, off := po }) l1.length c1))) := by unfold Hid; rw [hgs]; rfl
          have g7 : Hid (gs[7]? = some (IsV (Value.int IntKind.i64 ↑A))) := by unfold Hid; rw [hgs]; rfl
          have g8 : Hid (gs[8]? = some (IsV (Value.int IntKind.i64 ↑A))) := by unfold Hid; rw [hgs]; rfl
          have g9 : Hid (gs[9]? = some (IsV (Value.int IntKind.i64 ↑K))) := by unfold Hid; rw [hgs]; rfl
          have g10 : Hid (gs[10]? = some (IsV (.int .i64 ((A : Int) + (K : Int))))) := by unfold Hid; rw [hgs]; rfl
          have g11 : Hid (gs[11]? = some (IsV (.slice (some ⟨pb, po + A, none⟩) K (c1 - A)))) := by unfold Hid; rw [hgs]; rfl
          have g12 : Hid (gs[12]? = some (IsOneS (fun k => k = qy) (.slice (some ⟨pb, po + A, none⟩) K (c1 - A)))) := by unfold Hid; rw [hgs]; rfl
          have g13 : Hid (gs[13]? = some (IsV (.bool true))) := by unfold Hid; rw [hgs]; rfl
          have g14 : Hid (gs[14]? = some (IsV (.bool false))) := by unfold Hid; rw [hgs]; rfl
          have gk : Hid (∀ p ∈ gs, StaysS (fun k => k = qy) p) := by
            unfold Hid
            rw [hgs]
            simp only [List.forall_mem_cons]
            exact ⟨staysS_v _ _, staysS_v _ _, staysS_v _ _, staysS_v _ _, staysS_v _ _, staysS_v _ _, staysS_v _ _, staysS_v _ _, staysS_v _ _, staysS_v _ _, staysS_v _ _, staysS_v _ _, staysS_ones _ _, staysS_v _ _, staysS_v _ _, by simp⟩
          clear hgs
          obtain ⟨ps, hps⟩ : ∃ ps : List (World → Prop), ps = [fun Wb => Blk Wb qx [] (xorL x0 x1) px ∧ Blk Wb qy [] (xorTo x0 x1 A) py, fun Wb => Blk Wb qx [] (xorL x0 x1) px ∧ Blk Wb qy [] (xorTo x0 x1 (A + K)) py] := ⟨_, rfl⟩
          have k0 : Hid (ps[0]? = some (fun Wb => Blk Wb qx [] (xorL x0 x1) px ∧ Blk Wb qy [] (xorTo x0 x1 A) py)) := by unfold Hid; rw [hps]; rfl
          have k1 : Hid (ps[1]? = some (fun Wb => Blk Wb qx [] (xorL x0 x1) px ∧ Blk Wb qy [] (xorTo x0 x1 (A + K)) py)) := by unfold Hid; rw [hps]; rfl
          have kk : Hid (∀ p ∈ ps, ∀ Wb Wb', Below Wb.heap.size Wb Wb' → p Wb → p Wb') := by
            unfold Hid
            rw [hps]
            simp only [List.forall_mem_cons]
            exact ⟨fun Wb Wb' hb h => ⟨h.1.below hb, h.2.below hb⟩, fun Wb Wb' hb h => ⟨h.1.below hb, h.2.below hb⟩, by simp⟩
          clear hps
          refine wpAny_inv3 (fun listed a Wb => ∃ xvb : Nat → Value, a = ⟨#[Value.slice a0 l0.length c0, Value.slice (some { block := pb, off := po }) l1.length c1, Value.slice a2 l2.length c2, undef, undef, undef, u6, Value.int IntKind.i64 ↑n, Value.slice (some { block := qx, off := 0 }) n cx, Value.slice (some { block := qy, off := 0 }) n cy, Value.int IntKind.i64 ↑A, Value.int IntKind.i64 ↑I, Value.int IntKind.i64 ↑K, Value.bool true, Value.bool false, Value.slice a0 l0.length c0, Value.int IntKind.i64 ↑l0.length, Value.bool (decide ((300 : Int) < ↑l0.length)), Value.bool (decide ((300 : Int) < ↑l0.length)), Value.slice a2 l2.length c2, Value.int IntKind.i64 ↑l2.length, Value.bool (decide ((100 : Int) < ↑l2.length)), Value.bool (decide ((300 : Int) < ↑l0.length) || decide ((100 : Int) < ↑l2.length)), Value.slice a0 l0.length c0, Value.int IntKind.i64 ↑l0.length, Value.slice (some { block := pb, off := po }) l1.length c1, Value.int IntKind.i64 ↑l1.length, Value.int IntKind.i64 ↑n, xv 0, xv 1, xv 2, xv 3, xv 4, xv 5, xv 6, xv 7, xv 8, xv 9, Value.slice (some { block := qx, off := 0 }) n cx, Value.slice (some { block := pb, off := po }) l1.length c1, Value.int IntKind.i64 ↑n, Value.slice (some { block := pb, off := po }) n c1, Value.slice (some { block := W.heap.size, off := 0 }) 1 1, Value.bool true, Value.bool false, u45, u46, u47, u48, u49, u50, u51, u52, u53, u54, u55, u56, u57, u58, u59, u60, u61, u62, u63, u64, u65, xvb 0, xvb 1, xvb 2, xvb 3, xvb 4, xvb 5, xvb 6, xvb 7, xvb 8, xvb 9, xvb 10, xvb 11, xvb 12, xvb 13, xvb 14, u81, u82, u83, undef, undef, undef, undef, undef], []⟩ ∧ KeepsBut (fun k => k = qy) wc Wb ∧ Lst gs listed xvb Wb ∧ Ph [13] ps listed Wb) (by kernel_rfl) ?_ ?_ _ _ _ _ (by kernel_rfl) (of_decide_eq_true (by kernel_rfl)) (Down.start _) ⟨fun j => if j = 0 then u66 else if j = 1 then u67 else if j = 2 then u68 else if j = 3 then u69 else if j = 4 then u70 else if j = 5 then u71 else if j = 6 then u72 else if j = 7 then u73 else if j = 8 then u74 else if j = 9 then u75 else if j = 10 then u76 else if j = 11 then u77 else if j = 12 then u78 else if j = 13 then u79 else if j = 14 then u80 else undef, rfl, KeepsBut.drew _ _, Lst.start _ _ _ _, ?_⟩
          rotate_left 2
          · intro k p hk h1 h2; cases k with | zero => (rw [k0.out] at hk; obtain rfl := Option.some.inj hk; exact ⟨HR.out.1, HR.out.2.1⟩) | succ k => (obtain ⟨c, hc, hl⟩ := h1 (by omega); exact absurd hl (by rw [Array.getD_eq_getD_getElem?, Array.getElem?_replicate]; split <;> simp))
          · rintro listed a Wb ⟨xvb, rfl, hb, hG, hH⟩ hD i hi hnl hd
            have hin : i < 15 := hi
            clear hi
            have hcase : i = 0 ∨ i = 1 ∨ i = 2 ∨ i = 3 ∨ i = 4 ∨ i = 5 ∨ i = 6 ∨ i = 7 ∨ i = 8 ∨ i = 9 ∨ i = 10 ∨ i = 11 ∨ i = 12 ∨ i = 13 ∨ i = 14 := by omega
            rcases hcase with rfl | rfl | rfl | rfl | rfl | rfl | rfl | rfl | rfl | rfl | rfl | rfl | rfl | rfl | rfl
            · refine wpOp_step rfl (fun K' hK => ?_)
              have hO : ∀ w', Below Wb.heap.size Wb w' → Ph [13] ps (listed.setIfInBounds 0 true) w' := fun w' hb' => hH.other (by simp) (fun p hp => kk.out p hp Wb w' hb')
              clear hd hin hnl hD hH
              go_simp
              exact hK _ _ ⟨updV xvb 0 (Value.slice (some { block := qy, off := 0 }) n cy), by simp [updV], hb, hG.stepS gk.out (KeepsBut.refl _ _) g0.out _ rfl, hO _ (Below.refl _ _)⟩
            · refine wpOp_step rfl (fun K' hK => ?_)
              have hO : ∀ w', Below Wb.heap.size Wb w' → Ph [13] ps (listed.setIfInBounds 1 true) w' := fun w' hb' => hH.other (by simp) (fun p hp => kk.out p hp Wb w' hb')
              clear hd hin hnl hD hH
              go_simp
              exact hK _ _ ⟨updV xvb 1 (Value.int IntKind.i64 ↑A), by simp [updV], hb, hG.stepS gk.out (KeepsBut.refl _ _) g1.out _ rfl, hO _ (Below.refl _ _)⟩
            · refine wpOp_step rfl (fun K' hK => ?_)
              have hO : ∀ w', Below Wb.heap.size Wb w' → Ph [13] ps (listed.setIfInBounds 2 true) w' := fun w' hb' => hH.other (by simp) (fun p hp => kk.out p hp Wb w' hb')
              clear hd hin hnl hD hH
              go_simp
              exact hK _ _ ⟨updV xvb 2 (Value.int IntKind.i64 ↑A), by simp [updV], hb, hG.stepS gk.out (KeepsBut.refl _ _) g2.out _ rfl, hO _ (Below.refl _ _)⟩
            · refine wpOp_step rfl (fun K' hK => ?_)
              have hO : ∀ w', Below Wb.heap.size Wb w' → Ph [13] ps (listed.setIfInBounds 3 true) w' := fun w' hb' => hH.other (by simp) (fun p hp => kk.out p hp Wb w' hb')
              clear hd hin hnl hD hH
              go_simp
              exact hK _ _ ⟨updV xvb 3 (Value.int IntKind.i64 ↑K), by simp [updV], hb, hG.stepS gk.out (KeepsBut.refl _ _) g3.out _ rfl, hO _ (Below.refl _ _)⟩
            · refine wpOp_step rfl (fun K' hK => ?_)
              simp [Region.binds] at hd
              have e2 : xvb 2 = Value.int IntKind.i64 ↑A := hG.get g2.out (by simp [hd])
              have e3 : xvb 3 = Value.int IntKind.i64 ↑K := hG.get g3.out (by simp [hd])
              have hO : ∀ w', Below Wb.heap.size Wb w' → Ph [13] ps (listed.setIfInBounds 4 true) w' := fun w' hb' => hH.other (by simp) (fun p hp => kk.out p hp Wb w' hb')
              clear hd hin hnl hD hH
              go_simp
              exact hK _ _ ⟨updV xvb 4 (.int .i64 ((A : Int) + (K : Int))), by simp [updV, e2, e3], hb, hG.stepS gk.out (KeepsBut.refl _ _) g4.out _ rfl, hO _ (Below.refl _ _)⟩
            · refine wpOp_step rfl (fun K' hK => ?_)
              simp [Region.binds] at hd
              have e0 : xvb 0 = Value.slice (some { block := qy, off := 0 }) n cy := hG.get g0.out (by simp [hd])
              have e1 : xvb 1 = Value.int IntKind.i64 ↑A := hG.get g1.out (by simp [hd])
              have e4 : xvb 4 = .int .i64 ((A : Int) + (K : Int)) := hG.get g4.out (by simp [hd])
              have hO : ∀ w', Below Wb.heap.size Wb w' → Ph [13] ps (listed.setIfInBounds 5 true) w' := fun w' hb' => hH.other (by simp) (fun p hp => kk.out p hp Wb w' hb')
              clear hd hin hnl hD hH
              go_simp
              exact hK _ _ ⟨updV xvb 5 (.slice (some ⟨qy, A, none⟩) K (cy - A)), by simp [updV, e0, e1, e4], hb, hG.stepS gk.out (KeepsBut.refl _ _) g5.out _ rfl, hO _ (Below.refl _ _)⟩
            · refine wpOp_step rfl (fun K' hK => ?_)
              have hO : ∀ w', Below Wb.heap.size Wb w' → Ph [13] ps (listed.setIfInBounds 6 true) w' := fun w' hb' => hH.other (by simp) (fun p hp => kk.out p hp Wb w' hb')
              clear hd hin hnl hD hH
              go_simp
              exact hK _ _ ⟨updV xvb 6 (Value.slice (some { block := pb, off := po }) l1.length c1), by simp [updV], hb, hG.stepS gk.out (KeepsBut.refl _ _) g6.out _ rfl, hO _ (Below.refl _ _)⟩
            · refine wpOp_step rfl (fun K' hK => ?_)
              have hO : ∀ w', Below Wb.heap.size Wb w' → Ph [13] ps (listed.setIfInBounds 7 true) w' := fun w' hb' => hH.other (by simp) (fun p hp => kk.out p hp Wb w' hb')
              clear hd hin hnl hD hH
              go_simp
              exact hK _ _ ⟨updV xvb 7 (Value.int IntKind.i64 ↑A), by simp [updV], hb, hG.stepS gk.out (KeepsBut.refl _ _) g7.out _ rfl, hO _ (Below.refl _ _)⟩
            · refine wpOp_step rfl (fun K' hK => ?_)
              have hO : ∀ w', Below Wb.heap.size Wb w' → Ph [13] ps (listed.setIfInBounds 8 true) w' := fun w' hb' => hH.other (by simp) (fun p hp => kk.out p hp Wb w' hb')
              clear hd hin hnl hD hH
              go_simp
              exact hK _ _ ⟨updV xvb 8 (Value.int IntKind.i64 ↑A), by simp [updV], hb, hG.stepS gk.out (KeepsBut.refl _ _) g8.out _ rfl, hO _ (Below.refl _ _)⟩
            · refine wpOp_step rfl (fun K' hK => ?_)
              have hO : ∀ w', Below Wb.heap.size Wb w' → Ph [13] ps (listed.setIfInBounds 9 true) w' := fun w' hb' => hH.other (by simp) (fun p hp => kk.out p hp Wb w' hb')
              clear hd hin hnl hD hH
              go_simp
              exact hK _ _ ⟨updV xvb 9 (Value.int IntKind.i64 ↑K), by simp [updV], hb, hG.stepS gk.out (KeepsBut.refl _ _) g9.out _ rfl, hO _ (Below.refl _ _)⟩
            · refine wpOp_step rfl (fun K' hK => ?_)
              simp [Region.binds] at hd
              have e8 : xvb 8 = Value.int IntKind.i64 ↑A := hG.get g8.out (by simp [hd])
              have e9 : xvb 9 = Value.int IntKind.i64 ↑K := hG.get g9.out (by simp [hd])
              have hO : ∀ w', Below Wb.heap.size Wb w' → Ph [13] ps (listed.setIfInBounds 10 true) w' := fun w' hb' => hH.other (by simp) (fun p hp => kk.out p hp Wb w' hb')
              clear hd hin hnl hD hH
              go_simp
              exact hK _ _ ⟨updV xvb 10 (.int .i64 ((A : Int) + (K : Int))), by simp [updV, e8, e9], hb, hG.stepS gk.out (KeepsBut.refl _ _) g10.out _ rfl, hO _ (Below.refl _ _)⟩
            · refine wpOp_step rfl (fun K' hK => ?_)
              simp [Region.binds] at hd
              have e6 : xvb 6 = Value.slice (some { block := pb, off := po }) l1.length c1 := hG.get g6.out (by simp [hd])
              have e7 : xvb 7 = Value.int IntKind.i64 ↑A := hG.get g7.out (by simp [hd])
              have e10 : xvb 10 = .int .i64 ((A : Int) + (K : Int)) := hG.get g10.out (by simp [hd])
              have hO : ∀ w', Below Wb.heap.size Wb w' → Ph [13] ps (listed.setIfInBounds 11 true) w' := fun w' hb' => hH.other (by simp) (fun p hp => kk.out p hp Wb w' hb')
              clear hd hin hnl hD hH
              go_simp
              exact hK _ _ ⟨updV xvb 11 (.slice (some ⟨pb, po + A, none⟩) K (c1 - A)), by simp [updV, e6, e7, e10], hb, hG.stepS gk.out (KeepsBut.refl _ _) g11.out _ rfl, hO _ (Below.refl _ _)⟩
            · refine wpOp_step rfl (fun K' hK => ?_)
              simp [Region.binds] at hd
              have e11 : xvb 11 = .slice (some ⟨pb, po + A, none⟩) K (c1 - A) := hG.get g11.out (by simp [hd])
              have hO : ∀ w', Below Wb.heap.size Wb w' → Ph [13] ps (listed.setIfInBounds 12 true) w' := fun w' hb' => hH.other (by simp) (fun p hp => kk.out p hp Wb w' hb')
              clear hd hin hnl hD hH
              go_simp
              exact hK _ _ ⟨updV xvb 12 (.slice (some ⟨Wb.heap.size, 0, none⟩) 1 1), by simp [updV, e11], hb.trans (KeepsBut.ofBelow (below_alloc _ _)), hG.stepS gk.out (KeepsBut.ofBelow (below_alloc _ _)) g12.out _ ⟨_, rfl, by have := HQ.out; have := hb.size; omega, by simp⟩, hO _ (below_alloc _ _)⟩
            · refine wpOp_step rfl (fun K' hK => ?_)
              simp [Region.binds] at hd
              have e5 : xvb 5 = .slice (some ⟨qy, A, none⟩) K (cy - A) := hG.get g5.out (by simp [hd])
              have m12 : IsOneS (fun k => k = qy) (.slice (some ⟨pb, po + A, none⟩) K (c1 - A)) (xvb 12) Wb := hG.get g12.out (by simp [hd])
              have hph : (fun Wb => Blk Wb qx [] (xorL x0 x1) px ∧ Blk Wb qy [] (xorTo x0 x1 A) py) Wb := hH 0 _ k0.out (fun h => absurd rfl h) (fun c hc => by simp at hc; subst hc; exact getD_false hnl)
              have hW : ∀ w', (fun Wb => Blk Wb qx [] (xorL x0 x1) px ∧ Blk Wb qy [] (xorTo x0 x1 (A + K)) py) w' → Ph [13] ps (listed.setIfInBounds 13 true) w' := fun w' hp => Ph.write 0 13 rfl hnl (by intro j h; (rcases j with _ | _ | _ | j) <;> simp at h ⊢) (by intro j c' hj h; (rcases j with _ | _ | _ | j) <;> simp at h hj) (by intro j c' hj h; (rcases j with _ | _ | _ | j) <;> simp at h hj) (fun p hp' => by rw [k1.out] at hp'; obtain rfl := Option.some.inj hp'; exact hp)
              clear hd hin hnl hD hH
              go_simp
              refine (XC.out Wb _ hb hph m12).mono ?_
              rintro e w' ⟨v, rfl, hv, hb', hp'⟩
              go_wp2_with fail
              exact ⟨updV xvb 13 v, by simp [updV, e5], hb.trans hb', hG.stepS gk.out hb' g13.out v hv, hW _ hp'⟩
            · refine wpOp_step rfl (fun K' hK => ?_)
              simp [Region.binds] at hd
              have e13 : xvb 13 = .bool true := hG.get g13.out (by simp [hd])
              have hO : ∀ w', Below Wb.heap.size Wb w' → Ph [13] ps (listed.setIfInBounds 14 true) w' := fun w' hb' => hH.other (by simp) (fun p hp => kk.out p hp Wb w' hb')
              clear hd hin hnl hD hH
              go_simp
              exact hK _ _ ⟨updV xvb 14 (.bool false), by simp [updV, e13], hb, hG.stepS gk.out (KeepsBut.refl _ _) g14.out _ rfl, hO _ (Below.refl _ _)⟩
          · rintro listed a Wb ⟨xvb, rfl, hb, hG, hH⟩ hall
            have e14 : xvb 14 = .bool false := hG.get g14.out (hall 14 (by decide))
            have XW : Hid (KeepsBut (fun k => k = qy) wc Wb) := hb
            have HW : Hid ((fun Wb => Blk Wb qx [] (xorL x0 x1) px ∧ Blk Wb qy [] (xorTo x0 x1 (A + K)) py) Wb) := hH 1 _ k1.out (fun _ => ⟨13, rfl, hall 13 (by decide)⟩) (fun c hc => by simp at hc)
            clear hall hG hb hH gk kk g0 g1 g2 g3 g4 g5 g6 g7 g8 g9 g10 g11 g12 g13 g14 k0 k1
            rw [e14]
            clear e14
            have HB : Hid (Below w.heap.size w Wb) := HR.out.2.2.trans (XW.out.below HR.out.2.2.size (fun k hk => by rw [hk]; exact GY.out.1))
            go_wp2
            go_roundw
            case rel => exact ⟨A + K, I + 1, by omega, by omega, by go_num, by go_num, HW.out.1, HW.out.2, HB.out⟩
            case measure => simp [intOf]; omega
      · have hAn : A = n := by omega
        subst hAn
        have k1 := conv_bytes (HR.out.1.bs0 A cx (by rw [xorL_length (by rw [L0.out, L1.out]), L0.out]) MX.out.1 MX.out.2)
        have k2 := conv_bytes (HR.out.2.1.bs0 A cy (by rw [xorTo_length _ _ _ (by rw [L0.out, L1.out]), L0.out]) hly (by unfold maxLen; omega))
        rw [xorTo_all x0 x1 A (by rw [L0.out]; exact Nat.le_refl _) (by rw [L0.out, L1.out])] at k2
        have hst := str_toList
        go_wp2
        go_ret
        exact ⟨rfl, HR.out.2.2⟩

end Go.Proofs.Ytpnjednghpbccaa
