/-
  The walk of the statement BlockTwice.
-/
import Derived.Test.YtpnjednghpbccaaBlkS
import Derived.Test.YtpnjednghpbccaaLSlice
import Derived.Deep.QuietTactic
import Derived.BigQuiet
namespace Go.Proofs.Ytpnjednghpbccaa
open Go.RowKit
set_option linter.unusedVariables false

theorem parts_nil (w : World) : Parts w [] [] := ⟨rfl, fun i v p h => by simp at h⟩
theorem parts_cons {w : World} {v : Value} {l : List UInt8} {vs : List Value} {ls : List (List UInt8)} (h : Bs w v l) (hs : Parts w vs ls) : Parts w (v :: vs) (l :: ls) := by
  refine ⟨by simp [hs.1], fun i u p hu hp => ?_⟩
  cases i with
  | zero =>
    simp at hu hp
    subst hu; subst hp
    exact h
  | succ i => exact hs.2 i u p (by simpa using hu) (by simpa using hp)

/-- Sum of a row that was just laid. -/
theorem sum_top (n : Nat) (us : List Value) (ls : List (List UInt8)) (w : World) (hn : n ≤ 16777216) (hps : Parts w us ls) (hf : fitB n ls = true) (C : Array Value) (hC : C = us.toArray) (k r : Nat) (hk : k = us.length) (hr : r = w.heap.size) (hk2 : us.length ≤ 1000000) :
    Calls Try.prog 14 #[.int .i64 n, .slice (some ⟨r, 0, none⟩) k k] (w.alloc (.cells C 25)) fun e w' => e = .returned (.tuple #[.slice (some ⟨w.heap.size + 1, 0, none⟩) n n, .bool true]) ∧ Blk w' (w.heap.size + 1) [] (xorAll (zeros n) ls) [] ∧ Below w.heap.size w w' := by
  subst hC; subst hk; subst hr
  refine (sum_yes n _ us ls _ hn (Sl.lit w us _ _ _ rfl rfl hk2) (hps.below (below_alloc _ _)) hf).mono ?_
  rintro e w' ⟨rfl, h1, h2⟩
  rw [World.size_alloc] at h1 h2 ⊢
  exact ⟨rfl, h1, (below_alloc _ _).trans (h2.mono (by omega))⟩

set_option maxRecDepth 100000 in
set_option maxHeartbeats 400000 in
/-- block2 of a row that was just laid. -/
theorem block2_top (n : Nat) (us : List Value) (ls : List (List UInt8)) (w : World) (hn : n ≤ 16777216) (hps : Parts w us ls) (hf : fitB n ls = true) (C : Array Value) (hC : C = us.toArray) (k r : Nat) (hk : k = us.length) (hr : r = w.heap.size) (hk2 : us.length ≤ 1000000) :
    Calls Try.prog 20 #[.int .i64 n, .slice (some ⟨r, 0, none⟩) k k] (w.alloc (.cells C 25)) fun e w' => e = .returned (.slice (some ⟨w.heap.size + 1, 0, none⟩) n n) ∧ Blk w' (w.heap.size + 1) [] (xorAll (zeros n) ls) [] ∧ Below w.heap.size w w' := by
  have HS : Hid (Calls Try.prog 14 #[.int .i64 n, .slice (some ⟨r, 0, none⟩) k k] (w.alloc (.cells C 25)) fun e w' => e = .returned (.tuple #[.slice (some ⟨w.heap.size + 1, 0, none⟩) n n, .bool true]) ∧ Blk w' (w.heap.size + 1) [] (xorAll (zeros n) ls) [] ∧ Below w.heap.size w w') := sum_top n us ls w hn hps hf C hC k r hk hr hk2
  clear hn hps hf hC hk hr hk2
  go_enter Try.func20, Try.ntmps20
  go_wp2_with fail
  refine HS.out.mono ?_
  rintro e w1 ⟨rfl, h1, h2⟩
  have H : Hid (Blk w1 (w.heap.size + 1) [] (xorAll (zeros n) ls) [] ∧ Below w.heap.size w w1) := ⟨h1, h2⟩
  clear h1 h2 HS
  go_wp2
  go_ret
  exact ⟨rfl, H.out⟩

theorem twice_orders {n : Nat} {a b c : List UInt8} (ha : a.length = n) (hb : b.length = n) (hc : c.length = n) :
    xorAll (zeros n) [c, a, b] = xorAll (zeros n) [a, b, c] ∧ xorAll (zeros n) [a, b, a, c, b] = c ∧ xorAll (zeros n) [xorAll (zeros n) [a, b, c], a, b, c] = zeros n := by
  have h2 : (xorL a b).length = n := by rw [xorL_length (by omega), ha]
  have h3 : (xorL (xorL a b) c).length = n := by rw [xorL_length (by omega), h2]
  refine ⟨?_, ?_, ?_⟩
  · rw [xorAll_first hc, xorAll_first ha]
    show xorL (xorL c a) b = xorL (xorL a b) c
    rw [xorL_comm c a, xorL_right_comm]
  · rw [xorAll_first ha]
    show xorL (xorL (xorL (xorL a b) a) c) b = c
    rw [xorL_comm a b, xorL_twice (a := b) (b := a) (by omega), xorL_comm b c, xorL_twice (by omega)]
  · rw [xorAll_first ha]
    have e : xorAll a [b, c] = xorL (xorL a b) c := rfl
    rw [e, xorAll_first h3]
    show xorL (xorL (xorL (xorL (xorL a b) c) a) b) c = zeros n
    generalize hd : xorL (xorL a b) c = d at *
    rw [xorL_assoc d a b, xorL_assoc d (xorL a b) c, hd, xorL_self, h3]

set_option maxRecDepth 100000 in
set_option maxHeartbeats 2000000 in
theorem blockTwice_walk (v0 : Value) (l0 : List UInt8) (v1 : Value) (l1 : List UInt8) (v2 : Value) (l2 : List UInt8) (w : World) (h0 : Bs w v0 l0) (h1 : Bs w v1 l1) (h2 : Bs w v2 l2) :
    Calls Try.prog 5 #[v0, v1, v2] w fun e w' => e = .returned (.bool true) ∧ Below w.heap.size w w' := by
  have H0 : Hid (Bs w v0 l0) := h0
  have H1 : Hid (Bs w v1 l1) := h1
  have H2 : Hid (Bs w v2 l2) := h2
  obtain ⟨-, a0, c0, rfl, hc0, hm0, -, -⟩ := h0
  obtain ⟨-, a1, c1, rfl, hc1, hm1, -, -⟩ := h1
  obtain ⟨-, a2, c2, rfl, hc2, hm2, -, -⟩ := h2
  unfold maxLen at hm0 hm1 hm2
  have hmin := min4 l0.length l1.length l2.length 200 200 rfl
  obtain ⟨n, hn⟩ : ∃ n, min (min (min l0.length l1.length) l2.length) 200 = n := ⟨_, rfl⟩
  rw [hn] at hmin
  have hn0 : n ≤ l0.length := by omega
  have hn1 : n ≤ l1.length := by omega
  have hn2 : n ≤ l2.length := by omega
  have hn3 : n ≤ 200 := by omega
  clear hn
  have s0 := fun W => slice_to3 W a0 l0.length c0 n n (Nat.le_refl _) (by omega)
  have s1 := fun W => slice_to3 W a1 l1.length c1 n n (Nat.le_refl _) (by omega)
  have s2 := fun W => slice_to3 W a2 l2.length c2 n n (Nat.le_refl _) (by omega)
  have T0 : Hid (Bs w (.slice a0 n n) (l0.take n)) := H0.out.take3 hn0
  have T1 : Hid (Bs w (.slice a1 n n) (l1.take n)) := H1.out.take3 hn1
  have T2 : Hid (Bs w (.slice a2 n n) (l2.take n)) := H2.out.take3 hn2
  have L0 : Hid ((l0.take n).length = n) := by unfold Hid; simp; omega
  have L1 : Hid ((l1.take n).length = n) := by unfold Hid; simp; omega
  have L2 : Hid ((l2.take n).length = n) := by unfold Hid; simp; omega
  clear H0 H1 H2
  generalize l0.take n = x0 at *
  generalize l1.take n = x1 at *
  generalize l2.take n = x2 at *
  go_enter Try.func5, Try.ntmps5
  go_wp2_with fail
  refine (speaks3_any w).mono ?_
  rintro e w1 ⟨rfl, hb1⟩
  have X1 : Hid (Below w.heap.size w w1) := hb1
  clear hb1
  go_wp2
  go_quiet (fail)
  have X2 : Hid (Below w.heap.size w (w1.drewN nq)) := below_drewN X1.out nq
  generalize w1.drewN nq = w2 at *
  clear X1 s0 s1 s2 hmin hm0 hm1 hm2 hc0 hc1 hc2 hn0 hn1 hn2
  obtain ⟨O1, O2, O3⟩ := twice_orders L0.out L1.out L2.out
  have K1 : Hid (xorAll (zeros n) [x2, x0, x1] = xorAll (zeros n) [x0, x1, x2]) := O1
  have K2 : Hid (xorAll (zeros n) [x0, x1, x0, x2, x1] = x2) := O2
  have K3 : Hid (xorAll (zeros n) [xorAll (zeros n) [x0, x1, x2], x0, x1, x2] = zeros n) := O3
  have K4 : Hid ((xorAll (zeros n) [x0, x1, x2]).length = n) := by
    unfold Hid
    rw [xorAll_length, zeros_length]
    intro x hx
    simp at hx
    rw [zeros_length]
    rcases hx with rfl | rfl | rfl
    · exact L0.out
    · exact L1.out
    · exact L2.out
  clear O1 O2 O3
  go_wp2_with fail
  refine (sum_top n [_, _, _] [x0, x1, x2] _ (by omega) (parts_cons (T0.out.below X2.out) (parts_cons (T1.out.below X2.out) (parts_cons (T2.out.below X2.out) (parts_nil _)))) (by simp [fitB, L0.out, L1.out, L2.out]) _ rfl _ _ rfl rfl (by simp)).mono ?_
  rintro e w3 ⟨rfl, hb3, hx3⟩
  have X3 : Hid (Below w.heap.size w w3) := X2.out.trans (hx3.mono X2.out.size)
  have B3 : Hid (Bs w3 (.slice (some ⟨w2.heap.size + 1, 0, none⟩) n n) (xorAll (zeros n) [x0, x1, x2])) := hb3.bs0 n n K4.out.symm (Nat.le_refl _) (by unfold maxLen; omega)
  clear hb3 hx3
  generalize xorAll (zeros n) [x0, x1, x2] = y at *
  generalize w2.heap.size + 1 = q3 at *
  go_wp2_with fail
  refine (sum_top n [_, _, _] [x2, x0, x1] _ (by omega) (parts_cons (T2.out.below X3.out) (parts_cons (T0.out.below X3.out) (parts_cons (T1.out.below X3.out) (parts_nil _)))) (by simp [fitB, L0.out, L1.out, L2.out]) _ rfl _ _ rfl rfl (by simp)).mono ?_
  rintro e w4 ⟨rfl, hb4, hx4⟩
  have X4 : Hid (Below w.heap.size w w4) := X3.out.trans (hx4.mono X3.out.size)
  have B3' : Hid (Bs w4 (.slice (some ⟨q3, 0, none⟩) n n) y) := B3.out.below hx4
  rw [K1.out] at hb4
  have B4 : Hid (Bs w4 (.slice (some ⟨w3.heap.size + 1, 0, none⟩) n n) y) := hb4.bs0 n n K4.out.symm (Nat.le_refl _) (by unfold maxLen; omega)
  clear hb4 hx4 B3 K1
  generalize w3.heap.size + 1 = q4 at *
  go_wp2_with fail
  refine (sum_top n [_, _, _, _, _] [x0, x1, x0, x2, x1] _ (by omega) (parts_cons (T0.out.below X4.out) (parts_cons (T1.out.below X4.out) (parts_cons (T0.out.below X4.out) (parts_cons (T2.out.below X4.out) (parts_cons (T1.out.below X4.out) (parts_nil _)))))) (by simp [fitB, L0.out, L1.out, L2.out]) _ rfl _ _ rfl rfl (by simp)).mono ?_
  rintro e w5 ⟨rfl, hb5, hx5⟩
  have X5 : Hid (Below w.heap.size w w5) := X4.out.trans (hx5.mono X4.out.size)
  rw [K2.out] at hb5
  have B35 : Hid (Bs w5 (.slice (some ⟨q3, 0, none⟩) n n) y) := B3'.out.below hx5
  have k1 := conv_bytes (B3'.out.below hx5)
  have k2 := conv_bytes (B4.out.below hx5)
  have k3 := conv_bytes (hb5.bs0 n n L2.out.symm (Nat.le_refl _) (by unfold maxLen; omega))
  have k4 := conv_bytes (T2.out.below X5.out)
  clear hb5 hx5 B3' B4 K2
  generalize w4.heap.size + 1 = q5 at *
  have hst := str_toList
  go_wp2_with fail
  refine (block2_top n [_, _, _, _] [y, x0, x1, x2] _ (by omega) (parts_cons B35.out (parts_cons (T0.out.below X5.out) (parts_cons (T1.out.below X5.out) (parts_cons (T2.out.below X5.out) (parts_nil _))))) (by simp [fitB, K4.out, L0.out, L1.out, L2.out]) _ rfl _ _ rfl rfl (by simp)).mono ?_
  rintro e w6 ⟨rfl, hb6, hx6⟩
  rw [K3.out] at hb6
  have X6 : Hid (Below w.heap.size w w6) := X5.out.trans (hx6.mono X5.out.size)
  have B6 : Hid (Bs w6 (.slice (some ⟨w5.heap.size + 1, 0, none⟩) n n) (zeros n)) := hb6.bs0 n n (zeros_length n).symm (Nat.le_refl _) (by unfold maxLen; omega)
  clear hb6 hx6 k1 k2 k3 k4 hst B35
  go_wp2_with fail
  refine (zero_any _ _ _ B6.out).mono ?_
  rintro e w7 ⟨rfl, rfl⟩
  rw [zeroB_zeros]
  go_wp2
  go_ret
  exact ⟨rfl, X6.out⟩

end Go.Proofs.Ytpnjednghpbccaa
