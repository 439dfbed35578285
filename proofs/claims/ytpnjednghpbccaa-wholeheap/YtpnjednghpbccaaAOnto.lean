/-
  The walk of the statement ArenaOnto.
-/
import Derived.Test.YtpnjednghpbccaaArS
import Derived.Test.YtpnjednghpbccaaBTwice
namespace Go.Proofs.Ytpnjednghpbccaa
open Go.RowKit
set_option linter.unusedVariables false

theorem setB_own {s : Ar} {a k j : Nat} {b : List UInt8} (h : (s.setB k b).own a j) : s.own a j := by
  rcases h with rfl | h | h | ⟨x, hx, rfl⟩
  · exact .inl rfl
  · exact .inr (.inl h)
  · exact .inr (.inr (.inl h))
  · obtain ⟨i, hi, rfl⟩ := List.mem_iff_getElem.1 hx
    have hi2 := List.getElem?_eq_getElem hi
    rw [setB_at] at hi2
    by_cases e : k = i
    · rw [if_pos e] at hi2
      cases hy : s.bl[i]? with
      | none => rw [hy] at hi2; simp at hi2
      | some y =>
        rw [hy] at hi2
        simp only [Option.map_some, Option.some.injEq] at hi2
        exact .inr (.inr (.inr ⟨y, List.mem_of_getElem? hy, by rw [← hi2]⟩))
    · rw [if_neg e] at hi2
      exact .inr (.inr (.inr ⟨_, List.mem_of_getElem? hi2, rfl⟩))

theorem setB_same {s : Ar} {k : Nat} {x : Bk} {b : List UInt8} (h : s.bl[k]? = some x) : (s.setB k b).bl[k]? = some { x with b := b } := by
  rw [setB_at, if_pos rfl, h]
  rfl
theorem setB_other {s : Ar} {k j : Nat} {b : List UInt8} (h : k ≠ j) : (s.setB k b).bl[j]? = s.bl[j]? := by
  rw [setB_at, if_neg h]

theorem back_nil {w : World} {B a : Nat} {s : Ar} (h : IsAr w B a s) (hl : s.live = (s.bl.length : Int)) : s.back = [] := by
  unfold Ar.live at hl
  exact List.eq_nil_of_length_eq_zero (by omega)

set_option maxRecDepth 100000 in
set_option maxHeartbeats 4000000 in
theorem arenaOnto_walk (v0 : Value) (l0 : List UInt8) (v1 : Value) (l1 : List UInt8) (w : World) (h0 : Bs w v0 l0) (h1 : Bs w v1 l1) :
    Calls Try.prog 10 #[v0, v1] w fun e w' => e = .returned (.bool true) ∧ Below w.heap.size w w' := by
  have H0 : Hid (Bs w v0 l0) := h0
  have H1 : Hid (Bs w v1 l1) := h1
  obtain ⟨-, a0, c0, rfl, hc0, hm0, -, -⟩ := h0
  obtain ⟨-, a1, c1, rfl, hc1, hm1, -, -⟩ := h1
  unfold maxLen at hm0 hm1
  have hmin := min3 l0.length l1.length 100 100 rfl
  obtain ⟨n, hn⟩ : ∃ n, min (min l0.length l1.length) 100 = n := ⟨_, rfl⟩
  rw [hn] at hmin
  have hn0 : n ≤ l0.length := by omega
  have hn1 : n ≤ l1.length := by omega
  have hn3 : n ≤ 100 := by omega
  clear hn
  have s0 := fun W => slice_to W a0 l0.length c0 n (by omega)
  have s1 := fun W => slice_to W a1 l1.length c1 n (by omega)
  have T0 : Hid (Bs w (.slice a0 n c0) (l0.take n)) := H0.out.take hn0
  have T1 : Hid (Bs w (.slice a1 n c1) (l1.take n)) := H1.out.take hn1
  have L0 : Hid ((l0.take n).length = n) := by unfold Hid; simp; omega
  have L1 : Hid ((l1.take n).length = n) := by unfold Hid; simp; omega
  clear H0 H1
  generalize l0.take n = x0 at *
  generalize l1.take n = x1 at *
  go_enter Try.func10, Try.ntmps10
  go_wp2_with fail
  refine (speaks4_any w).mono ?_
  rintro e w1 ⟨rfl, hb1⟩
  have X1 : Hid (Below w.heap.size w w1) := hb1
  clear hb1
  go_wp2_with fail
  refine (anew_any (n : Int) 2 w1 (by omega)).mono ?_
  rintro e w2 ⟨rfl, hA2, hb2⟩
  have eS : (max (n : Int) 0).toNat = n := by omega
  rw [eS] at hA2
  have A2 : Hid (IsAr w2 w1.heap.size w1.heap.size ⟨n, 2, .slice none 0 0, .slice none 0 0, [], []⟩) := hA2
  have X2 : Hid (Below w1.heap.size w1 w2) := hb2
  clear hA2 hb2 eS
  obtain ⟨a, ha⟩ : ∃ a, w1.heap.size = a := ⟨_, rfl⟩
  rw [ha] at A2 X2 ⊢
  have Ha : Hid (w1.heap.size = a) := ha
  clear ha
  go_wp2_with fail
  refine (alloc_yes a a _ w2 A2.out (by simp [Ar.live]) (by simp)).mono ?_
  rintro e w3 ⟨i, s2, rfl, hA3, hk3, -, hS⟩
  have A3 : Hid (IsAr w3 a a s2) := hA3
  have X3 : Hid (Below a w1 w3) := A2.out.step X2.out hk3 A2.out.B_le
  obtain ⟨qi, hqi⟩ : ∃ q, s2.bl[i]? = some ⟨q, zeros n, true⟩ := hS.there
  have hlen2 : s2.bl.length = 1 := hS.len
  have hliv2 : s2.live = 1 := hS.live
  have P2 : Hid (s2.size = n ∧ s2.most = 2 ∧ s2.bl.length = 1 ∧ s2.live = 1 ∧ s2.back = [] ∧ s2.bl[i]? = some ⟨qi, zeros n, true⟩) := ⟨hS.size, hS.most, hlen2, hliv2, back_nil hA3 (by rw [hlen2, hliv2]; rfl), hqi⟩
  clear hA3 hk3 hS hqi A2 X2 hlen2 hliv2
  go_wp2_with fail
  refine (alloc_yes a a s2 w3 A3.out (by rw [P2.out.2.2.2.1, P2.out.2.1]; decide) (by rw [P2.out.2.2.1]; decide)).mono ?_
  rintro e w4 ⟨k, s3, rfl, hA4, hk4, -, hS⟩
  have A4 : Hid (IsAr w4 a a s3) := hA4
  have X4 : Hid (Below a w1 w4) := A3.out.step X3.out hk4 A3.out.B_le
  obtain ⟨qk, hqk⟩ := hS.there
  rw [P2.out.1] at hqk
  have hik : i ≠ k := fun e => by
    subst e
    have := hS.was _ P2.out.2.2.2.2.2
    cases this
  have P3 : Hid (s3.size = n ∧ s3.bl.length = 2 ∧ s3.bl[i]? = some ⟨qi, zeros n, true⟩ ∧ s3.bl[k]? = some ⟨qk, zeros n, true⟩) := by
    refine ⟨by rw [hS.size]; exact P2.out.1, ?_, by rw [hS.others i hik]; exact P2.out.2.2.2.2.2, hqk⟩
    rw [hS.len, if_pos P2.out.2.2.2.2.1, P2.out.2.2.1]
  clear hA4 hk4 hS hqk A3 X3 P2
  have hikI : ((i : Int) == (k : Int)) = false := by simp; omega
  have BW : Hid (∀ V, Below a w1 V → Bs V (.slice a0 n c0) x0 ∧ Bs V (.slice a1 n c1) x1) := by
    intro V hV
    rw [← Ha.out] at hV
    exact ⟨(T0.out.below X1.out).below hV, (T1.out.below X1.out).below hV⟩
  have OW : Hid (∀ q, a ≤ q → Off q (.slice a0 n c0) ∧ Off q (.slice a1 n c1)) := by
    intro q hq
    rw [← Ha.out] at hq
    exact ⟨Bs.off_new (T0.out.below X1.out) hq, Bs.off_new (T1.out.below X1.out) hq⟩
  go_wp2_with fail
  refine (aput_top a a s3 i _ _ x0 w4 A4.out P3.out.2.2.1 rfl (BW.out w4 X4.out).1 (OW.out _ (A4.out.blk i _ P3.out.2.2.1).1).1 (by rw [L0.out, P3.out.1]) _ rfl).mono ?_
  rintro e w5 ⟨rfl, hA5, hg5, -⟩
  have e5 : xorL (zeros n) x0 = x0 := by have := xorL_zeros x0; rw [L0.out] at this; exact this
  have A5 : Hid (IsAr w5 a a (s3.setB i x0)) := by
    have h := hA5
    simp only [e5] at h
    exact h
  have X5 : Hid (Below a w1 w5) := below_grown X4.out hg5 A4.out.B_le (A4.out.blk i _ P3.out.2.2.1).1
  clear hA5 hg5 e5 A4 X4
  have P5 : Hid ((s3.setB i x0).bl[k]? = some ⟨qk, zeros n, true⟩) := by unfold Hid; rw [setB_other hik]; exact P3.out.2.2.2
  go_wp2_with fail
  refine (aput_top a a _ k _ _ x1 w5 A5.out P5.out rfl (BW.out w5 X5.out).2 (OW.out _ (A5.out.blk k _ P5.out).1).2 (by rw [L1.out]; exact P3.out.1.symm) _ rfl).mono ?_
  rintro e w6 ⟨rfl, hA6, hg6, -⟩
  have e6 : xorL (zeros n) x1 = x1 := by have := xorL_zeros x1; rw [L1.out] at this; exact this
  have A6 : Hid (IsAr w6 a a ((s3.setB i x0).setB k x1)) := by
    have h := hA6
    simp only [e6] at h
    exact h
  have X6 : Hid (Below a w1 w6) := below_grown X5.out hg6 A5.out.B_le (A5.out.blk k _ P5.out).1
  have P6 : Hid (((s3.setB i x0).setB k x1).size = n ∧ ((s3.setB i x0).setB k x1).bl.length = 2 ∧ ((s3.setB i x0).setB k x1).bl[i]? = some ⟨qi, x0, true⟩ ∧ ((s3.setB i x0).setB k x1).bl[k]? = some ⟨qk, x1, true⟩) := by
    refine ⟨P3.out.1, by rw [setB_len, setB_len]; exact P3.out.2.1, ?_, ?_⟩
    · rw [setB_other (fun e => hik e.symm)]
      exact setB_same P3.out.2.2.1
    · exact setB_same P5.out
  clear hA6 hg6 e6 A5 X5 P5 P3
  generalize (s3.setB i x0).setB k x1 = s at *
  have Y1 : Hid (xorL (xorL x0 x1) x1 = x0) := xorL_twice (by rw [L0.out, L1.out])
  have Y2 : Hid (xorAll (zeros n) [x0, x1] = xorL x0 x1) := by unfold Hid; rw [xorAll_first L0.out]; rfl
  have Y3 : Hid ((xorL x0 x1).length = n) := by unfold Hid; rw [xorL_length (by rw [L0.out, L1.out]), L0.out]
  have P7 : Hid ((s.setB i (xorL x0 x1)).bl[i]? = some ⟨qi, xorL x0 x1, true⟩ ∧ (s.setB i (xorL x0 x1)).bl[k]? = some ⟨qk, x1, true⟩) := ⟨setB_same P6.out.2.2.1, by rw [setB_other hik]; exact P6.out.2.2.2⟩
  have ON : Hid (∀ j, s.own a j → j < w6.heap.size) := A6.out.own_lt
  have C1 : Hid (∀ W, KeepsBut (s.own a) w6 W → IsAr W a a s → Calls Try.prog 30 #[.pointer (some ⟨a, 0, none⟩), .int .i64 i, .int .i64 k] W fun e w' => ∃ v, e = .returned v ∧ IsV (.bool true) v w' ∧ KeepsBut (s.own a) W w' ∧ IsAr w' a a (s.setB i (xorL x0 x1))) := by
    intro W hW hA
    refine (onto_yes a a s i k _ _ W hA hik P6.out.2.2.1 rfl P6.out.2.2.2 rfl).mono ?_
    rintro e w' ⟨rfl, h1, h2, -⟩
    exact ⟨_, rfl, rfl, KeepsBut.ofGrown h2 (.inr (.inr (.inr ⟨_, List.mem_of_getElem? P6.out.2.2.1, rfl⟩))), h1⟩
  have C2 : Hid (∀ W, KeepsBut (s.own a) w6 W → IsAr W a a (s.setB i (xorL x0 x1)) → Calls Try.prog 30 #[.pointer (some ⟨a, 0, none⟩), .int .i64 i, .int .i64 k] W fun e w' => ∃ v, e = .returned v ∧ IsV (.bool true) v w' ∧ KeepsBut (s.own a) W w' ∧ IsAr w' a a ((s.setB i (xorL x0 x1)).setB i x0)) := by
    intro W hW hA
    refine (onto_yes a a _ i k _ _ W hA hik P7.out.1 rfl P7.out.2 rfl).mono ?_
    rintro e w' ⟨rfl, h1, h2, -⟩
    simp only [Y1.out] at h1
    exact ⟨_, rfl, rfl, KeepsBut.ofGrown h2 (.inr (.inr (.inr ⟨_, List.mem_of_getElem? P6.out.2.2.1, rfl⟩))), h1⟩
  have GC : Hid (∀ W, KeepsBut (s.own a) w6 W → IsAr W a a (s.setB i (xorL x0 x1)) → Calls Try.prog 37 #[.pointer (some ⟨a, 0, none⟩), .int .i64 i] W fun e w' => ∃ v, e = .returned v ∧ IsBsS (s.own a) (xorL x0 x1) v w' ∧ Below W.heap.size W w') := by
    intro W hW hA
    refine (get_yes a a _ i _ W hA P7.out.1 rfl).mono ?_
    rintro e w' ⟨rfl, h1, h2⟩
    refine ⟨_, rfl, ⟨h1.bs0 _ _ (by rw [Y3.out]; exact P6.out.1) (Nat.le_refl _) (by have : (s.setB i (xorL x0 x1)).size = n := P6.out.1; rw [this]; unfold maxLen; omega), OffS.of (fun q hq => off_at (by have := ON.out q hq; have := hW.size; omega))⟩, h2⟩
  have RC : Hid (∀ W v, KeepsBut (s.own a) w6 W → IsRowS (s.own a) [.slice a0 n c0, .slice a1 n c1] v W → Calls Try.prog 16 #[.int .i64 n, v] W fun e w' => ∃ u, e = .returned u ∧ IsBsS (s.own a) (xorL x0 x1) u w' ∧ Below W.heap.size W w') := by
    intro W v hW hv
    have hX : Below a w1 W := X6.out.trans (hW.below A6.out.B_le A6.out.own_ge)
    have hB := BW.out W hX
    refine (rsum_any n v [.slice a0 n c0, .slice a1 n c1] [x0, x1] W (by omega) (hv.sl (by simp)) (parts_two hB.1 hB.2) (by simp [fitB, L0.out, L1.out])).mono ?_
    rintro e w' ⟨rfl, h1, h2⟩
    rw [Y2.out] at h1
    exact ⟨_, rfl, ⟨h1.bs0 _ _ Y3.out.symm (Nat.le_refl _) (by unfold maxLen; omega), OffS.of (fun q hq => off_at (by have := ON.out q hq; have := hW.size; omega))⟩, h2⟩
  go_wp2
  refine wp_region_any (by kernel_rfl) ?_
  obtain ⟨gs, hgs⟩ : ∃ gs : List (Value → World → Prop), gs = [IsV (Value.pointer (some { block := a, off := 0 })), IsV (Value.int IntKind.i64 ↑i), IsV (Value.int IntKind.i64 ↑k), IsV (.bool true), IsV (.bool false), IsV (.bool false), IsV (Value.pointer (some { block := a, off := 0 })), IsV (Value.int IntKind.i64 ↑i), IsBsS (s.own a) (xorL x0 x1), IsV (.string (str (xorL x0 x1))), IsV (Value.int IntKind.i64 ↑n), IsV (Value.slice a0 l0.length c0), IsV (Value.int IntKind.i64 ↑n), IsV (.slice a0 n c0), IsV (Value.slice a1 l1.length c1), IsV (Value.int IntKind.i64 ↑n), IsV (.slice a1 n c1), IsRowS (s.own a) [.slice a0 n c0, .slice a1 n c1], IsBsS (s.own a) (xorL x0 x1), IsV (.string (str (xorL x0 x1))), IsV (.bool false), IsV (.bool false), IsV (.bool false), IsV (Value.pointer (some { block := a, off := 0 })), IsV (Value.int IntKind.i64 ↑i), IsV (Value.int IntKind.i64 ↑k), IsV (.bool true), IsV (.bool false), IsV (.bool false)] := ⟨_, rfl⟩
  have g0 : Hid (gs[0]? = some (IsV (Value.pointer (some { block := a, off := 0 })))) := by unfold Hid; rw [hgs]; rfl
  have g1 : Hid (gs[1]? = some (IsV (Value.int IntKind.i64 ↑i))) := by unfold Hid; rw [hgs]; rfl
  have g2 : Hid (gs[2]? = some (IsV (Value.int IntKind.i64 ↑k))) := by unfold Hid; rw [hgs]; rfl
  have g3 : Hid (gs[3]? = some (IsV (.bool true))) := by unfold Hid; rw [hgs]; rfl
  have g4 : Hid (gs[4]? = some (IsV (.bool false))) := by unfold Hid; rw [hgs]; rfl
  have g5 : Hid (gs[5]? = some (IsV (.bool false))) := by unfold Hid; rw [hgs]; rfl
  have g6 : Hid (gs[6]? = some (IsV (Value.pointer (some { block := a, off := 0 })))) := by unfold Hid; rw [hgs]; rfl
  have g7 : Hid (gs[7]? = some (IsV (Value.int IntKind.i64 ↑i))) := by unfold Hid; rw [hgs]; rfl
  have g8 : Hid (gs[8]? = some (IsBsS (s.own a) (xorL x0 x1))) := by unfold Hid; rw [hgs]; rfl
  have g9 : Hid (gs[9]? = some (IsV (.string (str (xorL x0 x1))))) := by unfold Hid; rw [hgs]; rfl
  have g10 : Hid (gs[10]? = some (IsV (Value.int IntKind.i64 ↑n))) := by unfold Hid; rw [hgs]; rfl
  have g11 : Hid (gs[11]? = some (IsV (Value.slice a0 l0.length c0))) := by unfold Hid; rw [hgs]; rfl
  have g12 : Hid (gs[12]? = some (IsV (Value.int IntKind.i64 ↑n))) := by unfold Hid; rw [hgs]; rfl
  have g13 : Hid (gs[13]? = some (IsV (.slice a0 n c0))) := by unfold Hid; rw [hgs]; rfl
  have g14 : Hid (gs[14]? = some (IsV (Value.slice a1 l1.length c1))) := by unfold Hid; rw [hgs]; rfl
  have g15 : Hid (gs[15]? = some (IsV (Value.int IntKind.i64 ↑n))) := by unfold Hid; rw [hgs]; rfl
  have g16 : Hid (gs[16]? = some (IsV (.slice a1 n c1))) := by unfold Hid; rw [hgs]; rfl
  have g17 : Hid (gs[17]? = some (IsRowS (s.own a) [.slice a0 n c0, .slice a1 n c1])) := by unfold Hid; rw [hgs]; rfl
  have g18 : Hid (gs[18]? = some (IsBsS (s.own a) (xorL x0 x1))) := by unfold Hid; rw [hgs]; rfl
  have g19 : Hid (gs[19]? = some (IsV (.string (str (xorL x0 x1))))) := by unfold Hid; rw [hgs]; rfl
  have g20 : Hid (gs[20]? = some (IsV (.bool false))) := by unfold Hid; rw [hgs]; rfl
  have g21 : Hid (gs[21]? = some (IsV (.bool false))) := by unfold Hid; rw [hgs]; rfl
  have g22 : Hid (gs[22]? = some (IsV (.bool false))) := by unfold Hid; rw [hgs]; rfl
  have g23 : Hid (gs[23]? = some (IsV (Value.pointer (some { block := a, off := 0 })))) := by unfold Hid; rw [hgs]; rfl
  have g24 : Hid (gs[24]? = some (IsV (Value.int IntKind.i64 ↑i))) := by unfold Hid; rw [hgs]; rfl
  have g25 : Hid (gs[25]? = some (IsV (Value.int IntKind.i64 ↑k))) := by unfold Hid; rw [hgs]; rfl
  have g26 : Hid (gs[26]? = some (IsV (.bool true))) := by unfold Hid; rw [hgs]; rfl
  have g27 : Hid (gs[27]? = some (IsV (.bool false))) := by unfold Hid; rw [hgs]; rfl
  have g28 : Hid (gs[28]? = some (IsV (.bool false))) := by unfold Hid; rw [hgs]; rfl
  have gk : Hid (∀ p ∈ gs, StaysS (s.own a) p) := by
    unfold Hid
    rw [hgs]
    simp only [List.forall_mem_cons]
    exact ⟨staysS_v _ _, staysS_v _ _, staysS_v _ _, staysS_v _ _, staysS_v _ _, staysS_v _ _, staysS_v _ _, staysS_v _ _, staysS_bss _ _, staysS_v _ _, staysS_v _ _, staysS_v _ _, staysS_v _ _, staysS_v _ _, staysS_v _ _, staysS_v _ _, staysS_v _ _, staysS_rows _ _, staysS_bss _ _, staysS_v _ _, staysS_v _ _, staysS_v _ _, staysS_v _ _, staysS_v _ _, staysS_v _ _, staysS_v _ _, staysS_v _ _, staysS_v _ _, staysS_v _ _, by simp⟩
  clear hgs
  obtain ⟨ps, hps⟩ : ∃ ps : List (World → Prop), ps = [fun W => IsAr W a a s, fun W => IsAr W a a (s.setB i (xorL x0 x1)), fun W => IsAr W a a ((s.setB i (xorL x0 x1)).setB i x0)] := ⟨_, rfl⟩
  have k0 : Hid (ps[0]? = some (fun W => IsAr W a a s)) := by unfold Hid; rw [hps]; rfl
  have k1 : Hid (ps[1]? = some (fun W => IsAr W a a (s.setB i (xorL x0 x1)))) := by unfold Hid; rw [hps]; rfl
  have k2 : Hid (ps[2]? = some (fun W => IsAr W a a ((s.setB i (xorL x0 x1)).setB i x0))) := by unfold Hid; rw [hps]; rfl
  have kk : Hid (∀ p ∈ ps, ∀ W W', Below W.heap.size W W' → p W → p W') := by
    unfold Hid
    rw [hps]
    simp only [List.forall_mem_cons]
    exact ⟨fun W W' hb h => h.below hb, fun W W' hb h => h.below hb, fun W W' hb h => h.below hb, by simp⟩
  clear hps
  refine wpAny_inv3 (fun listed ac W => ∃ xv : Nat → Value, ac = ⟨#[Value.slice a0 l0.length c0, Value.slice a1 l1.length c1, undef, undef, Value.bool false, Value.int IntKind.i64 ↑n, Value.pointer (some { block := a, off := 0 }), Value.int IntKind.i64 ↑i, Value.bool true, Value.int IntKind.i64 ↑k, Value.bool true, Value.bool true, Value.bool false, Value.slice a0 l0.length c0, Value.int IntKind.i64 ↑l0.length, Value.slice a1 l1.length c1, Value.int IntKind.i64 ↑l1.length, Value.int IntKind.i64 ↑n, Value.int IntKind.i64 ↑n, Value.pointer (some { block := a, off := 0 }), Value.tuple #[Value.int IntKind.i64 ↑i, Value.bool true], Value.pointer (some { block := a, off := 0 }), Value.tuple #[Value.int IntKind.i64 ↑i, Value.bool true], Value.int IntKind.i64 ↑i, Value.bool true, Value.tuple #[Value.int IntKind.i64 ↑k, Value.bool true], Value.pointer (some { block := a, off := 0 }), Value.tuple #[Value.int IntKind.i64 ↑k, Value.bool true], Value.int IntKind.i64 ↑k, Value.bool true, Value.bool true, Value.bool false, Value.bool false, Value.bool true, Value.bool false, Value.bool false, Value.bool false, Value.int IntKind.i64 ↑i, Value.int IntKind.i64 ↑k, Value.bool false, Value.bool false, Value.bool false, Value.pointer (some { block := a, off := 0 }), Value.int IntKind.i64 ↑i, Value.slice a0 l0.length c0, Value.int IntKind.i64 ↑n, Value.slice a0 n c0, Value.slice (some { block := w4.heap.size, off := 0 }) 1 1, Value.bool true, Value.bool false, Value.bool false, Value.bool false, Value.pointer (some { block := a, off := 0 }), Value.int IntKind.i64 ↑k, Value.slice a1 l1.length c1, Value.int IntKind.i64 ↑n, Value.slice a1 n c1, Value.slice (some { block := w5.heap.size, off := 0 }) 1 1, Value.bool true, Value.bool false, Value.bool false, xv 0, xv 1, xv 2, xv 3, xv 4, xv 5, xv 6, xv 7, xv 8, xv 9, xv 10, xv 11, xv 12, xv 13, xv 14, xv 15, xv 16, xv 17, xv 18, xv 19, xv 20, xv 21, xv 22, xv 23, xv 24, xv 25, xv 26, xv 27, xv 28, undef, undef, undef, undef, undef, undef, undef, undef, undef, undef, undef, undef, undef, undef, undef, undef, undef, undef, undef, undef, undef, undef, undef, undef, undef, undef, undef, undef, undef, undef, undef, undef, undef], []⟩ ∧ KeepsBut (s.own a) w6 W ∧ Lst gs listed xv W ∧ Ph [3, 26] ps listed W) (by kernel_rfl) ?_ ?_ _ _ _ _ (by kernel_rfl) (of_decide_eq_true (by kernel_rfl)) (Down.start _) ⟨fun j => undef, rfl, KeepsBut.drew _ _, Lst.start _ _ _ _, ?_⟩
  rotate_left 2
  · intro k p hk h1 h2; cases k with | zero => (rw [k0.out] at hk; obtain rfl := Option.some.inj hk; exact A6.out.below (below0 _)) | succ k => (obtain ⟨c, hc, hl⟩ := h1 (by omega); exact absurd hl (by rw [Array.getD_eq_getD_getElem?, Array.getElem?_replicate]; split <;> simp))
  · rintro listed ac W ⟨xv, rfl, hb, hG, hH⟩ hD i hi hnl hd
    have hin : i < 29 := hi
    clear hi
    have hcase : i = 0 ∨ i = 1 ∨ i = 2 ∨ i = 3 ∨ i = 4 ∨ i = 5 ∨ i = 6 ∨ i = 7 ∨ i = 8 ∨ i = 9 ∨ i = 10 ∨ i = 11 ∨ i = 12 ∨ i = 13 ∨ i = 14 ∨ i = 15 ∨ i = 16 ∨ i = 17 ∨ i = 18 ∨ i = 19 ∨ i = 20 ∨ i = 21 ∨ i = 22 ∨ i = 23 ∨ i = 24 ∨ i = 25 ∨ i = 26 ∨ i = 27 ∨ i = 28 := by omega
    rcases hcase with rfl | rfl | rfl | rfl | rfl | rfl | rfl | rfl | rfl | rfl | rfl | rfl | rfl | rfl | rfl | rfl | rfl | rfl | rfl | rfl | rfl | rfl | rfl | rfl | rfl | rfl | rfl | rfl | rfl
    · refine wpOp_step rfl (fun K' hK => ?_)
      have hO : ∀ w', Below W.heap.size W w' → Ph [3, 26] ps (listed.setIfInBounds 0 true) w' := fun w' hb' => hH.other (by simp) (fun p hp => kk.out p hp W w' hb')
      clear hd hin hnl hD hH
      go_simp
      exact hK _ _ ⟨updV xv 0 (Value.pointer (some { block := a, off := 0 })), by simp [updV], hb, hG.stepS gk.out (KeepsBut.refl _ _) g0.out _ rfl, hO _ (Below.refl _ _)⟩
    · refine wpOp_step rfl (fun K' hK => ?_)
      have hO : ∀ w', Below W.heap.size W w' → Ph [3, 26] ps (listed.setIfInBounds 1 true) w' := fun w' hb' => hH.other (by simp) (fun p hp => kk.out p hp W w' hb')
      clear hd hin hnl hD hH
      go_simp
      exact hK _ _ ⟨updV xv 1 (Value.int IntKind.i64 ↑i), by simp [updV], hb, hG.stepS gk.out (KeepsBut.refl _ _) g1.out _ rfl, hO _ (Below.refl _ _)⟩
    · refine wpOp_step rfl (fun K' hK => ?_)
      have hO : ∀ w', Below W.heap.size W w' → Ph [3, 26] ps (listed.setIfInBounds 2 true) w' := fun w' hb' => hH.other (by simp) (fun p hp => kk.out p hp W w' hb')
      clear hd hin hnl hD hH
      go_simp
      exact hK _ _ ⟨updV xv 2 (Value.int IntKind.i64 ↑k), by simp [updV], hb, hG.stepS gk.out (KeepsBut.refl _ _) g2.out _ rfl, hO _ (Below.refl _ _)⟩
    · refine wpOp_step rfl (fun K' hK => ?_)
      simp [Region.binds] at hd
      have e0 : xv 0 = Value.pointer (some { block := a, off := 0 }) := hG.get g0.out (by simp [hd])
      have e1 : xv 1 = Value.int IntKind.i64 ↑i := hG.get g1.out (by simp [hd])
      have e2 : xv 2 = Value.int IntKind.i64 ↑k := hG.get g2.out (by simp [hd])
      have hph : (fun W => IsAr W a a s) W := hH 0 _ k0.out (fun h => absurd rfl h) (fun c hc => by simp at hc; subst hc; exact getD_false hnl)
      have f26 : listed.getD 26 false = false := by
        cases hx : listed.getD 26 false with
        | false => rfl
        | true =>
          have r22 : listed.getD 22 false = true := by have h := hD 26 (by decide) hx; simp [Region.binds] at h; simp [h]
          have r21 : listed.getD 21 false = true := by have h := hD 22 (by decide) r22; simp [Region.binds] at h; simp [h]
          have r5 : listed.getD 5 false = true := by have h := hD 21 (by decide) r21; simp [Region.binds] at h; simp [h]
          have r3 : listed.getD 3 false = true := by have h := hD 5 (by decide) r5; simp [Region.binds] at h; simp [h]
          rw [getD_false hnl] at r3; cases r3
      have hW : ∀ w', (fun W => IsAr W a a (s.setB i (xorL x0 x1))) w' → Ph [3, 26] ps (listed.setIfInBounds 3 true) w' := fun w' hp => Ph.write 0 3 rfl hnl (by intro j h; (rcases j with _ | _ | _ | j) <;> simp at h ⊢) (by intro j c' hj h; (rcases j with _ | _ | _ | j) <;> simp at h hj) (by intro j c' hj h; (rcases j with _ | _ | _ | j) <;> simp at h hj <;> (try subst h) <;> first | exact f26 | omega) (fun p hp' => by rw [k1.out] at hp'; obtain rfl := Option.some.inj hp'; exact hp)
      clear hd hin hnl hD hH
      go_simp
      refine (C1.out W hb hph).mono ?_
      rintro e w' ⟨v, rfl, hv, hb', hp'⟩
      go_wp2_with fail
      exact ⟨updV xv 3 v, by simp [updV, e0, e1, e2], hb.trans hb', hG.stepS gk.out hb' g3.out v hv, hW _ hp'⟩
    · refine wpOp_step rfl (fun K' hK => ?_)
      simp [Region.binds] at hd
      have e3 : xv 3 = .bool true := hG.get g3.out (by simp [hd])
      have hO : ∀ w', Below W.heap.size W w' → Ph [3, 26] ps (listed.setIfInBounds 4 true) w' := fun w' hb' => hH.other (by simp) (fun p hp => kk.out p hp W w' hb')
      clear hd hin hnl hD hH
      go_simp
      exact hK _ _ ⟨updV xv 4 (.bool false), by simp [updV, e3], hb, hG.stepS gk.out (KeepsBut.refl _ _) g4.out _ rfl, hO _ (Below.refl _ _)⟩
    · refine wpOp_step rfl (fun K' hK => ?_)
      simp [Region.binds] at hd
      have e4 : xv 4 = .bool false := hG.get g4.out (by simp [hd])
      have hO : ∀ w', Below W.heap.size W w' → Ph [3, 26] ps (listed.setIfInBounds 5 true) w' := fun w' hb' => hH.other (by simp) (fun p hp => kk.out p hp W w' hb')
      clear hd hin hnl hD hH
      go_simp
      exact hK _ _ ⟨updV xv 5 (.bool false), by simp [updV, e4], hb, hG.stepS gk.out (KeepsBut.refl _ _) g5.out _ rfl, hO _ (Below.refl _ _)⟩
    · refine wpOp_step rfl (fun K' hK => ?_)
      simp [Region.binds] at hd
      have e5 : xv 5 = .bool false := hG.get g5.out (by simp [hd])
      have hO : ∀ w', Below W.heap.size W w' → Ph [3, 26] ps (listed.setIfInBounds 6 true) w' := fun w' hb' => hH.other (by simp) (fun p hp => kk.out p hp W w' hb')
      clear hd hin hnl hD hH
      go_simp
      exact hK _ _ ⟨updV xv 6 (Value.pointer (some { block := a, off := 0 })), by simp [updV, e5], hb, hG.stepS gk.out (KeepsBut.refl _ _) g6.out _ rfl, hO _ (Below.refl _ _)⟩
    · refine wpOp_step rfl (fun K' hK => ?_)
      simp [Region.binds] at hd
      have e5 : xv 5 = .bool false := hG.get g5.out (by simp [hd])
      have hO : ∀ w', Below W.heap.size W w' → Ph [3, 26] ps (listed.setIfInBounds 7 true) w' := fun w' hb' => hH.other (by simp) (fun p hp => kk.out p hp W w' hb')
      clear hd hin hnl hD hH
      go_simp
      exact hK _ _ ⟨updV xv 7 (Value.int IntKind.i64 ↑i), by simp [updV, e5], hb, hG.stepS gk.out (KeepsBut.refl _ _) g7.out _ rfl, hO _ (Below.refl _ _)⟩
    · refine wpOp_step rfl (fun K' hK => ?_)
      simp [Region.binds] at hd
      have e6 : xv 6 = Value.pointer (some { block := a, off := 0 }) := hG.get g6.out (by simp [hd])
      have e7 : xv 7 = Value.int IntKind.i64 ↑i := hG.get g7.out (by simp [hd])
      have e5 : xv 5 = .bool false := hG.get g5.out (by simp [hd])
      have q5 : listed.getD 5 false = true := by simp [hd]
      have q3 : listed.getD 3 false = true := by have h := hD 5 (by decide) q5; simp [Region.binds] at h; simp [h]
      have f26 : listed.getD 26 false = false := by
        cases hx : listed.getD 26 false with
        | false => rfl
        | true =>
          have r22 : listed.getD 22 false = true := by have h := hD 26 (by decide) hx; simp [Region.binds] at h; simp [h]
          have r18 : listed.getD 18 false = true := by have h := hD 22 (by decide) r22; simp [Region.binds] at h; simp [h]
          have r8 : listed.getD 8 false = true := by have h := hD 18 (by decide) r18; simp [Region.binds] at h; simp [h]
          rw [getD_false hnl] at r8; cases r8
      have hph : (fun W => IsAr W a a (s.setB i (xorL x0 x1))) W := hH 1 _ k1.out (fun _ => ⟨3, rfl, q3⟩) (fun c hc => by simp at hc; subst hc; exact f26)
      have hO : ∀ w', Below W.heap.size W w' → Ph [3, 26] ps (listed.setIfInBounds 8 true) w' := fun w' hb' => hH.other (by simp) (fun p hp => kk.out p hp W w' hb')
      clear hd hin hnl hD hH
      go_simp
      refine (GC.out W hb hph).mono ?_
      rintro e w' ⟨v, rfl, hv, hb'⟩
      go_wp2_with fail
      exact ⟨updV xv 8 v, by simp [updV, e6, e7, e5], hb.trans (KeepsBut.ofBelow hb'), hG.stepS gk.out (KeepsBut.ofBelow hb') g8.out v hv, hO _ hb'⟩
    · refine wpOp_step rfl (fun K' hK => ?_)
      simp [Region.binds] at hd
      have m8 : IsBsS (s.own a) (xorL x0 x1) (xv 8) W := hG.get g8.out (by simp [hd])
      have e5 : xv 5 = .bool false := hG.get g5.out (by simp [hd])
      have kr := conv_bytes m8.1
      have hO : ∀ w', Below W.heap.size W w' → Ph [3, 26] ps (listed.setIfInBounds 9 true) w' := fun w' hb' => hH.other (by simp) (fun p hp => kk.out p hp W w' hb')
      clear hd hin hnl hD hH
      go_simp
      exact hK _ _ ⟨updV xv 9 (.string (str (xorL x0 x1))), by simp [updV, e5], hb, hG.stepS gk.out (KeepsBut.refl _ _) g9.out _ rfl, hO _ (Below.refl _ _)⟩
    · refine wpOp_step rfl (fun K' hK => ?_)
      simp [Region.binds] at hd
      have e5 : xv 5 = .bool false := hG.get g5.out (by simp [hd])
      have hO : ∀ w', Below W.heap.size W w' → Ph [3, 26] ps (listed.setIfInBounds 10 true) w' := fun w' hb' => hH.other (by simp) (fun p hp => kk.out p hp W w' hb')
      clear hd hin hnl hD hH
      go_simp
      exact hK _ _ ⟨updV xv 10 (Value.int IntKind.i64 ↑n), by simp [updV, e5], hb, hG.stepS gk.out (KeepsBut.refl _ _) g10.out _ rfl, hO _ (Below.refl _ _)⟩
    · refine wpOp_step rfl (fun K' hK => ?_)
      simp [Region.binds] at hd
      have e5 : xv 5 = .bool false := hG.get g5.out (by simp [hd])
      have hO : ∀ w', Below W.heap.size W w' → Ph [3, 26] ps (listed.setIfInBounds 11 true) w' := fun w' hb' => hH.other (by simp) (fun p hp => kk.out p hp W w' hb')
      clear hd hin hnl hD hH
      go_simp
      exact hK _ _ ⟨updV xv 11 (Value.slice a0 l0.length c0), by simp [updV, e5], hb, hG.stepS gk.out (KeepsBut.refl _ _) g11.out _ rfl, hO _ (Below.refl _ _)⟩
    · refine wpOp_step rfl (fun K' hK => ?_)
      simp [Region.binds] at hd
      have e5 : xv 5 = .bool false := hG.get g5.out (by simp [hd])
      have hO : ∀ w', Below W.heap.size W w' → Ph [3, 26] ps (listed.setIfInBounds 12 true) w' := fun w' hb' => hH.other (by simp) (fun p hp => kk.out p hp W w' hb')
      clear hd hin hnl hD hH
      go_simp
      exact hK _ _ ⟨updV xv 12 (Value.int IntKind.i64 ↑n), by simp [updV, e5], hb, hG.stepS gk.out (KeepsBut.refl _ _) g12.out _ rfl, hO _ (Below.refl _ _)⟩
    · refine wpOp_step rfl (fun K' hK => ?_)
      simp [Region.binds] at hd
      have e11 : xv 11 = Value.slice a0 l0.length c0 := hG.get g11.out (by simp [hd])
      have e12 : xv 12 = Value.int IntKind.i64 ↑n := hG.get g12.out (by simp [hd])
      have e5 : xv 5 = .bool false := hG.get g5.out (by simp [hd])
      have hO : ∀ w', Below W.heap.size W w' → Ph [3, 26] ps (listed.setIfInBounds 13 true) w' := fun w' hb' => hH.other (by simp) (fun p hp => kk.out p hp W w' hb')
      clear hd hin hnl hD hH
      go_simp
      exact hK _ _ ⟨updV xv 13 (.slice a0 n c0), by simp [updV, e11, e12, e5], hb, hG.stepS gk.out (KeepsBut.refl _ _) g13.out _ rfl, hO _ (Below.refl _ _)⟩
    · refine wpOp_step rfl (fun K' hK => ?_)
      simp [Region.binds] at hd
      have e5 : xv 5 = .bool false := hG.get g5.out (by simp [hd])
      have hO : ∀ w', Below W.heap.size W w' → Ph [3, 26] ps (listed.setIfInBounds 14 true) w' := fun w' hb' => hH.other (by simp) (fun p hp => kk.out p hp W w' hb')
      clear hd hin hnl hD hH
      go_simp
      exact hK _ _ ⟨updV xv 14 (Value.slice a1 l1.length c1), by simp [updV, e5], hb, hG.stepS gk.out (KeepsBut.refl _ _) g14.out _ rfl, hO _ (Below.refl _ _)⟩
    · refine wpOp_step rfl (fun K' hK => ?_)
      simp [Region.binds] at hd
      have e5 : xv 5 = .bool false := hG.get g5.out (by simp [hd])
      have hO : ∀ w', Below W.heap.size W w' → Ph [3, 26] ps (listed.setIfInBounds 15 true) w' := fun w' hb' => hH.other (by simp) (fun p hp => kk.out p hp W w' hb')
      clear hd hin hnl hD hH
      go_simp
      exact hK _ _ ⟨updV xv 15 (Value.int IntKind.i64 ↑n), by simp [updV, e5], hb, hG.stepS gk.out (KeepsBut.refl _ _) g15.out _ rfl, hO _ (Below.refl _ _)⟩
    · refine wpOp_step rfl (fun K' hK => ?_)
      simp [Region.binds] at hd
      have e14 : xv 14 = Value.slice a1 l1.length c1 := hG.get g14.out (by simp [hd])
      have e15 : xv 15 = Value.int IntKind.i64 ↑n := hG.get g15.out (by simp [hd])
      have e5 : xv 5 = .bool false := hG.get g5.out (by simp [hd])
      have hO : ∀ w', Below W.heap.size W w' → Ph [3, 26] ps (listed.setIfInBounds 16 true) w' := fun w' hb' => hH.other (by simp) (fun p hp => kk.out p hp W w' hb')
      clear hd hin hnl hD hH
      go_simp
      exact hK _ _ ⟨updV xv 16 (.slice a1 n c1), by simp [updV, e14, e15, e5], hb, hG.stepS gk.out (KeepsBut.refl _ _) g16.out _ rfl, hO _ (Below.refl _ _)⟩
    · refine wpOp_step rfl (fun K' hK => ?_)
      simp [Region.binds] at hd
      have e13 : xv 13 = .slice a0 n c0 := hG.get g13.out (by simp [hd])
      have e16 : xv 16 = .slice a1 n c1 := hG.get g16.out (by simp [hd])
      have e5 : xv 5 = .bool false := hG.get g5.out (by simp [hd])
      have hO : ∀ w', Below W.heap.size W w' → Ph [3, 26] ps (listed.setIfInBounds 17 true) w' := fun w' hb' => hH.other (by simp) (fun p hp => kk.out p hp W w' hb')
      clear hd hin hnl hD hH
      go_simp
      exact hK _ _ ⟨updV xv 17 (.slice (some ⟨W.heap.size, 0, none⟩) 2 2), by simp [updV, e13, e16, e5], hb.trans (KeepsBut.ofBelow (below_alloc _ _)), hG.stepS gk.out (KeepsBut.ofBelow (below_alloc _ _)) g17.out _ ⟨_, rfl, fun h => by have := ON.out _ h; have := hb.size; omega, fun j u hj => by rw [World.cell?_alloc_new]; simpa using hj⟩, hO _ (below_alloc _ _)⟩
    · refine wpOp_step rfl (fun K' hK => ?_)
      simp [Region.binds] at hd
      have e10 : xv 10 = Value.int IntKind.i64 ↑n := hG.get g10.out (by simp [hd])
      have m17 : IsRowS (s.own a) [.slice a0 n c0, .slice a1 n c1] (xv 17) W := hG.get g17.out (by simp [hd])
      have e5 : xv 5 = .bool false := hG.get g5.out (by simp [hd])
      have hO : ∀ w', Below W.heap.size W w' → Ph [3, 26] ps (listed.setIfInBounds 18 true) w' := fun w' hb' => hH.other (by simp) (fun p hp => kk.out p hp W w' hb')
      clear hd hin hnl hD hH
      go_simp
      refine (RC.out W _ hb m17).mono ?_
      rintro e w' ⟨v, rfl, hv, hb'⟩
      go_wp2_with fail
      exact ⟨updV xv 18 v, by simp [updV, e10, e5], hb.trans (KeepsBut.ofBelow hb'), hG.stepS gk.out (KeepsBut.ofBelow hb') g18.out v hv, hO _ hb'⟩
    · refine wpOp_step rfl (fun K' hK => ?_)
      simp [Region.binds] at hd
      have m18 : IsBsS (s.own a) (xorL x0 x1) (xv 18) W := hG.get g18.out (by simp [hd])
      have e5 : xv 5 = .bool false := hG.get g5.out (by simp [hd])
      have kr := conv_bytes m18.1
      have hO : ∀ w', Below W.heap.size W w' → Ph [3, 26] ps (listed.setIfInBounds 19 true) w' := fun w' hb' => hH.other (by simp) (fun p hp => kk.out p hp W w' hb')
      clear hd hin hnl hD hH
      go_simp
      exact hK _ _ ⟨updV xv 19 (.string (str (xorL x0 x1))), by simp [updV, e5], hb, hG.stepS gk.out (KeepsBut.refl _ _) g19.out _ rfl, hO _ (Below.refl _ _)⟩
    · refine wpOp_step rfl (fun K' hK => ?_)
      simp [Region.binds] at hd
      have e9 : xv 9 = .string (str (xorL x0 x1)) := hG.get g9.out (by simp [hd])
      have e19 : xv 19 = .string (str (xorL x0 x1)) := hG.get g19.out (by simp [hd])
      have e5 : xv 5 = .bool false := hG.get g5.out (by simp [hd])
      have hO : ∀ w', Below W.heap.size W w' → Ph [3, 26] ps (listed.setIfInBounds 20 true) w' := fun w' hb' => hH.other (by simp) (fun p hp => kk.out p hp W w' hb')
      clear hd hin hnl hD hH
      go_simp
      exact hK _ _ ⟨updV xv 20 (.bool false), by simp [updV, e9, e19, e5], hb, hG.stepS gk.out (KeepsBut.refl _ _) g20.out _ rfl, hO _ (Below.refl _ _)⟩
    · refine wpOp_step rfl (fun K' hK => ?_)
      simp [Region.binds] at hd
      have e5 : xv 5 = .bool false := hG.get g5.out (by simp [hd])
      have e20 : xv 20 = .bool false := hG.get g20.out (by simp [hd])
      have hO : ∀ w', Below W.heap.size W w' → Ph [3, 26] ps (listed.setIfInBounds 21 true) w' := fun w' hb' => hH.other (by simp) (fun p hp => kk.out p hp W w' hb')
      clear hd hin hnl hD hH
      go_simp
      exact hK _ _ ⟨updV xv 21 (.bool false), by simp [updV, e5, e20], hb, hG.stepS gk.out (KeepsBut.refl _ _) g21.out _ rfl, hO _ (Below.refl _ _)⟩
    · refine wpOp_step rfl (fun K' hK => ?_)
      simp [Region.binds] at hd
      have e21 : xv 21 = .bool false := hG.get g21.out (by simp [hd])
      have hO : ∀ w', Below W.heap.size W w' → Ph [3, 26] ps (listed.setIfInBounds 22 true) w' := fun w' hb' => hH.other (by simp) (fun p hp => kk.out p hp W w' hb')
      clear hd hin hnl hD hH
      go_simp
      exact hK _ _ ⟨updV xv 22 (.bool false), by simp [updV, e21], hb, hG.stepS gk.out (KeepsBut.refl _ _) g22.out _ rfl, hO _ (Below.refl _ _)⟩
    · refine wpOp_step rfl (fun K' hK => ?_)
      simp [Region.binds] at hd
      have e22 : xv 22 = .bool false := hG.get g22.out (by simp [hd])
      have hO : ∀ w', Below W.heap.size W w' → Ph [3, 26] ps (listed.setIfInBounds 23 true) w' := fun w' hb' => hH.other (by simp) (fun p hp => kk.out p hp W w' hb')
      clear hd hin hnl hD hH
      go_simp
      exact hK _ _ ⟨updV xv 23 (Value.pointer (some { block := a, off := 0 })), by simp [updV, e22], hb, hG.stepS gk.out (KeepsBut.refl _ _) g23.out _ rfl, hO _ (Below.refl _ _)⟩
    · refine wpOp_step rfl (fun K' hK => ?_)
      simp [Region.binds] at hd
      have e22 : xv 22 = .bool false := hG.get g22.out (by simp [hd])
      have hO : ∀ w', Below W.heap.size W w' → Ph [3, 26] ps (listed.setIfInBounds 24 true) w' := fun w' hb' => hH.other (by simp) (fun p hp => kk.out p hp W w' hb')
      clear hd hin hnl hD hH
      go_simp
      exact hK _ _ ⟨updV xv 24 (Value.int IntKind.i64 ↑i), by simp [updV, e22], hb, hG.stepS gk.out (KeepsBut.refl _ _) g24.out _ rfl, hO _ (Below.refl _ _)⟩
    · refine wpOp_step rfl (fun K' hK => ?_)
      simp [Region.binds] at hd
      have e22 : xv 22 = .bool false := hG.get g22.out (by simp [hd])
      have hO : ∀ w', Below W.heap.size W w' → Ph [3, 26] ps (listed.setIfInBounds 25 true) w' := fun w' hb' => hH.other (by simp) (fun p hp => kk.out p hp W w' hb')
      clear hd hin hnl hD hH
      go_simp
      exact hK _ _ ⟨updV xv 25 (Value.int IntKind.i64 ↑k), by simp [updV, e22], hb, hG.stepS gk.out (KeepsBut.refl _ _) g25.out _ rfl, hO _ (Below.refl _ _)⟩
    · refine wpOp_step rfl (fun K' hK => ?_)
      simp [Region.binds] at hd
      have e23 : xv 23 = Value.pointer (some { block := a, off := 0 }) := hG.get g23.out (by simp [hd])
      have e24 : xv 24 = Value.int IntKind.i64 ↑i := hG.get g24.out (by simp [hd])
      have e25 : xv 25 = Value.int IntKind.i64 ↑k := hG.get g25.out (by simp [hd])
      have e22 : xv 22 = .bool false := hG.get g22.out (by simp [hd])
      have q22 : listed.getD 22 false = true := by simp [hd]
      have q21 : listed.getD 21 false = true := by have h := hD 22 (by decide) q22; simp [Region.binds] at h; simp [h]
      have q5 : listed.getD 5 false = true := by have h := hD 21 (by decide) q21; simp [Region.binds] at h; simp [h]
      have q3 : listed.getD 3 false = true := by have h := hD 5 (by decide) q5; simp [Region.binds] at h; simp [h]
      have hph : (fun W => IsAr W a a (s.setB i (xorL x0 x1))) W := hH 1 _ k1.out (fun _ => ⟨3, rfl, q3⟩) (fun c hc => by simp at hc; subst hc; exact getD_false hnl)
      have hW : ∀ w', (fun W => IsAr W a a ((s.setB i (xorL x0 x1)).setB i x0)) w' → Ph [3, 26] ps (listed.setIfInBounds 26 true) w' := fun w' hp => Ph.write 1 26 rfl hnl (by intro j h; (rcases j with _ | _ | _ | j) <;> simp at h ⊢) (by intro j c' hj h; (rcases j with _ | _ | _ | j) <;> simp at h hj <;> (try subst h) <;> first | exact q3 | omega) (by intro j c' hj h; (rcases j with _ | _ | _ | j) <;> simp at h hj) (fun p hp' => by rw [k2.out] at hp'; obtain rfl := Option.some.inj hp'; exact hp)
      clear hd hin hnl hD hH
      go_simp
      refine (C2.out W hb hph).mono ?_
      rintro e w' ⟨v, rfl, hv, hb', hp'⟩
      go_wp2_with fail
      exact ⟨updV xv 26 v, by simp [updV, e23, e24, e25, e22], hb.trans hb', hG.stepS gk.out hb' g26.out v hv, hW _ hp'⟩
    · refine wpOp_step rfl (fun K' hK => ?_)
      simp [Region.binds] at hd
      have e26 : xv 26 = .bool true := hG.get g26.out (by simp [hd])
      have e22 : xv 22 = .bool false := hG.get g22.out (by simp [hd])
      have hO : ∀ w', Below W.heap.size W w' → Ph [3, 26] ps (listed.setIfInBounds 27 true) w' := fun w' hb' => hH.other (by simp) (fun p hp => kk.out p hp W w' hb')
      clear hd hin hnl hD hH
      go_simp
      exact hK _ _ ⟨updV xv 27 (.bool false), by simp [updV, e26, e22], hb, hG.stepS gk.out (KeepsBut.refl _ _) g27.out _ rfl, hO _ (Below.refl _ _)⟩
    · refine wpOp_step rfl (fun K' hK => ?_)
      simp [Region.binds] at hd
      have e22 : xv 22 = .bool false := hG.get g22.out (by simp [hd])
      have e27 : xv 27 = .bool false := hG.get g27.out (by simp [hd])
      have hO : ∀ w', Below W.heap.size W w' → Ph [3, 26] ps (listed.setIfInBounds 28 true) w' := fun w' hb' => hH.other (by simp) (fun p hp => kk.out p hp W w' hb')
      clear hd hin hnl hD hH
      go_simp
      exact hK _ _ ⟨updV xv 28 (.bool false), by simp [updV, e22, e27], hb, hG.stepS gk.out (KeepsBut.refl _ _) g28.out _ rfl, hO _ (Below.refl _ _)⟩
  · rintro listed ac W ⟨xv, rfl, hb, hG, hH⟩ hall
    have e28 : xv 28 = .bool false := hG.get g28.out (hall 28 (by decide))
    have XW : Hid (KeepsBut (s.own a) w6 W) := hb
    have HW : Hid ((fun W => IsAr W a a ((s.setB i (xorL x0 x1)).setB i x0)) W) := hH 2 _ k2.out (fun _ => ⟨26, rfl, hall 26 (by decide)⟩) (fun c hc => by simp at hc)
    clear hall hG hb hH gk kk g0 g1 g2 g3 g4 g5 g6 g7 g8 g9 g10 g11 g12 g13 g14 g15 g16 g17 g18 g19 g20 g21 g22 g23 g24 g25 g26 g27 g28 k0 k1 k2
    rw [e28]
    clear e28
    have A9 : Hid (IsAr W a a ((s.setB i (xorL x0 x1)).setB i x0)) := HW.out
    have X9 : Hid (Below a w1 W) := X6.out.trans (XW.out.below A6.out.B_le A6.out.own_ge)
    have P9 : Hid (((s.setB i (xorL x0 x1)).setB i x0).size = n ∧ ((s.setB i (xorL x0 x1)).setB i x0).bl.length = 2 ∧ ((s.setB i (xorL x0 x1)).setB i x0).bl[i]? = some ⟨qi, x0, true⟩ ∧ ((s.setB i (xorL x0 x1)).setB i x0).bl[k]? = some ⟨qk, x1, true⟩) :=
      ⟨P6.out.1, by rw [setB_len, setB_len]; exact P6.out.2.1, setB_same P7.out.1, by rw [setB_other hik]; exact P7.out.2⟩
    clear XW HW C1 C2 GC RC A6 X6 P6 P7 ON Y1 Y2 Y3
    generalize (s.setB i (xorL x0 x1)).setB i x0 = t at *
    have G1 : Hid (∀ V, Below W.heap.size W V → Calls Try.prog 37 #[.pointer (some ⟨a, 0, none⟩), .int .i64 i] V fun e w' => ∃ v, e = .returned v ∧ IsBs x0 v w' ∧ Below V.heap.size V w') := by
      intro V hV
      refine (get_yes a a t i _ V (A9.out.below hV) P9.out.2.2.1 rfl).mono ?_
      rintro e w' ⟨rfl, h1, h2⟩
      exact ⟨_, rfl, h1.bs0 _ _ (by rw [P9.out.1, L0.out]) (Nat.le_refl _) (by rw [P9.out.1]; unfold maxLen; omega), h2⟩
    have G2 : Hid (∀ V, Below W.heap.size W V → Calls Try.prog 37 #[.pointer (some ⟨a, 0, none⟩), .int .i64 k] V fun e w' => ∃ v, e = .returned v ∧ IsBs x1 v w' ∧ Below V.heap.size V w') := by
      intro V hV
      refine (get_yes a a t k _ V (A9.out.below hV) P9.out.2.2.2 rfl).mono ?_
      rintro e w' ⟨rfl, h1, h2⟩
      exact ⟨_, rfl, h1.bs0 _ _ (by rw [P9.out.1, L1.out]) (Nat.le_refl _) (by rw [P9.out.1]; unfold maxLen; omega), h2⟩
    have N1 : Hid (∀ V, Below W.heap.size W V → Calls Try.prog 30 #[.pointer (some ⟨a, 0, none⟩), .int .i64 i, .int .i64 i] V fun e w' => ∃ v, e = .returned v ∧ IsV (.bool false) v w' ∧ Below V.heap.size V w') :=
      fun V hV => calls_below (onto_no a a t i i V (A9.out.below hV) (.inl rfl))
    have N2 : Hid (∀ V, Below W.heap.size W V → Calls Try.prog 30 #[.pointer (some ⟨a, 0, none⟩), .int .i64 i, .int .i64 2] V fun e w' => ∃ v, e = .returned v ∧ IsV (.bool false) v w' ∧ Below V.heap.size V w') := by
      intro V hV
      refine calls_below (onto_no a a t i 2 V (A9.out.below hV) (.inr (.inl ?_)))
      unfold Ar.has
      have : t.bl[(2 : Int).toNat]? = none := List.getElem?_eq_none (by rw [P9.out.2.1]; decide)
      rw [this]
      rfl
    have K0 : Hid (∀ V, Below W.heap.size W V → (convert 25 9 (.slice a0 n c0)).run Try.prog V = .ok (.string (str x0)) V) := fun V hV => conv_bytes ((BW.out W X9.out).1.below hV)
    have K1 : Hid (∀ V, Below W.heap.size W V → (convert 25 9 (.slice a1 n c1)).run Try.prog V = .ok (.string (str x1)) V) := fun V hV => conv_bytes ((BW.out W X9.out).2.below hV)
    go_wp2
    refine wp_region_any (by kernel_rfl) ?_
    obtain ⟨gs, hgs⟩ : ∃ gs : List (Value → World → Prop), gs = [IsV (Value.pointer (some { block := a, off := 0 })), IsV (Value.int IntKind.i64 ↑i), IsBs x0, IsV (.string (str x0)), IsV (Value.slice a0 l0.length c0), IsV (Value.int IntKind.i64 ↑n), IsV (.slice a0 n c0), IsV (.string (str x0)), IsV (.bool true), IsV (.bool true), IsV (Value.pointer (some { block := a, off := 0 })), IsV (Value.int IntKind.i64 ↑k), IsBs x1, IsV (.string (str x1)), IsV (Value.slice a1 l1.length c1), IsV (Value.int IntKind.i64 ↑n), IsV (.slice a1 n c1), IsV (.string (str x1)), IsV (.bool true), IsV (.bool true), IsV (.bool true), IsV (Value.pointer (some { block := a, off := 0 })), IsV (Value.int IntKind.i64 ↑i), IsV (Value.int IntKind.i64 ↑i), IsV (.bool false), IsV (.bool true), IsV (.bool true), IsV (.bool true), IsV (Value.pointer (some { block := a, off := 0 })), IsV (Value.int IntKind.i64 ↑i), IsV (.bool false), IsV (.bool true), IsV (.bool true), IsV (.bool true)] := ⟨_, rfl⟩
    have g0 : Hid (gs[0]? = some (IsV (Value.pointer (some { block := a, off := 0 })))) := by unfold Hid; rw [hgs]; rfl
    have g1 : Hid (gs[1]? = some (IsV (Value.int IntKind.i64 ↑i))) := by unfold Hid; rw [hgs]; rfl
    have g2 : Hid (gs[2]? = some (IsBs x0)) := by unfold Hid; rw [hgs]; rfl
    have g3 : Hid (gs[3]? = some (IsV (.string (str x0)))) := by unfold Hid; rw [hgs]; rfl
    have g4 : Hid (gs[4]? = some (IsV (Value.slice a0 l0.length c0))) := by unfold Hid; rw [hgs]; rfl
    have g5 : Hid (gs[5]? = some (IsV (Value.int IntKind.i64 ↑n))) := by unfold Hid; rw [hgs]; rfl
    have g6 : Hid (gs[6]? = some (IsV (.slice a0 n c0))) := by unfold Hid; rw [hgs]; rfl
    have g7 : Hid (gs[7]? = some (IsV (.string (str x0)))) := by unfold Hid; rw [hgs]; rfl
    have g8 : Hid (gs[8]? = some (IsV (.bool true))) := by unfold Hid; rw [hgs]; rfl
    have g9 : Hid (gs[9]? = some (IsV (.bool true))) := by unfold Hid; rw [hgs]; rfl
    have g10 : Hid (gs[10]? = some (IsV (Value.pointer (some { block := a, off := 0 })))) := by unfold Hid; rw [hgs]; rfl
    have g11 : Hid (gs[11]? = some (IsV (Value.int IntKind.i64 ↑k))) := by unfold Hid; rw [hgs]; rfl
    have g12 : Hid (gs[12]? = some (IsBs x1)) := by unfold Hid; rw [hgs]; rfl
    have g13 : Hid (gs[13]? = some (IsV (.string (str x1)))) := by unfold Hid; rw [hgs]; rfl
    have g14 : Hid (gs[14]? = some (IsV (Value.slice a1 l1.length c1))) := by unfold Hid; rw [hgs]; rfl
    have g15 : Hid (gs[15]? = some (IsV (Value.int IntKind.i64 ↑n))) := by unfold Hid; rw [hgs]; rfl
    have g16 : Hid (gs[16]? = some (IsV (.slice a1 n c1))) := by unfold Hid; rw [hgs]; rfl
    have g17 : Hid (gs[17]? = some (IsV (.string (str x1)))) := by unfold Hid; rw [hgs]; rfl
    have g18 : Hid (gs[18]? = some (IsV (.bool true))) := by unfold Hid; rw [hgs]; rfl
    have g19 : Hid (gs[19]? = some (IsV (.bool true))) := by unfold Hid; rw [hgs]; rfl
    have g20 : Hid (gs[20]? = some (IsV (.bool true))) := by unfold Hid; rw [hgs]; rfl
    have g21 : Hid (gs[21]? = some (IsV (Value.pointer (some { block := a, off := 0 })))) := by unfold Hid; rw [hgs]; rfl
    have g22 : Hid (gs[22]? = some (IsV (Value.int IntKind.i64 ↑i))) := by unfold Hid; rw [hgs]; rfl
    have g23 : Hid (gs[23]? = some (IsV (Value.int IntKind.i64 ↑i))) := by unfold Hid; rw [hgs]; rfl
    have g24 : Hid (gs[24]? = some (IsV (.bool false))) := by unfold Hid; rw [hgs]; rfl
    have g25 : Hid (gs[25]? = some (IsV (.bool true))) := by unfold Hid; rw [hgs]; rfl
    have g26 : Hid (gs[26]? = some (IsV (.bool true))) := by unfold Hid; rw [hgs]; rfl
    have g27 : Hid (gs[27]? = some (IsV (.bool true))) := by unfold Hid; rw [hgs]; rfl
    have g28 : Hid (gs[28]? = some (IsV (Value.pointer (some { block := a, off := 0 })))) := by unfold Hid; rw [hgs]; rfl
    have g29 : Hid (gs[29]? = some (IsV (Value.int IntKind.i64 ↑i))) := by unfold Hid; rw [hgs]; rfl
    have g30 : Hid (gs[30]? = some (IsV (.bool false))) := by unfold Hid; rw [hgs]; rfl
    have g31 : Hid (gs[31]? = some (IsV (.bool true))) := by unfold Hid; rw [hgs]; rfl
    have g32 : Hid (gs[32]? = some (IsV (.bool true))) := by unfold Hid; rw [hgs]; rfl
    have g33 : Hid (gs[33]? = some (IsV (.bool true))) := by unfold Hid; rw [hgs]; rfl
    have gk : Hid (∀ p ∈ gs, Stays p) := by
      unfold Hid
      rw [hgs]
      simp only [List.forall_mem_cons]
      exact ⟨stays_v _, stays_v _, stays_bs _, stays_v _, stays_v _, stays_v _, stays_v _, stays_v _, stays_v _, stays_v _, stays_v _, stays_v _, stays_bs _, stays_v _, stays_v _, stays_v _, stays_v _, stays_v _, stays_v _, stays_v _, stays_v _, stays_v _, stays_v _, stays_v _, stays_v _, stays_v _, stays_v _, stays_v _, stays_v _, stays_v _, stays_v _, stays_v _, stays_v _, stays_v _, by simp⟩
    clear hgs
    refine wpAny_inv (fun listed ac Wb => ∃ xvb : Nat → Value, ac = ⟨#[Value.slice a0 l0.length c0, Value.slice a1 l1.length c1, undef, undef, xvb 33, Value.int IntKind.i64 ↑n, Value.pointer (some { block := a, off := 0 }), Value.int IntKind.i64 ↑i, Value.bool true, Value.int IntKind.i64 ↑k, Value.bool true, Value.bool true, Value.bool false, Value.slice a0 l0.length c0, Value.int IntKind.i64 ↑l0.length, Value.slice a1 l1.length c1, Value.int IntKind.i64 ↑l1.length, Value.int IntKind.i64 ↑n, Value.int IntKind.i64 ↑n, Value.pointer (some { block := a, off := 0 }), Value.tuple #[Value.int IntKind.i64 ↑i, Value.bool true], Value.pointer (some { block := a, off := 0 }), Value.tuple #[Value.int IntKind.i64 ↑i, Value.bool true], Value.int IntKind.i64 ↑i, Value.bool true, Value.tuple #[Value.int IntKind.i64 ↑k, Value.bool true], Value.pointer (some { block := a, off := 0 }), Value.tuple #[Value.int IntKind.i64 ↑k, Value.bool true], Value.int IntKind.i64 ↑k, Value.bool true, Value.bool true, Value.bool false, Value.bool false, Value.bool true, Value.bool false, Value.bool false, Value.bool false, Value.int IntKind.i64 ↑i, Value.int IntKind.i64 ↑k, Value.bool false, Value.bool false, Value.bool false, Value.pointer (some { block := a, off := 0 }), Value.int IntKind.i64 ↑i, Value.slice a0 l0.length c0, Value.int IntKind.i64 ↑n, Value.slice a0 n c0, Value.slice (some { block := w4.heap.size, off := 0 }) 1 1, Value.bool true, Value.bool false, Value.bool false, Value.bool false, Value.pointer (some { block := a, off := 0 }), Value.int IntKind.i64 ↑k, Value.slice a1 l1.length c1, Value.int IntKind.i64 ↑n, Value.slice a1 n c1, Value.slice (some { block := w5.heap.size, off := 0 }) 1 1, Value.bool true, Value.bool false, Value.bool false, xv 0, xv 1, xv 2, xv 3, xv 4, xv 5, xv 6, xv 7, xv 8, xv 9, xv 10, xv 11, xv 12, xv 13, xv 14, xv 15, xv 16, xv 17, xv 18, xv 19, xv 20, xv 21, xv 22, xv 23, xv 24, xv 25, xv 26, xv 27, Value.bool false, xvb 0, xvb 1, xvb 2, xvb 3, xvb 4, xvb 5, xvb 6, xvb 7, xvb 8, xvb 9, xvb 10, xvb 11, xvb 12, xvb 13, xvb 14, xvb 15, xvb 16, xvb 17, xvb 18, xvb 19, xvb 20, xvb 21, xvb 22, xvb 23, xvb 24, xvb 25, xvb 26, xvb 27, xvb 28, xvb 29, xvb 30, xvb 31, xvb 32], []⟩ ∧ Below W.heap.size W Wb ∧ Lst gs listed xvb Wb) (by kernel_rfl) ?_ ?_ _ _ _ _ (by kernel_rfl) (of_decide_eq_true (by kernel_rfl)) ⟨fun j => if j = 33 then Value.bool false else undef, rfl, below0 _, Lst.start _ _ _ _⟩
    · rintro listed ac Wb ⟨xvb, rfl, hb, hG⟩ i hi hd
      have hin : i < 34 := hi
      clear hi
      have hcase : i = 0 ∨ i = 1 ∨ i = 2 ∨ i = 3 ∨ i = 4 ∨ i = 5 ∨ i = 6 ∨ i = 7 ∨ i = 8 ∨ i = 9 ∨ i = 10 ∨ i = 11 ∨ i = 12 ∨ i = 13 ∨ i = 14 ∨ i = 15 ∨ i = 16 ∨ i = 17 ∨ i = 18 ∨ i = 19 ∨ i = 20 ∨ i = 21 ∨ i = 22 ∨ i = 23 ∨ i = 24 ∨ i = 25 ∨ i = 26 ∨ i = 27 ∨ i = 28 ∨ i = 29 ∨ i = 30 ∨ i = 31 ∨ i = 32 ∨ i = 33 := by omega
      rcases hcase with rfl | rfl | rfl | rfl | rfl | rfl | rfl | rfl | rfl | rfl | rfl | rfl | rfl | rfl | rfl | rfl | rfl | rfl | rfl | rfl | rfl | rfl | rfl | rfl | rfl | rfl | rfl | rfl | rfl | rfl | rfl | rfl | rfl | rfl
      · refine wpOp_step rfl (fun K' hK => ?_)
        clear hd hin
        go_simp
        exact hK _ _ ⟨updV xvb 0 (Value.pointer (some { block := a, off := 0 })), by simp [updV], hb, hG.same gk.out g0.out _ rfl⟩
      · refine wpOp_step rfl (fun K' hK => ?_)
        clear hd hin
        go_simp
        exact hK _ _ ⟨updV xvb 1 (Value.int IntKind.i64 ↑i), by simp [updV], hb, hG.same gk.out g1.out _ rfl⟩
      · refine wpOp_step rfl (fun K' hK => ?_)
        simp [Region.binds] at hd
        have e0 : xvb 0 = Value.pointer (some { block := a, off := 0 }) := hG.get g0.out (by simp [hd])
        have e1 : xvb 1 = Value.int IntKind.i64 ↑i := hG.get g1.out (by simp [hd])
        clear hd hin
        go_simp
        refine (G1.out Wb hb).mono ?_
        rintro e w' ⟨v, rfl, hv, hb'⟩
        go_wp2_with fail
        exact ⟨updV xvb 2 v, by simp [updV, e0, e1], hb.trans (hb'.mono hb.size), hG.step gk.out hb' g2.out v hv⟩
      · refine wpOp_step rfl (fun K' hK => ?_)
        simp [Region.binds] at hd
        have m2 : IsBs x0 (xvb 2) Wb := hG.get g2.out (by simp [hd])
        have kr := conv_bytes m2
        clear hd hin
        go_simp
        exact hK _ _ ⟨updV xvb 3 (.string (str x0)), by simp [updV], hb, hG.same gk.out g3.out _ rfl⟩
      · refine wpOp_step rfl (fun K' hK => ?_)
        clear hd hin
        go_simp
        exact hK _ _ ⟨updV xvb 4 (Value.slice a0 l0.length c0), by simp [updV], hb, hG.same gk.out g4.out _ rfl⟩
      · refine wpOp_step rfl (fun K' hK => ?_)
        clear hd hin
        go_simp
        exact hK _ _ ⟨updV xvb 5 (Value.int IntKind.i64 ↑n), by simp [updV], hb, hG.same gk.out g5.out _ rfl⟩
      · refine wpOp_step rfl (fun K' hK => ?_)
        simp [Region.binds] at hd
        have e4 : xvb 4 = Value.slice a0 l0.length c0 := hG.get g4.out (by simp [hd])
        have e5 : xvb 5 = Value.int IntKind.i64 ↑n := hG.get g5.out (by simp [hd])
        clear hd hin
        go_simp
        exact hK _ _ ⟨updV xvb 6 (.slice a0 n c0), by simp [updV, e4, e5], hb, hG.same gk.out g6.out _ rfl⟩
      · refine wpOp_step rfl (fun K' hK => ?_)
        simp [Region.binds] at hd
        have e6 : xvb 6 = .slice a0 n c0 := hG.get g6.out (by simp [hd])
        have kr := K0.out Wb hb
        clear hd hin
        go_simp
        exact hK _ _ ⟨updV xvb 7 (.string (str x0)), by simp [updV, e6], hb, hG.same gk.out g7.out _ rfl⟩
      · refine wpOp_step rfl (fun K' hK => ?_)
        simp [Region.binds] at hd
        have e3 : xvb 3 = .string (str x0) := hG.get g3.out (by simp [hd])
        have e7 : xvb 7 = .string (str x0) := hG.get g7.out (by simp [hd])
        clear hd hin
        go_simp
        exact hK _ _ ⟨updV xvb 8 (.bool true), by simp [updV, e3, e7], hb, hG.same gk.out g8.out _ rfl⟩
      · refine wpOp_step rfl (fun K' hK => ?_)
        simp [Region.binds] at hd
        have e8 : xvb 8 = .bool true := hG.get g8.out (by simp [hd])
        clear hd hin
        go_simp
        exact hK _ _ ⟨updV xvb 9 (.bool true), by simp [updV, e8], hb, hG.same gk.out g9.out _ rfl⟩
      · refine wpOp_step rfl (fun K' hK => ?_)
        simp [Region.binds] at hd
        have e9 : xvb 9 = .bool true := hG.get g9.out (by simp [hd])
        clear hd hin
        go_simp
        exact hK _ _ ⟨updV xvb 10 (Value.pointer (some { block := a, off := 0 })), by simp [updV, e9], hb, hG.same gk.out g10.out _ rfl⟩
      · refine wpOp_step rfl (fun K' hK => ?_)
        simp [Region.binds] at hd
        have e9 : xvb 9 = .bool true := hG.get g9.out (by simp [hd])
        clear hd hin
        go_simp
        exact hK _ _ ⟨updV xvb 11 (Value.int IntKind.i64 ↑k), by simp [updV, e9], hb, hG.same gk.out g11.out _ rfl⟩
      · refine wpOp_step rfl (fun K' hK => ?_)
        simp [Region.binds] at hd
        have e10 : xvb 10 = Value.pointer (some { block := a, off := 0 }) := hG.get g10.out (by simp [hd])
        have e11 : xvb 11 = Value.int IntKind.i64 ↑k := hG.get g11.out (by simp [hd])
        have e9 : xvb 9 = .bool true := hG.get g9.out (by simp [hd])
        clear hd hin
        go_simp
        refine (G2.out Wb hb).mono ?_
        rintro e w' ⟨v, rfl, hv, hb'⟩
        go_wp2_with fail
        exact ⟨updV xvb 12 v, by simp [updV, e10, e11, e9], hb.trans (hb'.mono hb.size), hG.step gk.out hb' g12.out v hv⟩
      · refine wpOp_step rfl (fun K' hK => ?_)
        simp [Region.binds] at hd
        have m12 : IsBs x1 (xvb 12) Wb := hG.get g12.out (by simp [hd])
        have e9 : xvb 9 = .bool true := hG.get g9.out (by simp [hd])
        have kr := conv_bytes m12
        clear hd hin
        go_simp
        exact hK _ _ ⟨updV xvb 13 (.string (str x1)), by simp [updV, e9], hb, hG.same gk.out g13.out _ rfl⟩
      · refine wpOp_step rfl (fun K' hK => ?_)
        simp [Region.binds] at hd
        have e9 : xvb 9 = .bool true := hG.get g9.out (by simp [hd])
        clear hd hin
        go_simp
        exact hK _ _ ⟨updV xvb 14 (Value.slice a1 l1.length c1), by simp [updV, e9], hb, hG.same gk.out g14.out _ rfl⟩
      · refine wpOp_step rfl (fun K' hK => ?_)
        simp [Region.binds] at hd
        have e9 : xvb 9 = .bool true := hG.get g9.out (by simp [hd])
        clear hd hin
        go_simp
        exact hK _ _ ⟨updV xvb 15 (Value.int IntKind.i64 ↑n), by simp [updV, e9], hb, hG.same gk.out g15.out _ rfl⟩
      · refine wpOp_step rfl (fun K' hK => ?_)
        simp [Region.binds] at hd
        have e14 : xvb 14 = Value.slice a1 l1.length c1 := hG.get g14.out (by simp [hd])
        have e15 : xvb 15 = Value.int IntKind.i64 ↑n := hG.get g15.out (by simp [hd])
        have e9 : xvb 9 = .bool true := hG.get g9.out (by simp [hd])
        clear hd hin
        go_simp
        exact hK _ _ ⟨updV xvb 16 (.slice a1 n c1), by simp [updV, e14, e15, e9], hb, hG.same gk.out g16.out _ rfl⟩
      · refine wpOp_step rfl (fun K' hK => ?_)
        simp [Region.binds] at hd
        have e16 : xvb 16 = .slice a1 n c1 := hG.get g16.out (by simp [hd])
        have e9 : xvb 9 = .bool true := hG.get g9.out (by simp [hd])
        have kr := K1.out Wb hb
        clear hd hin
        go_simp
        exact hK _ _ ⟨updV xvb 17 (.string (str x1)), by simp [updV, e16, e9], hb, hG.same gk.out g17.out _ rfl⟩
      · refine wpOp_step rfl (fun K' hK => ?_)
        simp [Region.binds] at hd
        have e13 : xvb 13 = .string (str x1) := hG.get g13.out (by simp [hd])
        have e17 : xvb 17 = .string (str x1) := hG.get g17.out (by simp [hd])
        have e9 : xvb 9 = .bool true := hG.get g9.out (by simp [hd])
        clear hd hin
        go_simp
        exact hK _ _ ⟨updV xvb 18 (.bool true), by simp [updV, e13, e17, e9], hb, hG.same gk.out g18.out _ rfl⟩
      · refine wpOp_step rfl (fun K' hK => ?_)
        simp [Region.binds] at hd
        have e9 : xvb 9 = .bool true := hG.get g9.out (by simp [hd])
        have e18 : xvb 18 = .bool true := hG.get g18.out (by simp [hd])
        clear hd hin
        go_simp
        exact hK _ _ ⟨updV xvb 19 (.bool true), by simp [updV, e9, e18], hb, hG.same gk.out g19.out _ rfl⟩
      · refine wpOp_step rfl (fun K' hK => ?_)
        simp [Region.binds] at hd
        have e19 : xvb 19 = .bool true := hG.get g19.out (by simp [hd])
        clear hd hin
        go_simp
        exact hK _ _ ⟨updV xvb 20 (.bool true), by simp [updV, e19], hb, hG.same gk.out g20.out _ rfl⟩
      · refine wpOp_step rfl (fun K' hK => ?_)
        simp [Region.binds] at hd
        have e20 : xvb 20 = .bool true := hG.get g20.out (by simp [hd])
        clear hd hin
        go_simp
        exact hK _ _ ⟨updV xvb 21 (Value.pointer (some { block := a, off := 0 })), by simp [updV, e20], hb, hG.same gk.out g21.out _ rfl⟩
      · refine wpOp_step rfl (fun K' hK => ?_)
        simp [Region.binds] at hd
        have e20 : xvb 20 = .bool true := hG.get g20.out (by simp [hd])
        clear hd hin
        go_simp
        exact hK _ _ ⟨updV xvb 22 (Value.int IntKind.i64 ↑i), by simp [updV, e20], hb, hG.same gk.out g22.out _ rfl⟩
      · refine wpOp_step rfl (fun K' hK => ?_)
        simp [Region.binds] at hd
        have e20 : xvb 20 = .bool true := hG.get g20.out (by simp [hd])
        clear hd hin
        go_simp
        exact hK _ _ ⟨updV xvb 23 (Value.int IntKind.i64 ↑i), by simp [updV, e20], hb, hG.same gk.out g23.out _ rfl⟩
      · refine wpOp_step rfl (fun K' hK => ?_)
        simp [Region.binds] at hd
        have e21 : xvb 21 = Value.pointer (some { block := a, off := 0 }) := hG.get g21.out (by simp [hd])
        have e22 : xvb 22 = Value.int IntKind.i64 ↑i := hG.get g22.out (by simp [hd])
        have e23 : xvb 23 = Value.int IntKind.i64 ↑i := hG.get g23.out (by simp [hd])
        have e20 : xvb 20 = .bool true := hG.get g20.out (by simp [hd])
        clear hd hin
        go_simp
        refine (N1.out Wb hb).mono ?_
        rintro e w' ⟨v, rfl, hv, hb'⟩
        go_wp2_with fail
        exact ⟨updV xvb 24 v, by simp [updV, e21, e22, e23, e20], hb.trans (hb'.mono hb.size), hG.step gk.out hb' g24.out v hv⟩
      · refine wpOp_step rfl (fun K' hK => ?_)
        simp [Region.binds] at hd
        have e24 : xvb 24 = .bool false := hG.get g24.out (by simp [hd])
        have e20 : xvb 20 = .bool true := hG.get g20.out (by simp [hd])
        clear hd hin
        go_simp
        exact hK _ _ ⟨updV xvb 25 (.bool true), by simp [updV, e24, e20], hb, hG.same gk.out g25.out _ rfl⟩
      · refine wpOp_step rfl (fun K' hK => ?_)
        simp [Region.binds] at hd
        have e20 : xvb 20 = .bool true := hG.get g20.out (by simp [hd])
        have e25 : xvb 25 = .bool true := hG.get g25.out (by simp [hd])
        clear hd hin
        go_simp
        exact hK _ _ ⟨updV xvb 26 (.bool true), by simp [updV, e20, e25], hb, hG.same gk.out g26.out _ rfl⟩
      · refine wpOp_step rfl (fun K' hK => ?_)
        simp [Region.binds] at hd
        have e26 : xvb 26 = .bool true := hG.get g26.out (by simp [hd])
        clear hd hin
        go_simp
        exact hK _ _ ⟨updV xvb 27 (.bool true), by simp [updV, e26], hb, hG.same gk.out g27.out _ rfl⟩
      · refine wpOp_step rfl (fun K' hK => ?_)
        simp [Region.binds] at hd
        have e27 : xvb 27 = .bool true := hG.get g27.out (by simp [hd])
        clear hd hin
        go_simp
        exact hK _ _ ⟨updV xvb 28 (Value.pointer (some { block := a, off := 0 })), by simp [updV, e27], hb, hG.same gk.out g28.out _ rfl⟩
      · refine wpOp_step rfl (fun K' hK => ?_)
        simp [Region.binds] at hd
        have e27 : xvb 27 = .bool true := hG.get g27.out (by simp [hd])
        clear hd hin
        go_simp
        exact hK _ _ ⟨updV xvb 29 (Value.int IntKind.i64 ↑i), by simp [updV, e27], hb, hG.same gk.out g29.out _ rfl⟩
      · refine wpOp_step rfl (fun K' hK => ?_)
        simp [Region.binds] at hd
        have e28 : xvb 28 = Value.pointer (some { block := a, off := 0 }) := hG.get g28.out (by simp [hd])
        have e29 : xvb 29 = Value.int IntKind.i64 ↑i := hG.get g29.out (by simp [hd])
        have e27 : xvb 27 = .bool true := hG.get g27.out (by simp [hd])
        clear hd hin
        go_simp
        refine (N2.out Wb hb).mono ?_
        rintro e w' ⟨v, rfl, hv, hb'⟩
        go_wp2_with fail
        exact ⟨updV xvb 30 v, by simp [updV, e28, e29, e27], hb.trans (hb'.mono hb.size), hG.step gk.out hb' g30.out v hv⟩
      · refine wpOp_step rfl (fun K' hK => ?_)
        simp [Region.binds] at hd
        have e30 : xvb 30 = .bool false := hG.get g30.out (by simp [hd])
        have e27 : xvb 27 = .bool true := hG.get g27.out (by simp [hd])
        clear hd hin
        go_simp
        exact hK _ _ ⟨updV xvb 31 (.bool true), by simp [updV, e30, e27], hb, hG.same gk.out g31.out _ rfl⟩
      · refine wpOp_step rfl (fun K' hK => ?_)
        simp [Region.binds] at hd
        have e27 : xvb 27 = .bool true := hG.get g27.out (by simp [hd])
        have e31 : xvb 31 = .bool true := hG.get g31.out (by simp [hd])
        clear hd hin
        go_simp
        exact hK _ _ ⟨updV xvb 32 (.bool true), by simp [updV, e27, e31], hb, hG.same gk.out g32.out _ rfl⟩
      · refine wpOp_step rfl (fun K' hK => ?_)
        simp [Region.binds] at hd
        have e32 : xvb 32 = .bool true := hG.get g32.out (by simp [hd])
        clear hd hin
        go_simp
        exact hK _ _ ⟨updV xvb 33 (.bool true), by simp [updV, e32], hb, hG.same gk.out g33.out _ rfl⟩
    · rintro listed ac Wb ⟨xvb, rfl, hb, hG⟩ hall
      have e33 : xvb 33 = .bool true := hG.get g33.out (hall 33 (by decide))
      have XW : Hid (Below W.heap.size W Wb) := hb
      clear hall hG hb gk g0 g1 g2 g3 g4 g5 g6 g7 g8 g9 g10 g11 g12 g13 g14 g15 g16 g17 g18 g19 g20 g21 g22 g23 g24 g25 g26 g27 g28 g29 g30 g31 g32 g33
      rw [e33]
      clear e33
      have hb : Below w1.heap.size w1 W := by rw [Ha.out]; exact X9.out
      have XZ : Hid (Below w.heap.size w Wb) := X1.out.trans ((hb.trans (XW.out.mono hb.size)).mono X1.out.size)
      clear hb
      go_wp2
      go_ret
      exact ⟨rfl, XZ.out⟩

end Go.Proofs.Ytpnjednghpbccaa
