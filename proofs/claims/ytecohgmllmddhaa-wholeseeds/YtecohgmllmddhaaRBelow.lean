/-
  RngBelow.
-/
import Derived.Test.YtecohgmllmddhaaRDraws
import Derived.Test.YtecohgmllmddhaaLApp
namespace Go.Proofs.Ytecohgmllmddhaa
open Go.RowKit
set_option linter.unusedVariables false

theorem Try.infoU64 : (Try.prog.info? 22).map (fun i => (i.zero, i.size, i.bytes)) = some (some (.int .u64 0), 1, 8) := by kernel_rfl

theorem uv_oneCell (l : List Nat) : ∀ u ∈ l.map uv, u.oneCell' = true := by
  intro u hu
  obtain ⟨x, _, rfl⟩ := List.mem_map.1 hu
  rfl

/-- What is drawn is from 0 on, below. -/
theorem belowD_in (s : Nat) (n : Int) : 0 ≤ (belowD s n).2 ∧ (1 ≤ n → (belowD s n).2 < n) ∧ (n < 1 → (belowD s n).2 = 0) := by
  by_cases h1 : n < 1
  · rw [belowD_none h1]
    exact ⟨Int.le_refl _, fun h => by omega, fun _ => rfl⟩
  · rw [belowD_some h1]
    generalize (fairD (fewOf n.toNat) 15 s) = x
    have := Nat.mod_lt x.2 (show 0 < n.toNat by omega)
    refine ⟨Int.natCast_nonneg _, fun h => ?_, fun h => (h1 h).elim⟩
    show ((x.2 % n.toNat : Nat) : Int) < n
    omega

/-- Two that draw alike. -/
def TwoI (w : World) (r q s : Nat) (wr : World) : Prop := IsRand wr r s ∧ IsRand wr q s ∧ Below w.heap.size w wr

theorem TwoI.fst {w wr w1 : World} {r q s t : Nat} (h : TwoI w r q s wr) (hr : w.heap.size ≤ r) (hn : q ≠ r) (h1 : IsRand w1 r t) (hk : KeepsBut (fun k => k = r) wr w1) : IsRand w1 q s ∧ Below w.heap.size w w1 := ⟨h.2.1.keeps hk hn, h.2.2.trans (hk.below h.2.2.size (fun k e => by omega))⟩

set_option maxRecDepth 100000 in
set_option maxHeartbeats 1000000 in
/-- RngBelow. -/
theorem rngBelow_walk (v0 : Value) (l : List Nat) (n : Int) (M : Nat) (w : World) (h0 : Us w v0 l) (hn : n < 9223372036854775808) (hM : M < 256) :
    Calls Try.prog 6 #[v0, .int .i64 n, .int .u8 M] w fun e w' => e = .returned (.bool true) ∧ Below w.heap.size w w' := by
  obtain ⟨i0, hi, hz0, hz1, hz2⟩ := info_parts Try.infoU64
  have HU : Hid (Us w v0 l) := h0
  have HN : Hid (n < 9223372036854775808) := hn
  clear hn
  obtain ⟨⟨-, a0, c0, rfl, hn0, hc0, -, -⟩, -⟩ := h0
  obtain ⟨m, hm⟩ : ∃ m, l.length = m := ⟨_, rfl⟩
  have HM : Hid (l.length = m) := hm
  rw [hm] at hn0 HU ⊢
  clear hm
  unfold maxLen at hc0
  by_cases hb : m ≤ 50
  · go_enter Try.func6, Try.ntmps6
    go_wp2_with fail
    refine (speaks7_any _).mono ?_
    rintro e w1 ⟨rfl, hb1⟩
    have B1 : Hid (Below w.heap.size w w1) := hb1
    clear hb1
    go_wp2_with fail
    refine (rnew_any _ l _ (HU.out.below (B1.out))).mono ?_
    rintro e w2 ⟨rfl, hr2, hb2, hz2'⟩
    have R2 : Hid (IsRand w2 w1.heap.size (seedTo 0 l)) := hr2
    have B2 : Hid (Below w.heap.size w w2) := B1.out.trans (hb2.mono B1.out.size)
    have HR : Hid (w.heap.size ≤ w1.heap.size) := B1.out.size
    have HR2 : Hid (w1.heap.size < w2.heap.size) := by unfold Hid; omega
    generalize w1.heap.size = r at *
    clear hr2 hb2 hz2' B1
    have hO1 : (w2.alloc (.cells #[] 22)).ownsRow w2.heap.size 22 1 (.slice (some ⟨w2.heap.size, 0, none⟩) 0 0) 0 [] := World.ownsRow_lit w2 #[] 0 (Nat.le_refl _) (by simp [maxLen]) rfl
    have HS1 : Hid (Sl 1 (w2.alloc (.cells #[] 22)) (.slice a0 m c0) m (l.map uv)) := by
      have h := (HU.out.below B2.out).below (below_alloc w2 (.cells #[] 22))
      have h2 := h.1
      rw [HM.out] at h2
      exact h2
    go_wp2_with (at_builtin; (refine wpList_app _ rfl (.tmp 17) (.tmp 18) 45 rfl w2.heap.size 22 i0 (.int .u64 0) 1 8 Try.underlying45 hi hz0 hz1 hz2 rfl (by decide) (.slice (some ⟨w2.heap.size, 0, none⟩) 0 0) 0 [] rfl hO1 (.slice a0 m c0) m (l.map uv) rfl HS1.out (uv_oneCell _) (by unfold maxLen; omega) (by omega) (by simp) ?_); intro a3 c3 w3 ho3 hg3 hat3 hne3 hnc3 hcm3; simp only [Nat.zero_add, List.nil_append] at ho3; have X3 : Hid (Below w2.heap.size w2 w3) := ((Below.refl _ _).alloc (Nat.le_refl _) _).grown hg3 (by simp) (fun k hk => (hO1.lt k hk).1); clear hg3 hat3 hne3 hO1 HS1; have O3 : Hid (w3.ownsRow w2.heap.size 22 1 (.slice a3 m c3) m (l.map uv)) := ho3; clear ho3)
    have US3 : Hid (Us w3 (.slice a3 m c3) l) := by
      refine ⟨?_, HU.out.2⟩
      have h := owned_sl O3.out
      rw [HM.out]
      exact h
    have R3 : Hid (IsRand w3 r (seedTo 0 l)) := R2.out.below X3.out
    have B3 : Hid (Below w.heap.size w w3) := B2.out.trans (X3.out.mono B2.out.size)
    have HR3 : Hid (r < w3.heap.size) := by have := HR2.out; have := X3.out.size; unfold Hid; omega
    clear R2 B2 X3 O3 HR2 HU
    refine (rnew_any _ l _ US3.out).mono ?_
    rintro e w4 ⟨rfl, hr4, hb4, hz4⟩
    have T4 : Hid (TwoI w r w3.heap.size (seedTo 0 l) w4) := ⟨R3.out.below hb4, hr4, B3.out.trans (hb4.mono B3.out.size)⟩
    have HQ : Hid (w.heap.size ≤ w3.heap.size) := B3.out.size
    clear hr4 hb4 hz4 R3 B3 US3
    generalize w3.heap.size = q at *
    generalize seedTo 0 l = s0 at *
    go_wp2
    go_loopw [22] (fun i wr => ∃ (k s : Nat), k ≤ M ∧ i = .int .u8 k ∧ Hid (TwoI w r q s wr)) (fun i _ => M - (intOf i).toNat)
    case atStart => exact ⟨0, s0, by omega, rfl, T4⟩
    case round =>
      obtain ⟨k, s, hk, rfl, T⟩ := hrel
      clear T4
      by_cases hlt : k < M
      · have H1 : Hid (∀ W, IsRand W r s → Calls Try.prog 26 #[.pointer (some ⟨r, 0, none⟩), .int .i64 n] W fun e w' => e = .returned (.int .i64 (belowD s n).2) ∧ IsRand w' r (belowD s n).1 ∧ KeepsBut (fun k => k = r) W w' ∧ w'.heap.size = W.heap.size) := fun W h => rbelow_any r s n W h HN.out
        have H2 : Hid (∀ W, IsRand W q s → Calls Try.prog 26 #[.pointer (some ⟨q, 0, none⟩), .int .i64 n] W fun e w' => e = .returned (.int .i64 (belowD s n).2) ∧ IsRand w' q (belowD s n).1 ∧ KeepsBut (fun k => k = q) W w' ∧ w'.heap.size = W.heap.size) := fun W h => rbelow_any q s n W h HN.out
        obtain ⟨g1, g2, g3⟩ := belowD_in s n
        generalize belowD s n = x at *
        obtain ⟨t, y⟩ := x
        dsimp only at H1 H2 g1 g2 g3
        go_wp2_with fail
        refine (H1.out _ T.out.1).mono ?_
        rintro e w5 ⟨rfl, hr5, hk5, hz5⟩
        have T5 : Hid (IsRand w5 r t ∧ IsRand w5 q s ∧ Below w.heap.size w w5) := ⟨hr5, T.out.fst HR.out (Nat.ne_of_gt HR3.out) hr5 hk5⟩
        clear hr5 hk5 hz5 T H1
        go_wp2_with fail
        refine (H2.out _ T5.out.2.1).mono ?_
        rintro e w6 ⟨rfl, hr6, hk6, hz6⟩
        have T6 : Hid (TwoI w r q t w6) := ⟨T5.out.1.keeps hk6 (Nat.ne_of_lt HR3.out), hr6, T5.out.2.2.trans (hk6.below T5.out.2.2.size (fun k e => by have := HQ.out; omega))⟩
        clear hr6 hk6 hz6 T5 H2
        by_cases hn1 : n < 1
        · have hy := g3 hn1
          clear g1 g2 g3
          subst hy
          go_wp2
          go_roundw
          case rel => exact ⟨k + 1, t, by omega, by go_num, T6⟩
          case measure => simp [intOf]; omega
        · have hy := g2 (by omega)
          clear g2 g3
          go_wp2
          go_roundw
          case rel => exact ⟨k + 1, t, by omega, by go_num, T6⟩
          case measure => simp [intOf]; omega
      · have H1 : Hid (∀ W, IsRand W r s → Calls Try.prog 24 #[.pointer (some ⟨r, 0, none⟩)] W fun e w' => e = .returned (.int .u64 (mix (addS s) : Nat)) ∧ IsRand w' r (addS s) ∧ KeepsBut (fun k => k = r) W w' ∧ w'.heap.size = W.heap.size) := fun W h => rnd_next r s W h
        have H2 : Hid (∀ W, IsRand W q s → Calls Try.prog 24 #[.pointer (some ⟨q, 0, none⟩)] W fun e w' => e = .returned (.int .u64 (mix (addS s) : Nat)) ∧ IsRand w' q (addS s) ∧ KeepsBut (fun k => k = q) W w' ∧ w'.heap.size = W.heap.size) := fun W h => rnd_next q s W h
        generalize mix (addS s) = y at *
        generalize addS s = t at *
        go_wp2_with fail
        refine (H1.out _ T.out.1).mono ?_
        rintro e w5 ⟨rfl, hr5, hk5, hz5⟩
        have T5 : Hid (IsRand w5 r t ∧ IsRand w5 q s ∧ Below w.heap.size w w5) := ⟨hr5, T.out.fst HR.out (Nat.ne_of_gt HR3.out) hr5 hk5⟩
        clear hr5 hk5 hz5 T H1
        go_wp2_with fail
        refine (H2.out _ T5.out.2.1).mono ?_
        rintro e w6 ⟨rfl, hr6, hk6, hz6⟩
        have T6 : Hid (Below w.heap.size w w6) := T5.out.2.2.trans (hk6.below T5.out.2.2.size (fun k e => by have := HQ.out; omega))
        clear hr6 hk6 hz6 T5 H2
        go_wp2
        go_ret
        exact ⟨rfl, T6.out⟩
  · go_enter Try.func6, Try.ntmps6
    go_wp2_with fail
    refine (speaks7_any _).mono ?_
    rintro e w1 ⟨rfl, hb1⟩
    have B1 : Hid (Below w.heap.size w w1) := hb1
    clear hb1
    go_wp2
    go_ret
    exact ⟨rfl, B1.out⟩

theorem u8_nat {x : Int} (h : (Lit.int .u8 x).wf = true) : ∃ n : Nat, x = n ∧ n < 256 := by
  simp [Lit.wf, IntKind.min, IntKind.max, IntKind.bits, IntKind.signed] at h
  exact ⟨x.toNat, by omega, by omega⟩

theorem rngBelow_law (v0 : Value) (l : List Int) (n M : Int) (w : World) (h0 : Sl 1 w v0 l.length (l.map (Value.int .u64))) (k0 : ∀ z ∈ l, (Lit.int .u64 z).wf = true) (hn : (Lit.int .i64 n).wf = true) (hM : (Lit.int .u8 M).wf = true) :
    Calls Try.prog 6 #[v0, .int .i64 n, .int .u8 M] w fun e w' => e = .returned (.bool true) ∧ Below w.heap.size w w' := by
  obtain ⟨s, hs⟩ := us_of h0 k0
  obtain ⟨m, rfl, hm⟩ := u8_nat hM
  exact rngBelow_walk v0 s n m w hs (i64_bounds hn).2 hm

end Go.Proofs.Ytecohgmllmddhaa
