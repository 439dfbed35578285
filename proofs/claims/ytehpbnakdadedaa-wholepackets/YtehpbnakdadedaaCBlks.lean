/-
  ComposeBlocks.
-/
import Derived.Test.YtehpbnakdadedaaCoS
import Derived.Test.YtehpbnakdadedaaZBase
namespace Go.Proofs.Ytehpbnakdadedaa
open Go.RowKit
set_option linter.unusedVariables false

theorem pr_nat {N B Q E F : Int} (h : May N B Q E F) : ∃ n b q A : Nat, N = (n : Int) ∧ B = (b : Int) ∧ Q = (q : Int) ∧ PrOk (n : Int) (b : Int) (q : Int) E F n q A := by
  obtain ⟨n, q, A, h1⟩ := PrOk.of h
  have hB := h.2.1
  obtain ⟨b, hb⟩ := Int.eq_ofNat_of_zero_le (show 0 ≤ B by omega)
  refine ⟨n, b, q, A, h1.en, hb, h1.eq, ?_⟩
  have e1 := h1.en
  have e2 := h1.eq
  subst e1; subst e2; subst hb
  exact h1

set_option maxRecDepth 100000 in
set_option maxHeartbeats 4000000 in
theorem composeBlocks_walk (N B Q E F : Int) (S : Nat) (ov : Value) (l : List UInt8) (w : World) (hS : S < 18446744073709551616) (ho : Bs w ov l) :
    Calls Try.prog 3 #[.agg #[.int .i64 N, .int .i64 B, .int .i64 Q, .int .i64 E, .int .i64 F], .int .u64 S, ov] w fun e w' => e = .returned (.bool true) ∧ Below w.heap.size w w' := by
  have HO : Hid (Bs w ov l) := ho
  have HS : Hid (S < 18446744073709551616) := hS
  obtain ⟨-, ao, cap, rfl, h2, h3, -, -⟩ := ho
  unfold maxLen at h3
  obtain ⟨n, hn⟩ : ∃ n, l.length = n := ⟨_, rfl⟩
  rw [hn] at h2 HO ⊢
  have HL : Hid (l.length = n) := hn
  clear hn hS
  have P0 : Hid (Five (w.alloc (.cells #[.int .i64 N, .int .i64 B, .int .i64 Q, .int .i64 E, .int .i64 F] 23)) w.heap.size N B Q E F) := five_new w _ N B Q E F
  go_enter Try.func3, Try.ntmps3
  go_wp2_with fail
  refine (speaks13_any _).mono ?_
  rintro e w1 ⟨rfl, hb⟩
  have B1 : Hid (Below w.heap.size w w1) := on_below (below_alloc _ _) hb
  have P1 : Hid (Five w1 w.heap.size N B Q E F) := P0.out.below hb
  clear hb P0
  obtain ⟨c0, c1, c2, c3, c4⟩ := P1.out
  go_wp2_with fail
  refine (big13_any N B Q E F w1).mono ?_
  rintro e w2 ⟨⟨b, rfl, hb⟩, hx⟩
  have B2 : Hid (Below w.heap.size w w2) := on_below B1.out hx
  have P2 : Hid (Five w2 w.heap.size N B Q E F) := P1.out.below hx
  clear hx B1 P1 c0 c1 c2 c3 c4
  cases b with
  | true =>
    clear hb
    go_wp2
    go_ret
    exact ⟨rfl, B2.out⟩
  | false =>
    have NB : Hid (¬ bigP N B) := fun h => by have := hb.2 h; cases this
    clear hb
    by_cases h4 : 4000 < n
    · go_wp2
      go_ret
      exact ⟨rfl, B2.out⟩
    have h4' : n ≤ 4000 := by omega
    obtain ⟨c0, c1, c2, c3, c4⟩ := P2.out
    by_cases hm : May N B Q E F
    · have hsm : N ≤ 60 ∧ B ≤ 60 := by have := NB.out; unfold bigP at this; omega
      clear NB
      obtain ⟨N, B, Q, A, rfl, rfl, rfl, hpr⟩ := pr_nat hm
      have CM : Hid (∀ W, Calls Try.prog 15 #[.agg #[.int .i64 (N : Int), .int .i64 (B : Int), .int .i64 (Q : Int), .int .i64 E, .int .i64 F]] W fun e w' => e = .returned (.bool true) ∧ Below W.heap.size W w') := fun W => rmay_yes N B Q E F W hm
      have hN60 : N ≤ 60 := by omega
      have hB60 : B ≤ 60 := by omega
      have HA : Hid (A ≤ 1000000) := may_small hpr (by omega)
      have PR : Hid (PrOk (N : Int) (B : Int) (Q : Int) E F N Q A) := hpr
      have hP : N * B ≤ 3600 := Nat.mul_le_mul hN60 hB60
      have wm : IntKind.i64.wrap ((N : Int) * (B : Int)) = ((N * B : Nat) : Int) := by rw [IntKind.wrap_i64]; simp; omega
      by_cases hl : n ≤ N * B
      · have CB : Hid (Calls Try.prog 14 #[.agg #[.int .i64 (N : Int), .int .i64 (B : Int), .int .i64 (Q : Int), .int .i64 E, .int .i64 F], .int .u64 (S : Int), .slice ao n cap] w2 fun e w' => ∃ a c vs, e = .returned (.tuple #[.slice a (N + A) c, .int .i64 0]) ∧ w'.ownsRow w2.heap.size 25 1 (.slice a (N + A) c) (N + A) vs ∧ RowsB w2.heap.size w' vs (compD N B (hasR S A Q N) l) ∧ Below w2.heap.size w2 w') := cblocks_yes N B Q A S E F _ l w2 PR.out HS.out (HO.out.below B2.out) (by rw [HL.out]; exact hl)
        have CR : Hid (∀ W, Below w2.heap.size w2 W → Calls Try.prog 17 #[.agg #[.int .i64 (N : Int), .int .i64 (B : Int), .int .i64 (Q : Int), .int .i64 E, .int .i64 F], .int .u64 (S : Int), .slice ao n cap] W fun e w' => ∃ a c vs, e = .returned (.slice a (N + A) c) ∧ w'.ownsRow W.heap.size 25 1 (.slice a (N + A) c) (N + A) vs ∧ RowsB W.heap.size w' vs (compD N B (hasR S A Q N) l) ∧ Below W.heap.size W w') := fun W hW => rcblocks_own N B Q A S E F _ l W PR.out HS.out (by omega) (by omega) HA.out (HO.out.below (on_below B2.out hW))
        have RC : Hid (RightP N B A (hasR S A Q N) (n : Int) (compD N B (hasR S A Q N) l)) := by
          have := right_comp (l := l) (B := B) (hasR_rw S A Q N) (by rw [HL.out]; exact hl)
          rw [HL.out] at this
          exact this
        have hle : ¬ (n : Int) > ((N * B : Nat) : Int) := by omega
        clear hl hP hm hpr hsm
        generalize N * B = P at *
        obtain ⟨D, hD⟩ : ∃ D, compD N B (hasR S A Q N) l = D := ⟨_, rfl⟩
        rw [hD] at CB CR RC
        clear hD
        go_wp2_with fail
        refine CB.out.mono ?_
        rintro e w3 ⟨a3, k3, vs3, rfl, ho3, hr3, hb3⟩
        have B3 : Hid (Below w.heap.size w w3) := on_below B2.out hb3
        have P3 : Hid (Five w3 w.heap.size N B Q E F) := P2.out.below hb3
        have X3 : Hid (Below w2.heap.size w2 w3) := hb3
        have S3 : Hid (Sl 1 w3 (.slice a3 (N + A) k3) vs3.length vs3 ∧ Parts w3 vs3 D) := by
          have e : vs3.length = N + A := by have := ho3.1; omega
          exact ⟨by rw [e]; exact owned_sl ho3, hr3.parts⟩
        clear ho3 hr3 hb3 CB P2 c0 c1 c2 c3 c4
        obtain ⟨c0, c1, c2, c3, c4⟩ := P3.out
        go_wp2_with fail
        refine (CM.out _).mono ?_
        rintro e w4 ⟨rfl, hb4⟩
        have B4 : Hid (Below w.heap.size w w4) := on_below B3.out hb4
        have P4 : Hid (Five w4 w.heap.size N B Q E F) := P3.out.below hb4
        have X4 : Hid (Below w2.heap.size w2 w4) := on_below X3.out hb4
        have S4 : Hid (Sl 1 w4 (.slice a3 (N + A) k3) vs3.length vs3 ∧ Parts w4 vs3 D) := ⟨S3.out.1.below hb4, S3.out.2.below hb4⟩
        clear hb4 CM P3 S3 X3 B3 c0 c1 c2 c3 c4
        obtain ⟨c0, c1, c2, c3, c4⟩ := P4.out
        go_wp2_with fail
        refine (CR.out _ X4.out).mono ?_
        rintro e w5 ⟨a5, k5, vs5, rfl, ho5, hr5, hb5⟩
        have B5 : Hid (Below w.heap.size w w5) := on_below B4.out hb5
        have P5 : Hid (Five w5 w.heap.size N B Q E F) := P4.out.below hb5
        have S5 : Hid (Sl 1 w5 (.slice a3 (N + A) k3) vs3.length vs3 ∧ Parts w5 vs3 D) := ⟨S4.out.1.below hb5, S4.out.2.below hb5⟩
        have T5 : Hid (Sl 1 w5 (.slice a5 (N + A) k5) vs5.length vs5 ∧ Parts w5 vs5 D) := by
          have e : vs5.length = N + A := by have := ho5.1; omega
          exact ⟨by rw [e]; exact owned_sl ho5, hr5.parts⟩
        clear ho5 hr5 hb5 CR P4 S4 X4 B4 c0 c1 c2 c3 c4
        go_wp2_with fail
        refine (same13_any _ _ vs3 vs5 D D w5 S5.out.1 S5.out.2 T5.out.1 T5.out.2).mono ?_
        rintro e w6 ⟨⟨b, rfl, hb⟩, hx⟩
        obtain rfl : b = true := hb.2 rfl
        have B6 : Hid (Below w.heap.size w w6) := on_below B5.out hx
        have P6 : Hid (Five w6 w.heap.size N B Q E F) := P5.out.below hx
        have S6 : Hid (Sl 1 w6 (.slice a3 (N + A) k3) vs3.length vs3 ∧ Parts w6 vs3 D) := ⟨S5.out.1.below hx, S5.out.2.below hx⟩
        clear hb hx P5 S5 T5 B5
        obtain ⟨c0, c1, c2, c3, c4⟩ := P6.out
        go_wp2_with fail
        refine (cright_any N B Q A S E F n _ vs3 D w6 PR.out HS.out (by omega) (by omega) S6.out.1 S6.out.2).mono ?_
        rintro e w7 ⟨⟨b, rfl, hb⟩, hx⟩
        obtain rfl : b = true := hb.2 RC.out
        have B7 : Hid (Below w.heap.size w w7) := on_below B6.out hx
        clear hb hx P6 S6 B6 c0 c1 c2 c3 c4
        go_wp2
        go_ret
        exact ⟨rfl, B7.out⟩
      · have CB : Hid (Calls Try.prog 14 #[.agg #[.int .i64 (N : Int), .int .i64 (B : Int), .int .i64 (Q : Int), .int .i64 E, .int .i64 F], .int .u64 (S : Int), .slice ao n cap] w2 fun e w' => e = .returned (.tuple #[.slice none 0 0, .int .i64 10]) ∧ Below w2.heap.size w2 w') := cblocks_long N B Q E F S _ l w2 hm (HO.out.below B2.out) (by rw [HL.out]; exact hl)
        have hgt : (n : Int) > ((N * B : Nat) : Int) := by omega
        clear hl hP hm hpr hsm
        generalize N * B = P at *
        go_wp2_with fail
        refine CB.out.mono ?_
        rintro e w3 ⟨rfl, hb3⟩
        have B3 : Hid (Below w.heap.size w w3) := on_below B2.out hb3
        have P3 : Hid (Five w3 w.heap.size N B Q E F) := P2.out.below hb3
        clear hb3 CB P2 c0 c1 c2 c3 c4
        obtain ⟨c0, c1, c2, c3, c4⟩ := P3.out
        go_wp2_with fail
        refine (CM.out _).mono ?_
        rintro e w4 ⟨rfl, hb4⟩
        have B4 : Hid (Below w.heap.size w w4) := on_below B3.out hb4
        have P4 : Hid (Five w4 w.heap.size N B Q E F) := P3.out.below hb4
        clear hb4 CM P3 B3 c0 c1 c2 c3 c4
        obtain ⟨c0, c1, c2, c3, c4⟩ := P4.out
        go_wp2
        go_ret
        exact ⟨rfl, B4.out⟩
    · have CB : Hid (Calls Try.prog 14 #[.agg #[.int .i64 N, .int .i64 B, .int .i64 Q, .int .i64 E, .int .i64 F], .int .u64 (S : Int), .slice ao n cap] w2 fun e w' => e = .returned (.tuple #[.slice none 0 0, .int .i64 1]) ∧ Below w2.heap.size w2 w') := cblocks_no N B Q E F S _ ao n cap w2 hm rfl
      have CM : Hid (∀ W, Calls Try.prog 15 #[.agg #[.int .i64 N, .int .i64 B, .int .i64 Q, .int .i64 E, .int .i64 F]] W fun e w' => e = .returned (.bool false) ∧ Below W.heap.size W w') := fun W => rmay_no N B Q E F W hm
      clear hm NB
      go_wp2_with fail
      refine CB.out.mono ?_
      rintro e w3 ⟨rfl, hb3⟩
      have B3 : Hid (Below w.heap.size w w3) := on_below B2.out hb3
      have P3 : Hid (Five w3 w.heap.size N B Q E F) := P2.out.below hb3
      clear hb3 CB P2 c0 c1 c2 c3 c4
      obtain ⟨c0, c1, c2, c3, c4⟩ := P3.out
      go_wp2_with fail
      refine (CM.out _).mono ?_
      rintro e w4 ⟨rfl, hb4⟩
      have B4 : Hid (Below w.heap.size w w4) := on_below B3.out hb4
      clear hb4 CM P3 B3 c0 c1 c2 c3 c4
      go_wp2
      go_ret
      exact ⟨rfl, B4.out⟩

theorem composeBlocks_law (N B Q E F S : Int) (ov : Value) (l : List UInt8) (w : World) (hw : Ok .i64 N ∧ Ok .i64 B ∧ Ok .i64 Q ∧ Ok .i64 E ∧ Ok .i64 F) (hS : (Lit.int .u64 S).wf = true) (ho : Bs w ov l) :
    Calls Try.prog 3 #[.agg #[.int .i64 N, .int .i64 B, .int .i64 Q, .int .i64 E, .int .i64 F], .int .u64 S, ov] w fun e w' => e = .returned (.bool true) ∧ Below w.heap.size w w' := by
  simp [Lit.wf, IntKind.min, IntKind.max, IntKind.bits, IntKind.signed] at hS
  obtain ⟨s, rfl⟩ : ∃ s : Nat, S = s := ⟨S.toNat, by omega⟩
  exact composeBlocks_walk N B Q E F s ov l w (by omega) ho

end Go.Proofs.Ytehpbnakdadedaa
