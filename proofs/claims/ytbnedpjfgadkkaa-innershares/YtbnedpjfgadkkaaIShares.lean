/-
  InnerShares.
-/
import Derived.Test.YtbnedpjfgadkkaaInS
import Derived.Test.YtbnedpjfgadkkaaIShK
import Derived.Test.YtbnedpjfgadkkaaLStruct
namespace Go.Proofs.Ytbnedpjfgadkkaa
open Go.RowKit
set_option linter.unusedVariables false

theorem seedStep_eq (x y : Nat) : seedStep x y = mix (addS x ^^^ y) := rfl
theorem seed3_is (S id : Nat) : seedTo 0 [S, 2, id] = mix (state2 S ^^^ id) := by
  unfold seedTo
  rw [List.foldl_cons, List.foldl_cons, List.foldl_cons, List.foldl_nil]
  unfold state2
  rw [seedStep_eq (seedStep (seedStep 0 S) 2) id]

theorem below21 : belowN 2 1000 1 = 4611686018427387904 := by decide

theorem oneOf_no {S id u : Nat} (hu : mix (addS (seedTo 0 [S, 2, id])) = u) (h : 4611686018427387904 ≤ u) : oneOf S id = 0 := by
  unfold oneOf hitG
  rw [seed3_is] at hu
  rw [hu, if_pos h]
theorem oneOf_yes {S id u : Nat} (hu : mix (addS (seedTo 0 [S, 2, id])) = u) (h : ¬ 4611686018427387904 ≤ u) : oneOf S id = 1 := by
  unfold oneOf hitG
  rw [seed3_is] at hu
  rw [hu, if_neg h]

theorem chk_two {S A id k : Nat} {l : List Int} (hA : 2 ≤ A) (hc : Chk 2 1000 S A id k l) : (k = 1 ∧ oneOf S id = 1) ∨ (k = 2 ∧ oneOf S id = 0) := by
  obtain ⟨s0, s1, u, d, t', h0, h1, h2, hd, hk, -⟩ := hc
  have hu : mix (addS (seedTo 0 [S, 2, id])) = u := by rw [h0, h1, h2]
  have lo := hd.lo
  have hi := hd.hi
  by_cases h : d = 1
  · subst h
    left
    have := hd.at_ (by decide)
    rw [below21] at this
    exact ⟨by rw [← hk]; unfold howMany; split <;> omega, oneOf_yes hu (by omega)⟩
  · obtain rfl : d = 2 := by omega
    right
    have := hd.past 1 (by decide) (by decide)
    rw [below21] at this
    exact ⟨by rw [← hk]; unfold howMany; split <;> omega, oneOf_no hu this⟩

theorem may_50 : May 50 1 1 ((1000 : Nat) : Int) ((2 : Nat) : Int) := ⟨by omega, by omega, by omega, by omega, by omega, by decide⟩
theorem all_50 : (50 : Int) + aux 50 1 ((1000 : Nat) : Int) = ((78 : Nat) : Int) := by decide

theorem oneOf_le (S id : Nat) : oneOf S id ≤ 1 := hitG_le _ _ _ _ _

set_option maxRecDepth 100000 in
set_option maxHeartbeats 2000000 in
theorem innerShares_core (sd S : Nat) (h : Nat → Nat) (w : World) (hS : sd % 64 = S) (hc : ∀ id k l, Chk 2 1000 S 78 id k l → (k = 1 ∧ h id = 1) ∨ (k = 2 ∧ h id = 0)) (hl : ∀ id, h id ≤ 1) (hr : 701 ≤ cntR h 4000 0 ∧ cntR h 4000 0 ≤ 1299) :
    Calls Try.prog 5 #[.int .u64 (sd : Int)] w fun e w' => e = .returned (.bool true) ∧ Below w.heap.size w w' := by
  have hS64 : S < 64 := by omega
  have e1 : (sd : Int) % 64 = (S : Int) := by omega
  have HC : Hid (∀ id k l, Chk 2 1000 S 78 id k l → (k = 1 ∧ h id = 1) ∨ (k = 2 ∧ h id = 0)) := hc
  have HL : Hid (∀ n, cntR h n 0 ≤ n) := fun n => cntR_le h hl n 0
  have HR : Hid (701 ≤ cntR h 4000 0 ∧ cntR h 4000 0 ≤ 1299) := hr
  have CN : Hid (∀ W, Calls Try.prog 12 #[.agg #[.int .i64 50, .int .i64 1, .int .i64 1, .int .i64 1000, .int .i64 2], .int .u64 (S : Int)] W fun e w' => ∃ a t, e = .returned (.tuple #[.pointer (some ⟨a, 0, none⟩), .int .i64 0]) ∧ W.heap.size ≤ a ∧ IsSrc w' a t 2 1000 S 78 ∧ Below W.heap.size W w') := fun W => inew_yes 50 1 1 1000 2 S 78 W may_50 all_50
  have CB : Hid (∀ id, id < 4000 → ∃ k, ((k = 1 ∧ h id = 1) ∨ (k = 2 ∧ h id = 0)) ∧ ∀ W a t, IsSrc W a t 2 1000 S 78 → Calls Try.prog 15 #[.pointer (some ⟨a, 0, none⟩), .int .u64 (id : Int)] W fun e w' => ∃ b c, e = .returned (.slice b k c) ∧ Below W.heap.size W w') := by
    intro id hid
    obtain ⟨k, l, hch⟩ := chk_is 1000 S 78 id (F := 2) (by decide)
    refine ⟨k, HC.out id k l hch, fun W a t h => (iblocks_chk hch a t W h mayD_21000 (by decide) (by omega) (by omega)).mono ?_⟩
    rintro e w' ⟨b, c, rfl, -, hb⟩
    exact ⟨b, c, rfl, hb⟩
  clear hc hl hr hS HC
  go_enter Try.func5, Try.ntmps5
  go_wp2_with fail
  refine (speaks11_any _).mono ?_
  rintro e w1 ⟨rfl, hb⟩
  have B1 : Hid (Below w.heap.size w w1) := hb
  clear hb
  go_upto_region 4 with fail
  obtain ⟨w2, hw2⟩ : ∃ w2, (w1.alloc (.cells #[.int .i64 50, .int .i64 1, .int .i64 1, .int .i64 1000, .int .i64 2] 23)) = w2 := ⟨_, rfl⟩
  have B2 : Hid (Below w.heap.size w w2) := by rw [← hw2]; exact below_on B1.out (below_alloc _ _)
  have P2 : Hid (Five w2 w1.heap.size 50 1 1 1000 2) := by rw [← hw2]; exact five_new w1 _ _ _ _ _ _
  rw [hw2]
  clear hw2 B1
  obtain ⟨c0, c1, c2, c3, c4⟩ := P2.out
  go_wp2_with fail
  refine (CN.out _).mono ?_
  rintro e w3 ⟨a, t, rfl, -, hs, hb⟩
  have B3 : Hid (Below w.heap.size w w3) := below_on B2.out hb
  have S3 : Hid (IsSrc w3 a t 2 1000 S 78) := hs
  clear hb hs CN c0 c1 c2 c3 c4 P2 B2
  go_wp2
  go_loopw [6, 24] (fun ov iv wr => ∃ (i c : Nat), i ≤ 4000 ∧ c ≤ 4000 ∧ iv = .int .u64 (i : Int) ∧ ov = .int .i64 (c : Int) ∧ Hid (c = cntR h i 0) ∧ Hid (IsSrc wr a t 2 1000 S 78) ∧ Hid (Below w.heap.size w wr)) (fun _ iv _ => 4000 - (intOf iv).toNat)
  case atStart => exact ⟨0, 0, by omega, by omega, rfl, rfl, rfl, S3, B3⟩
  case round =>
    obtain ⟨i, c, hi, hc, rfl, rfl, HE, SS, BB⟩ := hrel
    clear S3 B3
    by_cases hlt : i < 4000
    · obtain ⟨k, hk, CBi⟩ := CB.out i hlt
      have HK : Hid ((k = 1 ∧ h i = 1) ∨ (k = 2 ∧ h i = 0)) := hk
      have CI : Hid (Calls Try.prog 15 #[.pointer (some ⟨a, 0, none⟩), .int .u64 (i : Int)] wr fun e w' => ∃ b c, e = .returned (.slice b k c) ∧ Below wr.heap.size wr w') := CBi wr a t SS.out
      have HN : Hid (cntR h (i + 1) 0 = c + h i) := by unfold Hid; rw [cntR_last, ← HE.out, Nat.zero_add]
      have HLn : Hid (cntR h (i + 1) 0 ≤ i + 1) := HL.out (i + 1)
      clear hk CBi HE
      go_wp2_with fail
      refine CI.out.mono ?_
      rintro e w4 ⟨b, k4, rfl, hb⟩
      have B4 : Hid (Below w.heap.size w w4) := below_on BB.out hb
      have S4 : Hid (IsSrc w4 a t 2 1000 S 78) := SS.out.below hb
      clear hb CI SS BB
      rcases HK.out with ⟨rfl, h1⟩ | ⟨rfl, h1⟩
      · have HN2 : Hid (c + 1 = cntR h (i + 1) 0) := by unfold Hid; rw [HN.out, h1]
        have hc1 : c + 1 ≤ 4000 := by have := HLn.out; rw [← HN2.out] at this; omega
        clear h1 HN HLn HK
        go_wp2
        go_roundw
        case rel => exact ⟨i + 1, c + 1, by omega, hc1, by go_num, by go_num, HN2, S4, B4⟩
        case measure => simp [intOf]; omega
      · have HN2 : Hid (c = cntR h (i + 1) 0) := by unfold Hid; rw [HN.out, h1, Nat.add_zero]
        clear h1 HN HLn HK
        go_wp2
        go_roundw
        case rel => exact ⟨i + 1, c, by omega, hc, by go_num, rfl, HN2, S4, B4⟩
        case measure => simp [intOf]; omega
    · obtain rfl : i = 4000 := by omega
      have h1 : (c : Int) > 700 := by have := HR.out; rw [← HE.out] at this; omega
      have h2 : (c : Int) < 1300 := by have := HR.out; rw [← HE.out] at this; omega
      clear HE SS
      go_wp2
      go_ret
      exact ⟨rfl, BB.out⟩

theorem innerShares_law (seed : Int) (w : World) (hs : (Lit.int .u64 seed).wf = true) :
    Calls Try.prog 5 #[.int .u64 seed] w fun e w' => e = .returned (.bool true) ∧ Below w.heap.size w w' := by
  simp [Lit.wf, IntKind.min, IntKind.max, IntKind.bits, IntKind.signed] at hs
  obtain ⟨n, rfl⟩ : ∃ s : Nat, seed = s := ⟨seed.toNat, by omega⟩
  exact innerShares_core n (n % 64) (oneOf (n % 64)) w rfl (fun id k l hc => chk_two (by decide) hc) (oneOf_le _) (okS_is (okS_any (n % 64) (Nat.mod_lt _ (by decide))))

end Go.Proofs.Ytbnedpjfgadkkaa
