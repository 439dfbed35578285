/-
  SegmentBack.
-/
import Derived.Test.YtbnedpjfgadkkaaSegS
import Derived.Test.YtbnedpjfgadkkaaLStruct
namespace Go.Proofs.Ytbnedpjfgadkkaa
open Go.RowKit
set_option linter.unusedVariables false

theorem may_nb {N B Q E F : Int} (h : May N B Q E F) : ∃ n b : Nat, N = n ∧ B = b ∧ 1 ≤ n ∧ n ≤ 1048576 ∧ 1 ≤ b ∧ b ≤ 65535 := by
  obtain ⟨h1, h2, -⟩ := h
  exact ⟨N.toNat, B.toNat, by omega, by omega, by omega, by omega, by omega, by omega⟩

theorem fit_split {N B : Nat} {l : List UInt8} (h : l.length ≤ N * B) : fitJ N B (l.length : Int) (splitD N B l) := by
  refine ⟨splitD_length _ _ _, by omega, by omega, ?_⟩
  rw [List.all_eq_true]
  intro x hx
  rw [splitD_mem hx]
  simp

set_option maxRecDepth 100000 in
set_option maxHeartbeats 4000000 in
theorem segmentBack_walk (N B Q E F : Int) (ov : Value) (l : List UInt8) (w : World) (ho : Bs w ov l) :
    Calls Try.prog 8 #[.agg #[.int .i64 N, .int .i64 B, .int .i64 Q, .int .i64 E, .int .i64 F], ov] w fun e w' => e = .returned (.bool true) ∧ Below w.heap.size w w' := by
  have HO : Hid (Bs w ov l) := ho
  obtain ⟨-, ao, cap, rfl, h2, h3, -, -⟩ := ho
  unfold maxLen at h3
  obtain ⟨n, hn⟩ : ∃ n, l.length = n := ⟨_, rfl⟩
  rw [hn] at h2 HO ⊢
  have Hn : Hid (l.length = n) := hn
  clear hn
  have CM : Hid (∀ W, Calls Try.prog 13 #[.agg #[.int .i64 N, .int .i64 B, .int .i64 Q, .int .i64 E, .int .i64 F]] W fun e w' => e = .returned (.bool (@decide (May N B Q E F) (decMay N B Q E F))) ∧ Below W.heap.size W w') := fun W => rmay_any N B Q E F W
  go_enter Try.func8, Try.ntmps8
  go_wp2_with fail
  refine (speaks12_any _).mono ?_
  rintro e w1 ⟨rfl, hb⟩
  have B1 : Hid (Below w.heap.size w w1) := on_below (below_alloc _ _) hb
  have P1 : Hid (Five w1 w.heap.size N B Q E F) := (five_new w _ _ _ _ _ _).below hb
  clear hb
  obtain ⟨c0, c1, c2, c3, c4⟩ := P1.out
  go_wp2_with fail
  refine (CM.out _).mono ?_
  rintro e w2 ⟨rfl, hb⟩
  have B2 : Hid (Below w.heap.size w w2) := on_below B1.out hb
  have P2 : Hid (Five w2 w.heap.size N B Q E F) := P1.out.below hb
  clear hb CM c0 c1 c2 c3 c4 P1 B1
  obtain ⟨c0, c1, c2, c3, c4⟩ := P2.out
  by_cases hM : May N B Q E F
  · rw [@decide_eq_true _ (decMay _ _ _ _ _) hM]
    obtain ⟨N, B, rfl, rfl, n1, n2, b1, b2⟩ := may_nb hM
    have HM : Hid (May (N : Int) (B : Int) Q E F) := hM
    clear hM
    by_cases g1 : N ≤ 100
    · have k1 : ¬ (N : Int) > 100 := by omega
      by_cases g2 : B ≤ 100
      · have k2 : ¬ (B : Int) > 100 := by omega
        obtain ⟨P, hP⟩ : ∃ P, N * B = P := ⟨_, rfl⟩
        have hP2 : N * B ≤ 100 * 100 := Nat.mul_le_mul g1 g2
        have hw : IntKind.i64.wrap ((N : Int) * (B : Int)) = (P : Int) := by rw [IntKind.wrap_i64, show (N : Int) * (B : Int) = ((N * B : Nat) : Int) by simp, hP]; omega
        by_cases g3 : n ≤ P
        · have k3 : ¬ (n : Int) > (P : Int) := by omega
          have HLe : Hid (l.length ≤ N * B) := by unfold Hid; rw [Hn.out, hP]; exact g3
          clear hP hP2
          have CS : Hid (∀ W, Below w.heap.size w W → Calls Try.prog 19 #[.agg #[.int .i64 (N : Int), .int .i64 (B : Int), .int .i64 Q, .int .i64 E, .int .i64 F], .slice ao n cap] W fun e w' => ∃ q qs, e = .returned (.tuple #[.slice (some ⟨q, 0, none⟩) N N, .int .i64 0]) ∧ Cut W.heap.size w' q B qs (splitD N B l) [] ∧ Below W.heap.size W w') := fun W hW => split_yes N B Q E F _ l W HM.out (HO.out.below hW) HLe.out
          go_wp2_with fail
          refine (CS.out _ B2.out).mono ?_
          rintro e w3 ⟨q, qs, rfl, hc, hb⟩
          have B3 : Hid (Below w.heap.size w w3) := on_below B2.out hb
          have P3 : Hid (Five w3 w.heap.size N B Q E F) := P2.out.below hb
          have hl := hc.len
          rw [splitD_length] at hl
          have CJ : Hid (Calls Try.prog 22 #[.agg #[.int .i64 (N : Int), .int .i64 (B : Int), .int .i64 Q, .int .i64 E, .int .i64 F], .int .i64 (n : Int), .slice (some ⟨q, 0, none⟩) N N] w3 fun e w' => ∃ q, e = .returned (.tuple #[.slice (some ⟨q, 0, none⟩) n n, .int .i64 0]) ∧ w3.heap.size ≤ q ∧ Blk w' q [] l [] ∧ Below w3.heap.size w3 w') := by
            have := join_yes N B Q E F n (.slice (some ⟨q, 0, none⟩) N N) _ _ w3 HM.out (hc.sl N hl.symm (by omega)) (hc.parts (by omega)) (by have := fit_split HLe.out; rw [Hn.out] at this; exact this)
            have e := join_split HLe.out
            rw [Hn.out] at e
            rw [e] at this
            exact this
          clear c0 c1 c2 c3 c4 P2 B2 hc hb hl CS
          obtain ⟨c0, c1, c2, c3, c4⟩ := P3.out
          go_wp2_with fail
          refine CJ.out.mono ?_
          rintro e w4 ⟨q2, rfl, -, hk, hb⟩
          have B4 : Hid (Below w.heap.size w w4) := on_below B3.out hb
          have kr1 : (convert 40 9 (.slice (some ⟨q2, 0, none⟩) n n)).run Try.prog w4 = .ok (.string (str l)) w4 := conv_bytes (hk.bs0 n n Hn.out.symm (Nat.le_refl _) (by unfold maxLen; omega))
          have kr2 : (convert 40 9 (.slice ao n cap)).run Try.prog w4 = .ok (.string (str l)) w4 := conv_bytes (HO.out.below B4.out)
          clear c0 c1 c2 c3 c4 P3 B3 hk hb CJ
          go_wp2
          go_ret
          exact ⟨by simp, B4.out⟩
        · have k3 : (n : Int) > (P : Int) := by omega
          clear hP hP2
          go_wp2
          go_ret
          exact ⟨rfl, B2.out⟩
      · have k2 : (B : Int) > 100 := by omega
        go_wp2
        go_ret
        exact ⟨rfl, B2.out⟩
    · have k1 : (N : Int) > 100 := by omega
      go_wp2
      go_ret
      exact ⟨rfl, B2.out⟩
  · rw [@decide_eq_false _ (decMay _ _ _ _ _) hM]
    clear hM
    go_wp2
    go_ret
    exact ⟨rfl, B2.out⟩

theorem segmentBack_law (N B Q E F : Int) (ov : Value) (l : List UInt8) (w : World) (hw : Ok .i64 N ∧ Ok .i64 B ∧ Ok .i64 Q ∧ Ok .i64 E ∧ Ok .i64 F) (ho : Bs w ov l) :
    Calls Try.prog 8 #[.agg #[.int .i64 N, .int .i64 B, .int .i64 Q, .int .i64 E, .int .i64 F], ov] w fun e w' => e = .returned (.bool true) ∧ Below w.heap.size w w' := segmentBack_walk N B Q E F ov l w ho

end Go.Proofs.Ytbnedpjfgadkkaa
