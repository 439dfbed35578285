/-
  DegreeMore.
-/
import Derived.Test.YtecohgmllmddhaaDegF
import Derived.Test.YtecohgmllmddhaaRngS
import Derived.Test.YtecohgmllmddhaaLOrd
namespace Go.Proofs.Ytecohgmllmddhaa
open Go.RowKit
set_option linter.unusedVariables false

theorem dbelow_some (a F E : Nat) (i : Int) (w : World) (h : IsDT w a F E) (hm : MayD F E) :
    Calls Try.prog 31 #[.pointer (some ⟨a, 0, none⟩), .int .i64 i] w fun e w' => ∃ (n : Int) (b : Bool), e = .returned (.tuple #[.int .u64 n, .bool b]) ∧ Below w.heap.size w w' := by
  by_cases hi : i < 1 ∨ (F : Int) ≤ i
  · refine (dbelow_no a F E i w h hi).mono ?_
    rintro e w' ⟨rfl, hb⟩
    exact ⟨_, _, rfl, hb⟩
  · obtain ⟨j, rfl⟩ := Int.eq_ofNat_of_zero_le (show 0 ≤ i by omega)
    refine (dbelow_yes a F E j w h hm (by omega) (by omega)).mono ?_
    rintro e w' ⟨rfl, hb⟩
    exact ⟨_, _, rfl, hb⟩

set_option maxRecDepth 100000 in
set_option maxHeartbeats 2000000 in
theorem degreeMore_no1 (N B Q E F G y i : Int) (w : World) (hy : 0 ≤ y ∧ y < 65536) (hG : wrap64 (E + y) = G) (h : ¬ May N B Q E F) :
    Calls Try.prog 11 #[.agg #[.int .i64 N, .int .i64 B, .int .i64 Q, .int .i64 E, .int .i64 F], .int .u16 y, .int .i64 i] w fun e w' => e = .returned (.bool true) ∧ Below w.heap.size w w' := by
  have H : Hid (¬ May N B Q E F) := h
  clear h
  go_enter Try.func11, Try.ntmps11
  go_wp2_with fail
  refine (speaks8_any _).mono ?_
  rintro e w1 ⟨rfl, hb1⟩
  have B1 : Hid (Below w.heap.size w w1) := below_mid (below_alloc _ _) hb1
  have F1 : Hid (Five w1 w.heap.size N B Q E F) := (five_new w _ N B Q E F).below hb1
  clear hb1
  obtain ⟨c0, c1, c2, c3, c4⟩ := F1.out
  have hsz : w.heap.size < w1.heap.size := cell_block_lt c0
  go_wp2_with fail
  have B2 : Hid (Below w.heap.size w (w1.alloc (.cells #[.int .i64 N, .int .i64 B, .int .i64 Q, .int .i64 G, .int .i64 F] 24))) := below_mid B1.out (below_alloc _ _)
  have F2 : Hid (Five (w1.alloc (.cells #[.int .i64 N, .int .i64 B, .int .i64 Q, .int .i64 G, .int .i64 F] 24)) w.heap.size N B Q E F) := F1.out.below (below_alloc _ _)
  have K2 : Hid (Five (w1.alloc (.cells #[.int .i64 N, .int .i64 B, .int .i64 Q, .int .i64 G, .int .i64 F] 24)) w1.heap.size N B Q G F) := five_new w1 _ N B Q G F
  obtain ⟨w2, hw2⟩ : ∃ W, w1.alloc (.cells #[.int .i64 N, .int .i64 B, .int .i64 Q, .int .i64 G, .int .i64 F] 24) = W := ⟨_, rfl⟩
  rw [hw2] at B2 F2 K2 ⊢
  clear hw2 B1 F1 c0 c1 c2 c3 c4 hsz hG
  generalize w1.heap.size = b0 at *
  refine (rmay_no N B Q E F _ H.out).mono ?_
  rintro e w3 ⟨rfl, hb3⟩
  have B3 : Hid (Below w.heap.size w w3) := below_mid B2.out hb3
  clear hb3 B2 F2 K2
  go_wp2
  go_ret
  exact ⟨rfl, B3.out⟩

set_option maxRecDepth 100000 in
set_option maxHeartbeats 2000000 in
theorem degreeMore_no2 (N B Q E F G y i : Int) (w : World) (hy : 0 ≤ y ∧ y < 65536) (hG : wrap64 (E + y) = G) (h : May N B Q E F) (k : ¬ May N B Q G F) :
    Calls Try.prog 11 #[.agg #[.int .i64 N, .int .i64 B, .int .i64 Q, .int .i64 E, .int .i64 F], .int .u16 y, .int .i64 i] w fun e w' => e = .returned (.bool true) ∧ Below w.heap.size w w' := by
  have H : Hid (May N B Q E F) := h
  have K : Hid (¬ May N B Q G F) := k
  clear h k
  go_enter Try.func11, Try.ntmps11
  go_wp2_with fail
  refine (speaks8_any _).mono ?_
  rintro e w1 ⟨rfl, hb1⟩
  have B1 : Hid (Below w.heap.size w w1) := below_mid (below_alloc _ _) hb1
  have F1 : Hid (Five w1 w.heap.size N B Q E F) := (five_new w _ N B Q E F).below hb1
  clear hb1
  obtain ⟨c0, c1, c2, c3, c4⟩ := F1.out
  have hsz : w.heap.size < w1.heap.size := cell_block_lt c0
  go_wp2_with fail
  have B2 : Hid (Below w.heap.size w (w1.alloc (.cells #[.int .i64 N, .int .i64 B, .int .i64 Q, .int .i64 G, .int .i64 F] 24))) := below_mid B1.out (below_alloc _ _)
  have F2 : Hid (Five (w1.alloc (.cells #[.int .i64 N, .int .i64 B, .int .i64 Q, .int .i64 G, .int .i64 F] 24)) w.heap.size N B Q E F) := F1.out.below (below_alloc _ _)
  have K2 : Hid (Five (w1.alloc (.cells #[.int .i64 N, .int .i64 B, .int .i64 Q, .int .i64 G, .int .i64 F] 24)) w1.heap.size N B Q G F) := five_new w1 _ N B Q G F
  obtain ⟨w2, hw2⟩ : ∃ W, w1.alloc (.cells #[.int .i64 N, .int .i64 B, .int .i64 Q, .int .i64 G, .int .i64 F] 24) = W := ⟨_, rfl⟩
  rw [hw2] at B2 F2 K2 ⊢
  clear hw2 B1 F1 c0 c1 c2 c3 c4 hsz hG
  generalize w1.heap.size = b0 at *
  refine (rmay_yes N B Q E F _ H.out).mono ?_
  rintro e w3 ⟨rfl, hb3⟩
  have B3 : Hid (Below w.heap.size w w3) := below_mid B2.out hb3
  have K3 : Hid (Five w3 b0 N B Q G F) := K2.out.below hb3
  clear hb3 B2 F2 K2
  obtain ⟨c0, c1, c2, c3, c4⟩ := K3.out
  go_wp2_with fail
  refine (rmay_no N B Q G F _ K.out).mono ?_
  rintro e w4 ⟨rfl, hb4⟩
  have B4 : Hid (Below w.heap.size w w4) := below_mid B3.out hb4
  clear hb4 B3 K3 c0 c1 c2 c3 c4
  go_wp2
  go_ret
  exact ⟨rfl, B4.out⟩

set_option maxRecDepth 100000 in
set_option maxHeartbeats 2000000 in
theorem degreeMore_yes (N B Q : Int) (E F G : Nat) (y i : Int) (w : World) (hy : 0 ≤ y ∧ y < 65536) (hG : wrap64 ((E : Int) + y) = (G : Int)) (h : May N B Q E F) (k : May N B Q G F) (hm : MayD F E) (km : MayD F G) (hEG : E ≤ G) :
    Calls Try.prog 11 #[.agg #[.int .i64 N, .int .i64 B, .int .i64 Q, .int .i64 (E : Nat), .int .i64 (F : Nat)], .int .u16 y, .int .i64 i] w fun e w' => e = .returned (.bool true) ∧ Below w.heap.size w w' := by
  have H : Hid (May N B Q E F) := h
  have K : Hid (May N B Q G F) := k
  have HM : Hid (MayD F E) := hm
  have KM : Hid (MayD F G) := km
  have HL : Hid (E ≤ G) := hEG
  clear h k hm km hEG
  go_enter Try.func11, Try.ntmps11
  go_wp2_with fail
  refine (speaks8_any _).mono ?_
  rintro e w1 ⟨rfl, hb1⟩
  have B1 : Hid (Below w.heap.size w w1) := below_mid (below_alloc _ _) hb1
  have F1 : Hid (Five w1 w.heap.size N B Q E F) := (five_new w _ N B Q E F).below hb1
  clear hb1
  obtain ⟨c0, c1, c2, c3, c4⟩ := F1.out
  have hsz : w.heap.size < w1.heap.size := cell_block_lt c0
  go_wp2_with fail
  have B2 : Hid (Below w.heap.size w (w1.alloc (.cells #[.int .i64 N, .int .i64 B, .int .i64 Q, .int .i64 (G : Nat), .int .i64 (F : Nat)] 24))) := below_mid B1.out (below_alloc _ _)
  have F2 : Hid (Five (w1.alloc (.cells #[.int .i64 N, .int .i64 B, .int .i64 Q, .int .i64 (G : Nat), .int .i64 (F : Nat)] 24)) w.heap.size N B Q E F) := F1.out.below (below_alloc _ _)
  have K2 : Hid (Five (w1.alloc (.cells #[.int .i64 N, .int .i64 B, .int .i64 Q, .int .i64 (G : Nat), .int .i64 (F : Nat)] 24)) w1.heap.size N B Q G F) := five_new w1 _ N B Q G F
  obtain ⟨w2, hw2⟩ : ∃ W, w1.alloc (.cells #[.int .i64 N, .int .i64 B, .int .i64 Q, .int .i64 (G : Nat), .int .i64 (F : Nat)] 24) = W := ⟨_, rfl⟩
  rw [hw2] at B2 F2 K2 ⊢
  clear hw2 B1 F1 c0 c1 c2 c3 c4 hsz hG
  generalize w1.heap.size = b0 at *
  refine (rmay_yes N B Q E F _ H.out).mono ?_
  rintro e w3 ⟨rfl, hb3⟩
  have B3 : Hid (Below w.heap.size w w3) := below_mid B2.out hb3
  have F3 : Hid (Five w3 w.heap.size N B Q E F) := F2.out.below hb3
  have K3 : Hid (Five w3 b0 N B Q G F) := K2.out.below hb3
  clear hb3 B2 F2 K2
  obtain ⟨c0, c1, c2, c3, c4⟩ := K3.out
  go_wp2_with fail
  refine (rmay_yes N B Q G F _ K.out).mono ?_
  rintro e w4 ⟨rfl, hb4⟩
  have B4 : Hid (Below w.heap.size w w4) := below_mid B3.out hb4
  have F4 : Hid (Five w4 w.heap.size N B Q E F) := F3.out.below hb4
  have K4 : Hid (Five w4 b0 N B Q G F) := K3.out.below hb4
  clear hb4 B3 F3 K3 c0 c1 c2 c3 c4
  obtain ⟨c0, c1, c2, c3, c4⟩ := F4.out
  go_wp2_with fail
  refine (dnew_yes N B Q E F _ H.out).mono ?_
  rintro e w5 ⟨a, -, rfl, hd5, hb5⟩
  have B5 : Hid (Below w.heap.size w w5) := below_mid B4.out hb5
  have K5 : Hid (Five w5 b0 N B Q G F) := K4.out.below hb5
  have D5 : Hid (IsDT w5 a F E) := hd5
  clear hb5 hd5 B4 F4 K4 c0 c1 c2 c3 c4
  obtain ⟨c0, c1, c2, c3, c4⟩ := K5.out
  go_wp2_with fail
  refine (dnew_yes N B Q G F _ K.out).mono ?_
  rintro e w6 ⟨c, -, rfl, hd6, hb6⟩
  have B6 : Hid (Below w.heap.size w w6) := below_mid B5.out hb6
  have D6 : Hid (IsDT w6 a F E) := D5.out.below hb6
  have C6 : Hid (IsDT w6 c F G) := hd6
  clear hb6 hd6 B5 D5 K5 c0 c1 c2 c3 c4
  by_cases hi : i < 1 ∨ (F : Int) ≤ i
  · go_wp2_with fail
    refine (dbelow_no a F E i _ D6.out hi).mono ?_
    rintro e w7 ⟨rfl, hb7⟩
    have B7 : Hid (Below w.heap.size w w7) := below_mid B6.out hb7
    have D7 : Hid (IsDT w7 a F E) := D6.out.below hb7
    have C7 : Hid (IsDT w7 c F G) := C6.out.below hb7
    clear hb7 B6 D6 C6
    go_wp2_with fail
    refine (dbelow_no c F G i _ C7.out hi).mono ?_
    rintro e w8 ⟨rfl, hb8⟩
    have B8 : Hid (Below w.heap.size w w8) := below_mid B7.out hb8
    have D8 : Hid (IsDT w8 a F E) := D7.out.below hb8
    have C8 : Hid (IsDT w8 c F G) := C7.out.below hb8
    clear hb8 B7 D7 C7 hi
    go_wp2_with fail
    refine (dbelow_some a F E _ _ D8.out HM.out).mono ?_
    rintro e w9 ⟨n, b, rfl, hb9⟩
    have B9 : Hid (Below w.heap.size w w9) := below_mid B8.out hb9
    have D9 : Hid (IsDT w9 a F E) := D8.out.below hb9
    have C9 : Hid (IsDT w9 c F G) := C8.out.below hb9
    clear hb9 B8 D8 C8
    go_wp2_with fail
    refine (dmost_any a F E _ D9.out).mono ?_
    rintro e w10 ⟨rfl, rfl⟩
    go_wp2_with fail
    refine (dmost_any c F G _ C9.out).mono ?_
    rintro e w11 ⟨rfl, rfl⟩
    go_wp2
    go_ret
    exact ⟨rfl, B9.out⟩
  · obtain ⟨j, rfl⟩ := Int.eq_ofNat_of_zero_le (show 0 ≤ i by omega)
    have hj1 : 1 ≤ j := by omega
    have hj2 : j < F := by omega
    have hf4 := HM.out.f4
    have hab : belowN F E j ≤ belowN F G j := below_eps HM.out KM.out HL.out hj1 hj2
    have HA : Hid (∀ W, IsDT W a F E → Calls Try.prog 31 #[.pointer (some ⟨a, 0, none⟩), .int .i64 (j : Nat)] W fun e w' => e = .returned (.tuple #[.int .u64 (belowN F E j : Nat), .bool true]) ∧ Below W.heap.size W w') := fun W hW => dbelow_yes a F E j W hW HM.out hj1 hj2
    have HC : Hid (∀ W, IsDT W c F G → Calls Try.prog 31 #[.pointer (some ⟨c, 0, none⟩), .int .i64 (j : Nat)] W fun e w' => e = .returned (.tuple #[.int .u64 (belowN F G j : Nat), .bool true]) ∧ Below W.heap.size W w') := fun W hW => dbelow_yes c F G j W hW KM.out hj1 hj2
    have HX : Hid (∀ W, IsDT W a F E → Calls Try.prog 31 #[.pointer (some ⟨a, 0, none⟩), .int .i64 ((j : Int) + 1)] W fun e w' => ∃ (n : Nat) (b : Bool), e = .returned (.tuple #[.int .u64 (n : Nat), .bool b]) ∧ (b = true → belowN F E j < n) ∧ Below W.heap.size W w') := by
      intro W hW
      have e1 : ((j + 1 : Nat) : Int) = (j : Int) + 1 := by simp
      by_cases hj3 : j + 1 < F
      · rw [← e1]
        refine (dbelow_yes a F E (j + 1) W hW HM.out (by omega) hj3).mono ?_
        rintro e w' ⟨rfl, hb⟩
        exact ⟨_, _, rfl, fun _ => below_next HM.out hj1 hj3, hb⟩
      · refine (dbelow_no a F E ((j : Int) + 1) W hW (.inr (by omega))).mono ?_
        rintro e w' ⟨rfl, hb⟩
        exact ⟨0, false, rfl, fun h => (by cases h), hb⟩
    generalize belowN F E j = p at *
    generalize belowN F G j = q at *
    have hab' : (p : Int) ≤ (q : Int) := by omega
    clear hi hj1 hab
    go_wp2_with fail
    refine (HA.out _ D6.out).mono ?_
    rintro e w7 ⟨rfl, hb7⟩
    have B7 : Hid (Below w.heap.size w w7) := below_mid B6.out hb7
    have D7 : Hid (IsDT w7 a F E) := D6.out.below hb7
    have C7 : Hid (IsDT w7 c F G) := C6.out.below hb7
    clear hb7 B6 D6 C6 HA
    go_wp2_with fail
    refine (HC.out _ C7.out).mono ?_
    rintro e w8 ⟨rfl, hb8⟩
    have B8 : Hid (Below w.heap.size w w8) := below_mid B7.out hb8
    have D8 : Hid (IsDT w8 a F E) := D7.out.below hb8
    have C8 : Hid (IsDT w8 c F G) := C7.out.below hb8
    clear hb8 B7 D7 C7 HC
    go_wp2_with fail
    refine (HX.out _ D8.out).mono ?_
    rintro e w9 ⟨n, b, rfl, hnb, hb9⟩
    have B9 : Hid (Below w.heap.size w w9) := below_mid B8.out hb9
    have D9 : Hid (IsDT w9 a F E) := D8.out.below hb9
    have C9 : Hid (IsDT w9 c F G) := C8.out.below hb9
    clear hb9 B8 D8 C8 HX
    cases b with
    | false =>
      clear hnb
      go_wp2_with fail
      refine (dmost_any a F E _ D9.out).mono ?_
      rintro e w10 ⟨rfl, rfl⟩
      go_wp2_with fail
      refine (dmost_any c F G _ C9.out).mono ?_
      rintro e w11 ⟨rfl, rfl⟩
      go_wp2
      go_ret
      exact ⟨rfl, B9.out⟩
    | true =>
      have hpn : (p : Int) < (n : Int) := by have := hnb rfl; omega
      clear hnb
      go_wp2_with fail
      refine (dmost_any a F E _ D9.out).mono ?_
      rintro e w10 ⟨rfl, rfl⟩
      go_wp2_with fail
      refine (dmost_any c F G _ C9.out).mono ?_
      rintro e w11 ⟨rfl, rfl⟩
      go_wp2
      go_ret
      exact ⟨rfl, B9.out⟩

theorem u16_bd {x : Int} (h : (Lit.int .u16 x).wf = true) : 0 ≤ x ∧ x < 65536 := by
  simp [Lit.wf, IntKind.min, IntKind.max, IntKind.bits, IntKind.signed] at h
  omega

/-- DegreeMore. -/
theorem degreeMore_walk (N B Q E F y i : Int) (w : World) (hw : Ok .i64 N ∧ Ok .i64 B ∧ Ok .i64 Q ∧ Ok .i64 E ∧ Ok .i64 F) (hy0 : (Lit.int .u16 y).wf = true) (hi : (Lit.int .i64 i).wf = true) :
    Calls Try.prog 11 #[.agg #[.int .i64 N, .int .i64 B, .int .i64 Q, .int .i64 E, .int .i64 F], .int .u16 y, .int .i64 i] w fun e w' => e = .returned (.bool true) ∧ Below w.heap.size w w' := by
  have hy := u16_bd hy0
  obtain ⟨G, hG⟩ : ∃ G, wrap64 (E + y) = G := ⟨_, rfl⟩
  by_cases h : May N B Q E F
  · by_cases k : May N B Q G F
    · obtain ⟨e, f, rfl, rfl, hm⟩ := may_nat h
      obtain ⟨g, f', rfl, hf, km⟩ := may_nat k
      obtain rfl : f = f' := by omega
      have he : e ≤ g := by
        have := hm.e2
        unfold wrap64 at hG
        omega
      exact degreeMore_yes N B Q e f g y i w hy hG h k hm km he
    · exact degreeMore_no2 N B Q E F G y i w hy hG h k
  · exact degreeMore_no1 N B Q E F G y i w hy hG h

end Go.Proofs.Ytecohgmllmddhaa
