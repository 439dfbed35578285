/-
  DegreeTables.
-/
import Derived.Test.YtecohgmllmddhaaDegF
namespace Go.Proofs.Ytecohgmllmddhaa
open Go.RowKit
set_option linter.unusedVariables false

set_option maxRecDepth 100000 in
set_option maxHeartbeats 1000000 in
/-- DegreeTables: what may not be. -/
theorem degreeTables_no (N B Q E F i : Int) (w : World) (h : ¬ May N B Q E F) :
    Calls Try.prog 8 #[.agg #[.int .i64 N, .int .i64 B, .int .i64 Q, .int .i64 E, .int .i64 F], .int .i64 i] w fun e w' => e = .returned (.bool true) ∧ Below w.heap.size w w' := by
  have H : Hid (¬ May N B Q E F) := h
  clear h
  go_enter Try.func8, Try.ntmps8
  go_wp2_with fail
  refine (speaks8_any _).mono ?_
  rintro e w1 ⟨rfl, hb1⟩
  have B1 : Hid (Below w.heap.size w w1) := below_mid (below_alloc _ _) hb1
  have F1 : Hid (Five w1 w.heap.size N B Q E F) := (five_new w _ N B Q E F).below hb1
  clear hb1
  obtain ⟨c0, c1, c2, c3, c4⟩ := F1.out
  go_wp2_with fail
  refine (dnew_no N B Q E F _ H.out).mono ?_
  rintro e w2 ⟨rfl, hb2⟩
  have B2 : Hid (Below w.heap.size w w2) := below_mid B1.out hb2
  have F2 : Hid (Five w2 w.heap.size N B Q E F) := F1.out.below hb2
  clear hb2 B1 F1 c0 c1 c2 c3 c4
  obtain ⟨c0, c1, c2, c3, c4⟩ := F2.out
  go_wp2_with fail
  refine (rmay_no N B Q E F _ H.out).mono ?_
  rintro e w3 ⟨rfl, hb3⟩
  have B3 : Hid (Below w.heap.size w w3) := below_mid B2.out hb3
  clear hb3 B2 F2 c0 c1 c2 c3 c4
  go_wp2
  go_ret
  exact ⟨rfl, B3.out⟩

set_option maxRecDepth 100000 in
set_option maxHeartbeats 1000000 in
theorem degreeTables_yes (N B Q : Int) (E F : Nat) (i : Int) (w : World) (h : May N B Q E F) (hm : MayD F E) :
    Calls Try.prog 8 #[.agg #[.int .i64 N, .int .i64 B, .int .i64 Q, .int .i64 (E : Nat), .int .i64 (F : Nat)], .int .i64 i] w fun e w' => e = .returned (.bool true) ∧ Below w.heap.size w w' := by
  have H : Hid (May N B Q E F) := h
  have HM : Hid (MayD F E) := hm
  clear h hm
  go_enter Try.func8, Try.ntmps8
  go_wp2_with fail
  refine (speaks8_any _).mono ?_
  rintro e w1 ⟨rfl, hb1⟩
  have B1 : Hid (Below w.heap.size w w1) := below_mid (below_alloc _ _) hb1
  have F1 : Hid (Five w1 w.heap.size N B Q E F) := (five_new w _ N B Q E F).below hb1
  clear hb1
  obtain ⟨c0, c1, c2, c3, c4⟩ := F1.out
  go_wp2_with fail
  refine (dnew_yes N B Q E F _ H.out).mono ?_
  rintro e w2 ⟨a, -, rfl, hd2, hb2⟩
  have B2 : Hid (Below w.heap.size w w2) := below_mid B1.out hb2
  have F2 : Hid (Five w2 w.heap.size N B Q E F) := F1.out.below hb2
  have D2 : Hid (IsDT w2 a F E) := hd2
  clear hb2 hd2 B1 F1 c0 c1 c2 c3 c4
  obtain ⟨c0, c1, c2, c3, c4⟩ := F2.out
  go_wp2_with fail
  refine (rmay_yes N B Q E F _ H.out).mono ?_
  rintro e w3 ⟨rfl, hb3⟩
  have B3 : Hid (Below w.heap.size w w3) := below_mid B2.out hb3
  have F3 : Hid (Five w3 w.heap.size N B Q E F) := F2.out.below hb3
  have D3 : Hid (IsDT w3 a F E) := D2.out.below hb3
  clear hb3 B2 F2 D2 c0 c1 c2 c3 c4
  obtain ⟨c0, c1, c2, c3, c4⟩ := F3.out
  go_wp2_with fail
  go_quiet ((go_at_call 30; exact Calls.quiet_of_same (dmost_any a F E _ (D3.out.below (below_drewN (Below.refl _ _) _)))))
  have B4 : Hid (Below w.heap.size w (w3.drewN nq)) := below_drewN B3.out nq
  have F4 : Hid (Five (w3.drewN nq) w.heap.size N B Q E F) := F3.out.below (below_drewN (Below.refl _ _) _)
  have D4 : Hid (IsDT (w3.drewN nq) a F E) := D3.out.below (below_drewN (Below.refl _ _) _)
  generalize w3.drewN nq = w4 at *
  clear B3 F3 D3 c0 c1 c2 c3 c4
  by_cases hi : i < 1 ∨ (F : Int) ≤ i
  · go_wp2_with fail
    refine (dbelow_no a F E i _ D4.out hi).mono ?_
    rintro e w5 ⟨rfl, hb5⟩
    have B5 : Hid (Below w.heap.size w w5) := below_mid B4.out hb5
    have F5 : Hid (Five w5 w.heap.size N B Q E F) := F4.out.below hb5
    clear hb5 B4 F4 D4
    obtain ⟨c0, c1, c2, c3, c4⟩ := F5.out
    by_cases h1 : i < 1
    · clear hi
      go_wp2
      go_ret
      exact ⟨rfl, B5.out⟩
    · have h2 : i ≥ (F : Int) := by omega
      clear hi
      go_wp2
      go_ret
      exact ⟨rfl, B5.out⟩
  · obtain ⟨j, rfl⟩ := Int.eq_ofNat_of_zero_le (show 0 ≤ i by omega)
    have h1 : ¬ (j : Int) < 1 := by omega
    have h2 : ¬ (j : Int) ≥ (F : Int) := by omega
    have HJ : Hid (1 ≤ j ∧ j < F) := ⟨by omega, by omega⟩
    clear hi
    have HR : Hid (∀ W, Calls Try.prog 32 #[.agg #[.int .i64 N, .int .i64 B, .int .i64 Q, .int .i64 (E : Nat), .int .i64 (F : Nat)], .int .i64 (j : Nat)] W fun e w' => e = .returned (.int .u64 (belowN F E j : Nat)) ∧ Below W.heap.size W w') := fun W => rdbelow_any N B Q F E j W HM.out HJ.out.1 HJ.out.2
    go_wp2_with fail
    refine (dbelow_yes a F E j _ D4.out HM.out HJ.out.1 HJ.out.2).mono ?_
    rintro e w5 ⟨rfl, hb5⟩
    have B5 : Hid (Below w.heap.size w w5) := below_mid B4.out hb5
    have F5 : Hid (Five w5 w.heap.size N B Q E F) := F4.out.below hb5
    clear hb5 B4 F4 D4
    generalize belowN F E j = b at *
    obtain ⟨c0, c1, c2, c3, c4⟩ := F5.out
    go_wp2_with fail
    refine (HR.out _).mono ?_
    rintro e w6 ⟨rfl, hb6⟩
    have B6 : Hid (Below w.heap.size w w6) := below_mid B5.out hb6
    clear hb6 B5 F5 c0 c1 c2 c3 c4
    go_wp2
    go_ret
    exact ⟨rfl, B6.out⟩

/-- DegreeTables. -/
theorem degreeTables_walk (N B Q E F i : Int) (w : World) (hw : Ok .i64 N ∧ Ok .i64 B ∧ Ok .i64 Q ∧ Ok .i64 E ∧ Ok .i64 F) (hi : (Lit.int .i64 i).wf = true) :
    Calls Try.prog 8 #[.agg #[.int .i64 N, .int .i64 B, .int .i64 Q, .int .i64 E, .int .i64 F], .int .i64 i] w fun e w' => e = .returned (.bool true) ∧ Below w.heap.size w w' := by
  by_cases h : May N B Q E F
  · obtain ⟨e, f, rfl, rfl, hm⟩ := may_nat h
    exact degreeTables_yes N B Q e f i w h hm
  · exact degreeTables_no N B Q E F i w h

end Go.Proofs.Ytecohgmllmddhaa
