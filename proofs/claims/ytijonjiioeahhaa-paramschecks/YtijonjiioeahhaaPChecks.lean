/-
  The walk of the statement ParamsChecks.
-/
import Derived.Test.YtijonjiioeahhaaParS
namespace Go.Proofs.Ytijonjiioeahhaa
open Go.RowKit
set_option linter.unusedVariables false

set_option maxRecDepth 100000 in
set_option maxHeartbeats 1000000 in
theorem paramsChecks_walk (N B Q E F : Int) (w : World) (hw : Ok .i64 N ∧ Ok .i64 B ∧ Ok .i64 Q ∧ Ok .i64 E ∧ Ok .i64 F) :
    Calls Try.prog 4 #[.agg #[.int .i64 N, .int .i64 B, .int .i64 Q, .int .i64 E, .int .i64 F]] w fun e w' => e = .returned (.bool true) ∧ Below w.heap.size w w' := by
  clear hw
  go_enter Try.func4, Try.ntmps4
  go_wp2_with fail
  refine (speaks5_any _).mono ?_
  rintro e w1 ⟨rfl, hb1⟩
  have B1 : Hid (Below w.heap.size w w1) := below_mid (below_alloc _ _) hb1
  have F1 : Hid (Five w1 w.heap.size N B Q E F) := (five_new w _ N B Q E F).below hb1
  clear hb1
  obtain ⟨c0, c1, c2, c3, c4⟩ := F1.out
  by_cases hm : May N B Q E F
  · have HM : Hid (mayE N B Q E F = 0) := mayE_yes hm
    go_wp2_with fail
    refine (rmay_yes N B Q E F _ hm).mono ?_
    rintro e w2 ⟨rfl, hb2⟩
    have B2 : Hid (Below w.heap.size w w2) := below_mid B1.out hb2
    have F2 : Hid (Five w2 w.heap.size N B Q E F) := F1.out.below hb2
    clear hb2 B1 F1 c0 c1 c2 c3 c4 hm
    obtain ⟨c0, c1, c2, c3, c4⟩ := F2.out
    go_wp2_with fail
    refine (pcheck_any N B Q E F _).mono ?_
    rintro e w3 ⟨rfl, hb3⟩
    rw [HM.out]
    have B3 : Hid (Below w.heap.size w w3) := below_mid B2.out hb3
    clear hb3 B2 F2 c0 c1 c2 c3 c4
    go_wp2
    go_ret
    exact ⟨rfl, B3.out⟩
  · have HM : Hid (mayE N B Q E F = 1) := mayE_no hm
    go_wp2_with fail
    refine (rmay_no N B Q E F _ hm).mono ?_
    rintro e w2 ⟨rfl, hb2⟩
    have B2 : Hid (Below w.heap.size w w2) := below_mid B1.out hb2
    have F2 : Hid (Five w2 w.heap.size N B Q E F) := F1.out.below hb2
    clear hb2 B1 F1 c0 c1 c2 c3 c4 hm
    obtain ⟨c0, c1, c2, c3, c4⟩ := F2.out
    go_wp2_with fail
    refine (pcheck_any N B Q E F _).mono ?_
    rintro e w3 ⟨rfl, hb3⟩
    rw [HM.out]
    have B3 : Hid (Below w.heap.size w w3) := below_mid B2.out hb3
    clear hb3 B2 F2 c0 c1 c2 c3 c4
    go_wp2
    go_ret
    exact ⟨rfl, B3.out⟩

end Go.Proofs.Ytijonjiioeahhaa
