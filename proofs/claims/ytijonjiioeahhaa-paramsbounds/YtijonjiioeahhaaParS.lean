/-
  The walk of the params statements' own first look: a hundred blocks.
-/
import Derived.Test.YtijonjiioeahhaaParB
import Derived.Test.YtijonjiioeahhaaLStruct
namespace Go.Proofs.Ytijonjiioeahhaa
open Go.RowKit
set_option linter.unusedVariables false

theorem may_hundred : mayE 100 8 3 100 200 = 0 := by decide
theorem may_zero : mayE 0 0 0 0 0 = 1 := by decide
theorem aux_hundred : aux 100 3 100 = 17 := by decide

set_option maxRecDepth 100000 in
set_option maxHeartbeats 1000000 in
theorem speaks5_any (w : World) : Calls Try.prog 31 #[] w fun e w' => e = .returned (.bool true) ∧ Below w.heap.size w w' := by
  go_enter Try.func31, Try.ntmps31
  go_wp2_with fail
  refine (pcheck_any 100 8 3 100 200 _).mono ?_
  rintro e w1 ⟨rfl, hb1⟩
  rw [may_hundred]
  have B1 : Hid (Below w.heap.size w w1) := below_mid (below_alloc _ _) hb1
  have F1 : Hid (Five w1 w.heap.size 100 8 3 100 200) := (five_new w _ 100 8 3 100 200).below hb1
  clear hb1
  go_wp2_with fail
  refine (pcheck_any 0 0 0 0 0 _).mono ?_
  rintro e w2 ⟨rfl, hb2⟩
  rw [may_zero]
  have B2 : Hid (Below w.heap.size w w2) := below_mid B1.out hb2
  have F2 : Hid (Five w2 w.heap.size 100 8 3 100 200) := F1.out.below hb2
  clear hb2 B1 F1
  obtain ⟨c0, c1, c2, c3, c4⟩ := F2.out
  go_wp2_with fail
  refine (aux_any 100 8 3 100 200 _ (by omega) (by omega) (by omega)).mono ?_
  rintro e w3 ⟨rfl, hb3⟩
  rw [aux_hundred]
  have B3 : Hid (Below w.heap.size w w3) := below_mid B2.out hb3
  have F3 : Hid (Five w3 w.heap.size 100 8 3 100 200) := F2.out.below hb3
  clear hb3 B2 F2 c0 c1 c2 c3 c4
  obtain ⟨c0, c1, c2, c3, c4⟩ := F3.out
  go_wp2_with fail
  refine (all_any 100 8 3 100 200 _ (by omega) (by omega) (by omega)).mono ?_
  rintro e w4 ⟨rfl, hb4⟩
  rw [aux_hundred]
  have B4 : Hid (Below w.heap.size w w4) := below_mid B3.out hb4
  have F4 : Hid (Five w4 w.heap.size 100 8 3 100 200) := F3.out.below hb4
  clear hb4 B3 F3 c0 c1 c2 c3 c4
  obtain ⟨c0, c1, c2, c3, c4⟩ := F4.out
  go_wp2_with fail
  refine (most_any 100 8 3 100 200 _ (by omega) (by omega)).mono ?_
  rintro e w5 ⟨rfl, hb5⟩
  have B5 : Hid (Below w.heap.size w w5) := below_mid B4.out hb5
  clear hb5 B4 F4 c0 c1 c2 c3 c4
  go_wp2
  go_ret
  exact ⟨rfl, B5.out⟩

end Go.Proofs.Ytijonjiioeahhaa
