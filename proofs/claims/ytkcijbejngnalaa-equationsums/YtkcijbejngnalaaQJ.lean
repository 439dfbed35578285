/-
  equation: Same, as the program has it: slices.Equal and bytes.Equal.
-/
import Derived.Test.YtkcijbejngnalaaQF
import Derived.Test.YtkcijbejngnalaaShelf
import Derived.Shelf.Slices.Empties2
namespace Go.Proofs.Ytkcijbejngnalaa
open Go.RowKit
set_option linter.unusedVariables false

/-- slices.Equal: of numbers. -/
theorem zequal_any (v1 v2 : Value) (l1 l2 : List Int) (w : World) (h1 : Zs w v1 l1) (h2 : Zs w v2 l2) : Calls Try.prog 62 #[v1, v2] w fun e w' => TellsP (l1 = l2) e ∧ Below w.heap.size w w' := by
  obtain ⟨a1, c1, rfl, g2, g3⟩ := zs_shape h1
  obtain ⟨a2, c2, rfl, k2, k3⟩ := zs_shape h2
  obtain ⟨-, d1⟩ := zs_cells h1
  obtain ⟨-, d2⟩ := zs_cells h2
  by_cases e : l1.length = l2.length
  · rcases d1 with h0 | ⟨b1, o1, rfl, hc1⟩
    · have e1 : l1 = [] := List.eq_nil_of_length_eq_zero h0
      have e2 : l2 = [] := List.eq_nil_of_length_eq_zero (by omega)
      subst e1; subst e2
      refine (Any.slices_Equal_int_empty Try.lays111 a1 a2 c1 0 c2 w (by omega)).mono ?_
      rintro e w' ⟨rfl, rfl⟩
      exact ⟨⟨_, rfl, by simp⟩, Below.refl _ _⟩
    · rcases d2 with h0 | ⟨b2, o2, rfl, hc2⟩
      · have e1 : l1 = [] := List.eq_nil_of_length_eq_zero (by omega)
        have e2 : l2 = [] := List.eq_nil_of_length_eq_zero (by omega)
        subst e1; subst e2
        refine (Any.slices_Equal_int_empty Try.lays111 _ a2 c1 0 c2 w (by omega)).mono ?_
        rintro e w' ⟨rfl, rfl⟩
        exact ⟨⟨_, rfl, by simp⟩, Below.refl _ _⟩
      · refine (Any.slices_Equal_int Try.lays111 b1 o1 l1.length c1 b2 o2 l2.length c2 l1 l2 w (Nat.le_refl _) (Nat.le_refl _) (by omega) (by omega) hc1 hc2).mono ?_
        rintro e w' ⟨rfl, q, rfl⟩
        refine ⟨⟨_, rfl, ?_⟩, below_drewN (Below.refl _ _) q⟩
        rw [List.take_length, List.take_length, beq_iff_eq]
  · refine (Any.slices_Equal_int_lens Try.lays111 a1 a2 l1.length c1 l2.length c2 w e).mono ?_
    rintro e' w' ⟨rfl, rfl⟩
    exact ⟨tells_no rfl (fun h => e (by rw [h])), Below.refl _ _⟩

set_option maxHeartbeats 400000 in
/-- bytes.Equal. -/
theorem bequal_any (v1 v2 : Value) (l1 l2 : List UInt8) (w : World) (h1 : Bs w v1 l1) (h2 : Bs w v2 l2) : Calls Try.prog 63 #[v1, v2] w fun e w' => TellsP (l1 = l2) e ∧ w' = w := by
  have k1 : (convert 25 9 v1).run Try.prog w = .ok (.string (str l1)) w := conv_bytes h1
  have k2 : (convert 25 9 v2).run Try.prog w = .ok (.string (str l2)) w := conv_bytes h2
  obtain ⟨a1, c1, rfl, -, -⟩ := bs_shape h1
  obtain ⟨a2, c2, rfl, -, -⟩ := bs_shape h2
  clear h1 h2
  generalize l1.length = n1 at *
  generalize l2.length = n2 at *
  go_enter Try.func63, Try.ntmps63
  by_cases e : l1 = l2
  · subst e
    go_wp2
    go_ret
    exact ⟨tells_yes (by simp) trivial, rfl⟩
  · go_wp2
    go_ret
    exact ⟨tells_no (by simp [str_toList, e]) e, rfl⟩

set_option maxRecDepth 100000 in
set_option maxHeartbeats 400000 in
/-- SAME: two equations. -/
theorem qsame_any (a b : Qe) (w : World) (ha : QeP w a) (hb : QeP w b) : Calls Try.prog 32 #[.agg #[a.ov, a.vv], .agg #[b.ov, b.vv]] w fun e w' => TellsP (a.of = b.of ∧ a.va = b.va) e ∧ Below w.heap.size w w' := by
  obtain ⟨o1, v1, of1, va1⟩ := a
  obtain ⟨o2, v2, of2, va2⟩ := b
  have A : Hid (QeP w ⟨o1, v1, of1, va1⟩) := ha
  have B : Hid (QeP w ⟨o2, v2, of2, va2⟩) := hb
  obtain ⟨x1, y1, rfl, -, -⟩ := zs_shape (show Zs w o1 of1 from ha.1)
  obtain ⟨x2, y2, rfl, -, -⟩ := zs_shape (show Zs w o2 of2 from hb.1)
  obtain ⟨x3, y3, rfl, -, -⟩ := bs_shape (show Bs w v1 va1 from ha.2)
  obtain ⟨x4, y4, rfl, -, -⟩ := bs_shape (show Bs w v2 va2 from hb.2)
  clear ha hb
  simp only at A B ⊢
  generalize of1.length = n1 at *
  generalize of2.length = n2 at *
  generalize va1.length = m1 at *
  generalize va2.length = m2 at *
  go_enter Try.func32, Try.ntmps32
  go_upto_region 1 with fail
  obtain ⟨w1, hw1⟩ : ∃ x, (w.alloc (.cells #[.slice x1 n1 y1, .slice x3 m1 y3] 41)).alloc (.cells #[.slice x2 n2 y2, .slice x4 m2 y4] 41) = x := ⟨_, rfl⟩
  have X1 : Hid (Below w.heap.size w w1) := by rw [← hw1]; exact on_below (below_alloc _ _) (below_alloc _ _)
  have E1 : Hid (EqB w1 w.heap.size (.slice x1 n1 y1) (.slice x3 m1 y3)) := by rw [← hw1]; exact (EqX.new w _ _).eqb.below (below_alloc _ _)
  have E2 : Hid (EqB w1 (w.heap.size + 1) (.slice x2 n2 y2) (.slice x4 m2 y4)) := by
    have h1 := (EqX.new (w.alloc (.cells #[.slice x1 n1 y1, .slice x3 m1 y3] 41)) (.slice x2 n2 y2) (.slice x4 m2 y4)).eqb
    rw [hw1] at h1
    unfold Hid
    simpa using h1
  rw [hw1]
  clear hw1
  obtain ⟨c0, c1⟩ := E1.out
  obtain ⟨d0, d1⟩ := E2.out
  go_wp2_with fail
  refine (zequal_any _ _ of1 of2 w1 (A.out.1.below X1.out) (B.out.1.below X1.out)).mono ?_
  rintro e w2 ⟨⟨r, rfl, hr⟩, hb⟩
  have X2 : Hid (Below w.heap.size w w2) := on_below X1.out hb
  have F1 : Hid (EqB w2 w.heap.size (.slice x1 n1 y1) (.slice x3 m1 y3)) := E1.out.below hb
  have F2 : Hid (EqB w2 (w.heap.size + 1) (.slice x2 n2 y2) (.slice x4 m2 y4)) := E2.out.below hb
  have HR : Hid (r = true ↔ of1 = of2) := hr
  clear hb c0 c1 d0 d1 E1 E2 X1 hr
  obtain ⟨c0, c1⟩ := F1.out
  obtain ⟨d0, d1⟩ := F2.out
  cases r with
  | false =>
    have R : ¬ (of1 = of2 ∧ va1 = va2) := fun h => by have := HR.out.2 h.1; cases this
    clear HR
    go_wp2
    go_ret
    exact ⟨tells_no rfl R, X2.out⟩
  | true =>
    have R12 : Hid (of1 = of2) := HR.out.1 rfl
    clear HR
    go_wp2_with fail
    refine (bequal_any _ _ va1 va2 w2 (A.out.2.below X2.out) (B.out.2.below X2.out)).mono ?_
    rintro e w3 ⟨⟨r, rfl, hr⟩, rfl⟩
    have R : Hid (r = true ↔ of1 = of2 ∧ va1 = va2) := ⟨fun h => ⟨R12.out, hr.1 h⟩, fun h => hr.2 h.2⟩
    clear R12 hr
    go_wp2
    go_ret
    exact ⟨⟨_, rfl, R.out⟩, X2.out⟩

end Go.Proofs.Ytkcijbejngnalaa
