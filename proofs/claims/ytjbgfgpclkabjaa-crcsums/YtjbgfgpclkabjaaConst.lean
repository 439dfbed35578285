/-
  The walk of the statement CrcConstant.
-/
import Derived.Test.YtjbgfgpclkabjaaSpeaks
import Derived.Test.YtjbgfgpclkabjaaMathC
import Derived.Test.YtjbgfgpclkabjaaOpen
namespace Go.Proofs.Ytjbgfgpclkabjaa
open Go.RowKit
set_option linter.unusedVariables false

/-- Of what is sealed the sum, by one call: the slice lies behind it in a row of one. -/
theorem sum_one (g : Nat) (v : Value) (l : List UInt8) (w : World) (hT : IsTab w g) (hl : Bs w v l) :
    Calls Try.prog 17 #[.pointer (some ⟨g, 0, none⟩), .slice (some ⟨w.heap.size, 0, none⟩) 1 1] (w.alloc (.cells #[v] 22)) fun e w' => e = .returned (.int .u32 (MathA.sum l)) ∧ w' = w.alloc (.cells #[v] 22) := by
  have hb : Below w.heap.size w (w.alloc (.cells #[v] 22)) := (Below.refl _ _).alloc (Nat.le_refl _) _
  have h := sum_any g _ [v] [l] _ (hT.below hb) (alloc_one v 22) (parts_one (hl.below hb))
  simpa using h

theorem sum_sealed (l : List UInt8) : MathA.sum (l ++ be4 (MathA.sum l)) = 4294967295 - MathA.goal.toNat := by
  rw [MathA.sum, MathA.crc_sealed]

theorem sealed_bs {w : World} {base : Nat} {v : Value} {l : List UInt8} {n : Nat} (h : w.ownsRow base 5 1 v (l.length + 4) ((l ++ be4 n).map bv)) : Bs w v (l ++ be4 n) := by
  have h1 := owned_sl h
  have e : (l ++ be4 n).length = l.length + 4 := by simp [be4]
  unfold Bs
  rw [e]
  exact h1

set_option maxRecDepth 100000 in
set_option maxHeartbeats 1000000 in
theorem constant_walk (v0 : Value) (l0 : List UInt8) (v1 : Value) (l1 : List UInt8) (w : World) (h0 : Bs w v0 l0) (h1 : Bs w v1 l1) :
    Calls Try.prog 7 #[v0, v1] w fun e w' => e = .returned (.bool true) ∧ Below w.heap.size w w' := by
  have B0 := h0
  have B1 := h1
  obtain ⟨_, a0, c0, rfl, hc0, hm0, _, _⟩ := h0
  obtain ⟨_, a1, c1, rfl, hc1, hm1, _, _⟩ := h1
  unfold maxLen at hm0 hm1
  have H0 : Hid (Bs w (.slice a0 l0.length c0) l0) := B0
  have H1 : Hid (Bs w (.slice a1 l1.length c1) l1) := B1
  clear B0 B1
  by_cases hA : 500 < l0.length
  · go_enter Try.func7, Try.ntmps7
    go_wp2_with fail
    refine (speaks_any w).mono ?_
    rintro e w1 ⟨rfl, hb1⟩
    have X1 : Hid (Below w.heap.size w w1) := hb1
    clear hb1
    go_wp2
    go_ret
    exact ⟨rfl, X1.out⟩
  by_cases hB : 500 < l1.length
  · go_enter Try.func7, Try.ntmps7
    go_wp2_with fail
    refine (speaks_any w).mono ?_
    rintro e w1 ⟨rfl, hb1⟩
    have X1 : Hid (Below w.heap.size w w1) := hb1
    clear hb1
    go_wp2
    go_ret
    exact ⟨rfl, X1.out⟩
  have hA' : l0.length ≤ 500 := by omega
  have hB' : l1.length ≤ 500 := by omega
  clear hA hB
  go_enter Try.func7, Try.ntmps7
  go_wp2_with fail
  refine (speaks_any w).mono ?_
  rintro e w1 ⟨rfl, hb1⟩
  have X1 : Hid (Below w.heap.size w w1) := hb1
  clear hb1
  go_wp2_with fail
  refine (new_c _).mono ?_
  rintro e w2 ⟨rfl, hT, hb2, hs2⟩
  have X2 : Hid (Below w.heap.size w w2) := X1.out.trans (hb2.mono X1.out.size)
  clear hs2
  generalize w1.heap.size = g at *
  have T2 : Hid (IsTab w2 g) := hT
  clear hb2 hT X1
  go_wp2_with fail
  refine (seal_any g _ l0 _ T2.out (H0.out.below X2.out) (by first | omega | simp)).mono ?_
  rintro e w3 ⟨rfl, ho, hb⟩
  have X3 : Hid (Below w.heap.size w w3) := X2.out.trans (hb.mono X2.out.size)
  have T3 : Hid (IsTab w3 g) := T2.out.below hb
  have S3 : Hid (Bs w3 (.slice (some ⟨w2.heap.size + 1, 0, none⟩) (l0.length + 4) (l0.length + 4)) (l0 ++ be4 (MathA.sum l0))) := sealed_bs ho
  clear hb ho X2 T2
  generalize w2.heap.size + 1 = q3 at *
  go_wp2_with fail
  refine (sum_one g _ _ _ T3.out S3.out).mono ?_
  rintro e w4 ⟨rfl, hw⟩
  have hb : Below w3.heap.size w3 w4 := by rw [hw]; exact (Below.refl _ _).alloc (Nat.le_refl _) _
  have X4 : Hid (Below w.heap.size w w4) := X3.out.trans (hb.mono X3.out.size)
  have T4 : Hid (IsTab w4 g) := T3.out.below hb
  clear hb hw X3 T3 S3
  rw [sum_sealed]
  go_wp2_with fail
  refine (seal_any g _ l1 _ T4.out (H1.out.below X4.out) (by first | omega | simp)).mono ?_
  rintro e w5 ⟨rfl, ho, hb⟩
  have X5 : Hid (Below w.heap.size w w5) := X4.out.trans (hb.mono X4.out.size)
  have T5 : Hid (IsTab w5 g) := T4.out.below hb
  have S5 : Hid (Bs w5 (.slice (some ⟨w4.heap.size + 1, 0, none⟩) (l1.length + 4) (l1.length + 4)) (l1 ++ be4 (MathA.sum l1))) := sealed_bs ho
  clear hb ho X4 T4
  generalize w4.heap.size + 1 = q5 at *
  go_wp2_with fail
  refine (sum_one g _ _ _ T5.out S5.out).mono ?_
  rintro e w6 ⟨rfl, hw⟩
  have hb : Below w5.heap.size w5 w6 := by rw [hw]; exact (Below.refl _ _).alloc (Nat.le_refl _) _
  have X6 : Hid (Below w.heap.size w w6) := X5.out.trans (hb.mono X5.out.size)
  have T6 : Hid (IsTab w6 g) := T5.out.below hb
  clear hb hw X5 T5 S5
  rw [sum_sealed]
  go_wp2_with fail
  refine (seal_any g _ l0 _ T6.out (H0.out.below X6.out) (by first | omega | simp)).mono ?_
  rintro e w7 ⟨rfl, ho, hb⟩
  have X7 : Hid (Below w.heap.size w w7) := X6.out.trans (hb.mono X6.out.size)
  have T7 : Hid (IsTab w7 g) := T6.out.below hb
  have S7 : Hid (Bs w7 (.slice (some ⟨w6.heap.size + 1, 0, none⟩) (l0.length + 4) (l0.length + 4)) (l0 ++ be4 (MathA.sum l0))) := sealed_bs ho
  clear hb ho X6 T6
  generalize w6.heap.size + 1 = q7 at *
  go_wp2_with fail
  refine (sum_one g _ _ _ T7.out S7.out).mono ?_
  rintro e w8 ⟨rfl, hw⟩
  have hb : Below w7.heap.size w7 w8 := by rw [hw]; exact (Below.refl _ _).alloc (Nat.le_refl _) _
  have X8 : Hid (Below w.heap.size w w8) := X7.out.trans (hb.mono X7.out.size)
  have T8 : Hid (IsTab w8 g) := T7.out.below hb
  clear hb hw X7 T7 S7
  rw [sum_sealed]
  go_wp2_with fail
  refine (seal_any g _ ([] : List UInt8) _ T8.out ⟨rfl, none, 0, rfl, Nat.le_refl _, by simp [maxLen], fun _ => rfl, .inl rfl⟩ (by first | omega | simp)).mono ?_
  rintro e w9 ⟨rfl, ho, hb⟩
  have X9 : Hid (Below w.heap.size w w9) := X8.out.trans (hb.mono X8.out.size)
  have T9 : Hid (IsTab w9 g) := T8.out.below hb
  have S9 : Hid (Bs w9 (.slice (some ⟨w8.heap.size + 1, 0, none⟩) (([] : List UInt8).length + 4) (([] : List UInt8).length + 4)) (([] : List UInt8) ++ be4 (MathA.sum ([] : List UInt8)))) := sealed_bs ho
  clear hb ho X8 T8
  generalize w8.heap.size + 1 = q9 at *
  go_wp2_with fail
  refine (sum_one g _ _ _ T9.out S9.out).mono ?_
  rintro e w10 ⟨rfl, hw⟩
  have hb : Below w9.heap.size w9 w10 := by rw [hw]; exact (Below.refl _ _).alloc (Nat.le_refl _) _
  have X10 : Hid (Below w.heap.size w w10) := X9.out.trans (hb.mono X9.out.size)
  have T10 : Hid (IsTab w10 g) := T9.out.below hb
  clear hb hw X9 T9 S9
  rw [sum_sealed]
  go_wp2
  go_ret
  exact ⟨rfl, X10.out⟩

end Go.Proofs.Ytjbgfgpclkabjaa
