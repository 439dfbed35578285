/-
  The walk of the wire statements' own first look: two bytes.
-/
import Derived.Test.YtjbgfgpclkabjaaWireC
namespace Go.Proofs.Ytjbgfgpclkabjaa
open Go.RowKit
set_option linter.unusedVariables false

/-- The zero Writer, in a new block. -/
theorem zero_wr (w : World) (base : Nat) (hb : base ≤ w.heap.size) : IsWr (w.alloc (.cells #[.slice none 0 0] 39)) base w.heap.size none [] := by
  refine ⟨by simp, hb, by simp, none, 0, by simp, World.ownsRow_nil _ _ _ _, rfl, Nat.le_refl _, by simp [maxLen]⟩

theorem IsWr.kept {w w' : World} {base b : Nat} {row : Option Nat} {l : List UInt8} (h : IsWr w base b row l) (hb : w'.heap[b]? = w.heap[b]?) (hr : ∀ k, row = some k → w'.heap[k]? = w.heap[k]?) : IsWr w' base b row l := by
  obtain ⟨h1, h2, h3, ao, cap, h4, h5, h6, h7, h8⟩ := h
  refine ⟨(World.frozen?_of_block (a := ⟨b, 0, none⟩) hb).trans h1, h2, h3, ao, cap, (World.cell?_of_block (a := ⟨b, 0, none⟩) hb).trans h4, ?_, h6, h7, h8⟩
  refine ⟨h5.1, ?_⟩
  rcases h5.2 with h | ⟨g, cap', cur, hv, hg, hh, hx⟩
  · exact .inl h
  · refine .inr ⟨g, cap', cur, hv, hg, ?_, hx⟩
    have : row = some g := by rw [← h6, hv]; rfl
    rw [hr g this]
    exact hh

theorem IsWr.lt {w : World} {base b : Nat} {row : Option Nat} {l : List UInt8} (h : IsWr w base b row l) : b < w.heap.size ∧ ∀ k, row = some k → base ≤ k ∧ k < w.heap.size := by
  obtain ⟨h1, h2, h3, ao, cap, h4, h5, h6, h7, h8⟩ := h
  refine ⟨cell_block_lt h4, fun k hk => ?_⟩
  rw [← h6] at hk
  exact h5.lt k hk

theorem IsWr.below {w w' : World} {base b : Nat} {row : Option Nat} {l : List UInt8} (h : IsWr w base b row l) (hb : Below w.heap.size w w') : IsWr w' base b row l :=
  h.kept (hb.block b h.lt.1) (fun k hk => hb.block k (h.lt.2 k hk).2)

theorem Fr.wr {w w' : World} {base b : Nat} {row : Option Nat} {l : List UInt8} (h : Fr w w' b row) (hw : IsWr w base b row l) (hb : base ≤ w.heap.size) : Below base w w' :=
  h.below hb hw.2.1 (fun k hk => (hw.lt.2 k hk).1)

set_option maxRecDepth 100000 in
set_option maxHeartbeats 1000000 in
theorem speaks2_any (w : World) : Calls Try.prog 21 #[] w fun e w' => e = .returned (.bool true) ∧ Below w.heap.size w w' := by
  have hz := zero_wr w w.heap.size (Nat.le_refl _)
  have hb0 : Below w.heap.size w (w.alloc (.cells #[.slice none 0 0] 39)) := (Below.refl _ _).alloc (Nat.le_refl _) _
  have H0 : Hid (IsWr (w.alloc (.cells #[.slice none 0 0] 39)) w.heap.size w.heap.size none []) := hz
  have X0 : Hid (Below w.heap.size w (w.alloc (.cells #[.slice none 0 0] 39))) := hb0
  clear hz hb0
  go_enter Try.func21, Try.ntmps21
  go_wp2_with fail
  refine (put_yes w.heap.size w.heap.size none [] 258 2 _ H0.out (by simp) (by omega) (by omega) (by decide) (by simp)).mono ?_
  rintro e w1 ⟨rfl, row1, hw1, hf1, hr1⟩
  have X1 : Hid (Below w.heap.size w w1) := X0.out.trans (hf1.wr H0.out (by simp))
  have W1 : Hid (IsWr w1 w.heap.size w.heap.size row1 [1, 2]) := by
    have e : ([] ++ be 258 2 : List UInt8) = [1, 2] := by decide
    rw [e] at hw1
    exact hw1
  clear hw1 hf1 hr1 X0 H0
  go_wp2_with fail
  refine (put_no w.heap.size 256 1 _ (by omega) (.inr (by decide))).mono ?_
  rintro e w2 ⟨rfl, rfl⟩
  go_wp2_with fail
  refine (bytes_any _ _ _ _ _ W1.out (by simp)).mono ?_
  rintro e w3 ⟨q, rfl, hq, ho, hb⟩
  have X3 : Hid (Below w.heap.size w w3) := X1.out.trans (hb.mono X1.out.size)
  have W3 : Hid (IsWr w3 w.heap.size w.heap.size row1 [1, 2]) := W1.out.below hb
  have O3 : Hid (Bs w3 (.slice (some ⟨q, 0, none⟩) 2 2) [1, 2]) := ho.bs (by simp)
  clear hq ho hb X1 W1
  go_wp2_with fail
  refine (read_any _ [1, 2] _ O3.out (by simp)).mono ?_
  rintro e w4 ⟨r, q4, rfl, hq4, hr4, hq4l, hrd, hb4⟩
  have X4 : Hid (Below w.heap.size w w4) := X3.out.trans (hb4.mono X3.out.size)
  have W4 : Hid (IsWr w4 w.heap.size w.heap.size row1 [1, 2]) := W3.out.below hb4
  have R4 : Hid (IsRd w4 r q4 [1, 2]) := hrd
  have D4 : Hid (w.heap.size < r ∧ (∀ k, row1 = some k → k ≠ r)) := by
    have := W3.out.lt.1
    refine ⟨by omega, fun k hk => ?_⟩
    have := (W3.out.lt.2 k hk).2
    omega
  clear hq4 hr4 hq4l hrd hb4 X3 W3 O3
  go_wp2_with fail
  refine (take_yes r q4 [1, 2] 2 _ R4.out (by omega) (by omega) (by simp)).mono ?_
  rintro e w5 ⟨rfl, hrd, hg, hs⟩
  have X5 : Hid (Below w.heap.size w w5) := X4.out.grown hg X4.out.size (fun k hk => by injection hk with hk; have := D4.out.1; omega)
  have W5 : Hid (IsWr w5 w.heap.size w.heap.size row1 [1, 2]) := W4.out.kept (hg.block _ W4.out.lt.1 (by intro e; injection e with e; have := D4.out.1; omega)) (fun k hk => hg.block k (W4.out.lt.2 k hk).2 (by intro e; injection e with e; exact D4.out.2 k hk e))
  have R5 : Hid (IsRd w5 r q4 []) := hrd
  have e2 : num64 (List.take 2 [1, 2]) = 258 := by decide
  rw [e2]
  clear e2 hrd hg hs X4 W4 R4
  go_wp2_with fail
  refine (len_any _ _ _ _ _ W5.out).mono ?_
  rintro e w6 ⟨rfl, rfl⟩
  go_wp2_with fail
  refine (left_any _ _ _ _ R5.out).mono ?_
  rintro e w7 ⟨rfl, rfl⟩
  go_wp2
  go_ret
  exact ⟨rfl, X5.out⟩

end Go.Proofs.Ytjbgfgpclkabjaa
