/-
  A Writer: how it is kept.
-/
import Derived.Test.YtecohgmllmddhaaWireC
namespace Go.Proofs.Ytecohgmllmddhaa
open Go.RowKit
set_option linter.unusedVariables false

/-- The zero Writer, in a new block. -/
theorem zero_wr (w : World) (base : Nat) (hb : base ≤ w.heap.size) : IsWr (w.alloc (.cells #[.slice none 0 0] 103)) base w.heap.size none [] := by
  refine ⟨by simp, hb, by simp, none, 0, by simp, World.ownsRow_nil _ _ _ _, rfl, Nat.le_refl _, by simp [maxLen]⟩

theorem IsWr.kept {w w' : World} {base b : Nat} {row : Option Nat} {l : List UInt8} (h : IsWr w base b row l) (hb : w'.heap[b]? = w.heap[b]?) (hr : ∀ k, row = some k → w'.heap[k]? = w.heap[k]?) : IsWr w' base b row l := by
  obtain ⟨h1, h2, h3, ao, cap, h4, h5, h6, h7, h8⟩ := h
  refine ⟨(World.frozen?_of_block (a := ⟨b, 0, none⟩) hb).trans h1, h2, h3, ao, cap, (World.cell?_of_block (a := ⟨b, 0, none⟩) hb).trans h4, ?_, h6, h7, h8⟩
  refine ⟨h5.1, ?_⟩
  rcases h5.2 with h | ⟨g, cap', cur, hv, hg, hh, hx⟩
  · exact .inl h
  · refine .inr ⟨g, cap', cur, hv, hg, ?_, hx⟩
    have : row = some g := by rw [← h6, hv]; rfl
    rw [hr g this]
    exact hh

theorem IsWr.lt {w : World} {base b : Nat} {row : Option Nat} {l : List UInt8} (h : IsWr w base b row l) : b < w.heap.size ∧ ∀ k, row = some k → base ≤ k ∧ k < w.heap.size := by
  obtain ⟨h1, h2, h3, ao, cap, h4, h5, h6, h7, h8⟩ := h
  refine ⟨cell_block_lt h4, fun k hk => ?_⟩
  rw [← h6] at hk
  exact h5.lt k hk

theorem IsWr.below {w w' : World} {base b : Nat} {row : Option Nat} {l : List UInt8} (h : IsWr w base b row l) (hb : Below w.heap.size w w') : IsWr w' base b row l :=
  h.kept (hb.block b h.lt.1) (fun k hk => hb.block k (h.lt.2 k hk).2)

theorem Fr.wr {w w' : World} {base b : Nat} {row : Option Nat} {l : List UInt8} (h : Fr w w' b row) (hw : IsWr w base b row l) (hb : base ≤ w.heap.size) : Below base w w' :=
  h.below hb hw.2.1 (fun k hk => (hw.lt.2 k hk).1)

end Go.Proofs.Ytecohgmllmddhaa
