/-
  A Draw that is handed by value, as it is read.
-/
import Derived.Test.YthlladpappldbaaLStruct
namespace Go.Proofs.Ythlladpappldbaa
open Go.RowKit Go.ChangeShapes Go.WideShapes Go.ChangeAt
set_option linter.unusedVariables false
set_option maxRecDepth 100000

section
variable {H : Type} {enc : TypeId × Value → H} {w : World} {base : Nat} {spare : Nat → Bool} {held : Bool}

theorem open_draw {b0 : Nat} {v : Value} {x : DataW H × List MemPlace} (hv : Value.okWide Try.prog w .any b0 38 v) (h : ∃ fuel, DataW.trod enc Try.prog w base spare held fuel 38 v.cells.toList = some x) :
    ∃ (sv : Value) (sl : List Int) (B M X : Int), v = .agg #[sv, .int .i64 B, .int .i64 M, .int .i64 X] ∧ (Sl 1 w sv sl.length (sl.map (Value.int .u64)) ∧ ∀ z ∈ sl, (Lit.int .u64 z).wf = true) ∧ Ok .i64 B ∧ Ok .i64 M ∧ Ok .i64 X := by
  obtain ⟨cs, rfl, hsz⟩ := okWide_struct Try.underlying38 hv
  obtain ⟨fuel, hf⟩ := h
  have h4 : cs.toList.length = 4 := by rw [Array.length_toList, hsz]; kernel_rfl
  obtain ⟨c0, c1, c2, c3, hc⟩ := list4 h4
  simp only [Value.cells] at hf
  rw [hc] at hf
  obtain ⟨y0, y1, y2, y3, k, t0, t1, t2, t3⟩ := trod_struct4' Try.underlying38 hf
  have u0 : DataW.trod enc Try.prog w base spare held k 22 [c0] = some y0 := t0
  have u1 : DataW.trod enc Try.prog w base spare held k 3 [c1] = some y1 := t1
  have u2 : DataW.trod enc Try.prog w base spare held k 3 [c2] = some y2 := t2
  have u3 : DataW.trod enc Try.prog w base spare held k 3 [c3] = some y3 := t3
  obtain ⟨sl, hs1, hs2⟩ := ints_of_trod Try.underlying22 Try.underlying26 (by kernel_rfl) u0
  obtain ⟨B, e1, f1⟩ := one_int Try.underlying3 u1
  obtain ⟨M, e2, f2⟩ := one_int Try.underlying3 u2
  obtain ⟨X, e3, f3⟩ := one_int Try.underlying3 u3
  refine ⟨c0, sl, B, M, X, ?_, ⟨hs1, hs2⟩, f1, f2, f3⟩
  rw [e1, e2, e3] at hc
  congr 1
  exact Array.toList_inj.1 hc
end

end Go.Proofs.Ythlladpappldbaa
