/-
  Opening a struct of Params, two numbers of 64 bits and one more.
-/
import Derived.Test.YtecohgmllmddhaaLStruct
namespace Go.Proofs.Ytecohgmllmddhaa
open Go.ChangeShapes Go.WideShapes Go.ChangeAt Go.RowKit
set_option linter.unusedVariables false
set_option maxRecDepth 100000
variable {H : Type} {enc : TypeId × Value → H} {w : World} {base : Nat} {spare : Nat → Bool} {held : Bool}

theorem open_dpair {b0 : Nat} {v : Value} {x : DataW H × List MemPlace} (hv : Value.okWide Try.prog w .any b0 72 v) (h : ∃ fuel, DataW.trod enc Try.prog w base spare held fuel 72 v.cells.toList = some x) :
    ∃ N B Q E F U V I : Int, v = .agg #[.int .i64 N, .int .i64 B, .int .i64 Q, .int .i64 E, .int .i64 F, .int .u64 U, .int .u64 V, .int .i64 I] ∧ Ok .i64 N ∧ Ok .i64 B ∧ Ok .i64 Q ∧ Ok .i64 E ∧ Ok .i64 F ∧ Ok .u64 U ∧ Ok .u64 V ∧ Ok .i64 I := by
  obtain ⟨cs, rfl, hsz⟩ := okWide_struct Try.underlying72 hv
  obtain ⟨fuel, hf⟩ := h
  have h8 : cs.toList.length = 8 := by rw [Array.length_toList, hsz]; kernel_rfl
  obtain ⟨c0, c1, c2, c3, c4, c5, c6, c7, hc⟩ := list8 h8
  simp only [Value.cells] at hf
  rw [hc] at hf
  obtain ⟨y0, y1, y2, y3, k, t0, t1, t2, t3⟩ := trod_struct4' Try.underlying72 hf
  have hc5 : Try.prog.cellsOf 24 = 5 := by kernel_rfl
  have u0 : DataW.trod enc Try.prog w base spare held k 24 [c0, c1, c2, c3, c4] = some y0 := by
    simpa [hc5] using t0
  have u1 : DataW.trod enc Try.prog w base spare held k 22 [c5] = some y1 := t1
  have u2 : DataW.trod enc Try.prog w base spare held k 22 [c6] = some y2 := t2
  have u3 : DataW.trod enc Try.prog w base spare held k 3 [c7] = some y3 := t3
  obtain ⟨N, B, Q, E, F, ⟨e0, e1, e2, e3, e4⟩, f0, f1, f2, f3, f4⟩ := params_cells u0
  obtain ⟨U, e5, f5⟩ := one_int Try.underlying22 u1
  obtain ⟨V, e6, f6⟩ := one_int Try.underlying22 u2
  obtain ⟨I, e7, f7⟩ := one_int Try.underlying3 u3
  refine ⟨N, B, Q, E, F, U, V, I, ?_, f0, f1, f2, f3, f4, f5, f6, f7⟩
  rw [e0, e1, e2, e3, e4, e5, e6, e7] at hc
  congr 1
  exact Array.toList_inj.1 hc

end Go.Proofs.Ytecohgmllmddhaa
