/-
  Opening the statements' structs of layers 13 and 14: two rows of bytes, a case, what is turned.
-/
import Derived.Test.YtkcijbejngnalaaZBase
namespace Go.Proofs.Ytkcijbejngnalaa
open Go.RowKit Go.ChangeShapes Go.WideShapes Go.ChangeAt
set_option linter.unusedVariables false
set_option maxRecDepth 100000

section
variable {w : World} {base : Nat} {spare : Nat → Bool} {held : Bool} {H : Type} {enc : TypeId × Value → H}
theorem list2 {α : Type} {l : List α} (h : l.length = 2) : ∃ a b, l = [a, b] := by
  match l, h with
  | [a, b], _ => exact ⟨a, b, rfl⟩
theorem list12 {α : Type} {l : List α} (h : l.length = 12) : ∃ a b c d e f g i j k m n, l = [a, b, c, d, e, f, g, i, j, k, m, n] := by
  match l, h with
  | [a, b, c, d, e, f, g, i, j, k, m, n], _ => exact ⟨a, b, c, d, e, f, g, i, j, k, m, n, rfl⟩

theorem open_turned {b0 : Nat} {v : Value} {x : DataW H × List MemPlace} (hv : Value.okWide Try.prog w .any b0 29 v) (h : ∃ fuel, DataW.trod enc Try.prog w base spare held fuel 29 v.cells.toList = some x) :
    ∃ (N B Q E F S : Int) (ov : Value) (ol : List UInt8) (K T Y M L : Int), v = .agg #[.int .i64 N, .int .i64 B, .int .i64 Q, .int .i64 E, .int .i64 F, .int .u64 S, ov, .int .u8 K, .int .u8 T, .int .u8 Y, .int .i64 M, .int .i64 L] ∧ (Lit.int .u64 S).wf = true ∧ Bs w ov ol ∧ (Lit.int .u8 K).wf = true ∧ (Lit.int .u8 T).wf = true ∧ (Lit.int .u8 Y).wf = true ∧ (Lit.int .i64 M).wf = true ∧ (Lit.int .i64 L).wf = true := by
  obtain ⟨cs, rfl, hsz⟩ := okWide_struct Try.underlying29 hv
  obtain ⟨fuel, hf⟩ := h
  have h12 : cs.toList.length = 12 := by rw [Array.length_toList, hsz]; kernel_rfl
  obtain ⟨c0, c1, c2, c3, c4, c5, c6, c7, c8, c9, c10, c11, hc⟩ := list12 h12
  simp only [Value.cells] at hf
  rw [hc] at hf
  obtain ⟨y0, y1, y2, y3, k, t0, t1, t2, t3⟩ := trod_struct4' Try.underlying29 hf
  have hc5 : Try.prog.cellsOf 23 = 5 := by kernel_rfl
  have hcT : Try.prog.cellsOf 27 = 5 := by kernel_rfl
  have u0 : DataW.trod enc Try.prog w base spare held k 23 [c0, c1, c2, c3, c4] = some y0 := by simpa [hc5] using t0
  have u1 : DataW.trod enc Try.prog w base spare held k 24 [c5] = some y1 := t1
  have u2 : DataW.trod enc Try.prog w base spare held k 25 [c6] = some y2 := t2
  have u3 : DataW.trod enc Try.prog w base spare held k 27 [c7, c8, c9, c10, c11] = some y3 := by simpa [hcT] using t3
  obtain ⟨N, B, Q, E, F, ⟨e0, e1, e2, e3, e4⟩, -⟩ := params_cells u0
  obtain ⟨S, e5, f5⟩ := one_int Try.underlying24 u1
  obtain ⟨p, hp⟩ := bytes_of_trod Try.underlying25 Try.underlying5 (by kernel_rfl) u2
  obtain ⟨x0, x1, x2, x3, x4, k2, s0, s1, s2, s3, s4⟩ := trod_struct5 Try.underlying27 u3
  have v0 : DataW.trod enc Try.prog w base spare held k2 5 [c7] = some x0 := s0
  have v1 : DataW.trod enc Try.prog w base spare held k2 5 [c8] = some x1 := s1
  have v2 : DataW.trod enc Try.prog w base spare held k2 5 [c9] = some x2 := s2
  have v3 : DataW.trod enc Try.prog w base spare held k2 3 [c10] = some x3 := s3
  have v4 : DataW.trod enc Try.prog w base spare held k2 3 [c11] = some x4 := s4
  obtain ⟨K, e7, f7⟩ := one_int Try.underlying5 v0
  obtain ⟨T, e8, f8⟩ := one_int Try.underlying5 v1
  obtain ⟨Y, e9, f9⟩ := one_int Try.underlying5 v2
  obtain ⟨M, e10, f10⟩ := one_int Try.underlying3 v3
  obtain ⟨L, e11, f11⟩ := one_int Try.underlying3 v4
  refine ⟨N, B, Q, E, F, S, c6, p, K, T, Y, M, L, ?_, f5, hp, f7, f8, f9, f10, f11⟩
  rw [e0, e1, e2, e3, e4, e5, e7, e8, e9, e10, e11] at hc
  congr 1
  exact Array.toList_inj.1 hc
end

end Go.Proofs.Ytkcijbejngnalaa
