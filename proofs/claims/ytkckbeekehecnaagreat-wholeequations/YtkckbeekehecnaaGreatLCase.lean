/-
  Opening the statements' structs of layers 13 and 14: two rows of bytes, a case, what is turned.
-/
import Derived.Test.YtkckbeekehecnaaGreatZBase
namespace Go.Proofs.YtkckbeekehecnaaGreat
open Go.RowKit Go.ChangeShapes Go.WideShapes Go.ChangeAt
set_option linter.unusedVariables false
set_option maxRecDepth 100000

section
variable {w : World} {base : Nat} {spare : Nat → Bool} {held : Bool} {H : Type} {enc : TypeId × Value → H}
theorem list2 {α : Type} {l : List α} (h : l.length = 2) : ∃ a b, l = [a, b] := by
  match l, h with
  | [a, b], _ => exact ⟨a, b, rfl⟩
theorem list12 {α : Type} {l : List α} (h : l.length = 12) : ∃ a b c d e f g i j k m n, l = [a, b, c, d, e, f, g, i, j, k, m, n] := by
  match l, h with
  | [a, b, c, d, e, f, g, i, j, k, m, n], _ => exact ⟨a, b, c, d, e, f, g, i, j, k, m, n, rfl⟩

theorem open_case {b0 : Nat} {v : Value} {x : DataW H × List MemPlace} (hv : Value.okWide Tryz.prog w .any b0 28 v) (h : ∃ fuel, DataW.trod enc Tryz.prog w base spare held fuel 28 v.cells.toList = some x) :
    ∃ (N B Q E F S : Int) (ov : Value) (ol : List UInt8) (iv : Value) (il : List Int), v = .agg #[.int .i64 N, .int .i64 B, .int .i64 Q, .int .i64 E, .int .i64 F, .int .u64 S, ov, iv] ∧ (Lit.int .u64 S).wf = true ∧ Bs w ov ol ∧ Sl 1 w iv il.length (il.map (Value.int .u64)) ∧ ∀ z ∈ il, (Lit.int .u64 z).wf = true := by
  obtain ⟨cs, rfl, hsz⟩ := okWide_struct Tryz.underlying28 hv
  obtain ⟨fuel, hf⟩ := h
  have h8 : cs.toList.length = 8 := by rw [Array.length_toList, hsz]; kernel_rfl
  obtain ⟨c0, c1, c2, c3, c4, c5, c6, c7, hc⟩ := list8 h8
  simp only [Value.cells] at hf
  rw [hc] at hf
  obtain ⟨y0, y1, y2, y3, k, t0, t1, t2, t3⟩ := trod_struct4' Tryz.underlying28 hf
  have hc5 : Tryz.prog.cellsOf 23 = 5 := by kernel_rfl
  have u0 : DataW.trod enc Tryz.prog w base spare held k 23 [c0, c1, c2, c3, c4] = some y0 := by simpa [hc5] using t0
  have u1 : DataW.trod enc Tryz.prog w base spare held k 24 [c5] = some y1 := t1
  have u2 : DataW.trod enc Tryz.prog w base spare held k 25 [c6] = some y2 := t2
  have u3 : DataW.trod enc Tryz.prog w base spare held k 26 [c7] = some y3 := t3
  obtain ⟨N, B, Q, E, F, ⟨e0, e1, e2, e3, e4⟩, -⟩ := params_cells u0
  obtain ⟨S, e5, f5⟩ := one_int Tryz.underlying24 u1
  obtain ⟨p, hp⟩ := bytes_of_trod Tryz.underlying25 Tryz.underlying5 (by kernel_rfl) u2
  obtain ⟨il, hs1, hs2⟩ := ints_of_trod Tryz.underlying26 Tryz.underlying24 (by kernel_rfl) u3
  refine ⟨N, B, Q, E, F, S, c6, p, c7, il, ?_, f5, hp, hs1, hs2⟩
  rw [e0, e1, e2, e3, e4, e5] at hc
  congr 1
  exact Array.toList_inj.1 hc

end

end Go.Proofs.YtkckbeekehecnaaGreat
