/-
  ClosureAgrees: opening its struct, and its walk.
-/
import Derived.Test.YtkckbeekehecnaaKY
import Derived.Test.YtkckbeekehecnaaZQ
import Derived.BigQuiet
namespace Go.Proofs.Ytkckbeekehecnaa
open Go.RowKit Go.ChangeShapes Go.WideShapes Go.ChangeAt
set_option linter.unusedVariables false
set_option maxRecDepth 100000

section
variable {w : World} {base : Nat} {spare : Nat → Bool} {held : Bool} {H : Type} {enc : TypeId × Value → H}
theorem open_eqsT {b0 : Nat} {v : Value} {d : DataW H} {p : List MemPlace} (hv : Value.okWide Try.prog w .any b0 25 v) (h : ∃ fuel, DataW.trod enc Try.prog w base spare held fuel 25 v.cells.toList = some (d, p)) (hw : WtOk 25 d) :
    ∃ (A S : Int) (pv : Value) (vs : List Value) (ls : List (List Int)) (qv : Value) (us : List Value) (xs : List (List UInt8)), v = .agg #[.int .u8 A, .int .u8 S, pv, qv] ∧ (Lit.int .u8 A).wf = true ∧ (Lit.int .u8 S).wf = true ∧ Sl 1 w pv vs.length vs ∧ LsZ w vs ls ∧ LzW ls ∧ Sl 1 w qv us.length us ∧ Parts w us xs := by
  obtain ⟨cs, rfl, hsz⟩ := okWide_struct Try.underlying25 hv
  obtain ⟨fuel, hf⟩ := h
  have h4 : cs.toList.length = 4 := by rw [Array.length_toList, hsz]; kernel_rfl
  simp only [Value.cells] at hf
  match hc : cs.toList, h4 with
  | [c0, c1, c2, c3], _ =>
    rw [hc] at hf
    obtain ⟨xs, n, _, hx, hl, hlen, hg⟩ := DataW.trod_struct Try.underlying25 hf
    injection hx with hx _
    subst hx
    match xs, hlen with
    | [(y0, p0), (y1, p1), (y2, p2), (y3, p3)], _ =>
      have w2 : WtOk 22 y2 := wt_struct Try.underlying25 hw (i := 2) rfl rfl
      have u0 : DataW.trod enc Try.prog w base spare held n 5 [c0] = some (y0, p0) := by have h1 := hg 0 _ rfl; simpa [show Try.prog.cellsOf 5 = 1 from by kernel_rfl] using h1
      have u1 : DataW.trod enc Try.prog w base spare held n 5 [c1] = some (y1, p1) := by have h1 := hg 1 _ rfl; simpa [show Try.prog.cellsOf 5 = 1 from by kernel_rfl] using h1
      have u2 : DataW.trod enc Try.prog w base spare held n 22 [c2] = some (y2, p2) := by have h1 := hg 2 _ rfl; simpa [show Try.prog.cellsOf 22 = 1 from by kernel_rfl] using h1
      have u3 : DataW.trod enc Try.prog w base spare held n 23 [c3] = some (y3, p3) := by have h1 := hg 3 _ rfl; simpa [show Try.prog.cellsOf 23 = 1 from by kernel_rfl] using h1
      obtain ⟨A, e0, f0⟩ := one_int Try.underlying5 u0
      obtain ⟨S, e1, f1⟩ := one_int Try.underlying5 u1
      obtain ⟨vs, ls, g1, g2, g3⟩ := lists_of_trodW u2 w2
      obtain ⟨us, ys, g4, g5⟩ := parts_of_trod Try.underlying23 Try.underlying38 Try.underlying5 (by kernel_rfl) (by kernel_rfl) u3
      refine ⟨A, S, c2, vs, ls, c3, us, ys, ?_, f0, f1, g1, g2, g3, g4, g5⟩
      rw [e0, e1] at hc
      congr 1
      exact Array.toList_inj.1 hc
end

theorem fitQ_pair {all : Int} {es es2 : List Qe} (h : es.map pairQ = es2.map pairQ) : (fitQ all es).map pairQ = (fitQ all es2).map pairQ := by
  unfold fitQ
  have e : ∀ l : List Qe, (l.filter fun e => fitsI all e.of).map pairQ = (l.map pairQ).filter fun p => fitsI all p.1 := by
    intro l
    induction l with
    | nil => rfl
    | cons a l ih =>
      have e1 : (pairQ a).1 = a.of := rfl
      rw [List.filter_cons, List.map_cons, List.filter_cons, e1]
      split
      · rw [List.map_cons, ih]
      · exact ih
  rw [e, e, h]
theorem va_of_pair {n : Nat} {es es2 : List Qe} (h : es.map pairQ = es2.map pairQ) (hv : ∀ e ∈ es, e.va.length = n) : ∀ e ∈ es2, e.va.length = n := by
  intro e he
  have h1 : pairQ e ∈ es.map pairQ := by rw [h]; exact List.mem_map.2 ⟨e, he, rfl⟩
  obtain ⟨e', he', h2⟩ := List.mem_map.1 h1
  have h3 : e.va = e'.va := (congrArg Prod.snd h2).symm
  rw [h3]
  exact hv e' he'
theorem of_of_pair {es es2 : List Qe} (h : es.map pairQ = es2.map pairQ) : es.map Qe.of = es2.map Qe.of := by
  have e : ∀ l : List Qe, l.map Qe.of = (l.map pairQ).map Prod.fst := fun l => by rw [List.map_map]; rfl
  rw [e, e, h]

end Go.Proofs.Ytkckbeekehecnaa
