/-
  Opening the statements' equations, and rows of numbers.
-/
import Derived.Test.YtkcijbejngnalaaQE
import Derived.Test.YtkcijbejngnalaaZBase
namespace Go.Proofs.Ytkcijbejngnalaa
open Go.RowKit Go.ChangeShapes Go.WideShapes Go.ChangeAt
set_option linter.unusedVariables false
set_option maxRecDepth 100000

section
variable {w : World} {base : Nat} {spare : Nat → Bool} {held : Bool} {H : Type} {enc : TypeId × Value → H}
theorem zs_of_trod {fuel : Nat} {v : Value} {x : DataW H × List MemPlace} (h : DataW.trod enc Try.prog w base spare held fuel 39 [v] = some x) : ∃ l : List Int, Zs w v l ∧ ∀ z ∈ l, (Lit.int .i64 z).wf = true := ints_of_trod Try.underlying39 Try.underlying3 (by kernel_rfl) h
theorem qe_of_trod {fuel : Nat} {c0 c1 : Value} {x : DataW H × List MemPlace} (h : DataW.trod enc Try.prog w base spare held fuel 41 [c0, c1] = some x) : ∃ (of : List Int) (va : List UInt8), QeP w ⟨c0, c1, of, va⟩ ∧ ∀ z ∈ of, (Lit.int .i64 z).wf = true := by
  obtain ⟨y0, y1, k, t0, t1⟩ := trod_struct2' Try.underlying41 h
  have u0 : DataW.trod enc Try.prog w base spare held k 39 [c0] = some y0 := t0
  have u1 : DataW.trod enc Try.prog w base spare held k 25 [c1] = some y1 := t1
  obtain ⟨of, hz, hw⟩ := zs_of_trod u0
  obtain ⟨va, hb⟩ := bytes_of_trod Try.underlying25 Try.underlying5 (by kernel_rfl) u1
  exact ⟨of, va, ⟨hz, hb⟩, hw⟩
theorem open_eqn {b0 : Nat} {v : Value} {x : DataW H × List MemPlace} (hv : Value.okWide Try.prog w .any b0 41 v) (h : ∃ fuel, DataW.trod enc Try.prog w base spare held fuel 41 v.cells.toList = some x) :
    ∃ (ov vv : Value) (of : List Int) (va : List UInt8), v = .agg #[ov, vv] ∧ Zs w ov of ∧ Bs w vv va ∧ ∀ z ∈ of, (Lit.int .i64 z).wf = true := by
  obtain ⟨cs, rfl, hsz⟩ := okWide_struct Try.underlying41 hv
  obtain ⟨fuel, hf⟩ := h
  have h2 : cs.toList.length = 2 := by rw [Array.length_toList, hsz]; kernel_rfl
  simp only [Value.cells] at hf
  match hc : cs.toList, h2 with
  | [c0, c1], _ =>
    rw [hc] at hf
    obtain ⟨of, va, ⟨h1, h3⟩, hw⟩ := qe_of_trod hf
    refine ⟨c0, c1, of, va, ?_, h1, h3, hw⟩
    congr 1
    exact Array.toList_inj.1 hc
theorem eqs_of_trod {fuel : Nat} {v : Value} {x : DataW H × List MemPlace}
    (h : DataW.trod enc Try.prog w base spare held fuel 37 [v] = some x) : ∃ l : List Qe, Qs w v l ∧ ∀ e ∈ l, ∀ z ∈ e.of, (Lit.int .i64 z).wf = true := by
  have inh : Inhabited Qe := ⟨⟨.slice none 0 0, .slice none 0 0, [], []⟩⟩
  have hc5 : Try.prog.cellsOf 41 = 2 := by kernel_rfl
  rcases Go.Deep.open_slice Try.underlying37 h with ⟨hcs, _⟩ | ⟨a, len, cap, m, n, D, Pl, hcs, _, hl, hm, hmm, _, hx⟩
  · injection hcs with hv _
    subst hv
    exact ⟨[], Qs.nil w, fun e he => by cases he⟩
  · injection hcs with hv _
    have hlm : len ≤ m := by rw [hmm]; split <;> omega
    rw [hc5] at hx
    obtain ⟨F, hF⟩ := Go.Deep.choose_lt (α := Qe) (n := len) (p := fun i y => (QeP w y ∧ ∀ z ∈ y.of, (Lit.int .i64 z).wf = true) ∧ ∀ j, j < 2 → w.cell? ((a.add (i * 2)).add j) = y.cells[j]?) (fun i hi => by
      obtain ⟨cs', h1, h2⟩ := hx i (by omega)
      obtain ⟨_, hl3, hcell⟩ := World.cells?_some h1
      match cs', hl3 with
      | [c0, c1], _ =>
        obtain ⟨of, va, hq, hw⟩ := qe_of_trod h2
        exact ⟨⟨c0, c1, of, va⟩, ⟨hq, hw⟩, fun j hj => by rw [hcell j hj]; rfl⟩)
    refine ⟨(List.range len).map F, ⟨⟨by rw [length_qs], some a, cap, by simpa using hv, by simpa using hl, hm, fun h => by simp at h, ?_⟩, ?_⟩, ?_⟩
    · by_cases h0 : len = 0
      · exact .inl (by simpa using h0)
      · right
        have ha0 := (hF 0 (by omega)).2 0 (by omega)
        have ha : a = ⟨a.block, a.off, none⟩ := addr_none (u := (F 0).ov) (by simpa [Addr.add, Qe.cells] using ha0)
        refine ⟨a.block, a.off, by rw [← ha], ?_⟩
        intro j u hj
        have hjl : j < len * 2 := by have := (List.getElem?_eq_some_iff.1 hj).1; rw [length_qs] at this; simpa using this
        have hi : j / 2 < len := by omega
        have e := qs_get ((List.range len).map F) (j / 2) (F (j / 2)) (by simp [hi]) (j % 2) (by omega)
        rw [show j / 2 * 2 + j % 2 = j by omega, hj] at e
        have hc := (hF (j / 2) hi).2 (j % 2) (by omega)
        rw [Go.Deep.add_add, show j / 2 * 2 + j % 2 = j by omega] at hc
        rw [ha, Addr.add_lit] at hc
        rw [hc, e]
    · intro y hy
      obtain ⟨i, hi, rfl⟩ := List.mem_map.1 hy
      exact (hF i (by simpa using hi)).1.1
    · intro y hy
      obtain ⟨i, hi, rfl⟩ := List.mem_map.1 hy
      exact (hF i (by simpa using hi)).1.2
theorem lists_of_trod {fuel : Nat} {v : Value} {x : DataW H × List MemPlace}
    (h : DataW.trod enc Try.prog w base spare held fuel 56 [v] = some x) : ∃ (vs : List Value) (ls : List (List Int)), Sl 1 w v vs.length vs ∧ LsZ w vs ls ∧ ∀ l ∈ ls, ∀ z ∈ l, (Lit.int .i64 z).wf = true := by
  rcases Go.Deep.open_slice1 Try.underlying56 (by kernel_rfl) h with ⟨hcs, _⟩ | ⟨a, len, cap, m, n, V, D, Pl, hcs, _, hl, hm, hmm, _, hx⟩
  · injection hcs with hv _
    subst hv
    exact ⟨[], [], ⟨rfl, none, 0, rfl, Nat.le_refl _, by simp [maxLen], fun _ => rfl, .inl rfl⟩, ⟨rfl, fun i v p h => by simp at h⟩, fun l hl => by cases hl⟩
  · injection hcs with hv _
    have hlm : len ≤ m := by rw [hmm]; split <;> omega
    obtain ⟨F, hF⟩ := Go.Deep.choose_lt (α := List Int) (n := len) (p := fun i y => Zs w (V i) y ∧ ∀ z ∈ y, (Lit.int .i64 z).wf = true) (fun i hi => by
      obtain ⟨h1, h2⟩ := hx i (by omega)
      exact zs_of_trod h2)
    refine ⟨(List.range len).map V, (List.range len).map F, ⟨by simp, some a, cap, by simpa using hv, by simpa using hl, hm, fun h => by simp at h, ?_⟩, ⟨by simp, ?_⟩, ?_⟩
    · by_cases h0 : len = 0
      · exact .inl (by simpa using h0)
      · right
        have ha : a = ⟨a.block, a.off, none⟩ := addr_none (u := V 0) (by simpa [Addr.add] using (hx 0 (by omega)).1)
        refine ⟨a.block, a.off, by rw [← ha], ?_⟩
        intro j u hj
        have hjl : j < len := by have := (List.getElem?_eq_some_iff.1 hj).1; simpa using this
        simp [hjl] at hj
        subst hj
        have hc := (hx j (by omega)).1
        rw [ha, Addr.add_lit] at hc
        exact hc
    · intro i v p hv hp
      have hi : i < len := by have := (List.getElem?_eq_some_iff.1 hv).1; simpa using this
      simp [hi] at hv hp
      subst hv; subst hp
      exact (hF i hi).1
    · intro y hy
      obtain ⟨i, hi, rfl⟩ := List.mem_map.1 hy
      exact (hF i (by simpa using hi)).2
end

end Go.Proofs.Ytkcijbejngnalaa
