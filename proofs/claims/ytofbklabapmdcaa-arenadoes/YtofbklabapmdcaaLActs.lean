/-
  A slice of the statement's acts, as it is read.
-/
import Derived.Test.YtofbklabapmdcaaLPairs
import Derived.Deep.Strs
namespace Go.Proofs.Ytofbklabapmdcaa
open Go.RowKit Go.ChangeShapes Go.WideShapes Go.ChangeAt
set_option linter.unusedVariables false

/-- An act: its kind, two numbers, whether they are meant among those had, bytes (the slice, and what it reads as). -/
structure Ac where
  kd : Int
  i : Int
  k : Int
  ev : Bool
  v : Value
  b : List UInt8

def Ac.cells (x : Ac) : List Value := [.int .i64 x.kd, .int .i64 x.i, .int .i64 x.k, .bool x.ev, x.v]

def Acts (w : World) (v : Value) (l : List Ac) : Prop := Sl 5 w v l.length (l.flatMap Ac.cells) ∧ ∀ x ∈ l, Bs w x.v x.b

theorem length_acts (l : List Ac) : (l.flatMap Ac.cells).length = l.length * 5 := by
  induction l with
  | nil => rfl
  | cons x l ih => simp only [List.flatMap_cons, List.length_append, ih, List.length_cons]; simp [Ac.cells]; omega

theorem acts_at (l : List Ac) : ∀ i (h : i < l.length) (j : Nat), j < 5 → (l.flatMap Ac.cells)[i * 5 + j]? = (l[i]'h).cells[j]? := by
  induction l with
  | nil => intro i h; simp at h
  | cons x l ih =>
    intro i h j hj
    simp only [List.flatMap_cons]
    cases i with
    | zero =>
      rw [List.getElem?_append_left (by simp [Ac.cells]; omega)]
      simp
    | succ i =>
      rw [List.getElem?_append_right (by simp [Ac.cells]; omega)]
      have e : (i + 1) * 5 + j - x.cells.length = i * 5 + j := by simp [Ac.cells]; omega
      rw [e, ih i (by simpa using h) j hj]
      simp

theorem trod_struct5 {H : Type} {enc : TypeId × Value → H} {P : Program} {w : World} {base : Nat} {spare : Nat → Bool} {held : Bool} {t : TypeId} {f0 f1 f2 f3 f4 : Field} {fuel : Nat} {cs : List Value} {x : DataW H × List MemPlace} (ht : P.underlying t = some (.struct #[f0, f1, f2, f3, f4])) (h : DataW.trod enc P w base spare held fuel t cs = some x) :
    ∃ y0 y1 y2 y3 y4 n, DataW.trod enc P w base spare held n f0.type ((cs.drop f0.offset).take (P.cellsOf f0.type)) = some y0 ∧ DataW.trod enc P w base spare held n f1.type ((cs.drop f1.offset).take (P.cellsOf f1.type)) = some y1 ∧ DataW.trod enc P w base spare held n f2.type ((cs.drop f2.offset).take (P.cellsOf f2.type)) = some y2 ∧
      DataW.trod enc P w base spare held n f3.type ((cs.drop f3.offset).take (P.cellsOf f3.type)) = some y3 ∧ DataW.trod enc P w base spare held n f4.type ((cs.drop f4.offset).take (P.cellsOf f4.type)) = some y4 := by
  obtain ⟨xs, n, _, rfl, hl, hlen, hf⟩ := DataW.trod_struct ht h
  match xs, hlen with
  | [y0, y1, y2, y3, y4], _ => exact ⟨y0, y1, y2, y3, y4, n, by simpa using hf 0 f0 rfl, by simpa using hf 1 f1 rfl, by simpa using hf 2 f2 rfl, by simpa using hf 3 f3 rfl, by simpa using hf 4 f4 rfl⟩

theorem acts_of_trod {H : Type} {enc : TypeId × Value → H} {w : World} {base : Nat} {spare : Nat → Bool} {held : Bool} {fuel : Nat} {v : Value} {x : DataW H × List MemPlace}
    (h : DataW.trod enc Try.prog w base spare held fuel 22 [v] = some x) : ∃ l : List Ac, Acts w v l := by
  have inh : Inhabited Ac := ⟨⟨0, 0, 0, false, .slice none 0 0, []⟩⟩
  have hc5 : Try.prog.cellsOf 30 = 5 := by kernel_rfl
  rcases Go.Deep.open_slice Try.underlying22 h with ⟨hcs, _⟩ | ⟨a, len, cap, m, n, D, Pl, hcs, _, hl, hm, hmm, _, hx⟩
  · injection hcs with hv _
    subst hv
    exact ⟨[], ⟨rfl, none, 0, rfl, Nat.le_refl _, by simp [maxLen], fun _ => rfl, .inl rfl⟩, by simp⟩
  · injection hcs with hv _
    have hlm : len ≤ m := by rw [hmm]; split <;> omega
    rw [hc5] at hx
    obtain ⟨F, hF⟩ := Go.Deep.choose_lt (α := Ac) (n := len) (p := fun i y => Bs w y.v y.b ∧ ∀ j, j < 5 → w.cell? ((a.add (i * 5)).add j) = y.cells[j]?) (fun i hi => by
      obtain ⟨cs', h1, h2⟩ := hx i (by omega)
      obtain ⟨_, hl3, hcell⟩ := World.cells?_some h1
      obtain ⟨y0, y1, y2, y3, y4, k, t0, t1, t2, t3, t4⟩ := trod_struct5 Try.underlying30 h2
      match cs', hl3 with
      | [c0, c1, c2, c3, c4], _ =>
        have u0 : DataW.trod enc Try.prog w base spare held k 3 [c0] = some y0 := t0
        have u1 : DataW.trod enc Try.prog w base spare held k 3 [c1] = some y1 := t1
        have u2 : DataW.trod enc Try.prog w base spare held k 3 [c2] = some y2 := t2
        have u3 : DataW.trod enc Try.prog w base spare held k 4 [c3] = some y3 := t3
        have u4 : DataW.trod enc Try.prog w base spare held k 28 [c4] = some y4 := t4
        obtain ⟨n0, e0, _, f0⟩ := DataW.trod_int Try.underlying3 u0
        obtain ⟨n1, e1, _, f1⟩ := DataW.trod_int Try.underlying3 u1
        obtain ⟨n2, e2, _, f2⟩ := DataW.trod_int Try.underlying3 u2
        obtain ⟨b3, e3, _⟩ := DataW.trod_bool Try.underlying4 u3
        obtain ⟨lb, hb⟩ := bytes_of_trod Try.underlying28 Try.underlying5 (by kernel_rfl) u4
        injection e0 with e0 _
        injection e1 with e1 _
        injection e2 with e2 _
        injection e3 with e3 _
        subst e0; subst e1; subst e2; subst e3
        exact ⟨⟨n0, n1, n2, b3, c4, lb⟩, hb, fun j hj => by rw [hcell j hj]; rfl⟩)
    refine ⟨(List.range len).map F, ⟨by rw [length_acts], some a, cap, by simpa using hv, by simpa using hl, hm, fun h => by simp at h, ?_⟩, ?_⟩
    · by_cases h0 : len = 0
      · exact .inl (by simpa using h0)
      · right
        have ha0 := (hF 0 (by omega)).2 0 (by omega)
        have ha : a = ⟨a.block, a.off, none⟩ := addr_none (u := .int .i64 (F 0).kd) (by simpa [Addr.add, Ac.cells] using ha0)
        refine ⟨a.block, a.off, by rw [← ha], ?_⟩
        intro j u hj
        have hjl : j < len * 5 := by have := (List.getElem?_eq_some_iff.1 hj).1; rw [length_acts] at this; simpa using this
        have hi : j / 5 < len := by omega
        have e := acts_at ((List.range len).map F) (j / 5) (by simpa using hi) (j % 5) (by omega)
        rw [show j / 5 * 5 + j % 5 = j by omega, hj] at e
        have hc := (hF (j / 5) hi).2 (j % 5) (by omega)
        rw [Go.Deep.add_add, show j / 5 * 5 + j % 5 = j by omega] at hc
        rw [ha, Addr.add_lit] at hc
        rw [hc, e]
        simp
    · intro y hy
      obtain ⟨i, hi, rfl⟩ := List.mem_map.1 hy
      exact (hF i (by simpa using hi)).1

theorem Acts.below {w w' : World} {v : Value} {l : List Ac} (h : Acts w v l) (hb : Below w.heap.size w w') : Acts w' v l := ⟨h.1.below hb, fun x hx => (h.2 x hx).below hb⟩

end Go.Proofs.Ytofbklabapmdcaa
