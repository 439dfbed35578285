/-
  Slices of equations, and of rows of numbers, as they are read.
-/
import Derived.Test.YtkcijbejngnalaaQD
namespace Go.Proofs.Ytkcijbejngnalaa
open Go.RowKit
set_option linter.unusedVariables false

/-- An equation: its two values, and what they read as. -/
structure Qe where
  ov : Value
  vv : Value
  of : List Int
  va : List UInt8
def Qe.cells (e : Qe) : List Value := [e.ov, e.vv]
def QeP (w : World) (e : Qe) : Prop := Zs w e.ov e.of ∧ Bs w e.vv e.va
theorem QeP.below {w w' : World} {e : Qe} (h : QeP w e) (hb : Below w.heap.size w w') : QeP w' e := ⟨h.1.below hb, h.2.below hb⟩

theorem length_qs (l : List Qe) : (l.flatMap Qe.cells).length = l.length * 2 := by
  induction l with
  | nil => rfl
  | cons x l ih => simp only [List.flatMap_cons, List.length_append, ih, List.length_cons]; simp [Qe.cells]; omega
theorem qs_get (l : List Qe) : ∀ (i : Nat) (e : Qe), l[i]? = some e → ∀ j, j < 2 → (l.flatMap Qe.cells)[i * 2 + j]? = e.cells[j]? := by
  induction l with
  | nil => intro i e h; simp at h
  | cons x l ih =>
    intro i e h j hj
    simp only [List.flatMap_cons]
    cases i with
    | zero =>
      simp at h
      subst h
      rw [List.getElem?_append_left (by simp [Qe.cells]; omega)]
      simp
    | succ i =>
      rw [List.getElem?_append_right (by simp [Qe.cells]; omega)]
      have e' : (i + 1) * 2 + j - (Qe.cells x).length = i * 2 + j := by simp [Qe.cells]; omega
      rw [e', ih i e (by simpa using h) j hj]

/-- A slice of equations. -/
def Qs (w : World) (v : Value) (l : List Qe) : Prop := Sl 2 w v l.length (l.flatMap Qe.cells) ∧ ∀ e ∈ l, QeP w e
theorem Qs.below {w w' : World} {v : Value} {l : List Qe} (h : Qs w v l) (hb : Below w.heap.size w w') : Qs w' v l := ⟨h.1.below hb, fun e he => (h.2 e he).below hb⟩
theorem Qs.shape {w : World} {v : Value} {l : List Qe} (h : Qs w v l) : ∃ a c, v = .slice a l.length c ∧ l.length ≤ c ∧ c ≤ 9223372036854775807 := by
  obtain ⟨⟨_, a', c', hv, h2, h3, _, _⟩, -⟩ := h
  unfold maxLen at h3
  exact ⟨a', c', hv, h2, h3⟩
theorem Qs.at {w W : World} {a : Option Addr} {n c i : Nat} {l : List Qe} {e : Qe} (h : Qs w (.slice a n c) l) (hb : Below w.heap.size w W) (he : l[i]? = some e) : ∃ b off, a = some ⟨b, off, none⟩ ∧ W.cell? ⟨b, off + i * 2, none⟩ = some e.ov ∧ W.cell? ⟨b, off + i * 2 + 1, none⟩ = some e.vv := by
  have hi := (List.getElem?_eq_some_iff.1 he).1
  obtain ⟨hl, a', c', hv, _, _, _, h5⟩ := h.1.below hb
  injection hv with e1 e2 e3
  subst e1
  rcases h5 with h0 | ⟨b, off, e', hc⟩
  · omega
  · refine ⟨b, off, e', ?_, ?_⟩
    · have := hc (i * 2 + 0) e.ov (by rw [qs_get l i e he 0 (by omega)]; rfl)
      simpa using this
    · have := hc (i * 2 + 1) e.vv (by rw [qs_get l i e he 1 (by omega)]; rfl)
      rw [← Nat.add_assoc] at this
      exact this
theorem Qs.get {w W : World} {v : Value} {i : Nat} {l : List Qe} {e : Qe} (h : Qs w v l) (hb : Below w.heap.size w W) (he : l[i]? = some e) : QeP W e := (h.2 e (List.mem_of_getElem? he)).below hb
theorem Qs.nil (w : World) : Qs w (.slice none 0 0) [] := ⟨⟨rfl, none, 0, rfl, by simp, by simp [maxLen], fun _ => rfl, .inl rfl⟩, fun e he => by cases he⟩

/-- Rows of numbers. -/
def LsZ (w : World) (vs : List Value) (ls : List (List Int)) : Prop := vs.length = ls.length ∧ ∀ (i : Nat) (v : Value) (l : List Int), vs[i]? = some v → ls[i]? = some l → Zs w v l
theorem LsZ.below {w w' : World} {vs : List Value} {ls : List (List Int)} (h : LsZ w vs ls) (hb : Below w.heap.size w w') : LsZ w' vs ls := ⟨h.1, fun i v l hv hl => (h.2 i v l hv hl).below hb⟩
theorem LsZ.at {w : World} {vs : List Value} {ls : List (List Int)} (h : LsZ w vs ls) {i : Nat} {l : List Int} (hl : ls[i]? = some l) : ∃ v, vs[i]? = some v ∧ Zs w v l := by
  have hi := (List.getElem?_eq_some_iff.1 hl).1
  have hv : i < vs.length := by rw [h.1]; exact hi
  exact ⟨vs[i], List.getElem?_eq_getElem hv, h.2 i _ l (List.getElem?_eq_getElem hv) hl⟩

/-- All Ofs, one behind the other; all values. -/
def ofsQ (l : List Qe) : List Int := (l.map Qe.of).flatten
def vasQ (l : List Qe) : List (List UInt8) := l.map Qe.va
theorem ofsQ_next {l : List Qe} {i : Nat} {e : Qe} (h : l[i]? = some e) : ofsQ (l.take (i + 1)) = ofsQ (l.take i) ++ e.of := by
  obtain ⟨hi, rfl⟩ := List.getElem?_eq_some_iff.1 h
  unfold ofsQ
  rw [List.take_succ_eq_append_getElem hi, List.map_append, List.flatten_append]
  simp only [List.map_cons, List.map_nil, List.flatten_cons, List.flatten_nil, List.append_nil]
theorem vasQ_next {l : List Qe} {i : Nat} {e : Qe} (h : l[i]? = some e) : vasQ (l.take (i + 1)) = vasQ (l.take i) ++ [e.va] := by
  obtain ⟨hi, rfl⟩ := List.getElem?_eq_some_iff.1 h
  unfold vasQ
  rw [List.take_succ_eq_append_getElem hi, List.map_append]
  rfl
theorem ofsQ_le (l : List Qe) (i : Nat) : (ofsQ (l.take i)).length ≤ (ofsQ l).length := by
  have : ofsQ l = ofsQ (l.take i) ++ ofsQ (l.drop i) := by
    unfold ofsQ
    rw [← List.flatten_append, ← List.map_append, List.take_append_drop]
  rw [this, List.length_append]
  omega

end Go.Proofs.Ytkcijbejngnalaa
