/-
  A slice of the wire statements' items, as it is read.
-/
import Derived.Test.YtjbgfgpclkabjaaOpen
import Derived.Deep.Strs
namespace Go.Proofs.Ytjbgfgpclkabjaa
open Go.RowKit Go.ChangeShapes Go.WideShapes Go.ChangeAt
set_option linter.unusedVariables false

/-- An item: a number, a size, bytes (the slice, and what it reads as). -/
structure It where
  n : Nat
  s : Int
  v : Value
  b : List UInt8

def It.cells (x : It) : List Value := [.int .u64 x.n, .int .i64 x.s, x.v]

/-- An item that may be: its numbers fit, its bytes are read. -/
def It.ok (w : World) (x : It) : Prop := x.n < 18446744073709551616 ∧ -9223372036854775808 ≤ x.s ∧ x.s ≤ 9223372036854775807 ∧ Bs w x.v x.b

def Items (w : World) (v : Value) (l : List It) : Prop := Sl 3 w v l.length (l.flatMap It.cells) ∧ ∀ x ∈ l, x.ok w

theorem length_cells (l : List It) : (l.flatMap It.cells).length = l.length * 3 := by
  induction l with
  | nil => rfl
  | cons x l ih => simp only [List.flatMap_cons, List.length_append, ih, List.length_cons]; simp [It.cells]; omega

theorem cells_at (l : List It) : ∀ i (h : i < l.length) (j : Nat), j < 3 → (l.flatMap It.cells)[i * 3 + j]? = (l[i]'h).cells[j]? := by
  induction l with
  | nil => intro i h; simp at h
  | cons x l ih =>
    intro i h j hj
    simp only [List.flatMap_cons]
    cases i with
    | zero =>
      rw [List.getElem?_append_left (by simp [It.cells]; omega)]
      simp
    | succ i =>
      rw [List.getElem?_append_right (by simp [It.cells]; omega)]
      have e : (i + 1) * 3 + j - x.cells.length = i * 3 + j := by simp [It.cells]; omega
      rw [e, ih i (by simpa using h) j hj]
      simp

theorem items_of_trod {H : Type} {enc : TypeId × Value → H} {w : World} {base : Nat} {spare : Nat → Bool} {held : Bool} {fuel : Nat} {v : Value} {x : DataW H × List MemPlace}
    (h : DataW.trod enc Try.prog w base spare held fuel 37 [v] = some x) : ∃ l : List It, Items w v l := by
  have inh : Inhabited It := ⟨⟨0, 0, .slice none 0 0, []⟩⟩
  have h42 : Try.prog.cellsOf 42 = 3 := by kernel_rfl
  rcases Go.Deep.open_slice Try.underlying37 h with ⟨hcs, _⟩ | ⟨a, len, cap, m, n, D, Pl, hcs, _, hl, hm, hmm, _, hx⟩
  · injection hcs with hv _
    subst hv
    exact ⟨[], ⟨rfl, none, 0, rfl, Nat.le_refl _, by simp [maxLen], fun _ => rfl, .inl rfl⟩, by simp⟩
  · injection hcs with hv _
    have hlm : len ≤ m := by rw [hmm]; split <;> omega
    rw [h42] at hx
    obtain ⟨F, hF⟩ := Go.Deep.choose_lt (α := It) (n := len) (p := fun i y => y.ok w ∧ ∀ j, j < 3 → w.cell? ((a.add (i * 3)).add j) = y.cells[j]?) (fun i hi => by
      obtain ⟨cs', h1, h2⟩ := hx i (by omega)
      obtain ⟨_, hl3, hcell⟩ := World.cells?_some h1
      obtain ⟨y0, y1, y2, k, _, _, t0, t1, t2⟩ := Go.Deep.trod_struct3 Try.underlying42 h2
      match cs', hl3 with
      | [c0, c1, c2], _ =>
        have u0 : DataW.trod enc Try.prog w base spare held k 40 [c0] = some y0 := t0
        have u1 : DataW.trod enc Try.prog w base spare held k 3 [c1] = some y1 := t1
        have u2 : DataW.trod enc Try.prog w base spare held k 22 [c2] = some y2 := t2
        obtain ⟨n0, e0, _, f0⟩ := DataW.trod_int Try.underlying40 u0
        obtain ⟨n1, e1, _, f1⟩ := DataW.trod_int Try.underlying3 u1
        obtain ⟨lb, hb⟩ := bytes_of_trod Try.underlying22 Try.underlying5 (by kernel_rfl) u2
        injection e0 with e0 _
        injection e1 with e1 _
        subst e0; subst e1
        obtain ⟨g0, g1⟩ := bounds_u64 f0
        obtain ⟨g2, g3⟩ := bounds_i64 f1
        have hn0 : ((n0.toNat : Nat) : Int) = n0 := Int.toNat_of_nonneg g0
        refine ⟨⟨n0.toNat, n1, c2, lb⟩, ⟨by show n0.toNat < _; omega, g2, g3, hb⟩, ?_⟩
        intro j hj
        rw [hcell j hj]
        show _ = [Value.int .u64 (n0.toNat : Int), .int .i64 n1, c2][j]?
        rw [hn0])
    refine ⟨(List.range len).map F, ⟨by rw [length_cells], some a, cap, by simpa using hv, by simpa using hl, hm, fun h => by simp at h, ?_⟩, ?_⟩
    · by_cases h0 : len = 0
      · exact .inl (by simpa using h0)
      · right
        have ha0 := (hF 0 (by omega)).2 0 (by omega)
        have ha : a = ⟨a.block, a.off, none⟩ := addr_none (u := .int .u64 (F 0).n) (by simpa [Addr.add, It.cells] using ha0)
        refine ⟨a.block, a.off, by rw [← ha], ?_⟩
        intro j u hj
        have hjl : j < len * 3 := by have := (List.getElem?_eq_some_iff.1 hj).1; rw [length_cells] at this; simpa using this
        have hi : j / 3 < len := by omega
        have e := cells_at ((List.range len).map F) (j / 3) (by simpa using hi) (j % 3) (by omega)
        rw [show j / 3 * 3 + j % 3 = j by omega, hj] at e
        have hc := (hF (j / 3) hi).2 (j % 3) (by omega)
        rw [Go.Deep.add_add, show j / 3 * 3 + j % 3 = j by omega] at hc
        rw [ha, Addr.add_lit] at hc
        rw [hc, e]
        simp
    · intro y hy
      obtain ⟨i, hi, rfl⟩ := List.mem_map.1 hy
      exact (hF i (by simpa using hi)).1

theorem It.ok.below {w w' : World} {x : It} (h : x.ok w) (hb : Below w.heap.size w w') : x.ok w' := ⟨h.1, h.2.1, h.2.2.1, h.2.2.2.below hb⟩

theorem Items.below {w w' : World} {v : Value} {l : List It} (h : Items w v l) (hb : Below w.heap.size w w') : Items w' v l := ⟨h.1.below hb, fun x hx => (h.2 x hx).below hb⟩

end Go.Proofs.Ytjbgfgpclkabjaa
