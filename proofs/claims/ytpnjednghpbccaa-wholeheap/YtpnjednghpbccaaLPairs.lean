/-
  A slice of pairs of bytes, as it is read.
-/
import Derived.Test.YtpnjednghpbccaaRows
import Derived.Test.YtpnjednghpbccaaLOpen
import Derived.OpenShut
namespace Go.Proofs.Ytpnjednghpbccaa
open Go.RowKit Go.ChangeShapes Go.WideShapes Go.ChangeAt
set_option linter.unusedVariables false

def pairCells (p : UInt8 × UInt8) : List Value := [bv p.1, bv p.2]

theorem length_pairs (l : List (UInt8 × UInt8)) : (l.flatMap pairCells).length = l.length * 2 := by
  induction l with
  | nil => rfl
  | cons x l ih => simp only [List.flatMap_cons, List.length_append, ih, List.length_cons]; simp [pairCells]; omega

theorem pairs_at (l : List (UInt8 × UInt8)) : ∀ i (h : i < l.length) (j : Nat), j < 2 → (l.flatMap pairCells)[i * 2 + j]? = (pairCells (l[i]'h))[j]? := by
  induction l with
  | nil => intro i h; simp at h
  | cons x l ih =>
    intro i h j hj
    simp only [List.flatMap_cons]
    cases i with
    | zero =>
      rw [List.getElem?_append_left (by simp [pairCells]; omega)]
      simp
    | succ i =>
      rw [List.getElem?_append_right (by simp [pairCells]; omega)]
      have e : (i + 1) * 2 + j - (pairCells x).length = i * 2 + j := by simp [pairCells]; omega
      rw [e, ih i (by simpa using h) j hj]
      simp

def Pairs (w : World) (v : Value) (l : List (UInt8 × UInt8)) : Prop := Sl 2 w v l.length (l.flatMap pairCells)

theorem pairs_of_trod {H : Type} {enc : TypeId × Value → H} {w : World} {base : Nat} {spare : Nat → Bool} {held : Bool} {fuel : Nat} {v : Value} {x : DataW H × List MemPlace}
    (h : DataW.trod enc Try.prog w base spare held fuel 61 [v] = some x) : ∃ l : List (UInt8 × UInt8), Pairs w v l := by
  have hc2 : Try.prog.cellsOf 62 = 2 := by kernel_rfl
  have hc1 : Try.prog.cellsOf 5 = 1 := by kernel_rfl
  rcases Go.Deep.open_slice Try.underlying61 h with ⟨hcs, _⟩ | ⟨a, len, cap, m, n, D, Pl, hcs, _, hl, hm, hmm, _, hx⟩
  · injection hcs with hv _
    subst hv
    exact ⟨[], ⟨rfl, none, 0, rfl, Nat.le_refl _, by simp [maxLen], fun _ => rfl, .inl rfl⟩⟩
  · injection hcs with hv _
    have hlm : len ≤ m := by rw [hmm]; split <;> omega
    rw [hc2] at hx
    obtain ⟨F, hF⟩ := Go.Deep.choose_lt (α := UInt8 × UInt8) (n := len) (p := fun i y => ∀ j, j < 2 → w.cell? ((a.add (i * 2)).add j) = (pairCells y)[j]?) (fun i hi => by
      obtain ⟨cs', h1, h2⟩ := hx i (by omega)
      obtain ⟨_, hl3, hcell⟩ := World.cells?_some h1
      obtain ⟨xs, k, _, _, _, _, hel⟩ := DataW.trod_array Try.underlying62 h2
      match cs', hl3 with
      | [c0, c1], _ =>
        have t0 := hel 0 (by omega)
        have t1 := hel 1 (by omega)
        rw [hc1] at t0 t1
        have e0 : ∃ y, DataW.trod enc Try.prog w base spare held k 5 [c0] = some y := by
          cases hy : DataW.trod enc Try.prog w base spare held k 5 [c0] with
          | none =>
            have t0' : DataW.trod enc Try.prog w base spare held k 5 [c0] = xs[0]? := t0
            rw [hy] at t0'
            have : xs[0]? ≠ none := by
              rw [List.getElem?_eq_getElem (by omega)]
              simp
            exact absurd t0'.symm this
          | some y => exact ⟨y, rfl⟩
        have e1 : ∃ y, DataW.trod enc Try.prog w base spare held k 5 [c1] = some y := by
          cases hy : DataW.trod enc Try.prog w base spare held k 5 [c1] with
          | none =>
            have t1' : DataW.trod enc Try.prog w base spare held k 5 [c1] = xs[1]? := t1
            rw [hy] at t1'
            have : xs[1]? ≠ none := by
              rw [List.getElem?_eq_getElem (by omega)]
              simp
            exact absurd t1'.symm this
          | some y => exact ⟨y, rfl⟩
        obtain ⟨y0, u0⟩ := e0
        obtain ⟨y1, u1⟩ := e1
        obtain ⟨n0, g0, _, f0⟩ := DataW.trod_int Try.underlying5 u0
        obtain ⟨n1, g1, _, f1⟩ := DataW.trod_int Try.underlying5 u1
        injection g0 with g0 _
        injection g1 with g1 _
        subst g0; subst g1
        obtain ⟨b0, b1⟩ := bounds_u8 f0
        obtain ⟨b2, b3⟩ := bounds_u8 f1
        refine ⟨(UInt8.ofNat n0.toNat, UInt8.ofNat n1.toNat), ?_⟩
        intro j hj
        rw [hcell j hj]
        have e0 : Value.int .u8 n0 = bv (UInt8.ofNat n0.toNat) := by simp [bv]; omega
        have e1 : Value.int .u8 n1 = bv (UInt8.ofNat n1.toNat) := by simp [bv]; omega
        rw [e0, e1]
        rfl)
    refine ⟨(List.range len).map F, ⟨by rw [length_pairs], some a, cap, by simpa using hv, by simpa using hl, hm, fun h => by simp at h, ?_⟩⟩
    by_cases h0 : len = 0
    · exact .inl (by simpa using h0)
    · right
      have ha0 := hF 0 (by omega) 0 (by omega)
      have ha : a = ⟨a.block, a.off, none⟩ := addr_none (u := bv (F 0).1) (by simpa [Addr.add, pairCells] using ha0)
      refine ⟨a.block, a.off, by rw [← ha], ?_⟩
      intro j u hj
      have hjl : j < len * 2 := by have := (List.getElem?_eq_some_iff.1 hj).1; rw [length_pairs] at this; simpa using this
      have hi : j / 2 < len := by omega
      have e := pairs_at ((List.range len).map F) (j / 2) (by simpa using hi) (j % 2) (by omega)
      rw [show j / 2 * 2 + j % 2 = j by omega, hj] at e
      have hc := hF (j / 2) hi (j % 2) (by omega)
      rw [Go.Deep.add_add, show j / 2 * 2 + j % 2 = j by omega] at hc
      rw [ha, Addr.add_lit] at hc
      rw [hc, e]
      simp

theorem Pairs.below {w w' : World} {v : Value} {l : List (UInt8 × UInt8)} (h : Pairs w v l) (hb : Below w.heap.size w w') : Pairs w' v l := Sl.below h hb

end Go.Proofs.Ytpnjednghpbccaa
