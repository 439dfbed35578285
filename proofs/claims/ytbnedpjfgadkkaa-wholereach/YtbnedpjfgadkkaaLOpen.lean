/-
  From an argument's reading to 'Sl', 'Bs', 'Parts': bytes, rows of bytes. No program of its own.
-/
import Derived.Test.YtbnedpjfgadkkaaLBase
import Derived.ProofKit
import Derived.OpenShut
import Derived.Deep.Slices
namespace Go.Proofs.Ytbnedpjfgadkkaa
open Go.RowKit Go.ChangeShapes Go.WideShapes Go.ChangeAt
set_option linter.unusedVariables false

section
variable {H : Type} {enc : TypeId × Value → H} {P : Program} {w : World} {base : Nat} {spare : Nat → Bool} {held : Bool}

/-- An address at which something lies has no spot. -/
theorem addr_none {a : Addr} {u : Value} (h : w.cell? a = some u) : a = ⟨a.block, a.off, none⟩ := by
  obtain ⟨b, o, s⟩ := a
  have : s = none := World.cell?_spot h
  subst this
  rfl

theorem sl_of_cells {v : Value} {a : Addr} {len cap : Nat} {V : Nat → Value} (hv : v = .slice (some a) len cap) (hl : len ≤ cap) (hm : cap ≤ maxLen)
    (hx : ∀ i, i < len → w.cell? (a.add i) = some (V i)) : Sl 1 w v len ((List.range len).map V) := by
  refine ⟨by simp, some a, cap, hv, hl, hm, fun h => by simp at h, ?_⟩
  by_cases h0 : len = 0
  · exact .inl h0
  · right
    have ha := addr_none (by have := hx 0 (by omega); simpa [Addr.add] using this)
    refine ⟨a.block, a.off, by rw [← ha], ?_⟩
    intro j u hj
    have hjl : j < len := by have := (List.getElem?_eq_some_iff.1 hj).1; simpa using this
    have e : ((List.range len).map V)[j]? = some (V j) := by simp [hjl]
    rw [e] at hj
    obtain rfl := Option.some.inj hj
    have := hx j hjl
    rw [ha, Addr.add_lit] at this
    exact this

/-- A slice of integers that is read. -/
theorem ints_of_trod {t e : TypeId} {k : IntKind} {fuel : Nat} {v : Value} {x : DataW H × List MemPlace} (ht : P.underlying t = some (.slice e)) (he : P.underlying e = some (.int k)) (hc : P.cellsOf e = 1)
    (h : DataW.trod enc P w base spare held fuel t [v] = some x) :
    ∃ zs : List Int, Sl 1 w v zs.length (zs.map (Value.int k)) ∧ ∀ z ∈ zs, (Lit.int k z).wf = true := by
  rcases open_ints ht he hc h with ⟨hcs, _⟩ | ⟨a, len, cap, zs, hcs, _, hl, hm, hz, _, hcell, hwz⟩
  · injection hcs with hv _
    subst hv
    exact ⟨[], ⟨rfl, none, 0, rfl, Nat.le_refl _, by simp [maxLen], fun _ => rfl, .inl rfl⟩, by simp⟩
  · injection hcs with hv _
    have hlz : len ≤ zs.length := by rw [hz]; split <;> omega
    have hlt : (zs.take len).length = len := by simp; omega
    refine ⟨zs.take len, ?_, fun z hz => hwz z (List.mem_of_mem_take hz)⟩
    rw [hlt]
    have h1 := sl_of_cells (V := fun i => .int k (zs.getD i 0)) hv hl hm (fun i hi => hcell i (by omega))
    have e : (List.range len).map (fun i => Value.int k (zs.getD i 0)) = (zs.take len).map (Value.int k) := by
      apply List.ext_getElem
      · simp; omega
      · intro i h1 h2
        have hi : i < len := by simpa using h1
        simp [List.getD, show i < zs.length by omega]
    rw [e] at h1
    exact h1

theorem bytes_back (zs : List Int) (hw : ∀ z ∈ zs, (Lit.int .u8 z).wf = true) : zs.map (Value.int .u8) = (zs.map fun z => UInt8.ofNat z.toNat).map bv := by
  rw [List.map_map]
  apply List.map_congr_left
  intro z hz
  have hb := bounds_u8 (hw z hz)
  simp [bv]
  omega

/-- A slice of bytes that is read. -/
theorem bytes_of_trod {t e : TypeId} {fuel : Nat} {v : Value} {x : DataW H × List MemPlace} (ht : P.underlying t = some (.slice e)) (he : P.underlying e = some (.int .u8)) (hc : P.cellsOf e = 1)
    (h : DataW.trod enc P w base spare held fuel t [v] = some x) : ∃ l : List UInt8, Bs w v l := by
  obtain ⟨zs, h1, h2⟩ := ints_of_trod ht he hc h
  refine ⟨zs.map fun z => UInt8.ofNat z.toNat, ?_⟩
  unfold Bs
  rw [← bytes_back zs h2, List.length_map]
  exact h1

/-- A slice of slices of bytes that is read. -/
theorem parts_of_trod {t q e : TypeId} {fuel : Nat} {v : Value} {x : DataW H × List MemPlace} (ht : P.underlying t = some (.slice q)) (hq : P.underlying q = some (.slice e)) (he : P.underlying e = some (.int .u8)) (hcq : P.cellsOf q = 1) (hc : P.cellsOf e = 1)
    (h : DataW.trod enc P w base spare held fuel t [v] = some x) : ∃ (vs : List Value) (ls : List (List UInt8)), Sl 1 w v vs.length vs ∧ Parts w vs ls := by
  rcases Go.Deep.open_slice1 ht hcq h with ⟨hcs, _⟩ | ⟨a, len, cap, m, n, V, D, Pl, hcs, _, hl, hm, hmm, _, hx⟩
  · injection hcs with hv _
    subst hv
    exact ⟨[], [], ⟨rfl, none, 0, rfl, Nat.le_refl _, by simp [maxLen], fun _ => rfl, .inl rfl⟩, rfl, fun i v p h => by simp at h⟩
  · injection hcs with hv _
    have hlm : len ≤ m := by rw [hmm]; split <;> omega
    obtain ⟨F, hF⟩ := Go.Deep.choose_lt (α := List UInt8) (n := len) (p := fun i l => Bs w (V i) l) (fun i hi => bytes_of_trod hq he hc (hx i (by omega)).2)
    refine ⟨(List.range len).map V, (List.range len).map F, ?_, by simp, ?_⟩
    · have h1 := sl_of_cells (V := V) hv hl hm (fun i hi => (hx i (by omega)).1)
      simpa using h1
    · intro i u p hu hp
      have hi : i < len := by have := (List.getElem?_eq_some_iff.1 hu).1; simpa using this
      simp [hi] at hu hp
      subst hu; subst hp
      exact hF i hi
end

end Go.Proofs.Ytbnedpjfgadkkaa
