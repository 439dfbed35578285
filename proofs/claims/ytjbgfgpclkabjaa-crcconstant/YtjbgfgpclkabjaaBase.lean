/-
  What a slice reads as, said once for all walks: 'Sl' (elements of so many cells), 'Bs' (bytes). No program.
-/
import Derived.WalkKit
import Derived.WalkSpells
import Derived.WalkLawsBesides
namespace Go.Proofs.Ytjbgfgpclkabjaa
open Go.RowKit

theorem cell_block_lt {w : World} {p : Addr} {u : Value} (h : w.cell? p = some u) : p.block < w.heap.size := by
  by_cases hp : p.block < w.heap.size
  · exact hp
  · exfalso
    have e : w.heap[p.block]? = none := Array.getElem?_eq_none (by omega)
    simp [World.cell?, e] at h

/-- A slice of n elements of 'size' cells each: its cells are cs. -/
def Sl (size : Nat) (w : World) (v : Value) (n : Nat) (cs : List Value) : Prop :=
  cs.length = n * size ∧ ∃ ao cap, v = .slice ao n cap ∧ n ≤ cap ∧ cap ≤ maxLen ∧ (ao = none → cap = 0) ∧
    (n = 0 ∨ ∃ b off, ao = some ⟨b, off, none⟩ ∧ ∀ j u, cs[j]? = some u → w.cell? ⟨b, off + j, none⟩ = some u)

theorem Sl.carry {size : Nat} {w w' : World} {v : Value} {n : Nat} {cs : List Value} (h : Sl size w v n cs)
    (hc : ∀ p u, w.cell? p = some u → w'.cell? p = some u) : Sl size w' v n cs := by
  obtain ⟨h1, ao, cap, hv, h2, h3, h4, h5⟩ := h
  refine ⟨h1, ao, cap, hv, h2, h3, h4, ?_⟩
  rcases h5 with h5 | ⟨b, off, hao, h5⟩
  · exact .inl h5
  · exact .inr ⟨b, off, hao, fun j u hj => hc _ _ (h5 j u hj)⟩

/-- What is read stays read, where old memory stays as it was. -/
theorem Sl.below {size : Nat} {w w' : World} {v : Value} {n : Nat} {cs : List Value} (h : Sl size w v n cs)
    (hb : Below w.heap.size w w') : Sl size w' v n cs :=
  h.carry fun _ _ hp => (hb.cell (cell_block_lt hp)).trans hp

theorem Sl.le {size : Nat} {w : World} {v : Value} {n : Nat} {cs : List Value} (h : Sl size w v n cs) : n ≤ maxLen := by
  obtain ⟨_, _, cap, _, h2, h3, _⟩ := h
  omega

/-- A byte's cell. -/
def bv (x : UInt8) : Value := .int .u8 x.toNat

/-- A slice of bytes. -/
def Bs (w : World) (v : Value) (l : List UInt8) : Prop := Sl 1 w v l.length (l.map bv)

theorem Bs.below {w w' : World} {v : Value} {l : List UInt8} (h : Bs w v l) (hb : Below w.heap.size w w') : Bs w' v l := Sl.below h hb

/-- The cell of one byte. -/
theorem map_bv_at (l : List UInt8) (j : Nat) (h : j < l.length) : (l.map bv)[j]? = some (.int .u8 (l[j].toNat : Int)) := by
  simp [h, bv]

theorem int_val {k : IntKind} {a b : Int} (h : a = b) : Value.int k a = Value.int k b := by rw [h]
theorem ret_int {k : IntKind} {a b : Int} (h : a = b) : Ending.returned (.int k a) = .returned (.int k b) := by rw [h]

end Go.Proofs.Ytjbgfgpclkabjaa
