/-
  A slice of pairs of bytes, as it is read.
-/
import Derived.Test.YtofbklabapmdcaaRows
import Derived.Test.YtofbklabapmdcaaLOpen
import Derived.OpenShut
namespace Go.Proofs.Ytofbklabapmdcaa
open Go.RowKit Go.ChangeShapes Go.WideShapes Go.ChangeAt
set_option linter.unusedVariables false

def pairCells (p : UInt8 × UInt8) : List Value := [bv p.1, bv p.2]

theorem length_pairs (l : List (UInt8 × UInt8)) : (l.flatMap pairCells).length = l.length * 2 := by
  induction l with
  | nil => rfl
  | cons x l ih => simp only [List.flatMap_cons, List.length_append, ih, List.length_cons]; simp [pairCells]; omega

theorem pairs_at (l : List (UInt8 × UInt8)) : ∀ i (h : i < l.length) (j : Nat), j < 2 → (l.flatMap pairCells)[i * 2 + j]? = (pairCells (l[i]'h))[j]? := by
  induction l with
  | nil => intro i h; simp at h
  | cons x l ih =>
    intro i h j hj
    simp only [List.flatMap_cons]
    cases i with
    | zero =>
      rw [List.getElem?_append_left (by simp [pairCells]; omega)]
      simp
    | succ i =>
      rw [List.getElem?_append_right (by simp [pairCells]; omega)]
      have e : (i + 1) * 2 + j - (pairCells x).length = i * 2 + j := by simp [pairCells]; omega
      rw [e, ih i (by simpa using h) j hj]
      simp

def Pairs (w : World) (v : Value) (l : List (UInt8 × UInt8)) : Prop := Sl 2 w v l.length (l.flatMap pairCells)

theorem Pairs.below {w w' : World} {v : Value} {l : List (UInt8 × UInt8)} (h : Pairs w v l) (hb : Below w.heap.size w w') : Pairs w' v l := Sl.below h hb

end Go.Proofs.Ytofbklabapmdcaa
