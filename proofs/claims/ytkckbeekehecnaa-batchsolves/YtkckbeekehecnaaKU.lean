/-
  Layer 16's big; ClosureReaches.
-/
import Derived.Test.YtkckbeekehecnaaZKB
namespace Go.Proofs.Ytkckbeekehecnaa
open Go.RowKit
set_option linter.unusedVariables false

theorem flatl_next {ls : List (List Int)} {i : Nat} {l : List Int} (h : ls[i]? = some l) : (ls.take (i + 1)).flatten.length = (ls.take i).flatten.length + l.length := by
  obtain ⟨h3, h4⟩ := List.getElem?_eq_some_iff.1 h
  rw [List.take_succ_eq_append_getElem h3, List.flatten_append, h4, List.length_append]
  simp

/-- No more, and no greater, equations than are looked at. -/
def SmallE (ls : List (List Int)) : Prop := ls.length + ls.flatten.length ≤ 400

end Go.Proofs.Ytkckbeekehecnaa
