/-
  The walk of the statement ArenaOnto.
-/
import Derived.Test.YtofbklabapmdcaaArS
import Derived.Test.YtofbklabapmdcaaBTwice
namespace Go.Proofs.Ytofbklabapmdcaa
open Go.RowKit
set_option linter.unusedVariables false

theorem setB_own {s : Ar} {a k j : Nat} {b : List UInt8} (h : (s.setB k b).own a j) : s.own a j := by
  rcases h with rfl | h | h | ⟨x, hx, rfl⟩
  · exact .inl rfl
  · exact .inr (.inl h)
  · exact .inr (.inr (.inl h))
  · obtain ⟨i, hi, rfl⟩ := List.mem_iff_getElem.1 hx
    have hi2 := List.getElem?_eq_getElem hi
    rw [setB_at] at hi2
    by_cases e : k = i
    · rw [if_pos e] at hi2
      cases hy : s.bl[i]? with
      | none => rw [hy] at hi2; simp at hi2
      | some y =>
        rw [hy] at hi2
        simp only [Option.map_some, Option.some.injEq] at hi2
        exact .inr (.inr (.inr ⟨y, List.mem_of_getElem? hy, by rw [← hi2]⟩))
    · rw [if_neg e] at hi2
      exact .inr (.inr (.inr ⟨_, List.mem_of_getElem? hi2, rfl⟩))

theorem setB_same {s : Ar} {k : Nat} {x : Bk} {b : List UInt8} (h : s.bl[k]? = some x) : (s.setB k b).bl[k]? = some { x with b := b } := by
  rw [setB_at, if_pos rfl, h]
  rfl
theorem setB_other {s : Ar} {k j : Nat} {b : List UInt8} (h : k ≠ j) : (s.setB k b).bl[j]? = s.bl[j]? := by
  rw [setB_at, if_neg h]

theorem back_nil {w : World} {B a : Nat} {s : Ar} (h : IsAr w B a s) (hl : s.live = (s.bl.length : Int)) : s.back = [] := by
  unfold Ar.live at hl
  exact List.eq_nil_of_length_eq_zero (by omega)

end Go.Proofs.Ytofbklabapmdcaa
