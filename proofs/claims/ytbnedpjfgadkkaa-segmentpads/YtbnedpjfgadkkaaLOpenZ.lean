/-
  From an argument's reading to bytes, and how many they are. No program of its own.
-/
import Derived.Test.YtbnedpjfgadkkaaLOpen
namespace Go.Proofs.Ytbnedpjfgadkkaa
open Go.RowKit Go.ChangeShapes Go.WideShapes Go.ChangeAt
set_option linter.unusedVariables false

section
variable {H : Type} {enc : TypeId × Value → H} {P : Program} {w : World} {base : Nat} {spare : Nat → Bool} {held : Bool}

/-- A slice of bytes that is read, no longer than what was read of it. -/
theorem bytes_of_trod_sz {t e : TypeId} {fuel : Nat} {v : Value} {d : DataW H} {p : List MemPlace} (ht : P.underlying t = some (.slice e)) (he : P.underlying e = some (.int .u8)) (hc : P.cellsOf e = 1)
    (h : DataW.trod enc P w base spare held fuel t [v] = some (d, p)) : ∃ l : List UInt8, Bs w v l ∧ (l.length = 0 ∨ ∃ elems sp, d = .slice elems sp ∧ l.length ≤ elems.length) := by
  obtain ⟨l, hl⟩ := bytes_of_trod ht he hc h
  refine ⟨l, hl, ?_⟩
  rcases open_ints ht he hc h with ⟨hcs, _⟩ | ⟨a, len, cap, zs, hcs, _, hlc, hm, hz, hx, hcell, hwz⟩
  · injection hcs with hv _
    obtain ⟨_, _, _, hv2, _⟩ := hl
    rw [hv] at hv2
    injection hv2 with _ e2 _
    exact .inl e2.symm
  · right
    injection hcs with hv _
    obtain ⟨_, _, _, hv2, _⟩ := hl
    rw [hv] at hv2
    injection hv2 with _ e2 _
    injection hx with hx _
    refine ⟨_, _, hx, ?_⟩
    have hlz : len ≤ zs.length := by rw [hz]; split <;> omega
    simp [lits]
    omega
end

end Go.Proofs.Ytbnedpjfgadkkaa
