/-
  The walk of the statement ArenaRoom.
-/
import Derived.Test.YtofbklabapmdcaaAOnto
import Derived.OpenShut
namespace Go.Proofs.Ytofbklabapmdcaa
open Go.RowKit
set_option linter.unusedVariables false

/-- With none back the next one is new. -/
theorem alloced_new {w : World} {B a : Nat} {s s' : Ar} (h : IsAr w B a s) {k : Nat} (hb : s.back = []) (hS : Alloced s s' k) : k = s.bl.length := by
  have h1 : ∀ x, s.bl[k]? = some x → False := fun x hx => by
    have := (h.mem k).2 ⟨x, hx, hS.was x hx⟩
    rw [hb] at this
    cases this
  have h2 : s.bl.length ≤ k := by
    rcases Nat.lt_or_ge k s.bl.length with h3 | h3
    · exact absurd (List.getElem?_eq_getElem h3) (fun e => h1 _ e)
    · exact h3
  obtain ⟨q, hq⟩ := hS.there
  have h3 := (List.getElem?_eq_some_iff.1 hq).1
  rw [hS.len, if_pos hb] at h3
  omega

theorem live_back {s : Ar} : (s.back.length : Int) = (s.bl.length : Int) - s.live := by unfold Ar.live; omega

/-- The numbers from 0 on. -/
def upTo (n : Nat) : List Value := (List.range n).map fun i : Nat => Value.int .i64 (i : Int)

theorem upTo_succ (n : Nat) : upTo (n + 1) = upTo n ++ [.int .i64 (n : Int)] := by
  simp [upTo, List.range_succ]

theorem upTo_at {n i : Nat} (h : i < n) : (upTo n)[i]? = some (.int .i64 (i : Int)) := by
  simp [upTo, h]

theorem freed_has {s : Ar} {k : Nat} {vb : Value} (i : Nat) : (s.freed k vb).has (i : Int) = (if k = i then false else s.has (i : Int)) := by
  unfold Ar.has
  have e : (s.freed k vb).bl[(i : Int).toNat]? = if k = i then (s.bl[i]?).map (fun x => { x with g := false }) else s.bl[i]? := by
    rw [Int.toNat_natCast]
    exact setG_at
  rw [e]
  by_cases h : k = i
  · rw [if_pos h, if_pos h]
    cases s.bl[i]? <;> simp
  · rw [if_neg h, if_neg h, Int.toNat_natCast]

theorem freed_own {s : Ar} {a k j : Nat} {vb : Value} (h : (s.freed k vb).own a j) : s.own a j ∨ vb.ownBlock = some j := by
  rcases h with rfl | h | h | ⟨x, hx, rfl⟩
  · exact .inl (.inl rfl)
  · exact .inl (.inr (.inl h))
  · exact .inr h
  · obtain ⟨i, hi, rfl⟩ := List.mem_iff_getElem.1 hx
    obtain ⟨y, hy, e1, _⟩ := setG_look (List.getElem?_eq_getElem hi)
    exact .inl (.inr (.inr (.inr ⟨y, List.mem_of_getElem? hy, by rw [e1]⟩)))

theorem sizeInts (W : World) : (sizeOf (Try.prog.elem 27)).run Try.prog W = .ok 1 W := by
  obtain ⟨i0, hi, hz0, hz1, hz2⟩ := info_parts Try.infoInt
  have he : Try.prog.elem 27 = 3 := by kernel_rfl
  rw [he]
  simp [sizeOf, typeInfo, hi, hz1]

theorem elemInts : Try.prog.underlying 27 = some (.slice (Try.prog.elem 27)) := by kernel_rfl

end Go.Proofs.Ytofbklabapmdcaa
