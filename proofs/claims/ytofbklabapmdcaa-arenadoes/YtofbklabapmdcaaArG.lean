/-
  The walk of Alloc where there is room; what a call does to an arena, said without its memory.
-/
import Derived.Test.YtofbklabapmdcaaArF
namespace Go.Proofs.Ytofbklabapmdcaa
open Go.RowKit
set_option linter.unusedVariables false

/-- Block k was given out: all of its bytes are 0; no other one is turned. -/
structure Alloced (s s' : Ar) (k : Nat) : Prop where
  size : s'.size = s.size
  most : s'.most = s.most
  there : ∃ q, s'.bl[k]? = some ⟨q, zeros s.size, true⟩
  others : ∀ j, j ≠ k → s'.bl[j]? = s.bl[j]?
  was : ∀ x, s.bl[k]? = some x → x.g = false
  len : s'.bl.length = if s.back = [] then s.bl.length + 1 else s.bl.length
  live : s'.live = s.live + 1

theorem more_alloced (s : Ar) (q : Nat) (vm : Value) (h : s.back = []) : Alloced s (s.more q vm) s.bl.length where
  size := rfl
  most := rfl
  there := ⟨q, by show (s.bl ++ [(⟨q, zeros s.size, true⟩ : Bk)])[s.bl.length]? = _; simp⟩
  others := fun j hj => by
    show (s.bl ++ [(⟨q, zeros s.size, true⟩ : Bk)])[j]? = s.bl[j]?
    by_cases hi : j < s.bl.length
    · rw [List.getElem?_append_left hi]
    · rw [List.getElem?_eq_none (by simp; omega), List.getElem?_eq_none (by omega)]
  was := fun x hx => by have := (List.getElem?_eq_some_iff.1 hx).1; omega
  len := by rw [if_pos h]; simp [Ar.more]
  live := by unfold Ar.live; simp [Ar.more]; omega

theorem taken_alloced {w : World} {B a : Nat} {s : Ar} (hA : IsAr w B a s) {k : Nat} {back : List Nat} (vb : Value) (h : s.back = back ++ [k]) : Alloced s (s.taken k vb back) k where
  size := rfl
  most := rfl
  there := by
    obtain ⟨x, hx, hg⟩ := (hA.mem k).1 (by rw [h]; simp)
    refine ⟨x.q, ?_⟩
    rw [taken_at, if_pos rfl, hx]
    rfl
  others := fun j hj => by rw [taken_at, if_neg (fun e => hj e.symm)]
  was := fun x hx => by
    obtain ⟨y, hy, hg⟩ := (hA.mem k).1 (by rw [h]; simp)
    rw [hx] at hy
    obtain rfl := Option.some.inj hy
    exact hg
  len := by rw [if_neg (by rw [h]; simp)]; simp [Ar.taken, Ar.setG, Ar.setB]
  live := by
    unfold Ar.live
    rw [h]
    simp [Ar.taken, Ar.setG, Ar.setB]
    omega

set_option maxRecDepth 100000 in
set_option maxHeartbeats 1000000 in
/-- Alloc: a block that wasn't given out. -/
theorem alloc_yes (B a : Nat) (s : Ar) (w : World) (h : IsAr w B a s) (hl : s.live < s.most) (hmany : s.bl.length ≤ 1000000) :
    Calls Try.prog 7 #[.pointer (some ⟨a, 0, none⟩)] w fun e w' => ∃ (k : Nat) (s' : Ar), e = .returned (.tuple #[.int .i64 k, .bool true]) ∧ IsAr w' B a s' ∧ KeepsBut (s.own a) w w' ∧ (∀ j, s'.own a j → s.own a j ∨ w.heap.size ≤ j) ∧ Alloced s s' k := by
  have HA : Hid (IsAr w B a s) := h
  have c1 := h.cell1
  have c3 := h.cell3
  obtain ⟨ao, cap, hv, hnc, hcm⟩ := h.vb_shape
  unfold maxLen at hcm
  rw [hv] at c3
  have hl' : ¬ s.most ≤ (s.bl.length : Int) - (s.back.length : Int) := by have := hl; unfold Ar.live at this; omega
  clear h hl hv
  by_cases hb : s.back = []
  · have hb0 : s.back.length = 0 := by rw [hb]; rfl
    rw [hb0] at c3 hl'
    have HB : Hid (s.back = []) := hb
    clear hb
    go_enter Try.func7, Try.ntmps7
    go_wp2
    go_quiet ((go_at_call 14; exact Calls.quiet_of (alive_any B a s _ (HA.out.below (below_drewN (Below.refl _ _) _)))))
    have HA2 : Hid (IsAr (w.drewN nq) B a s) := HA.out.below (below_drewN (Below.refl _ _) _)
    have K2 : Hid (KeepsBut (s.own a) w (w.drewN nq)) := KeepsBut.ofBelow (below_drewN (Below.refl _ _) _)
    rw [hb0]
    go_wp2_with fail
    refine (another_any B a s _ HA2.out hmany).mono ?_
    rintro e w1 ⟨rfl, vm, h1, h2, h3⟩
    have R : Hid (IsAr w1 B a (s.more w.heap.size vm) ∧ KeepsBut (s.own a) w w1 ∧ (∀ j, (s.more w.heap.size vm).own a j → s.own a j ∨ w.heap.size ≤ j)) := by
      have h1' : IsAr w1 B a (s.more w.heap.size vm) := by simpa using h1
      refine ⟨h1', K2.out.trans h2, fun j hj => ?_⟩
      rcases hj with rfl | hj | hj | ⟨x, hx, rfl⟩
      · exact .inl (.inl rfl)
      · rcases h3 with h4 | ⟨q, h4, h5⟩
        · exact .inl (.inr (.inl (by rw [← h4]; exact hj)))
        · have hj' : vm.ownBlock = some j := hj
          rw [h4] at hj'
          obtain rfl := Option.some.inj hj'
          exact .inr (by simpa using h5)
      · exact .inl (.inr (.inr (.inl hj)))
      · have hx' : x ∈ s.bl ++ [(⟨w.heap.size, zeros s.size, true⟩ : Bk)] := hx
        rw [List.mem_append] at hx'
        rcases hx' with h4 | h4
        · exact .inl (.inr (.inr (.inr ⟨x, h4, rfl⟩)))
        · simp at h4
          subst h4
          exact .inr (Nat.le_refl _)
    clear h1 h2 h3
    go_wp2
    go_ret2
    exact ⟨s.bl.length, _, rfl, R.out.1, R.out.2.1, R.out.2.2, more_alloced s w.heap.size vm HB.out⟩
  · obtain ⟨back, k, hbk⟩ : ∃ back k, s.back = back ++ [k] := ⟨s.back.dropLast, s.back.getLast hb, (List.dropLast_concat_getLast hb).symm⟩
    have hb0 : s.back.length = back.length + 1 := by rw [hbk]; simp
    have HB : Hid (s.back = back ++ [k]) := hbk
    clear hb hbk
    rw [hb0] at c3 hl'
    go_enter Try.func7, Try.ntmps7
    go_wp2
    go_quiet ((go_at_call 14; exact Calls.quiet_of (alive_any B a s _ (HA.out.below (below_drewN (Below.refl _ _) _)))))
    have HA2 : Hid (IsAr (w.drewN nq) B a s) := HA.out.below (below_drewN (Below.refl _ _) _)
    have K2 : Hid (KeepsBut (s.own a) w (w.drewN nq)) := KeepsBut.ofBelow (below_drewN (Below.refl _ _) _)
    rw [hb0]
    go_wp2_with fail
    refine (again_any B a s k back _ HA2.out HB.out).mono ?_
    rintro e w1 ⟨rfl, vb, h1, h2, h3⟩
    have R : Hid (IsAr w1 B a (s.taken k vb back) ∧ KeepsBut (s.own a) w w1 ∧ (∀ j, (s.taken k vb back).own a j → s.own a j ∨ w.heap.size ≤ j)) := by
      refine ⟨h1, K2.out.trans h2, fun j hj => .inl ?_⟩
      rcases hj with rfl | hj | hj | ⟨x, hx, rfl⟩
      · exact .inl rfl
      · exact .inr (.inl hj)
      · exact .inr (.inr (.inl (by rw [← h3]; exact hj)))
      · obtain ⟨i, hi, rfl⟩ := List.mem_iff_getElem.1 hx
        have hi2 := List.getElem?_eq_getElem hi
        rw [taken_at] at hi2
        by_cases e : k = i
        · rw [if_pos e] at hi2
          cases hy : s.bl[i]? with
          | none => rw [hy] at hi2; simp at hi2
          | some y =>
            rw [hy] at hi2
            simp only [Option.map_some, Option.some.injEq] at hi2
            exact .inr (.inr (.inr ⟨y, List.mem_of_getElem? hy, by rw [← hi2]⟩))
        · rw [if_neg e] at hi2
          exact .inr (.inr (.inr ⟨_, List.mem_of_getElem? hi2, rfl⟩))
    clear h1 h2 h3
    go_wp2
    go_ret2
    exact ⟨k, _, rfl, R.out.1, R.out.2.1, R.out.2.2, taken_alloced HA.out vb HB.out⟩

end Go.Proofs.Ytofbklabapmdcaa
