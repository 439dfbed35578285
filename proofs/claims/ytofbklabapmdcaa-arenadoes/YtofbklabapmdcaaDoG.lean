/-
  What holds of the list and of the arena, and how it is kept.
-/
import Derived.Test.YtofbklabapmdcaaDoF
import Derived.Test.YtofbklabapmdcaaLActs
import Derived.Test.YtofbklabapmdcaaWHeapA
namespace Go.Proofs.Ytofbklabapmdcaa
open Go.RowKit
set_option linter.unusedVariables false

theorem uniq_at {l : List RB} (h : (l.map RB.n).Nodup) {i j : Nat} {x y : RB} (hi : l[i]? = some x) (hj : l[j]? = some y) (e : x.n = y.n) : i = j := by
  have hil : i < (l.map RB.n).length := by rw [List.length_map]; exact (List.getElem?_eq_some_iff.1 hi).1
  exact (List.getElem?_inj hil h).1 (by rw [List.getElem?_map, List.getElem?_map, hi, hj]; simp [e])

theorem has_setB {s : Ar} {k : Nat} {b : List UInt8} (i : Int) : (s.setB k b).has i = s.has i := by
  unfold Ar.has
  rw [setB_at]
  by_cases e : k = i.toNat
  · rw [if_pos e]
    cases s.bl[i.toNat]? <;> rfl
  · rw [if_neg e]

theorem SameL.alloc {l : List RB} {s s' : Ar} {k q : Nat} (h : SameL l s) (hS : Alloced s s' k) : SameL (l ++ [⟨k, q, zeros s.size⟩]) s' := by
  have hk : s.has (k : Int) = false := by
    cases hh : s.has (k : Int) with
    | false => rfl
    | true =>
      obtain ⟨k', x, e, hx, hg⟩ := has_iff hh
      obtain rfl : k' = k := by omega
      rw [hS.was x hx] at hg
      cases hg
  have hne : ∀ (i : Nat) (x : RB), l[i]? = some x → x.n ≠ k := by
    intro i x hx e
    obtain ⟨q', hq'⟩ := h.hit i x hx
    have := has_mk hq' rfl
    rw [e, hk] at this
    cases this
  constructor
  · intro i x hx
    rw [List.getElem?_append] at hx
    split at hx
    · obtain ⟨q', hq'⟩ := h.hit i x hx
      exact ⟨q', by rw [hS.others x.n (hne i x hx)]; exact hq'⟩
    · have : x = ⟨k, q, zeros s.size⟩ := by
        have h2 := List.mem_of_getElem? hx
        simpa using h2
      subst this
      exact hS.there
  · intro j hj
    by_cases e : j = k
    · subst e
      exact ⟨l.length, ⟨j, q, zeros s.size⟩, by simp, rfl⟩
    · have hj' : s.has (j : Int) = true := by
        unfold Ar.has at hj ⊢
        rw [Int.toNat_natCast] at hj ⊢
        rw [hS.others j e] at hj
        exact hj
      obtain ⟨i, x, hx, hn⟩ := h.held j hj'
      exact ⟨i, x, by rw [List.getElem?_append_left (List.getElem?_eq_some_iff.1 hx).1]; exact hx, hn⟩
  · rw [List.map_append, List.nodup_append]
    refine ⟨h.uniq, by simp, ?_⟩
    intro a ha b hb e
    simp at hb
    subst e; subst hb
    obtain ⟨x, hx, hn⟩ := List.mem_map.1 ha
    obtain ⟨i, hi, rfl⟩ := List.mem_iff_getElem.1 hx
    exact hne i _ (List.getElem?_eq_getElem hi) hn
  · rw [hS.live, h.live]
    simp

theorem filter_len {l : List RB} {k : Nat} (hu : (l.map RB.n).Nodup) (hk : k ∈ l.map RB.n) : (l.filter (offN (k : Int))).length + 1 = l.length := by
  induction l with
  | nil => simp at hk
  | cons x l ih =>
    rw [List.map_cons, List.nodup_cons] at hu
    by_cases e : x.n = k
    · have hf : l.filter (offN (k : Int)) = l := by
        rw [List.filter_eq_self]
        intro y hy
        have : y.n ≠ k := fun e2 => hu.1 (by rw [e, ← e2]; exact List.mem_map.2 ⟨y, hy, rfl⟩)
        simp [offN]
        omega
      simp [offN, e]
      have hf' := congrArg List.length hf
      simp [offN] at hf'
      exact hf'
    · have hk' : k ∈ l.map RB.n := by
        rw [List.map_cons, List.mem_cons] at hk
        rcases hk with h | h
        · exact absurd h.symm e
        · exact h
      have := ih hu.2 hk'
      rw [List.filter_cons]
      have ex : offN (k : Int) x = true := by simp [offN]; omega
      rw [if_pos ex]
      simp
      omega

theorem SameL.freed {l : List RB} {s : Ar} {k : Nat} {x : Bk} {vb : Value} (h : SameL l s) (hx : s.bl[k]? = some x) (hg : x.g = true) : SameL (l.filter (offN (k : Int))) (s.freed k vb) := by
  have hmem : k ∈ l.map RB.n := by
    obtain ⟨i, y, hy, hn⟩ := h.held k (has_mk hx hg)
    exact List.mem_map.2 ⟨y, List.mem_of_getElem? hy, hn⟩
  have hbl : ∀ j, j ≠ k → (s.freed k vb).bl[j]? = s.bl[j]? := by
    intro j hj
    show (s.setG k false).bl[j]? = _
    rw [setG_at, if_neg (fun e => hj e.symm)]
  have hin : ∀ y : RB, y ∈ l.filter (offN (k : Int)) ↔ y ∈ l ∧ y.n ≠ k := by
    intro y
    rw [List.mem_filter]
    simp [offN]
    omega
  constructor
  · intro i y hy
    obtain ⟨h1, h2⟩ := (hin y).1 (List.mem_of_getElem? hy)
    obtain ⟨j, hj, rfl⟩ := List.mem_iff_getElem.1 h1
    obtain ⟨q, hq⟩ := h.hit j _ (List.getElem?_eq_getElem hj)
    exact ⟨q, by rw [hbl _ h2]; exact hq⟩
  · intro j hj
    have hjk : j ≠ k := by
      intro e
      subst e
      unfold Ar.has at hj
      rw [Int.toNat_natCast] at hj
      have : (s.freed j vb).bl[j]? = (s.bl[j]?).map (fun x => { x with g := false }) := by
        show (s.setG j false).bl[j]? = _
        rw [setG_at, if_pos rfl]
      rw [this, hx] at hj
      simp at hj
    have hj' : s.has (j : Int) = true := by
      unfold Ar.has at hj ⊢
      rw [Int.toNat_natCast] at hj ⊢
      rw [hbl j hjk] at hj
      exact hj
    obtain ⟨i, y, hy, hn⟩ := h.held j hj'
    obtain ⟨i', hi', e⟩ := List.mem_iff_getElem.1 ((hin y).2 ⟨List.mem_of_getElem? hy, by omega⟩)
    exact ⟨i', y, by rw [List.getElem?_eq_getElem hi', e], hn⟩
  · exact h.uniq.sublist ((List.filter_sublist).map RB.n)
  · have h1 := filter_len h.uniq hmem
    have h2 := h.live
    unfold Ar.live at h2 ⊢
    have h3 : (s.freed k vb).bl.length = s.bl.length := by show (s.bl.modify k fun x => { x with g := false }).length = _; simp
    have h4 : (s.freed k vb).back.length = s.back.length + 1 := by show (s.back ++ [k]).length = _; simp
    rw [h3, h4]
    omega

theorem SameL.set {l : List RB} {s : Ar} {j q q' : Nat} {y : RB} {b : List UInt8} (h : SameL l s) (hj : l[j]? = some y) (hq : s.bl[y.n]? = some ⟨q, y.b, true⟩) : SameL (l.set j ⟨y.n, q', b⟩) (s.setB y.n b) := by
  have hjl : j < l.length := (List.getElem?_eq_some_iff.1 hj).1
  have hmap : (l.set j ⟨y.n, q', b⟩).map RB.n = l.map RB.n := by
    rw [List.map_set]
    have : (l.map RB.n)[j]? = some y.n := by rw [List.getElem?_map, hj]; rfl
    obtain ⟨h1, h2⟩ := List.getElem?_eq_some_iff.1 this
    show (l.map RB.n).set j y.n = l.map RB.n
    rw [← h2]
    exact List.set_getElem_self h1
  constructor
  · intro i x hx
    rw [List.getElem?_set] at hx
    by_cases e : j = i
    · subst e
      rw [if_pos rfl, if_pos hjl] at hx
      obtain rfl := Option.some.inj hx
      exact ⟨q, setB_same hq⟩
    · rw [if_neg e] at hx
      obtain ⟨q2, hq2⟩ := h.hit i x hx
      have hne : y.n ≠ x.n := fun e2 => e (uniq_at h.uniq hj hx e2)
      exact ⟨q2, by rw [setB_other hne]; exact hq2⟩
  · intro k hk
    rw [has_setB] at hk
    obtain ⟨i, x, hx, hn⟩ := h.held k hk
    by_cases e : j = i
    · subst e
      rw [hj] at hx
      obtain rfl := Option.some.inj hx
      exact ⟨j, ⟨y.n, q', b⟩, by rw [List.getElem?_set, if_pos rfl, if_pos hjl], hn⟩
    · exact ⟨i, x, by rw [List.getElem?_set, if_neg e]; exact hx, hn⟩
  · rw [hmap]
    exact h.uniq
  · have h2 := h.live
    unfold Ar.live at h2 ⊢
    rw [setB_len, List.length_set]
    exact h2

end Go.Proofs.Ytofbklabapmdcaa
