/-
  outer: which message blocks each auxiliary one has: who is among them, that they rise, how many there are.
-/
import Derived.Test.YthlladpappldbaaOutM
namespace Go.Proofs.Ythlladpappldbaa
open Go.RowKit
set_option linter.unusedVariables false

theorem addAll_at (m : Int) : ∀ (l : List Int) (rows : List (List Int)), l.Nodup → (∀ x ∈ l, 0 ≤ x) → ∀ j : Nat, (addAll rows l m)[j]? = rows[j]?.map (fun r => if (j : Int) ∈ l then r ++ [m] else r) := by
  intro l
  induction l with
  | nil =>
    intro rows _ _ j
    show rows[j]? = _
    cases rows[j]? with
    | none => rfl
    | some r => simp
  | cons x l ih =>
    intro rows hn h0 j
    rw [List.nodup_cons] at hn
    show (addAll (addTo rows x.toNat m) l m)[j]? = _
    rw [ih _ hn.2 (fun y hy => h0 y (by simp [hy])) j]
    have hx := h0 x (by simp)
    by_cases e : x.toNat = j
    · have ex : (j : Int) = x := by omega
      have hj : (j : Int) ∉ l := by rw [ex]; exact hn.1
      have hj2 : (j : Int) ∈ x :: l := by rw [ex]; simp
      unfold addTo
      rw [e]
      cases hr : rows[j]? with
      | none =>
        have : rows.length ≤ j := by
          rcases Nat.lt_or_ge j rows.length with h | h
          · rw [List.getElem?_eq_getElem h] at hr
            cases hr
          · exact h
        rw [List.getElem?_set_self' , hr]
        rfl
      | some r =>
        have hjl : j < rows.length := (List.getElem?_eq_some_iff.1 hr).1
        rw [List.getElem?_set_self hjl, List.getD_eq_getElem?_getD, hr]
        simp [hj, hj2]
    · have hj2 : ((j : Int) ∈ x :: l) ↔ (j : Int) ∈ l := by
        rw [List.mem_cons]
        constructor
        · rintro (h | h)
          · omega
          · exact h
        · exact .inr
      unfold addTo
      rw [List.getElem?_set_ne e]
      simp only [hj2]

theorem ofD_nodup (S A Q i : Nat) : (ofD S A Q i).Nodup := someD_nodup _ _ _

theorem hasR_next (S A Q m j : Nat) : (hasR S A Q (m + 1))[j]? = (hasR S A Q m)[j]?.map (fun r => if (j : Int) ∈ ofD S A Q m then r ++ [(m : Int)] else r) :=
  addAll_at m (ofD S A Q m) (hasR S A Q m) (ofD_nodup _ _ _ _) (fun x hx => (ofD_mem hx).1) j

/-- Whoever is in a row: it rises, and has just those that are in it. -/
structure RowOk (S A Q m j : Nat) (r : List Int) : Prop where
  lt : ∀ x ∈ r, 0 ≤ x ∧ x < (m : Int)
  up : r.Pairwise (· < ·)
  mem : ∀ i : Nat, (i : Int) ∈ r ↔ i < m ∧ (j : Int) ∈ ofD S A Q i

theorem hasR_ok (S A Q : Nat) : ∀ (m j : Nat) (r : List Int), (hasR S A Q m)[j]? = some r → RowOk S A Q m j r := by
  intro m
  induction m with
  | zero =>
    intro j r h
    unfold hasR at h
    rw [List.getElem?_replicate] at h
    split at h
    · obtain rfl := Option.some.inj h
      exact ⟨by simp, List.Pairwise.nil, by simp⟩
    · cases h
  | succ m ih =>
    intro j r h
    rw [hasR_next] at h
    cases hr : (hasR S A Q m)[j]? with
    | none => rw [hr] at h; cases h
    | some r0 =>
      rw [hr] at h
      have h0 := ih j r0 hr
      simp only [Option.map_some, Option.some.injEq] at h
      by_cases hj : (j : Int) ∈ ofD S A Q m
      · rw [if_pos hj] at h
        subst h
        refine ⟨?_, ?_, ?_⟩
        · intro x hx
          rcases List.mem_append.1 hx with hx | hx
          · have := h0.lt x hx
            omega
          · have := List.mem_singleton.1 hx
            omega
        · rw [List.pairwise_append]
          refine ⟨h0.up, by simp, ?_⟩
          intro x hx y hy
          have := h0.lt x hx
          have := List.mem_singleton.1 hy
          omega
        · intro i
          rw [List.mem_append, h0.mem i, List.mem_singleton]
          constructor
          · rintro (⟨h1, h2⟩ | h1)
            · exact ⟨by omega, h2⟩
            · have : i = m := by omega
              subst this
              exact ⟨by omega, hj⟩
          · rintro ⟨h1, h2⟩
            by_cases e : i = m
            · exact .inr (by omega)
            · exact .inl ⟨by omega, h2⟩
      · rw [if_neg hj] at h
        subst h
        refine ⟨?_, h0.up, ?_⟩
        · intro x hx
          have := h0.lt x hx
          omega
        · intro i
          rw [h0.mem i]
          constructor
          · rintro ⟨h1, h2⟩
            exact ⟨by omega, h2⟩
          · rintro ⟨h1, h2⟩
            refine ⟨?_, h2⟩
            by_cases e : i = m
            · subst e
              exact absurd h2 hj
            · omega

/-- How many there are in all. -/
def total (rows : List (List Int)) : Nat := (rows.map List.length).sum

theorem total_add (m : Int) : ∀ (rows : List (List Int)) (x : Nat), x < rows.length → total (addTo rows x m) = total rows + 1 := by
  intro rows
  induction rows with
  | nil => intro x h; simp at h
  | cons r rs ih =>
    intro x h
    cases x with
    | zero =>
      simp [addTo, total]
      omega
    | succ x =>
      have := ih x (by simpa using h)
      simp [addTo, total] at this ⊢
      omega

theorem total_all (m : Int) : ∀ (l : List Int) (rows : List (List Int)), (∀ x ∈ l, 0 ≤ x ∧ x < (rows.length : Int)) → total (addAll rows l m) = total rows + l.length := by
  intro l
  induction l with
  | nil => intro rows _; rfl
  | cons x l ih =>
    intro rows h
    have hx := h x (by simp)
    show total (addAll (addTo rows x.toNat m) l m) = _
    rw [ih _ (fun y hy => by rw [addTo_length]; exact h y (by simp [hy])), total_add m rows x.toNat (by omega), List.length_cons]
    omega

theorem total_has {S A Q : Nat} (h1 : 1 ≤ Q) (h2 : Q ≤ A) (m : Nat) : total (hasR S A Q m) = m * Q := by
  induction m with
  | zero => simp [hasR, total]
  | succ m ih =>
    unfold hasR
    rw [total_all _ _ _ (fun x hx => by rw [hasR_length]; exact ofD_mem hx), ih, ofD_length h1 h2, Nat.succ_mul]

/-- How many are in the first j rows. -/
def totalTo (rows : List (List Int)) (j : Nat) : Nat := total (rows.take j)
theorem totalTo_zero (rows : List (List Int)) : totalTo rows 0 = 0 := by simp [totalTo, total]
theorem totalTo_next {rows : List (List Int)} {j : Nat} {r : List Int} (h : rows[j]? = some r) : totalTo rows (j + 1) = totalTo rows j + r.length := by
  obtain ⟨hj, rfl⟩ := List.getElem?_eq_some_iff.1 h
  unfold totalTo total
  rw [List.take_succ_eq_append_getElem hj, List.map_append, List.sum_append]
  simp only [List.map_cons, List.map_nil, List.sum_cons, List.sum_nil, Nat.add_zero]
theorem totalTo_all {rows : List (List Int)} {j : Nat} (h : rows.length ≤ j) : totalTo rows j = total rows := by
  unfold totalTo
  rw [List.take_of_length_le h]

theorem hasR_short {S A Q : Nat} (m j : Nat) (r : List Int) (h : (hasR S A Q m)[j]? = some r) : r.length ≤ m := by
  have h0 := hasR_ok S A Q m j r h
  have hn : (r.map Int.toNat).Nodup := by
    rw [List.nodup_iff_pairwise_ne, List.pairwise_map]
    refine h0.up.imp_of_mem ?_
    intro a b ha hb hab
    have := h0.lt a ha
    have := h0.lt b hb
    omega
  have := nodup_le m (r.map Int.toNat) hn (by
    intro x hx
    obtain ⟨y, hy, rfl⟩ := List.mem_map.1 hx
    have := h0.lt y hy
    omega)
  simpa using this

end Go.Proofs.Ythlladpappldbaa
