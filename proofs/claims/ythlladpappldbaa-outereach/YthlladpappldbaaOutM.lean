/-
  outer: which message blocks each auxiliary one has, put in one by one; the graph while it is built.
-/
import Derived.Test.YthlladpappldbaaOutC
namespace Go.Proofs.Ythlladpappldbaa
open Go.RowKit
set_option linter.unusedVariables false

/-- A message block is put to an auxiliary one. -/
def addTo (rows : List (List Int)) (x : Nat) (m : Int) : List (List Int) := rows.set x (rows.getD x [] ++ [m])
/-- .. to all that are told. -/
def addAll (rows : List (List Int)) (l : List Int) (m : Int) : List (List Int) := l.foldl (fun rs x => addTo rs x.toNat m) rows
/-- What each has, behind m message blocks. -/
def hasR (S A Q : Nat) : Nat → List (List Int)
  | 0 => List.replicate A []
  | m + 1 => addAll (hasR S A Q m) (ofD S A Q m) m

theorem addTo_length (rows : List (List Int)) (x : Nat) (m : Int) : (addTo rows x m).length = rows.length := by simp [addTo]
theorem addAll_length (l : List Int) (m : Int) : ∀ rows : List (List Int), (addAll rows l m).length = rows.length := by
  induction l with
  | nil => intro rows; rfl
  | cons x l ih =>
    intro rows
    show (addAll (addTo rows x.toNat m) l m).length = _
    rw [ih, addTo_length]
theorem hasR_length (S A Q m : Nat) : (hasR S A Q m).length = A := by
  induction m with
  | zero => simp [hasR]
  | succ m ih => unfold hasR; rw [addAll_length, ih]

theorem addAll_take {rows : List (List Int)} {l : List Int} {k x : Nat} (m : Int) (hk : k < l.length) (hx : l[k] = (x : Int)) : addAll rows (l.take (k + 1)) m = addTo (addAll rows (l.take k) m) x m := by
  rw [List.take_succ_eq_append_getElem hk, hx]
  unfold addAll
  rw [List.foldl_append]
  simp

theorem addTo_at {rows : List (List Int)} {x : Nat} {r : List Int} (h : rows[x]? = some r) (m : Int) : addTo rows x m = rows.set x (r ++ [m]) := by
  unfold addTo
  rw [List.getD_eq_getElem?_getD, h]
  rfl

/-- All rows have at most so many. -/
def Short (c : Nat) (rows : List (List Int)) : Prop := ∀ (i : Nat) (l : List Int), rows[i]? = some l → l.length ≤ c
theorem short_start (A : Nat) : Short 0 (List.replicate A []) := by
  intro i l h
  rw [List.getElem?_replicate] at h
  split at h
  · obtain rfl := Option.some.inj h
    exact Nat.le_refl _
  · cases h
theorem Short.add {c : Nat} {rows : List (List Int)} (h : Short c rows) {x : Nat} {r : List Int} (hr : rows[x]? = some r) (m : Int) : Short (c + 1) (addTo rows x m) := by
  intro i l hl
  rw [addTo_at hr] at hl
  by_cases e : x = i
  · subst e
    have hx : x < rows.length := (List.getElem?_eq_some_iff.1 hr).1
    rw [List.getElem?_set_self hx] at hl
    obtain rfl := Option.some.inj hl
    have := h x r hr
    simp
    omega
  · rw [List.getElem?_set_ne e] at hl
    have := h i l hl
    omega
theorem Short.mono {c d : Nat} {rows : List (List Int)} (h : Short c rows) (hd : c ≤ d) : Short d rows := fun i l hl => Nat.le_trans (h i l hl) hd

theorem ofD_mem {S A Q i : Nat} {x : Int} (h : x ∈ ofD S A Q i) : 0 ≤ x ∧ x < A := someD_mem h
theorem ofD_rises (S A Q i : Nat) : (ofD S A Q i).Pairwise (· < ·) := someD_rises _ _ _

theorem heap_setCell_at {w : World} {g j : Nat} {cs : List Value} {e : TypeId} (h : w.heap[g]? = some (.cells cs.toArray e (0, 0))) (u : Value) : (w.setCell ⟨g, j, none⟩ u).heap[g]? = some (.cells (cs.set j u).toArray e (0, 0)) := by
  unfold World.setCell
  simp [Array.getElem?_modify, h]

theorem own_cells {B : Nat} {w : World} {v : Value} {n : Nat} {l : List Int} (h : OwnZ B w v n l) {q : Nat} (hq : v.ownBlock = some q) : ∃ cur, w.heap[q]? = some (.cells cur 3 (0, 0)) := by
  rcases h.2 with ⟨hv, _⟩ | ⟨g, cap, cur, hv, _, hh, _⟩
  · rw [hv] at hq
    cases hq
  · rw [hv] at hq
    obtain rfl := Option.some.inj hq
    exact ⟨cur, hh⟩

/-- A graph while it is built: each row is its own. -/
structure GrB (w W : World) (g ro S N Q A : Nat) (cs vs : List Value) (rows : List (List Int)) : Prop where
  gc : W.heap[g]? = some (.cells #[.int .u64 (S : Int), .int .i64 (N : Int), .int .i64 (Q : Int), .slice (some ⟨ro, 0, none⟩) A A] 74 (0, 0))
  hc : W.heap[ro]? = some (.cells cs.toArray 28 (0, 0))
  lc : cs.length = A
  lv : vs.length = A
  lr : rows.length = A
  own : ∀ (i : Nat) (v : Value) (l : List Int), vs[i]? = some v → rows[i]? = some l → OwnZ w.heap.size W v l.length l
  ap : ∀ (i j : Nat) (v u : Value) (q : Nat), i ≠ j → vs[i]? = some v → vs[j]? = some u → v.ownBlock = some q → u.ownBlock ≠ some q
  bel : Below w.heap.size w W
  gB : w.heap.size ≤ g
  hB : w.heap.size ≤ ro

section
variable {w W W' : World} {g ro S N Q A : Nat} {cs vs : List Value} {rows : List (List Int)}

theorem GrB.lt_g (h : GrB w W g ro S N Q A cs vs rows) : g < W.heap.size := (Array.getElem?_eq_some_iff.1 h.gc).1
theorem GrB.lt_ro (h : GrB w W g ro S N Q A cs vs rows) : ro < W.heap.size := (Array.getElem?_eq_some_iff.1 h.hc).1

theorem GrB.below (h : GrB w W g ro S N Q A cs vs rows) (b : Below W.heap.size W W') : GrB w W' g ro S N Q A cs vs rows :=
  ⟨(b.block g h.lt_g).trans h.gc, (b.block ro h.lt_ro).trans h.hc, h.lc, h.lv, h.lr, fun i v l hv hl => (h.own i v l hv hl).below b, h.ap, h.bel.trans (b.mono h.bel.size), h.gB, h.hB⟩

theorem GrB.row (h : GrB w W g ro S N Q A cs vs rows) {i : Nat} {v : Value} (hv : vs[i]? = some v) : ∃ l, rows[i]? = some l := by
  have hi : i < vs.length := (List.getElem?_eq_some_iff.1 hv).1
  exact ⟨_, List.getElem?_eq_getElem (by rw [h.lr, ← h.lv]; exact hi)⟩

theorem GrB.ne_g (h : GrB w W g ro S N Q A cs vs rows) {i : Nat} {v : Value} (hv : vs[i]? = some v) : v.ownBlock ≠ some g := by
  intro e
  obtain ⟨l, hl⟩ := h.row hv
  obtain ⟨cur, hh⟩ := own_cells (h.own i v l hv hl) e
  rw [h.gc] at hh
  injection hh with hh
  injection hh with _ hh _
  exact absurd hh (by decide)

theorem GrB.ne_ro (h : GrB w W g ro S N Q A cs vs rows) {i : Nat} {v : Value} (hv : vs[i]? = some v) : v.ownBlock ≠ some ro := by
  intro e
  obtain ⟨l, hl⟩ := h.row hv
  obtain ⟨cur, hh⟩ := own_cells (h.own i v l hv hl) e
  rw [h.hc] at hh
  injection hh with hh
  injection hh with _ hh _
  exact absurd hh (by decide)

theorem GrB.g_ne (h : GrB w W g ro S N Q A cs vs rows) : g ≠ ro := by
  intro e
  have h1 := h.gc
  rw [e, h.hc] at h1
  injection h1 with h1
  injection h1 with _ h1 _
  exact absurd h1 (by decide)

theorem GrB.isGr (h : GrB w W g ro S N Q A vs vs rows) : IsGr W g ro S N Q A vs rows := by
  refine ⟨by simp [World.cell?, h.gc], by simp [World.cell?, h.gc], by simp [World.cell?, h.gc], by simp [World.cell?, h.gc], h.lv, h.lr, ?_, fun i v l hv hl => (h.own i v l hv hl).zs⟩
  intro i v hv
  simp [World.cell?, h.hc, hv]

theorem GrB.cell (h : GrB w W g ro S N Q A cs vs rows) {i : Nat} {v : Value} (hv : cs[i]? = some v) : W.cell? ⟨ro, i, none⟩ = some v := by
  simp [World.cell?, h.hc, hv]
theorem GrB.free (h : GrB w W g ro S N Q A cs vs rows) (i : Nat) : W.frozen? ⟨ro, i, none⟩ = false := by
  simp [World.frozen?, h.hc]

/-- A row grows. -/
theorem GrB.grow (h : GrB w W g ro S N Q A cs vs rows) {j : Nat} {v v' : Value} {l l' : List Int} (hv : vs[j]? = some v) (hl : rows[j]? = some l) (hg : W.grownBy W' v.ownBlock) (ho : OwnZ w.heap.size W' v' l'.length l') (hat : v'.ownBlock = v.ownBlock ∨ v'.ownBlock = some W.heap.size) :
    GrB w W' g ro S N Q A cs (vs.set j v') (rows.set j l') := by
  have hj : j < vs.length := (List.getElem?_eq_some_iff.1 hv).1
  have hjr : j < rows.length := (List.getElem?_eq_some_iff.1 hl).1
  refine ⟨(hg.block g h.lt_g (fun e => h.ne_g hv e.symm)).trans h.gc, (hg.block ro h.lt_ro (fun e => h.ne_ro hv e.symm)).trans h.hc, h.lc, by rw [List.length_set]; exact h.lv, by rw [List.length_set]; exact h.lr, ?_, ?_,
    h.bel.grown hg h.bel.size (fun k hk => ((h.own j v l hv hl).lt k hk).1), h.gB, h.hB⟩
  · intro i u m hu hm
    by_cases e : j = i
    · subst e
      rw [List.getElem?_set_self hj] at hu
      rw [List.getElem?_set_self hjr] at hm
      obtain rfl := Option.some.inj hu
      obtain rfl := Option.some.inj hm
      exact ho
    · rw [List.getElem?_set_ne e] at hu hm
      have hO := h.own i u m hu hm
      exact hO.kept (fun q hq => hg.block q (hO.lt q hq).2 (fun e2 => h.ap j i v u q e hv hu e2.symm hq))
  · intro a b x y q hne hx hy hq
    have key : ∀ (i : Nat) (u : Value), i ≠ j → vs[i]? = some u → u.ownBlock = some q → v'.ownBlock ≠ some q := by
      intro i u hi hu hq' e
      rcases hat with h1 | h1
      · exact h.ap i j u v q hi hu hv hq' (by rw [← h1]; exact e)
      · obtain ⟨m, hm⟩ := h.row hu
        have := ((h.own i u m hu hm).lt q hq').2
        rw [h1] at e
        injection e with e
        omega
    by_cases ha : j = a
    · subst ha
      rw [List.getElem?_set_self hj] at hx
      obtain rfl := Option.some.inj hx
      rw [List.getElem?_set_ne hne] at hy
      intro e
      exact key b y (Ne.symm hne) hy e hq
    · rw [List.getElem?_set_ne ha] at hx
      by_cases hb : j = b
      · subst hb
        rw [List.getElem?_set_self hj] at hy
        obtain rfl := Option.some.inj hy
        exact key a x (Ne.symm ha) hx hq
      · rw [List.getElem?_set_ne hb] at hy
        exact h.ap a b x y q hne hx hy hq

/-- A row's slice is stored. -/
theorem GrB.store (h : GrB w W g ro S N Q A cs vs rows) (j : Nat) (u : Value) : GrB w (W.setCell ⟨ro, j, none⟩ u) g ro S N Q A (cs.set j u) vs rows := by
  have key : ∀ k, k ≠ ro → (W.setCell ⟨ro, j, none⟩ u).heap[k]? = W.heap[k]? := fun k hk => Below.heap_setCell _ _ _ _ hk
  refine ⟨(key g h.g_ne).trans h.gc, heap_setCell_at h.hc u, by rw [List.length_set]; exact h.lc, h.lv, h.lr, ?_, h.ap, h.bel.setCell h.hB _, h.gB, h.hB⟩
  intro i v l hv hl
  exact (h.own i v l hv hl).kept (fun q hq => key q (fun e => h.ne_ro hv (by rw [hq, e])))

end

end Go.Proofs.Ythlladpappldbaa
