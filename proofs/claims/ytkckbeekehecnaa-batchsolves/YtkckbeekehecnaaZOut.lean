/-
  Texts that lie together: OutA OutC OutM OutB OutS OutN OutD OutE.
-/
import Derived.Test.YtkckbeekehecnaaZSmp
import Derived.Test.YtkckbeekehecnaaZBase
import Derived.Test.YtkckbeekehecnaaZPar
import Derived.Deep.MidRow
import Derived.Laws.ResultCell
namespace Go.Proofs.Ytkckbeekehecnaa

section
/-
  outer: a graph as it lies, and what is read of it: Message, Auxiliary, Of, Has, Equation.
-/
open Go.RowKit
set_option linter.unusedVariables false

/-- A graph at a block: its rows lie behind the block hb. -/
structure IsGr (w : World) (g hb S N Q A : Nat) (vs : List Value) (rows : List (List Int)) : Prop where
  c0 : w.cell? ⟨g, 0, none⟩ = some (.int .u64 (S : Int))
  c1 : w.cell? ⟨g, 1, none⟩ = some (.int .i64 (N : Int))
  c2 : w.cell? ⟨g, 2, none⟩ = some (.int .i64 (Q : Int))
  c3 : w.cell? ⟨g, 3, none⟩ = some (.slice (some ⟨hb, 0, none⟩) A A)
  lv : vs.length = A
  lr : rows.length = A
  cv : ∀ (i : Nat) (v : Value), vs[i]? = some v → w.cell? ⟨hb, i, none⟩ = some v
  rd : ∀ (i : Nat) (v : Value) (l : List Int), vs[i]? = some v → rows[i]? = some l → Zs w v l

theorem IsGr.below {w w' : World} {g hb S N Q A : Nat} {vs : List Value} {rows : List (List Int)} (h : IsGr w g hb S N Q A vs rows) (b : Below w.heap.size w w') : IsGr w' g hb S N Q A vs rows :=
  ⟨(b.cell (cell_block_lt h.c0)).trans h.c0, (b.cell (cell_block_lt h.c1)).trans h.c1, (b.cell (cell_block_lt h.c2)).trans h.c2, (b.cell (cell_block_lt h.c3)).trans h.c3, h.lv, h.lr,
    fun i v hv => (b.cell (cell_block_lt (h.cv i v hv))).trans (h.cv i v hv), fun i v l hv hl => (h.rd i v l hv hl).below b⟩

/-- Numbers that may be. -/
structure GrOk (S N Q A : Nat) : Prop where
  s : S < 18446744073709551616
  n : N ≤ 1048576
  q : Q ≤ 8
  a1 : 1 ≤ A
  a : A ≤ 16777216
  qa : Q ≤ A
  q1 : 1 ≤ Q

/-- The auxiliary blocks of a message block. -/
def ofD (S A Q i : Nat) : List Int := (someD (seedTo 0 [S, 1, i]) (A : Int) (Q : Int)).2

theorem ofD_length {S A Q i : Nat} (h1 : 1 ≤ Q) (h2 : Q ≤ A) : (ofD S A Q i).length = Q := by
  unfold ofD
  rw [someD_length]
  unfold howMany
  split <;> omega



/-- CLONE: of numbers. -/
theorem clone_any (v : Value) (l : List Int) (n : Nat) (w : World) (h : Zs w v l) (hn : l.length = n) (hl : n ≤ 1000000000) :
    Calls Try.prog 59 #[v] w fun e w' => ∃ a c, e = .returned (.slice a n c) ∧ OwnZ w.heap.size w' (.slice a n c) n l ∧ Below w.heap.size w w' := by
  subst hn
  have h' := h
  obtain ⟨-, ao, cap, rfl, h2, h3, h4, -⟩ := h'
  obtain ⟨-, hc⟩ := zs_cells h
  have fin : ∀ (v' : Value) (w' : World), w'.ownsRow w.heap.size 3 1 v' l.length (l.map (Value.int .i64)) → Below w.heap.size w w' → ∃ a c, Ending.returned v' = .returned (.slice a l.length c) ∧ OwnZ w.heap.size w' (.slice a l.length c) l.length l ∧ Below w.heap.size w w' := by
    intro v' w' ho hb
    obtain ⟨a, c, rfl, -⟩ := owned_slice ho
    exact ⟨a, c, rfl, ho, hb⟩
  cases ao with
  | none =>
    have e0 : cap = 0 := h4 rfl
    have e1 : l = [] := List.eq_nil_of_length_eq_zero (by omega)
    subst e1
    refine (Any.slices_Clone_int_nil Try.laysNm215 0 cap w).mono ?_
    rintro e w' ⟨rfl, rfl⟩
    exact ⟨none, 0, rfl, OwnZ.nil _ _, Below.refl _ _⟩
  | some a =>
    by_cases h0 : l.length = 0
    · have e1 : l = [] := List.eq_nil_of_length_eq_zero h0
      subst e1
      refine (Any.slices_Clone_int_zero Try.laysNm215 a cap w).mono ?_
      rintro e w' ⟨v', rfl, ho, -, hb⟩
      exact fin v' w' ho hb
    · obtain ⟨b, off, e, hc'⟩ := hc.resolve_left h0
      obtain rfl := Option.some.inj e
      refine (Any.slices_Clone_int Try.laysNm215 b off l.length cap l w (Nat.le_refl _) (by omega) hc').mono ?_
      rintro e w' ⟨v', rfl, ho, -, hb⟩
      rw [List.take_of_length_le (Nat.le_refl _)] at ho
      exact fin v' w' ho hb

end

section
/-
  outer: Equation; the document's Of.
-/
open Go.RowKit
set_option linter.unusedVariables false

theorem PrOk.ok {N B Q E F : Int} {n q A : Nat} (h : PrOk N B Q E F n q A) {S : Nat} (hS : S < 18446744073709551616) : GrOk S n q A := by
  obtain ⟨h1, h2, h3, h4, h5, h6⟩ := h.may
  have r := aux_range h1 h3 h4
  have e1 := h.en
  have e2 := h.eq
  have e3 := h.ea
  exact ⟨hS, by omega, by omega, by omega, by omega, by omega, by omega⟩


end

section
/-
  outer: which message blocks each auxiliary one has, put in one by one; the graph while it is built.
-/
open Go.RowKit
set_option linter.unusedVariables false

/-- A message block is put to an auxiliary one. -/
def addTo (rows : List (List Int)) (x : Nat) (m : Int) : List (List Int) := rows.set x (rows.getD x [] ++ [m])
/-- .. to all that are told. -/
def addAll (rows : List (List Int)) (l : List Int) (m : Int) : List (List Int) := l.foldl (fun rs x => addTo rs x.toNat m) rows
/-- What each has, behind m message blocks. -/
def hasR (S A Q : Nat) : Nat → List (List Int)
  | 0 => List.replicate A []
  | m + 1 => addAll (hasR S A Q m) (ofD S A Q m) m

theorem addTo_length (rows : List (List Int)) (x : Nat) (m : Int) : (addTo rows x m).length = rows.length := by simp [addTo]
theorem addAll_length (l : List Int) (m : Int) : ∀ rows : List (List Int), (addAll rows l m).length = rows.length := by
  induction l with
  | nil => intro rows; rfl
  | cons x l ih =>
    intro rows
    show (addAll (addTo rows x.toNat m) l m).length = _
    rw [ih, addTo_length]
theorem hasR_length (S A Q m : Nat) : (hasR S A Q m).length = A := by
  induction m with
  | zero => simp [hasR]
  | succ m ih => unfold hasR; rw [addAll_length, ih]

theorem addAll_take {rows : List (List Int)} {l : List Int} {k x : Nat} (m : Int) (hk : k < l.length) (hx : l[k] = (x : Int)) : addAll rows (l.take (k + 1)) m = addTo (addAll rows (l.take k) m) x m := by
  rw [List.take_succ_eq_append_getElem hk, hx]
  unfold addAll
  rw [List.foldl_append]
  simp

theorem addTo_at {rows : List (List Int)} {x : Nat} {r : List Int} (h : rows[x]? = some r) (m : Int) : addTo rows x m = rows.set x (r ++ [m]) := by
  unfold addTo
  rw [List.getD_eq_getElem?_getD, h]
  rfl

/-- All rows have at most so many. -/
def Short (c : Nat) (rows : List (List Int)) : Prop := ∀ (i : Nat) (l : List Int), rows[i]? = some l → l.length ≤ c
theorem short_start (A : Nat) : Short 0 (List.replicate A []) := by
  intro i l h
  rw [List.getElem?_replicate] at h
  split at h
  · obtain rfl := Option.some.inj h
    exact Nat.le_refl _
  · cases h
theorem Short.add {c : Nat} {rows : List (List Int)} (h : Short c rows) {x : Nat} {r : List Int} (hr : rows[x]? = some r) (m : Int) : Short (c + 1) (addTo rows x m) := by
  intro i l hl
  rw [addTo_at hr] at hl
  by_cases e : x = i
  · subst e
    have hx : x < rows.length := (List.getElem?_eq_some_iff.1 hr).1
    rw [List.getElem?_set_self hx] at hl
    obtain rfl := Option.some.inj hl
    have := h x r hr
    simp
    omega
  · rw [List.getElem?_set_ne e] at hl
    have := h i l hl
    omega
theorem Short.mono {c d : Nat} {rows : List (List Int)} (h : Short c rows) (hd : c ≤ d) : Short d rows := fun i l hl => Nat.le_trans (h i l hl) hd

theorem ofD_mem {S A Q i : Nat} {x : Int} (h : x ∈ ofD S A Q i) : 0 ≤ x ∧ x < A := someD_mem h
theorem ofD_rises (S A Q i : Nat) : (ofD S A Q i).Pairwise (· < ·) := someD_rises _ _ _


theorem own_cells {B : Nat} {w : World} {v : Value} {n : Nat} {l : List Int} (h : OwnZ B w v n l) {q : Nat} (hq : v.ownBlock = some q) : ∃ cur, w.heap[q]? = some (.cells cur 3 (0, 0)) := by
  rcases h.2 with ⟨hv, _⟩ | ⟨g, cap, cur, hv, _, hh, _⟩
  · rw [hv] at hq
    cases hq
  · rw [hv] at hq
    obtain rfl := Option.some.inj hq
    exact ⟨cur, hh⟩

section
variable {w W W' : World} {g ro S N Q A : Nat} {cs vs : List Value} {rows : List (List Int)}

end

end

section
/-
  outer: New.
-/
open Go.RowKit
set_option linter.unusedVariables false

theorem Try.infoRow : (Try.prog.info? 31).map (fun i => (i.zero, i.size, i.bytes)) = some (some (.slice none 0 0), 1, 24) := by kernel_rfl


/-- A row of nil slices. -/
def nils (A : Nat) : List Value := List.replicate A (.slice none 0 0)
def IsNl (B A : Nat) : Value → World → Prop := fun v W => ∃ ro, v = .slice (some ⟨ro, 0, none⟩) A A ∧ B ≤ ro ∧ W.heap[ro]? = some (.cells (nils A).toArray 31 (0, 0))
theorem stays_nl (B A : Nat) : Stays (IsNl B A) := fun _ _ _ hb ⟨ro, h1, h2, h3⟩ => ⟨ro, h1, h2, heap_stays hb h3⟩
def IsGa (B S N Q A : Nat) : Value → World → Prop := fun v W => ∃ ro, v = .agg #[.int .u64 (S : Int), .int .i64 (N : Int), .int .i64 (Q : Int), .slice (some ⟨ro, 0, none⟩) A A] ∧ B ≤ ro ∧ W.heap[ro]? = some (.cells (nils A).toArray 31 (0, 0))
theorem stays_ga (B S N Q A : Nat) : Stays (IsGa B S N Q A) := fun _ _ _ hb ⟨ro, h1, h2, h3⟩ => ⟨ro, h1, h2, heap_stays hb h3⟩
theorem made_nils {w2 : World} {base q n : Nat} (ho : w2.ownsRow base 31 1 (.slice (some ⟨q, 0, none⟩) n n) n (madeCells (Value.slice none 0 0).cells (n * 1)).toList) : w2.heap[q]? = some (.cells (nils n).toArray 31 (0, 0)) := by
  simp only [Value.cells, Nat.mul_one, toList_madeCells_one] at ho
  rcases ho.2 with ⟨hv, _⟩ | ⟨g, cap, cur, hv, _, hh, _, _, hcs, htake⟩
  · cases hv
  · injection hv with e1 _ e3
    injection e1 with e1
    injection e1 with e1 _ _
    subst e1; subst e3
    rw [hh]
    have hl : cur.toList.length = n := by rw [Array.length_toList, hcs, Nat.mul_one]
    have : cur.toList = nils n := by
      rw [← List.take_of_length_le (l := cur.toList) (i := n * 1) (by omega), htake]
      rfl
    rw [← this]

section
variable {w W W' : World} {g ro S N Q A : Nat} {cs vs : List Value} {rows : List (List Int)} {lv : Value} {ln : Nat} {l : List Int}

end

end

section
/-
  outer: what the statements' smaller makes of Params; what their speaks says.
-/
open Go.RowKit
set_option linter.unusedVariables false

theorem Five.set0 {W : World} {b : Nat} {N B Q E F : Int} (h : Five W b N B Q E F) (N' : Int) : Five (W.setCell ⟨b, 0, none⟩ (.int .i64 N')) b N' B Q E F := by
  obtain ⟨h0, h1, h2, h3, h4⟩ := h
  refine ⟨?_, ?_, ?_, ?_, ?_⟩
  · exact World.cell?_setCell_same W _ _ h0
  · rw [World.cell?_setCell_other W _ _ _ (by simp)]; exact h1
  · rw [World.cell?_setCell_other W _ _ _ (by simp)]; exact h2
  · rw [World.cell?_setCell_other W _ _ _ (by simp)]; exact h3
  · rw [World.cell?_setCell_other W _ _ _ (by simp)]; exact h4

theorem Five.set1 {W : World} {b : Nat} {N B Q E F : Int} (h : Five W b N B Q E F) (B' : Int) : Five (W.setCell ⟨b, 1, none⟩ (.int .i64 B')) b N B' Q E F := by
  obtain ⟨h0, h1, h2, h3, h4⟩ := h
  refine ⟨?_, ?_, ?_, ?_, ?_⟩
  · rw [World.cell?_setCell_other W _ _ _ (by simp)]; exact h0
  · exact World.cell?_setCell_same W _ _ h1
  · rw [World.cell?_setCell_other W _ _ _ (by simp)]; exact h2
  · rw [World.cell?_setCell_other W _ _ _ (by simp)]; exact h3
  · rw [World.cell?_setCell_other W _ _ _ (by simp)]; exact h4

theorem Five.set2 {W : World} {b : Nat} {N B Q E F : Int} (h : Five W b N B Q E F) (Q' : Int) : Five (W.setCell ⟨b, 2, none⟩ (.int .i64 Q')) b N B Q' E F := by
  obtain ⟨h0, h1, h2, h3, h4⟩ := h
  refine ⟨?_, ?_, ?_, ?_, ?_⟩
  · rw [World.cell?_setCell_other W _ _ _ (by simp)]; exact h0
  · rw [World.cell?_setCell_other W _ _ _ (by simp)]; exact h1
  · exact World.cell?_setCell_same W _ _ h2
  · rw [World.cell?_setCell_other W _ _ _ (by simp)]; exact h3
  · rw [World.cell?_setCell_other W _ _ _ (by simp)]; exact h4

theorem Five.set3 {W : World} {b : Nat} {N B Q E F : Int} (h : Five W b N B Q E F) (E' : Int) : Five (W.setCell ⟨b, 3, none⟩ (.int .i64 E')) b N B Q E' F := by
  obtain ⟨h0, h1, h2, h3, h4⟩ := h
  refine ⟨?_, ?_, ?_, ?_, ?_⟩
  · rw [World.cell?_setCell_other W _ _ _ (by simp)]; exact h0
  · rw [World.cell?_setCell_other W _ _ _ (by simp)]; exact h1
  · rw [World.cell?_setCell_other W _ _ _ (by simp)]; exact h2
  · exact World.cell?_setCell_same W _ _ h3
  · rw [World.cell?_setCell_other W _ _ _ (by simp)]; exact h4

theorem Five.set4 {W : World} {b : Nat} {N B Q E F : Int} (h : Five W b N B Q E F) (F' : Int) : Five (W.setCell ⟨b, 4, none⟩ (.int .i64 F')) b N B Q E F' := by
  obtain ⟨h0, h1, h2, h3, h4⟩ := h
  refine ⟨?_, ?_, ?_, ?_, ?_⟩
  · rw [World.cell?_setCell_other W _ _ _ (by simp)]; exact h0
  · rw [World.cell?_setCell_other W _ _ _ (by simp)]; exact h1
  · rw [World.cell?_setCell_other W _ _ _ (by simp)]; exact h2
  · rw [World.cell?_setCell_other W _ _ _ (by simp)]; exact h3
  · exact World.cell?_setCell_same W _ _ h4

theorem store5 {W : World} {b : Nat} {n o p q r : Int} (h : Five W b n o p q r) (N B Q E F : Int) : Five (((((W.setCell ⟨b, 0, none⟩ (.int .i64 N)).setCell ⟨b, 1, none⟩ (.int .i64 B)).setCell ⟨b, 2, none⟩ (.int .i64 Q)).setCell ⟨b, 3, none⟩ (.int .i64 E)).setCell ⟨b, 4, none⟩ (.int .i64 F)) b N B Q E F :=
  ((((h.set0 N).set1 B).set2 Q).set3 E).set4 F

theorem below5 {w0 W : World} {B0 b : Nat} (h : Below B0 w0 W) (hb : B0 ≤ b) (v0 v1 v2 v3 v4 : Value) : Below B0 w0 (((((W.setCell ⟨b, 0, none⟩ v0).setCell ⟨b, 1, none⟩ v1).setCell ⟨b, 2, none⟩ v2).setCell ⟨b, 3, none⟩ v3).setCell ⟨b, 4, none⟩ v4) :=
  ((((h.setCell hb v0).setCell hb v1).setCell hb v2).setCell hb v3).setCell hb v4

theorem ret_cell1 {fn : Func} {p : Tmp} {ty : TypeId} (h : fn.results = #[.cell p ty]) {tmps : Array Value} {P : Program} {W : World} {b : Nat} {v : Value} (hp : tmps.getD p undef = .pointer (some ⟨b, 0, none⟩)) (hl : (loadVar ty ⟨b, 0, none⟩).run P W = .ok v W) : (results fn tmps).run P W = .ok v W := by
  have hp' : tmps[p]?.getD undef = .pointer (some ⟨b, 0, none⟩) := by rw [← hp]; simp
  simp [results, h, hp', asAddr, hl]

/-- No more blocks than are looked at. -/
def smallN (N : Int) : Int := if N > 60 then 1 + N % 60 else N
theorem smallN_le (N : Int) : smallN N ≤ 60 := by unfold smallN; split <;> omega

theorem pr_one : PrOk ((1 : Nat) : Int) 1 ((1 : Nat) : Int) 1000 2 1 1 1 := ⟨by unfold May; decide, rfl, rfl, by decide⟩

theorem of_one (S i : Nat) : ofD S 1 1 i = [0] := by
  unfold ofD
  rw [someD_all]
  rfl
theorem has_one (S : Nat) : hasR S 1 1 1 = [[0]] := by
  show addAll (hasR S 1 1 0) (ofD S 1 1 0) _ = _
  rw [of_one]
  rfl

end

section
/-
  outer: which message blocks each auxiliary one has: who is among them, that they rise, how many there are.
-/
open Go.RowKit
set_option linter.unusedVariables false

theorem addAll_at (m : Int) : ∀ (l : List Int) (rows : List (List Int)), l.Nodup → (∀ x ∈ l, 0 ≤ x) → ∀ j : Nat, (addAll rows l m)[j]? = rows[j]?.map (fun r => if (j : Int) ∈ l then r ++ [m] else r) := by
  intro l
  induction l with
  | nil =>
    intro rows _ _ j
    show rows[j]? = _
    cases rows[j]? with
    | none => rfl
    | some r => simp
  | cons x l ih =>
    intro rows hn h0 j
    rw [List.nodup_cons] at hn
    show (addAll (addTo rows x.toNat m) l m)[j]? = _
    rw [ih _ hn.2 (fun y hy => h0 y (by simp [hy])) j]
    have hx := h0 x (by simp)
    by_cases e : x.toNat = j
    · have ex : (j : Int) = x := by omega
      have hj : (j : Int) ∉ l := by rw [ex]; exact hn.1
      have hj2 : (j : Int) ∈ x :: l := by rw [ex]; simp
      unfold addTo
      rw [e]
      cases hr : rows[j]? with
      | none =>
        have : rows.length ≤ j := by
          rcases Nat.lt_or_ge j rows.length with h | h
          · rw [List.getElem?_eq_getElem h] at hr
            cases hr
          · exact h
        rw [List.getElem?_set_self' , hr]
        rfl
      | some r =>
        have hjl : j < rows.length := (List.getElem?_eq_some_iff.1 hr).1
        rw [List.getElem?_set_self hjl, List.getD_eq_getElem?_getD, hr]
        simp [hj, hj2]
    · have hj2 : ((j : Int) ∈ x :: l) ↔ (j : Int) ∈ l := by
        rw [List.mem_cons]
        constructor
        · rintro (h | h)
          · omega
          · exact h
        · exact .inr
      unfold addTo
      rw [List.getElem?_set_ne e]
      simp only [hj2]

theorem ofD_nodup (S A Q i : Nat) : (ofD S A Q i).Nodup := someD_nodup _ _ _

theorem hasR_next (S A Q m j : Nat) : (hasR S A Q (m + 1))[j]? = (hasR S A Q m)[j]?.map (fun r => if (j : Int) ∈ ofD S A Q m then r ++ [(m : Int)] else r) :=
  addAll_at m (ofD S A Q m) (hasR S A Q m) (ofD_nodup _ _ _ _) (fun x hx => (ofD_mem hx).1) j

/-- Whoever is in a row: it rises, and has just those that are in it. -/
structure RowOk (S A Q m j : Nat) (r : List Int) : Prop where
  lt : ∀ x ∈ r, 0 ≤ x ∧ x < (m : Int)
  up : r.Pairwise (· < ·)
  mem : ∀ i : Nat, (i : Int) ∈ r ↔ i < m ∧ (j : Int) ∈ ofD S A Q i

theorem hasR_ok (S A Q : Nat) : ∀ (m j : Nat) (r : List Int), (hasR S A Q m)[j]? = some r → RowOk S A Q m j r := by
  intro m
  induction m with
  | zero =>
    intro j r h
    unfold hasR at h
    rw [List.getElem?_replicate] at h
    split at h
    · obtain rfl := Option.some.inj h
      exact ⟨by simp, List.Pairwise.nil, by simp⟩
    · cases h
  | succ m ih =>
    intro j r h
    rw [hasR_next] at h
    cases hr : (hasR S A Q m)[j]? with
    | none => rw [hr] at h; cases h
    | some r0 =>
      rw [hr] at h
      have h0 := ih j r0 hr
      simp only [Option.map_some, Option.some.injEq] at h
      by_cases hj : (j : Int) ∈ ofD S A Q m
      · rw [if_pos hj] at h
        subst h
        refine ⟨?_, ?_, ?_⟩
        · intro x hx
          rcases List.mem_append.1 hx with hx | hx
          · have := h0.lt x hx
            omega
          · have := List.mem_singleton.1 hx
            omega
        · rw [List.pairwise_append]
          refine ⟨h0.up, by simp, ?_⟩
          intro x hx y hy
          have := h0.lt x hx
          have := List.mem_singleton.1 hy
          omega
        · intro i
          rw [List.mem_append, h0.mem i, List.mem_singleton]
          constructor
          · rintro (⟨h1, h2⟩ | h1)
            · exact ⟨by omega, h2⟩
            · have : i = m := by omega
              subst this
              exact ⟨by omega, hj⟩
          · rintro ⟨h1, h2⟩
            by_cases e : i = m
            · exact .inr (by omega)
            · exact .inl ⟨by omega, h2⟩
      · rw [if_neg hj] at h
        subst h
        refine ⟨?_, h0.up, ?_⟩
        · intro x hx
          have := h0.lt x hx
          omega
        · intro i
          rw [h0.mem i]
          constructor
          · rintro ⟨h1, h2⟩
            exact ⟨by omega, h2⟩
          · rintro ⟨h1, h2⟩
            refine ⟨?_, h2⟩
            by_cases e : i = m
            · subst e
              exact absurd h2 hj
            · omega

/-- How many there are in all. -/
def total (rows : List (List Int)) : Nat := (rows.map List.length).sum

theorem total_add (m : Int) : ∀ (rows : List (List Int)) (x : Nat), x < rows.length → total (addTo rows x m) = total rows + 1 := by
  intro rows
  induction rows with
  | nil => intro x h; simp at h
  | cons r rs ih =>
    intro x h
    cases x with
    | zero =>
      simp [addTo, total]
      omega
    | succ x =>
      have := ih x (by simpa using h)
      simp [addTo, total] at this ⊢
      omega

theorem total_all (m : Int) : ∀ (l : List Int) (rows : List (List Int)), (∀ x ∈ l, 0 ≤ x ∧ x < (rows.length : Int)) → total (addAll rows l m) = total rows + l.length := by
  intro l
  induction l with
  | nil => intro rows _; rfl
  | cons x l ih =>
    intro rows h
    have hx := h x (by simp)
    show total (addAll (addTo rows x.toNat m) l m) = _
    rw [ih _ (fun y hy => by rw [addTo_length]; exact h y (by simp [hy])), total_add m rows x.toNat (by omega), List.length_cons]
    omega

theorem total_has {S A Q : Nat} (h1 : 1 ≤ Q) (h2 : Q ≤ A) (m : Nat) : total (hasR S A Q m) = m * Q := by
  induction m with
  | zero => simp [hasR, total]
  | succ m ih =>
    unfold hasR
    rw [total_all _ _ _ (fun x hx => by rw [hasR_length]; exact ofD_mem hx), ih, ofD_length h1 h2, Nat.succ_mul]

/-- How many are in the first j rows. -/
def totalTo (rows : List (List Int)) (j : Nat) : Nat := total (rows.take j)
theorem totalTo_zero (rows : List (List Int)) : totalTo rows 0 = 0 := by simp [totalTo, total]
theorem totalTo_next {rows : List (List Int)} {j : Nat} {r : List Int} (h : rows[j]? = some r) : totalTo rows (j + 1) = totalTo rows j + r.length := by
  obtain ⟨hj, rfl⟩ := List.getElem?_eq_some_iff.1 h
  unfold totalTo total
  rw [List.take_succ_eq_append_getElem hj, List.map_append, List.sum_append]
  simp only [List.map_cons, List.map_nil, List.sum_cons, List.sum_nil, Nat.add_zero]
theorem totalTo_all {rows : List (List Int)} {j : Nat} (h : rows.length ≤ j) : totalTo rows j = total rows := by
  unfold totalTo
  rw [List.take_of_length_le h]

theorem hasR_short {S A Q : Nat} (m j : Nat) (r : List Int) (h : (hasR S A Q m)[j]? = some r) : r.length ≤ m := by
  have h0 := hasR_ok S A Q m j r h
  have hn : (r.map Int.toNat).Nodup := by
    rw [List.nodup_iff_pairwise_ne, List.pairwise_map]
    refine h0.up.imp_of_mem ?_
    intro a b ha hb hab
    have := h0.lt a ha
    have := h0.lt b hb
    omega
  have := nodup_le m (r.map Int.toNat) hn (by
    intro x hx
    obtain ⟨y, hy, rfl⟩ := List.mem_map.1 hx
    have := h0.lt y hy
    omega)
  simpa using this

end

section
/-
  outer: the document's Has.
-/
open Go.RowKit
set_option linter.unusedVariables false

/-- Rows of numbers behind a block of slices. -/
structure RfI (Bs : Nat) (W : World) (qb A : Nat) (vs : List Value) (rows : List (List Int)) : Prop where
  hc : W.heap[qb]? = some (.cells vs.toArray 31 (0, 0))
  lv : vs.length = A
  lr : rows.length = A
  own : ∀ (i : Nat) (v : Value) (l : List Int), vs[i]? = some v → rows[i]? = some l → OwnZ Bs W v l.length l
  hq : Bs ≤ qb

theorem own_ne {B : Nat} {w : World} {v : Value} {n : Nat} {l : List Int} (h : OwnZ B w v n l) {g : Nat} {cs : Array Value} {t : TypeId} {fr : Nat × Nat} (hg : w.heap[g]? = some (.cells cs t fr)) (ht : t ≠ 3) : v.ownBlock ≠ some g := by
  intro e
  obtain ⟨cur, hh⟩ := own_cells h e
  rw [hg] at hh
  injection hh with hh
  injection hh with _ hh _
  exact ht hh

section
variable {Bs : Nat} {W W' : World} {qb A : Nat} {vs : List Value} {rows : List (List Int)}

theorem RfI.lt (h : RfI Bs W qb A vs rows) : qb < W.heap.size := (Array.getElem?_eq_some_iff.1 h.hc).1
theorem RfI.below (h : RfI Bs W qb A vs rows) (b : Below W.heap.size W W') : RfI Bs W' qb A vs rows :=
  ⟨heap_stays b h.hc, h.lv, h.lr, fun i v l hv hl => (h.own i v l hv hl).below b, h.hq⟩
theorem RfI.cell (h : RfI Bs W qb A vs rows) {i : Nat} {v : Value} (hv : vs[i]? = some v) : W.cell? ⟨qb, i, none⟩ = some v := by
  simp [World.cell?, h.hc, hv]
theorem RfI.free (h : RfI Bs W qb A vs rows) (i : Nat) : W.frozen? ⟨qb, i, none⟩ = false := by
  simp [World.frozen?, h.hc]
theorem RfI.row (h : RfI Bs W qb A vs rows) {i : Nat} (hi : i < A) : ∃ v l, vs[i]? = some v ∧ rows[i]? = some l :=
  ⟨_, _, List.getElem?_eq_getElem (by rw [h.lv]; exact hi), List.getElem?_eq_getElem (by rw [h.lr]; exact hi)⟩

theorem RfI.store (h : RfI Bs W qb A vs rows) (x : Nat) {v' : Value} {r' : List Int} (ho : OwnZ Bs W v' r'.length r') : RfI Bs (W.setCell ⟨qb, x, none⟩ v') qb A (vs.set x v') (rows.set x r') := by
  have key : ∀ k, k ≠ qb → (W.setCell ⟨qb, x, none⟩ v').heap[k]? = W.heap[k]? := fun k hk => Below.heap_setCell _ _ _ _ hk
  refine ⟨heap_setCell_at h.hc v', by rw [List.length_set]; exact h.lv, by rw [List.length_set]; exact h.lr, ?_, h.hq⟩
  have keep : ∀ (v : Value) (n : Nat) (l : List Int), OwnZ Bs W v n l → OwnZ Bs (W.setCell ⟨qb, x, none⟩ v') v n l := fun v n l hO => hO.kept (fun q hq => key q (fun e => own_ne hO h.hc (by decide) (by rw [hq, e])))
  intro i v l hv hl
  by_cases e : x = i
  · subst e
    have hx : x < vs.length := by
      rcases Nat.lt_or_ge x vs.length with h1 | h1
      · exact h1
      · rw [List.getElem?_eq_none (by rw [List.length_set]; exact h1)] at hv
        cases hv
    rw [List.getElem?_set_self hx] at hv
    rw [List.getElem?_set_self (by rw [h.lr, ← h.lv]; exact hx)] at hl
    obtain rfl := Option.some.inj hv
    obtain rfl := Option.some.inj hl
    exact keep _ _ _ ho
  · rw [List.getElem?_set_ne e] at hv hl
    exact keep _ _ _ (h.own i v l hv hl)
end

theorem rfi_start {Bs : Nat} {W : World} {qb : Nat} (S A Q : Nat) (h : W.heap[qb]? = some (.cells (nils A).toArray 31 (0, 0))) (hq : Bs ≤ qb) : RfI Bs W qb A (nils A) (hasR S A Q 0) := by
  refine ⟨h, by simp [nils], by simp [hasR], ?_, hq⟩
  intro i v l hv hl
  unfold nils at hv
  rw [List.getElem?_replicate] at hv
  unfold hasR at hl
  rw [List.getElem?_replicate] at hl
  by_cases hi : i < A
  · rw [if_pos hi] at hv hl
    obtain rfl := Option.some.inj hv
    obtain rfl := Option.some.inj hl
    exact OwnZ.nil _ _
  · rw [if_neg hi] at hv
    cases hv

theorem Fd.yet {listed : Array Bool} {xv : Nat → Value} {W : World} {i j : Nat} {p : Value → World → Prop} {o : Nat} (h : listed.getD i false = false) (hi : i ≠ o) (v : Value) : Fd (listed.setIfInBounds o true) (updV xv o v) W i j p := by
  intro a
  rw [getD_set_other hi, h] at a
  cases a

/-- No numbers yet. -/
def IsE0 (B : Nat) : Value → World → Prop := fun v W => ∃ q, v = .slice (some ⟨q, 0, none⟩) 0 0 ∧ B ≤ q ∧ W.heap[q]? = some (.cells #[] 3 (0, 0))
theorem stays_e0 (B : Nat) : Stays (IsE0 B) := fun _ _ _ hb ⟨q, h1, h2, h3⟩ => ⟨q, h1, h2, heap_stays hb h3⟩
theorem e0_own {B q : Nat} {W : World} (h2 : B ≤ q) (h3 : W.heap[q]? = some (.cells #[] 3 (0, 0))) : OwnZ B W (.slice (some ⟨q, 0, none⟩) 0 0) 0 [] :=
  ⟨rfl, .inr ⟨q, 0, #[], rfl, h2, h3, Nat.le_refl _, by simp [maxLen], rfl, rfl⟩⟩
theorem z1_grown {x : Int} {v : Value} {W W' : World} {q : Nat} {t : TypeId} (h : IsZ1 x v W) (hq : W.heap[q]? = some (.cells #[] t (0, 0))) (hg : W.grownBy W' (some q)) : IsZ1 x v W' := by
  obtain ⟨h1, ao, cap, hv, h2, h3, h4, h5⟩ := h
  refine ⟨h1, ao, cap, hv, h2, h3, h4, ?_⟩
  rcases h5 with h5 | ⟨b, off, hao, h5⟩
  · cases h5
  · refine .inr ⟨b, off, hao, fun j u hj => ?_⟩
    have hc := h5 j u hj
    have hne : b ≠ q := by
      rintro rfl
      simp [World.cell?, hq] at hc
    rw [← hc]
    exact World.cell?_of_block (a := ⟨b, off + j, none⟩) (hg.block b (cell_block_lt hc) (fun e => hne (Option.some.inj e)))

section
variable {w W W' : World} {b0 : Nat} {N B Q E F : Int} {qb A : Nat} {vs : List Value} {rows : List (List Int)} {lv : Value} {ln : Nat} {l : List Int}
end

end

section
/-
  outer: the document's Equations.
-/
open Go.RowKit
set_option linter.unusedVariables false

/-- What lies in a slot until an operation writes it. -/
def Ini4 (listed : Array Bool) (xv : Nat → Value) (c : Nat) (v : Value) : Prop := listed.getD c false = false → xv c = v
theorem Ini4.skip {listed : Array Bool} {xv : Nat → Value} {c i : Nat} {v u : Value} (h : Ini4 listed xv c v) (hc : c ≠ i) : Ini4 (listed.setIfInBounds i true) (updV xv i u) c v := by
  intro a
  rw [getD_set_other hc] at a
  unfold updV
  rw [if_neg hc]
  exact h a
theorem Ini4.done {listed : Array Bool} {xv : Nat → Value} {c : Nat} {v u : Value} (h : listed.getD c true = false) : Ini4 (listed.setIfInBounds c true) (updV xv c u) c v := by
  intro a
  rw [getD_set_self h] at a
  cases a

/-- The equations of the first j rows. -/
def eqTo (rows : List (List Int)) (N j : Nat) : List (List Int) := (List.range j).map fun i => rows.getD i [] ++ [(N : Int) + (i : Int)]
theorem eqTo_length (rows : List (List Int)) (N j : Nat) : (eqTo rows N j).length = j := by simp [eqTo]
theorem eqTo_next {rows : List (List Int)} {N j : Nat} {r : List Int} (h : rows[j]? = some r) : eqTo rows N (j + 1) = eqTo rows N j ++ [r ++ [(N : Int) + (j : Int)]] := by
  unfold eqTo
  rw [List.range_succ, List.map_append, List.map_cons, List.map_nil, List.getD_eq_getElem?_getD, h]
  rfl
theorem eqTo_at {rows : List (List Int)} {N A j : Nat} {r : List Int} (h : rows[j]? = some r) (hj : j < A) : (eqTo rows N A)[j]? = some (r ++ [(N : Int) + (j : Int)]) := by
  unfold eqTo
  rw [List.getElem?_map, List.getElem?_range hj, Option.map_some, List.getD_eq_getElem?_getD, h]
  rfl

section
variable {w W W' : World} {b0 : Nat} {N B Q E F : Int} {qb A : Nat} {vs : List Value} {rows : List (List Int)} {ov : Value} {on : Nat} {vE : List Value} {eqs : List (List Int)}

end

theorem s1_sl {W : World} {p : Nat} {u : Value} (h : W.cell? ⟨p, 0, none⟩ = some u) : Sl 1 W (.slice (some ⟨p, 0, none⟩) 1 1) 1 [u] := by
  refine ⟨rfl, _, _, rfl, Nat.le_refl _, by simp [maxLen], fun h => by simp at h, .inr ⟨p, 0, rfl, ?_⟩⟩
  intro j v hj
  have : j = 0 := by have := (List.getElem?_eq_some_iff.1 hj).1; simp at this; omega
  subst this
  simp at hj
  subst hj
  exact h

def IsS1 (Bs n : Nat) (l : List Int) : Value → World → Prop := fun v W => ∃ p a c, v = .slice (some ⟨p, 0, none⟩) 1 1 ∧ W.cell? ⟨p, 0, none⟩ = some (.slice a n c) ∧ OwnZ Bs W (.slice a n c) n l
theorem stays_s1 (Bs n : Nat) (l : List Int) : Stays (IsS1 Bs n l) := fun _ _ _ hb ⟨p, a, c, h1, h2, h3⟩ => ⟨p, a, c, h1, (hb.cell (cell_block_lt h2)).trans h2, h3.below hb⟩
end

end Go.Proofs.Ytkckbeekehecnaa
