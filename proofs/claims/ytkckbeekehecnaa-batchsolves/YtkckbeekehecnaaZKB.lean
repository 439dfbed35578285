/-
  Texts that lie together: KF KH KI KJ KK KL KO KP KT.
-/
import Derived.Test.YtkckbeekehecnaaZKA
import Derived.Carry
namespace Go.Proofs.Ytkckbeekehecnaa

section
/-
  closure.Reach.
-/
open Go.RowKit
set_option linter.unusedVariables false

theorem Try.infoR : (Try.prog.info? 31).map (fun i => (i.zero, i.size, i.bytes)) = some (some (.slice none 0 0), 1, 24) := by kernel_rfl
/-- Rows of numbers, in a slice of one's own. -/
def OwnR (B : Nat) (w : World) (v : Value) (n : Nat) (vs : List Value) : Prop := w.ownsRow B 31 1 v n vs
theorem OwnR.len {B n : Nat} {w : World} {v : Value} {vs : List Value} (h : OwnR B w v n vs) : vs.length = n := by
  have := h.1
  simpa using this
theorem OwnR.sl {B n : Nat} {w : World} {v : Value} {vs : List Value} (h : OwnR B w v n vs) : Sl 1 w v n vs := owned_slN h
theorem OwnR.lt {B n : Nat} {w : World} {v : Value} {vs : List Value} (h : OwnR B w v n vs) : ∀ q, v.ownBlock = some q → B ≤ q ∧ q < w.heap.size := fun q hq => World.ownsRow.lt h q hq
theorem OwnR.kept {B n : Nat} {w w' : World} {v : Value} {vs : List Value} (h : OwnR B w v n vs) (hk : ∀ q, v.ownBlock = some q → w'.heap[q]? = w.heap[q]?) : OwnR B w' v n vs := owns_kept h hk
theorem OwnR.below {B n : Nat} {w w' : World} {v : Value} {vs : List Value} (h : OwnR B w v n vs) (hb : Below w.heap.size w w') : OwnR B w' v n vs := h.kept fun q hq => hb.block q (h.lt q hq).2
theorem OwnR.nil (B : Nat) (w : World) : OwnR B w (.slice none 0 0) 0 [] := ⟨rfl, .inl ⟨rfl, rfl⟩⟩
theorem wpList_addR (w : World) {ops : Array Oper} {rest : List Oper} {o : Oper} {a : Act} {Q : Exit → Act → World → Prop} (hgd : o.guard = none) (s x : Operand)
    (ho : o.op = .call { callee := .builtin .append, args := #[s, x], argTypes := #[22, 22] })
    (B : Nat) (v : Value) (n : Nat) (l : List Value) (hs : a.eval s = v) (hown : OwnR B w v n l)
    (xv : Value) (u : Value) (hx : a.eval x = xv) (hsrc : Sl 1 w xv 1 [u]) (hu : u.oneCell' = true)
    (hlen : n + 1 ≤ 1000000000) (hbase : B ≤ w.heap.size)
    (h : ∀ ao cap w', OwnR B w' (.slice ao (n + 1) cap) (n + 1) (l ++ [u]) → w.grownBy w' v.ownBlock → wpList Try.prog ops Q rest (a.put o.dst (.slice ao (n + 1) cap)) w') : wpList Try.prog ops Q (o :: rest) a w := by
  obtain ⟨i, hi, hz, h1, h8⟩ := info_parts Try.infoR
  refine wpList_app w hgd s x 22 ho B 31 i (.slice none 0 0) 1 24 Try.underlying22 hi hz h1 h8 rfl (by decide) v n _ hs hown xv 1 _ hx hsrc (by intro y hy; rw [List.mem_singleton.1 hy]; exact hu) (by unfold maxLen; omega) (by omega) hbase ?_
  intro ao cap w' h2 h3 h4 h5 h6 h7
  exact h ao cap w' h2 h3

/-- Numbers such as there are, rising? -/
def fitsI (all : Int) (l : List Int) : Bool := decide (l.Pairwise (· < ·) ∧ ∀ x ∈ l, 0 ≤ x ∧ x < all)
theorem fitsI_iff {all : Int} {l : List Int} : fitsI all l = true ↔ FitI all l := by
  unfold fitsI FitI
  exact decide_eq_true_iff
def fitF (all : Int) (ls : List (List Int)) : List (List Int) := ls.filter (fitsI all)
theorem fitF_mem {all : Int} {ls : List (List Int)} {l : List Int} : l ∈ fitF all ls ↔ l ∈ ls ∧ FitI all l := by
  unfold fitF
  rw [List.mem_filter, fitsI_iff]
theorem fitF_next {all : Int} {ls : List (List Int)} {i : Nat} {l : List Int} (h : ls[i]? = some l) : fitF all (ls.take (i + 1)) = fitF all (ls.take i) ++ (if fitsI all l = true then [l] else []) := by
  obtain ⟨hi, e⟩ := List.getElem?_eq_some_iff.1 h
  unfold fitF
  rw [List.take_succ_eq_append_getElem hi, e, List.filter_append]
  congr 1
  cases hf : fitsI all l <;> simp [hf]
theorem fitF_flat (all : Int) (ls : List (List Int)) : (fitF all ls).flatten.length ≤ ls.flatten.length := by
  unfold fitF
  induction ls with
  | nil => simp
  | cons l ls ih =>
    rw [List.filter_cons]
    split
    · rw [List.flatten_cons, List.flatten_cons, List.length_append, List.length_append]; omega
    · rw [List.flatten_cons, List.length_append]; omega
theorem fitF_len (all : Int) (ls : List (List Int)) : (fitF all ls).length ≤ ls.length := List.length_filter_le _ _
theorem LsZ.snoc {w : World} {us : List Value} {ls : List (List Int)} (h : LsZ w us ls) {v : Value} {l : List Int} (hz : Zs w v l) : LsZ w (us ++ [v]) (ls ++ [l]) := by
  refine ⟨by rw [List.length_append, List.length_append, h.1]; rfl, fun i v' l' hv hl => ?_⟩
  by_cases hlt : i < us.length
  · rw [List.getElem?_append_left hlt] at hv
    rw [List.getElem?_append_left (by rw [← h.1]; exact hlt)] at hl
    exact h.2 i v' l' hv hl
  · rw [List.getElem?_append_right (by omega)] at hv
    rw [List.getElem?_append_right (by rw [← h.1]; omega), ← h.1] at hl
    cases hk : i - us.length with
    | zero =>
      rw [hk] at hv hl
      simp at hv hl
      subst hv; subst hl
      exact hz
    | succ k => rw [hk] at hv; simp at hv
theorem LsZ.nil (w : World) : LsZ w [] [] := ⟨rfl, fun i v l h => by simp at h⟩
theorem one_srcV (w : World) (u : Value) (e : TypeId) : Sl 1 (w.alloc (.cells #[u] e)) (.slice (some ⟨w.heap.size, 0, none⟩) 1 1) 1 [u] := alloc_one _ _

theorem rise_sorted {l : List Int} (hs : l.Pairwise (· ≤ ·)) (hn : l.Nodup) : l.Pairwise (· < ·) := by
  rw [List.nodup_iff_pairwise_ne] at hn
  exact (hs.and hn).imp (fun h => by omega)

end

section
/-
  closure.Reach: the walk.
-/
open Go.RowKit
set_option linter.unusedVariables false

end

section
/-
  The document's Reach.
-/
open Go.RowKit
set_option linter.unusedVariables false

def lenS : Value → Nat
  | .slice _ n _ => n
  | _ => 0
def oneV : Value → Nat
  | .bool true => 1
  | _ => 0
theorem insI_mem {n x : Int} {l : List Int} : x ∈ insI n l ↔ x = n ∨ x ∈ l := by
  rw [(insI_perm n l).mem_iff, List.mem_cons]
theorem insI_rise {n : Int} {l : List Int} (h : l.Pairwise (· < ·)) (hn : n ∉ l) : (insI n l).Pairwise (· < ·) := by
  refine rise_sorted (insI_sorted n (h.imp (fun h => Int.le_of_lt h))) ((insI_perm n l).nodup_iff.2 (List.nodup_cons.2 ⟨hn, ?_⟩))
  rw [List.nodup_iff_pairwise_ne]
  exact h.imp (fun h => by omega)
theorem rise_nodup {l : List Int} (h : l.Pairwise (· < ·)) : l.Nodup := by
  rw [List.nodup_iff_pairwise_ne]
  exact h.imp (fun h => by omega)
theorem fol_flat {fl : List (List Int)} {K : List Int} (hn : K.Nodup) (h : ∀ x ∈ K, Fol fl x) : K.length ≤ fl.flatten.length := by
  refine hn.length_le_of_subset fun x hx => ?_
  obtain ⟨l, hl, hx'⟩ := (h x hx).ex
  exact List.mem_flatten.2 ⟨l, hl, hx'⟩
/-- What is left alone of an equation follows. -/
theorem fol_left {fl : List (List Int)} {K l : List Int} {x : Int} (hK : ∀ y ∈ K, Fol fl y) (hl : l ∈ fl) (hx : leftZ K l = [x]) : Fol fl x ∧ x ∉ K := by
  have h1 : x ∈ leftZ K l := by rw [hx]; simp
  obtain ⟨h2, h3⟩ := leftZ_mem.1 h1
  refine ⟨Fol.step l x hl h2 fun y hy hne => ?_, h3⟩
  by_cases hk : y ∈ K
  · exact hK y hk
  · have : y ∈ leftZ K l := leftZ_mem.2 ⟨hy, hk⟩
    rw [hx] at this
    exact absurd (List.mem_singleton.1 this) hne

end

section
/-
  closure.closedInOrder: what it keeps; whose values are others.
-/
open Go.RowKit
set_option linter.unusedVariables false

theorem Try.infoBool : (Try.prog.info? 4).map (fun i => (i.zero, i.size, i.bytes)) = some (some (.bool false), 1, 1) := by kernel_rfl
/-- A table of m bools. -/
def tabB (m : Nat) (h : Nat → Bool) : List Bool := (List.range m).map h
theorem tabB_length (m : Nat) (h : Nat → Bool) : (tabB m h).length = m := by simp [tabB]
theorem tabB_get {m e : Nat} (h : Nat → Bool) (he : e < m) : (tabB m h)[e]? = some (h e) := by simp [tabB, he]
def updB (h : Nat → Bool) (e : Nat) (v : Bool) : Nat → Bool := fun x => if x = e then v else h x
theorem tabB_set (m : Nat) (h : Nat → Bool) (e : Nat) (v : Bool) : (tabB m h).set e v = tabB m (updB h e v) := by
  apply List.ext_getElem?
  intro i
  rw [List.getElem?_set]
  by_cases hi : i < m
  · rw [tabB_get _ hi, tabB_get _ hi, tabB_length]
    by_cases he : e = i
    · subst he
      simp [hi, updB]
    · rw [if_neg he]
      unfold updB
      rw [if_neg (fun h => he h.symm)]
  · have h1 : (tabB m h)[i]? = none := List.getElem?_eq_none (by rw [tabB_length]; omega)
    have h2 : (tabB m (updB h e v))[i]? = none := List.getElem?_eq_none (by rw [tabB_length]; omega)
    rw [h1, h2, tabB_length]
    split
    · rename_i h3
      subst h3
      simp [hi]
    · rfl
def OwnBl (B : Nat) (w : World) (v : Value) (n : Nat) (l : List Bool) : Prop := w.ownsRow B 4 1 v n (l.map Value.bool)
theorem OwnBl.lt {B n : Nat} {w : World} {v : Value} {l : List Bool} (h : OwnBl B w v n l) : ∀ q, v.ownBlock = some q → B ≤ q ∧ q < w.heap.size := fun q hq => World.ownsRow.lt h q hq
theorem OwnBl.kept {B n : Nat} {w w' : World} {v : Value} {l : List Bool} (h : OwnBl B w v n l) (hk : ∀ q, v.ownBlock = some q → w'.heap[q]? = w.heap[q]?) : OwnBl B w' v n l := owns_kept h hk
theorem OwnBl.below {B n : Nat} {w w' : World} {v : Value} {l : List Bool} (h : OwnBl B w v n l) (hb : Below w.heap.size w w') : OwnBl B w' v n l := h.kept fun q hq => hb.block q (h.lt q hq).2
theorem OwnBl.kind {B n : Nat} {W : World} {v : Value} {l : List Bool} (h : OwnBl B W v n l) {q : Nat} (hq : v.ownBlock = some q) : ∃ cs, W.heap[q]? = some (.cells cs 4) := owns_type' h q hq
theorem OwnBl.frozen {B n : Nat} {W : World} {b c : Nat} {l : List Bool} (h : OwnBl B W (.slice (some ⟨b, 0, none⟩) n c) n l) (j : Nat) : W.frozen? ⟨b, j, none⟩ = false := by
  obtain ⟨cs, hc⟩ := h.kind (q := b) rfl
  simp [World.frozen?, hc]
theorem OwnBl.cell {B n : Nat} {W : World} {b c : Nat} {l : List Bool} (h : OwnBl B W (.slice (some ⟨b, 0, none⟩) n c) n l) {e : Nat} {z : Bool} (hz : l[e]? = some z) : W.cell? ⟨b, e, none⟩ = some (.bool z) := by
  obtain ⟨hl, ao, cap, hv, -, -, -, h5⟩ := owned_slN h
  injection hv with e1 _ _
  rcases h5 with h0 | ⟨b', off, ea, hc⟩
  · exfalso
    rw [h0, List.length_map] at hl
    have := (List.getElem?_eq_some_iff.1 hz).1
    omega
  · rw [ea] at e1
    injection e1 with e1
    injection e1 with e1 e2 _
    subst e1
    subst e2
    have h3 := hc e (.bool z) (by rw [List.getElem?_map, hz]; rfl)
    rwa [Nat.zero_add] at h3
theorem tabB_own {B n : Nat} {W : World} {b : Nat} {h : Nat → Bool} (ho : OwnBl B W (.slice (some ⟨b, 0, none⟩) n n) n (tabB n h)) {e : Nat} (he : e < n) (v : Bool) : OwnBl B (W.setCell ⟨b, e, none⟩ (.bool v)) (.slice (some ⟨b, 0, none⟩) n n) n (tabB n (updB h e v)) := by
  rcases ho.2 with ⟨h0, -⟩ | ⟨g, cap, cur, hv, hg, hh, hnc, hcm, hcs, ht⟩
  · cases h0
  · injection hv with e1 e2 e3
    injection e1 with e1
    injection e1 with e1 _ _
    subst e1
    subst e3
    refine ⟨by rw [List.length_map, tabB_length, Nat.mul_one], .inr ⟨b, n, cur.set! e (.bool v), rfl, hg, ?_, Nat.le_refl _, hcm, by simpa using hcs, ?_⟩⟩
    · simp [World.setCell, Array.getElem?_modify, hh]
    · rw [← tabB_set, List.map_set]
      rw [Nat.mul_one] at ht hcs ⊢
      rw [Array.set!_eq_setIfInBounds, Array.toList_setIfInBounds]
      rw [List.take_of_length_le (by rw [List.length_set, Array.length_toList, hcs]; exact Nat.le_refl _)]
      rw [List.take_of_length_le (by rw [Array.length_toList, hcs]; exact Nat.le_refl _)] at ht
      rw [ht]
theorem made_tabB {B : Nat} {W : World} {q m : Nat} (h : W.ownsRow B 4 1 (.slice (some ⟨q, 0, none⟩) m m) m (madeCells (Value.bool false).cells (m * 1)).toList) : OwnBl B W (.slice (some ⟨q, 0, none⟩) m m) m (tabB m (fun _ => false)) := by
  simp only [Value.cells, Nat.mul_one, toList_madeCells_one] at h
  have e : List.replicate m (Value.bool false) = (tabB m (fun _ => false)).map Value.bool := by
    apply List.ext_getElem?
    intro i
    rw [List.getElem?_map, List.getElem?_replicate]
    by_cases hi : i < m
    · rw [if_pos hi, tabB_get _ hi]; rfl
    · rw [if_neg hi, List.getElem?_eq_none (by rw [tabB_length]; omega)]; rfl
  rw [e] at h
  exact h

end

section
/-
  closure.closedInOrder.
-/
open Go.RowKit
set_option linter.unusedVariables false

def Qe.none : Qe := ⟨.slice .none 0 0, .slice .none 0 0, [], []⟩
def fitQ (all : Int) (es : List Qe) : List Qe := es.filter fun e => fitsI all e.of
theorem fitQ_mem {all : Int} {es : List Qe} {e : Qe} : e ∈ fitQ all es ↔ e ∈ es ∧ FitI all e.of := by
  unfold fitQ
  rw [List.mem_filter, fitsI_iff]
theorem fitQ_next {all : Int} {es : List Qe} {i : Nat} {e : Qe} (h : es[i]? = some e) : fitQ all (es.take (i + 1)) = fitQ all (es.take i) ++ (if fitsI all e.of = true then [e] else []) := by
  obtain ⟨hi, he⟩ := List.getElem?_eq_some_iff.1 h
  unfold fitQ
  rw [List.take_succ_eq_append_getElem hi, he, List.filter_append]
  congr 1
  cases hf : fitsI all e.of <;> simp [hf]
theorem fitQ_of (all : Int) (es : List Qe) : (fitQ all es).map Qe.of = fitF all (es.map Qe.of) := by
  unfold fitQ fitF
  rw [List.filter_map]
  rfl

theorem grown_kind {B n size : Nat} {W W' : World} {e : TypeId} {v : Value} {cs : List Value} (ho : W.ownsRow B e size v n cs) (hg : W.grownBy W' v.ownBlock) {q : Nat} {cs' : Array Value} {t : TypeId} {fr : Nat × Nat} (hq : W.heap[q]? = some (Obj.cells cs' t fr)) (ht : t ≠ e) : W'.heap[q]? = W.heap[q]? :=
  hg.block q (Array.getElem?_eq_some_iff.1 hq).1 fun e1 => by
    obtain ⟨cur, hc⟩ := owns_type' ho q e1.symm
    exact heap_ne hq hc ht rfl
theorem cell_of_heap {W : World} {q : Nat} {u : Value} {t : TypeId} (h : W.heap[q]? = some (.cells #[u] t (0, 0))) : W.cell? ⟨q, 0, none⟩ = some u := by simp [World.cell?, h]
theorem frozen_of_heap {W : World} {q : Nat} {cs : Array Value} {t : TypeId} (h : W.heap[q]? = some (.cells cs t (0, 0))) (j : Nat) : W.frozen? ⟨q, j, none⟩ = false := by simp [World.frozen?, h]
theorem heap_new (W : World) (o : Obj) : (W.alloc o).heap[W.heap.size]? = some o := by
  show (W.heap.push o)[W.heap.size]? = some o
  simp
theorem heap_old {W : World} (o : Obj) {q : Nat} (h : q < W.heap.size) : (W.alloc o).heap[q]? = W.heap[q]? := (below_alloc W o).block q h
theorem OwnE.kind {B n : Nat} {W : World} {v : Value} {l : List Qe} (h : OwnE B W v n l) {q : Nat} (hq : v.ownBlock = some q) : ∃ cs, W.heap[q]? = some (.cells cs 43) := owns_type' h q hq

/-- What stands in the two boxes. -/
structure Boxes (B size : Nat) (fv : Value) (W : World) : Prop where
  b4 : W.heap[B]? = some (.cells #[.int .i64 (size : Int)] 3 (0, 0))
  b7 : W.heap[B + 1]? = some (.cells #[fv] 28 (0, 0))
theorem Boxes.below {B size : Nat} {fv : Value} {W W' : World} (h : Boxes B size fv W) (hb : Below W.heap.size W W') : Boxes B size fv W' :=
  ⟨(hb.block _ (Array.getElem?_eq_some_iff.1 h.b4).1).trans h.b4, (hb.block _ (Array.getElem?_eq_some_iff.1 h.b7).1).trans h.b7⟩
theorem Boxes.grown {B size B0 n sz : Nat} {fv : Value} {W W' : World} (h : Boxes B size fv W) {e : TypeId} {v : Value} {cs : List Value} (ho : W.ownsRow B0 e sz v n cs) (hg : W.grownBy W' v.ownBlock) (h4 : 3 ≠ e) (h7 : 28 ≠ e) : Boxes B size fv W' :=
  ⟨(grown_kind ho hg h.b4 h4).trans h.b4, (grown_kind ho hg h.b7 h7).trans h.b7⟩
theorem Boxes.set {B size : Nat} {fv : Value} {W : World} (h : Boxes B size fv W) (u : Value) : Boxes B size u (W.setCell ⟨B + 1, 0, none⟩ u) :=
  ⟨(heap_set_other _ _ _ _ (by omega)).trans h.b4, by have := box_set (j := 0) h.b7 u; simpa using this⟩

/-- 'append' onto equations of one's own; where they lie then. -/
theorem wpList_addE2 (w : World) {ops : Array Oper} {rest : List Oper} {o : Oper} {a : Act} {Q : Exit → Act → World → Prop} (hgd : o.guard = none) (s x : Operand)
    (ho : o.op = .call { callee := .builtin .append, args := #[s, x], argTypes := #[28, 28] })
    (B : Nat) (v : Value) (n : Nat) (l : List Qe) (hs : a.eval s = v) (hown : OwnE B w v n l)
    (xv : Value) (m : Nat) (news : List Qe) (hx : a.eval x = xv) (hsrc : Sl 2 w xv m (news.flatMap Qe.cells)) (hone : ∀ u ∈ news.flatMap Qe.cells, u.oneCell' = true)
    (hlen : n + m ≤ 1000000000) (hbase : B ≤ w.heap.size)
    (h : ∀ ao cap w', OwnE B w' (.slice ao (n + m) cap) (n + m) (l ++ news) → w.grownBy w' v.ownBlock → ((Value.slice ao (n + m) cap).ownBlock = v.ownBlock ∨ (Value.slice ao (n + m) cap).ownBlock = some w.heap.size) → wpList Try.prog ops Q rest (a.put o.dst (.slice ao (n + m) cap)) w') : wpList Try.prog ops Q (o :: rest) a w := by
  obtain ⟨i, hi, hz, h1, h8⟩ := infoE_parts
  refine wpList_app w hgd s x 28 ho B 43 i (.agg #[.slice none 0 0, .slice none 0 0]) 2 48 Try.underlying28 hi hz h1 h8 rfl (by decide) v n _ hs hown xv m _ hx hsrc hone (by unfold maxLen; omega) (by omega) hbase ?_
  intro ao cap w' h2 h3 h4 h5 h6 h7
  refine h ao cap w' ?_ h3 h4
  unfold OwnE
  rw [List.flatMap_append]
  exact h2

/-- The equations of steps. -/
def aheadQ (fit : List Qe) (ss : List (Nat × Int)) : List Qe := ss.map fun s => fit.getD s.1 Qe.none
theorem aheadQ_next {fit : List Qe} {ss : List (Nat × Int)} {i e : Nat} {b : Int} {q : Qe} (h : ss[i]? = some (e, b)) (hq : fit[e]? = some q) : aheadQ fit (ss.take (i + 1)) = aheadQ fit (ss.take i) ++ [q] := by
  obtain ⟨hi, he⟩ := List.getElem?_eq_some_iff.1 h
  unfold aheadQ
  rw [List.take_succ_eq_append_getElem hi, he, List.map_append]
  simp [hq]
def leadB (ss : List (Nat × Int)) : Nat → Bool := fun e => decide (e ∈ ss.map Prod.fst)
theorem leadB_next {ss : List (Nat × Int)} {i e : Nat} {b : Int} (h : ss[i]? = some (e, b)) : updB (leadB (ss.take i)) e true = leadB (ss.take (i + 1)) := by
  obtain ⟨hi, he⟩ := List.getElem?_eq_some_iff.1 h
  funext x
  unfold updB leadB
  rw [List.take_succ_eq_append_getElem hi, he, List.map_append]
  by_cases hx : x = e
  · subst hx; simp
  · rw [if_neg hx]; simp [hx]
/-- The other closed equations, as far as k. -/
def behindQ (fit : List Qe) (h : Nat → Int) (ss : List (Nat × Int)) (k : Nat) : List Qe := ((List.range k).filter fun e => decide (h e = 0) && !leadB ss e).map fun e => fit.getD e Qe.none
theorem behindQ_next {fit : List Qe} {h : Nat → Int} {ss : List (Nat × Int)} {k : Nat} {q : Qe} (hq : fit[k]? = some q) : behindQ fit h ss (k + 1) = behindQ fit h ss k ++ (if h k = 0 ∧ leadB ss k = false then [q] else []) := by
  unfold behindQ
  rw [List.range_succ, List.filter_append, List.map_append]
  congr 1
  by_cases h1 : h k = 0
  · cases h2 : leadB ss k <;> simp [h1, h2, hq]
  · simp [h1]
theorem behindQ_len (fit : List Qe) (h : Nat → Int) (ss : List (Nat × Int)) (k : Nat) : (behindQ fit h ss k).length ≤ k := by
  unfold behindQ
  rw [List.length_map]
  have := List.length_filter_le (fun e => decide (h e = 0) && !leadB ss e) (List.range k)
  rwa [List.length_range] at this

end

section
/-
  closure.without.
-/
open Go.RowKit
set_option linter.unusedVariables false

theorem Try.zeroBs (w : World) : (zeroValue 38).run Try.prog w = .ok (.slice none 0 0) w := by kernel_rfl
/-- What a map of values says: the values of some blocks. -/
def VmP (w : World) (f : Int → Option Value) (K : List Int) (V : Int → List UInt8) (size : Nat) : Prop := ∀ b : Int, (b ∈ K → ∃ v, f b = some v ∧ Bs w v (V b) ∧ (V b).length = size) ∧ (b ∉ K → f b = none)
theorem VmP.below {w w' : World} {f : Int → Option Value} {K : List Int} {V : Int → List UInt8} {size : Nat} (h : VmP w f K V size) (hb : Below w.heap.size w w') : VmP w' f K V size := fun b => ⟨fun hk => by obtain ⟨v, h1, h2, h3⟩ := (h b).1 hk; exact ⟨v, h1, h2.below hb, h3⟩, (h b).2⟩

end

section
/-
  closure.solvable, where nothing is open; what Agrees' order means.
-/
open Go.RowKit
set_option linter.unusedVariables false

def pairQ (q : Qe) : EqP := (q.of, q.va)
def pairsQ (fit : List Qe) (ss : List (Nat × Int)) : List (EqP × Int) := ss.map fun s => (pairQ (fit.getD s.1 Qe.none), s.2)
theorem pairs_take (fit : List Qe) (ss : List (Nat × Int)) (j : Nat) : ((pairsQ fit ss).take j).map Prod.snd = (ss.take j).map Prod.snd := by
  unfold pairsQ
  rw [← List.map_take, List.map_map]
  rfl
theorem pairs_snd (fit : List Qe) (ss : List (Nat × Int)) : (pairsQ fit ss).map Prod.snd = ss.map Prod.snd := by
  unfold pairsQ
  rw [List.map_map]
  rfl
theorem deriv_at {fit : List Qe} {ss : List (Nat × Int)} (hd : Deriv (fit.map Qe.of) ss) {j e : Nat} {b : Int} (hj : ss[j]? = some (e, b)) : ∃ q, fit[e]? = some q ∧ leftZ ((ss.take j).map Prod.snd) q.of = [b] := by
  obtain ⟨l, h1, h2⟩ := hd j e b hj
  rw [List.getElem?_map] at h1
  cases hq : fit[e]? with
  | none => rw [hq] at h1; cases h1
  | some q =>
    rw [hq] at h1
    have h3 : q.of = l := Option.some.inj h1
    exact ⟨q, rfl, by rw [h3]; exact h2⟩
theorem pairs_at {fit : List Qe} {ss : List (Nat × Int)} (hd : Deriv (fit.map Qe.of) ss) {j : Nat} {p : EqP} {b : Int} (hj : (pairsQ fit ss)[j]? = some (p, b)) : ∃ e q, ss[j]? = some (e, b) ∧ fit[e]? = some q ∧ p = pairQ q ∧ leftZ ((ss.take j).map Prod.snd) q.of = [b] := by
  unfold pairsQ at hj
  rw [List.getElem?_map] at hj
  cases hs : ss[j]? with
  | none => rw [hs] at hj; cases hj
  | some s =>
    obtain ⟨e, b'⟩ := s
    rw [hs] at hj
    have h1 := Option.some.inj hj
    injection h1 with h2 h3
    have h3' : b' = b := h3
    subst h3'
    obtain ⟨q, h4, h5⟩ := deriv_at hd hs
    refine ⟨e, q, rfl, h4, ?_, h5⟩
    rw [← h2]
    simp [h4]
theorem slv_of {fit : List Qe} {ss : List (Nat × Int)} (hd : Deriv (fit.map Qe.of) ss) : ∃ V, Slv (fit.map pairQ) (pairsQ fit ss) V := by
  refine slv_ex _ _ (pairsQ fit ss) rfl (fun s hs => ?_) (fun j p b hj => ?_)
  · obtain ⟨j, hj⟩ := List.mem_iff_getElem?.1 hs
    obtain ⟨p, b⟩ := s
    obtain ⟨e, q, -, h2, h3, -⟩ := pairs_at hd hj
    rw [h3]
    exact List.mem_map.2 ⟨q, List.mem_of_getElem? h2, rfl⟩
  · obtain ⟨e, q, -, -, h3, h4⟩ := pairs_at hd hj
    rw [pairs_take, h3]
    exact h4
theorem pairs_fst (fit : List Qe) : (fit.map pairQ).map Prod.fst = fit.map Qe.of := by rw [List.map_map]; rfl
/-- All closed equations hold, just if there are such values. -/
theorem agree_all {n : Nat} {fit : List Qe} {ss : List (Nat × Int)} {V : Int → List UInt8} (hN : ∀ q ∈ fit, q.of.Nodup) (hn : ∀ q ∈ fit, q.va.length = n) (hd : Deriv (fit.map Qe.of) ss) (hD : Done (fit.map Qe.of) (ss.map Prod.snd)) (hV : Slv (fit.map pairQ) (pairsQ fit ss) V) :
    (∀ q ∈ fit, leftZ (ss.map Prod.snd) q.of = [] → zeroB (xorAll q.va (q.of.map V)) = true) ↔ AgQ n (fit.map pairQ) := by
  have hn' : ∀ p ∈ fit.map pairQ, p.2.length = n := fun p hp => by obtain ⟨q, hq, rfl⟩ := List.mem_map.1 hp; exact hn q hq
  have hK : ∀ x, Fol ((fit.map pairQ).map Prod.fst) x → x ∈ (pairsQ fit ss).map Prod.snd := fun x hx => by
    rw [pairs_fst] at hx
    rw [pairs_snd]
    refine done_fol (fun l hl => ?_) hD hx
    obtain ⟨q, hq, rfl⟩ := List.mem_map.1 hl
    exact hN q hq
  have hcl : ∀ q : Qe, leftZ (ss.map Prod.snd) q.of = [] ↔ ∀ b ∈ q.of, b ∈ ss.map Prod.snd := fun q => by
    rw [List.eq_nil_iff_forall_not_mem]
    constructor
    · intro h b hb
      by_cases hk : b ∈ ss.map Prod.snd
      · exact hk
      · exact absurd (leftZ_mem.2 ⟨hb, hk⟩) (h b)
    · intro h b hb
      obtain ⟨h1, h2⟩ := leftZ_mem.1 hb
      exact h2 (h b h1)
  rw [← slv_agree hn' hV hK]
  constructor
  · intro hA p hp hc
    obtain ⟨q, hq, rfl⟩ := List.mem_map.1 hp
    rw [pairs_snd] at hc
    exact .inr (hA q hq ((hcl q).2 hc))
  · intro hA q hq hc
    rcases hA (pairQ q) (List.mem_map.2 ⟨q, hq, rfl⟩) (by rw [pairs_snd]; exact (hcl q).1 hc) with ⟨j, b, hj⟩ | hz
    · have h1 := lead_split (hV.left j _ b hj) V q.va
      have h2 := hV.val j _ b hj
      have h3 : (pairQ q).1 = q.of := rfl
      have h4 : (pairQ q).2 = q.va := rfl
      rw [h3] at h1
      rw [h3, h4] at h2
      rw [h1, ← h2, xorL_self]
      exact zeroB_zeros _
    · exact hz

end

section
/-
  closure.Agrees.
-/
open Go.RowKit
set_option linter.unusedVariables false

theorem aheadQ_len (fit : List Qe) (ss : List (Nat × Int)) : (aheadQ fit ss).length = ss.length := by simp [aheadQ]
theorem behind_mem {fit : List Qe} {h : Nat → Int} {ss : List (Nat × Int)} (hh : ∀ (e : Nat) (l : List Int), (fit.map Qe.of)[e]? = some l → h e = ((leftZ (ss.map Prod.snd) l).length : Int)) {q : Qe} (hq : q ∈ behindQ fit h ss fit.length) : q ∈ fit ∧ leftZ (ss.map Prod.snd) q.of = [] := by
  obtain ⟨e, he, rfl⟩ := List.mem_map.1 hq
  obtain ⟨h1, h2⟩ := List.mem_filter.1 he
  have hlt := List.mem_range.1 h1
  have h3 : fit[e]? = some (fit.getD e Qe.none) := by simp [hlt]
  refine ⟨List.mem_of_getElem? h3, ?_⟩
  have h4 := hh e (fit.getD e Qe.none).of (by rw [List.getElem?_map, h3]; rfl)
  have h5 : h e = 0 := by
    simp only [Bool.and_eq_true, decide_eq_true_eq] at h2
    exact h2.1
  exact List.eq_nil_of_length_eq_zero (by omega)
theorem mem_behind {fit : List Qe} {h : Nat → Int} {ss : List (Nat × Int)} {e : Nat} {q : Qe} (hq : fit[e]? = some q) (h0 : h e = 0) (hl : leadB ss e = false) : q ∈ behindQ fit h ss fit.length := by
  have hlt := (List.getElem?_eq_some_iff.1 hq).1
  refine List.mem_map.2 ⟨e, List.mem_filter.2 ⟨List.mem_range.2 hlt, by simp [h0, hl]⟩, by simp [hq]⟩
/-- .. just if those behind hold. -/
theorem agree_rest {n : Nat} {fit : List Qe} {ss : List (Nat × Int)} {h : Nat → Int} {V : Int → List UInt8} (hN : ∀ q ∈ fit, q.of.Nodup) (hn : ∀ q ∈ fit, q.va.length = n) (hd : Deriv (fit.map Qe.of) ss) (hD : Done (fit.map Qe.of) (ss.map Prod.snd)) (hV : Slv (fit.map pairQ) (pairsQ fit ss) V)
    (hh : ∀ (e : Nat) (l : List Int), (fit.map Qe.of)[e]? = some l → h e = ((leftZ (ss.map Prod.snd) l).length : Int)) :
    (∀ q ∈ behindQ fit h ss fit.length, zeroB (xorAll q.va (q.of.map V)) = true) ↔ AgQ n (fit.map pairQ) := by
  rw [← agree_all hN hn hd hD hV]
  constructor
  · intro hA q hq hc
    obtain ⟨e, he⟩ := List.mem_iff_getElem?.1 hq
    have h0 : h e = 0 := by
      rw [hh e q.of (by rw [List.getElem?_map, he]; rfl), hc]
      rfl
    cases hl : leadB ss e with
    | false => exact hA q (mem_behind he h0 hl)
    | true =>
      unfold leadB at hl
      obtain ⟨⟨e', b⟩, h1, h2⟩ := List.mem_map.1 (of_decide_eq_true hl)
      have h2' : e' = e := h2
      subst h2'
      obtain ⟨j, hj⟩ := List.mem_iff_getElem?.1 h1
      have hp : (pairsQ fit ss)[j]? = some (pairQ q, b) := by
        unfold pairsQ
        rw [List.getElem?_map, hj]
        simp [he]
      have h3 := lead_split (hV.left j _ b hp) V q.va
      have h4 := hV.val j _ b hp
      have e1 : (pairQ q).1 = q.of := rfl
      have e2 : (pairQ q).2 = q.va := rfl
      rw [e1] at h3
      rw [e1, e2] at h4
      rw [h3, ← h4, xorL_self]
      exact zeroB_zeros _
  · intro hA q hq
    obtain ⟨h1, h2⟩ := behind_mem hh hq
    exact hA q h1 h2
theorem holds_nil (v : List UInt8) : HoldsP [] v [] ↔ zeroB v = true := by
  unfold HoldsP
  constructor
  · intro h; exact h.2
  · intro h
    exact ⟨(by intro i hi; cases hi), h⟩
def IsMpF (mb k : Nat) (f : Int → Option Value) : Value → World → Prop := fun _ W => MpO W mb k f
theorem stays_mpf (mb k : Nat) (f : Int → Option Value) : Stays (IsMpF mb k f) := fun _ _ _ hb h => MpO.below h hb
theorem mp_cells {w w' : World} {mb k : Nat} {f : Int → Option Value} (hm : MpO w mb k f) (hk : KeepsBut (fun z => z = mb) w w') : ∀ p u, w.cell? p = some u → w'.cell? p = some u := fun p u hp => by
  have hne : p.block ≠ mb := fun e => by
    obtain ⟨es, c, h1⟩ := hm.isMap
    simp [World.cell?, e, h1] at hp
  exact (World.cell?_of_block (hk.block p.block (cell_block_lt hp) hne)).trans hp

end

section
/-
  The statements' 'speaks' of layer 16.
-/
open Go.RowKit
set_option linter.unusedVariables false

theorem lsz_three {w : World} {a b c : Value} {x y z : List Int} (h1 : Zs w a x) (h2 : Zs w b y) (h3 : Zs w c z) : LsZ w [a, b, c] [x, y, z] := (((LsZ.nil w).snoc h1).snoc h2).snoc h3
theorem fit_ex : fitF 4 [[0], [0, 1], [1, 2, 3]] = [[0], [0, 1], [1, 2, 3]] := by decide
theorem fol_ex (x : Int) : Fol (fitF 4 [[0], [0, 1], [1, 2, 3]]) x ↔ x ∈ ([0, 1] : List Int) := by
  rw [fit_ex]
  have h0 : Fol [[0], [0, 1], [1, 2, 3]] 0 := Fol.step [0] 0 (by simp) (by simp) fun y hy hne => absurd (List.mem_singleton.1 hy) hne
  constructor
  · refine done_fol ?_ ?_
    · intro l hl
      simp at hl
      rcases hl with rfl | rfl | rfl <;> decide
    · intro l hl
      simp at hl
      rcases hl with rfl | rfl | rfl <;> decide
  · intro hx
    simp at hx
    rcases hx with rfl | rfl
    · exact h0
    · refine Fol.step [0, 1] 1 (by simp) (by simp) fun y hy hne => ?_
      simp at hy
      rcases hy with rfl | rfl
      · exact h0
      · exact absurd rfl hne
theorem ag_yes : AgQ 1 [([0], [1]), ([0, 1], [3]), ([1], [2])] := by
  refine ⟨fun b => if b = 0 then [1] else [2], fun b => ?_, fun p hp _ => ?_⟩
  · show (if b = 0 then [1] else [2] : List UInt8).length = 1
    split <;> rfl
  · simp at hp
    rcases hp with rfl | rfl | rfl <;> decide
theorem ag_no : ¬ AgQ 1 [([0], [1]), ([0, 1], [3]), ([1], [2]), ([1], [3])] := by
  rintro ⟨V, h1, h2⟩
  have hf : ∀ b ∈ ([1] : List Int), Fol ([([0], [1]), ([0, 1], [3]), ([1], [2]), ([1], [3])].map Prod.fst : List (List Int)) b := by
    intro b hb
    rw [List.mem_singleton.1 hb]
    exact Fol.step [1] 1 (by simp) (by simp) fun y hy hne => absurd (List.mem_singleton.1 hy) hne
  have h3 := h2 ([1], [2]) (by simp) hf
  have h4 := h2 ([1], [3]) (by simp) hf
  have hl := h1 1
  obtain ⟨v, hv⟩ : ∃ v, V 1 = [v] := List.length_eq_one_iff.1 hl
  have e3 : zeroB (xorL [2] [v]) = true := by
    have : xorAll [2] (([1] : List Int).map V) = xorL [2] [v] := by simp [xorAll, hv]
    rw [← this]; exact h3
  have e4 : zeroB (xorL [3] [v]) = true := by
    have : xorAll [3] (([1] : List Int).map V) = xorL [3] [v] := by simp [xorAll, hv]
    rw [← this]; exact h4
  have e5 := (zeroB_xorL (a := [2]) (b := [v]) rfl).1 e3
  have e6 := (zeroB_xorL (a := [3]) (b := [v]) rfl).1 e4
  rw [← e6] at e5
  exact absurd e5 (by decide)
theorem fit_q3 (a b c d e f : Value) : (fitQ 4 [⟨a, b, [0], [1]⟩, ⟨c, d, [0, 1], [3]⟩, ⟨e, f, [1], [2]⟩]).map pairQ = [([0], [1]), ([0, 1], [3]), ([1], [2])] := rfl
theorem fit_q4 (a b c d e f g h : Value) : (fitQ 4 [⟨a, b, [0], [1]⟩, ⟨c, d, [0, 1], [3]⟩, ⟨e, f, [1], [2]⟩, ⟨g, h, [1], [3]⟩]).map pairQ = [([0], [1]), ([0, 1], [3]), ([1], [2]), ([1], [3])] := rfl
theorem note_lit (w : World) (C : Array Value) (t : TypeId) (q n : Nat) (hq : q = w.heap.size) (ht : t ≠ 43) : NotE (w.alloc (.cells C t)) (.slice (some ⟨q, 0, none⟩) n n) := by
  subst hq
  intro q' h
  have e : w.heap.size = q' := Option.some.inj h
  subst e
  exact ⟨C, t, (0, 0), heap_new _ _, ht⟩
/-- 'append' behind a guard that says yes. -/
theorem wpList_addE_g (w : World) {ops : Array Oper} {rest : List Oper} {o : Oper} {a : Act} {Q : Exit → Act → World → Prop} (hw : Region.wanted o (yielded ops a.tmps) = true) (s x : Operand)
    (ho : o.op = .call { callee := .builtin .append, args := #[s, x], argTypes := #[28, 28] })
    (B : Nat) (v : Value) (n : Nat) (l : List Qe) (hs : a.eval s = v) (hown : OwnE B w v n l)
    (xv : Value) (m : Nat) (news : List Qe) (hx : a.eval x = xv) (hsrc : Sl 2 w xv m (news.flatMap Qe.cells)) (hone : ∀ u ∈ news.flatMap Qe.cells, u.oneCell' = true)
    (hlen : n + m ≤ 1000000000) (hbase : B ≤ w.heap.size)
    (h : ∀ ao cap w', OwnE B w' (.slice ao (n + m) cap) (n + m) (l ++ news) → w.grownBy w' v.ownBlock → wpList Try.prog ops Q rest (a.put o.dst (.slice ao (n + m) cap)) w') : wpList Try.prog ops Q (o :: rest) a w := by
  obtain ⟨i, hi, hz, h1, h8⟩ := infoE_parts
  refine wpList_step fun K hK => ?_
  rw [if_pos hw]
  refine wp_app w s x 28 ho B 43 i (.agg #[.slice none 0 0, .slice none 0 0]) 2 48 Try.underlying28 hi hz h1 h8 rfl (by decide) v n _ hs hown xv m _ hx hsrc hone (by unfold maxLen; omega) (by omega) hbase ?_
  intro ao cap w' h2 h3 h4 h5 h6 h7
  refine hK _ _ (h ao cap w' ?_ h3)
  unfold OwnE
  rw [List.flatMap_append]
  exact h2
theorem own_lit3 (w : World) (a b c : Qe) (B q : Nat) (hB : B ≤ w.heap.size) (hq : q = w.heap.size) : OwnE B (w.alloc (.cells #[a.ov, a.vv, b.ov, b.vv, c.ov, c.vv] 43)) (.slice (some ⟨q, 0, none⟩) 3 3) 3 [a, b, c] := by
  subst hq
  exact World.ownsRow_lit w #[a.ov, a.vv, b.ov, b.vv, c.ov, c.vv] 3 hB (by simp [maxLen]) rfl

end

end Go.Proofs.Ytkckbeekehecnaa
