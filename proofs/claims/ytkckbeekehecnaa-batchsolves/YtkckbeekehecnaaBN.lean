/-
  BatchOrder: what it needs.
-/
import Derived.Test.YtkckbeekehecnaaBL
import Derived.Maps.Own
import Derived.Maps.OwnOps
import Derived.Maps.OwnSet
import Derived.Maps.Views
import Derived.Carry
import Derived.OpenShut
namespace Go.Proofs.Ytkckbeekehecnaa
open Go.RowKit Go.Maps
set_option linter.unusedVariables false
set_option maxRecDepth 100000

theorem KeyV : Keyed Try.prog 3 := int_keyed Try.underlying3
theorem noughtV (w : World) : (zeroValue 3).run Try.prog w = .ok (.int .i64 0) w := by kernel_rfl
/-- A number among some, once. -/
def addV (L : List Int) (x : Int) : List Int := if x ∈ L then L else L ++ [x]
theorem mem_addV (L : List Int) (x y : Int) : y ∈ addV L x ↔ y ∈ L ∨ y = x := by
  unfold addV
  split
  · rename_i h
    exact ⟨fun k => .inl k, fun k => by rcases k with k | rfl <;> assumption⟩
  · simp

/-- The map: which blocks were seen. -/
structure SeenV (w : World) (mb n : Nat) (D : DataW Unit) (L : List Int) : Prop where
  own : w.ownsMap Try.prog 3 (plainElem Try.prog 3) mb n D
  tidy : Tidy D
  key : ∀ x : Int, Maps.has D (.int .i64 x) = decide (x ∈ L)
  size : Maps.size D = L.length
  nodup : L.Nodup

theorem seenV_start (w : World) : SeenV (w.alloc (.map #[] 0)) w.heap.size 0 (.map []) [] := ⟨World.ownsMap_made _ _ _ _, tidy_empty, fun x => by simp [Maps.has], rfl, List.nodup_nil⟩

theorem SeenV.kept {w w' : World} {mb n : Nat} {D : DataW Unit} {L : List Int} (h : SeenV w mb n D L) (hk : w'.heap[mb]? = w.heap[mb]?) : SeenV w' mb n D L := by
  obtain ⟨es, clock, h1, h2⟩ := h.own
  exact ⟨⟨es, clock, hk.trans h1, h2⟩, h.tidy, h.key, h.size, h.nodup⟩
theorem SeenV.below {w w' : World} {mb n : Nat} {D : DataW Unit} {L : List Int} (h : SeenV w mb n D L) (hb : Below w.heap.size w w') : SeenV w' mb n D L := h.kept (hb.block mb h.own.lt)

theorem SeenV.put {w w' : World} {mb n : Nat} {D : DataW Unit} {L : List Int} (h : SeenV w mb n D L) {x : Int} {d : DataW Unit} (h' : w'.ownsMap Try.prog 3 (plainElem Try.prog 3) mb (n + 1) (D.put (.int .i64 x) d)) :
    SeenV w' mb (n + 1) (D.put (.int .i64 x) d) (addV L x) := by
  have hk : WideAt.IsKeyLit (.int .i64 x) := by simp [WideAt.IsKeyLit]
  refine ⟨h', h.tidy.put hk d, fun y => ?_, ?_, ?_⟩
  · by_cases e : y = x
    · subst e
      rw [has_put_same h.tidy.isMap hk]
      symm
      rw [decide_eq_true_iff, mem_addV]
      exact .inr rfl
    · rw [has_put_other (fun q => e (by injection q)), h.key y]
      congr 1
      rw [mem_addV]
      exact propext ⟨fun k => .inl k, fun k => k.resolve_right e⟩
  · rw [size_put h.tidy, h.key x, h.size]
    unfold addV
    by_cases hm : x ∈ L
    · rw [if_pos hm, decide_eq_true hm]; rfl
    · rw [if_neg hm, decide_eq_false hm]; simp
  · unfold addV
    split
    · exact h.nodup
    · rename_i hm
      rw [List.nodup_append]
      exact ⟨h.nodup, by simp, fun a ha b hb e => by simp at hb; subst hb; subst e; exact hm ha⟩

/-- Where the t-th of the turned equations stands. -/
def fI (b m t : Nat) : Nat := (t * (2 * b + 1) + b) % m
def turnL (es : List Qe) (b i : Nat) : List Qe := (List.range i).filterMap fun t => es[fI b es.length t]?
theorem turnL_next {es : List Qe} {b i : Nat} {e : Qe} (h : es[fI b es.length i]? = some e) : turnL es b (i + 1) = turnL es b i ++ [e] := by
  unfold turnL
  rw [List.range_succ, List.filterMap_append, List.filterMap_cons, h]
  rfl
theorem filterMap_get (es : List Qe) : ∀ k ≤ es.length, (List.range k).filterMap (fun t => es[t]?) = es.take k
  | 0, _ => rfl
  | k + 1, h => by
    have h1 : k < es.length := h
    rw [List.range_succ, List.filterMap_append, filterMap_get es k (by omega), List.take_succ_eq_append_getElem h1, List.filterMap_cons, List.getElem?_eq_getElem h1]
    rfl
theorem turnL_perm {es : List Qe} {b : Nat} {L : List Int} (hn : L.Nodup) (hl : L.length = es.length) (hL : L.length = es.length → L = (List.range es.length).map fun t => ((fI b es.length t : Nat) : Int)) : (turnL es b es.length).Perm es := by
  have e1 := hL hl
  rw [e1] at hn
  have hP : ((List.range es.length).map (fI b es.length)).Nodup := by
    have h1 := List.pairwise_map.1 hn
    exact List.pairwise_map.2 (h1.imp fun h e => h (by rw [e]))
  have hlt : ∀ x ∈ (List.range es.length).map (fI b es.length), x < es.length := fun x hx => by
    obtain ⟨t, ht, rfl⟩ := List.mem_map.1 hx
    exact Nat.mod_lt _ (by have := List.mem_range.1 ht; omega)
  have hp : ((List.range es.length).map (fI b es.length)).Perm (List.range es.length) := by
    rw [List.perm_ext_iff_of_nodup hP List.nodup_range]
    intro x
    refine ⟨fun h => List.mem_range.2 (hlt x h), fun h => Classical.byContradiction fun hx => ?_⟩
    have h1 : (x :: (List.range es.length).map (fI b es.length)).Nodup := List.nodup_cons.2 ⟨hx, hP⟩
    have h2 := h1.length_le_of_subset (l₂ := List.range es.length) (fun y hy => by
      rcases List.mem_cons.1 hy with rfl | hy
      · exact h
      · exact List.mem_range.2 (hlt y hy))
    rw [List.length_cons, List.length_map, List.length_range] at h2
    omega
  have h3 : (turnL es b es.length) = ((List.range es.length).map (fI b es.length)).filterMap (fun t => es[t]?) := by
    unfold turnL
    rw [List.filterMap_map]
    rfl
  rw [h3]
  have h4 := hp.filterMap (fun t => es[t]?)
  rw [filterMap_get es es.length (Nat.le_refl _), List.take_length] at h4
  exact h4
theorem seen_next {b m i : Nat} {L : List Int} (h1 : L.length ≤ i) (h2 : L.length = i → L = (List.range i).map fun t => ((fI b m t : Nat) : Int)) :
    (addV L ((fI b m i : Nat) : Int)).length ≤ i + 1 ∧ ((addV L ((fI b m i : Nat) : Int)).length = i + 1 → addV L ((fI b m i : Nat) : Int) = (List.range (i + 1)).map fun t => ((fI b m t : Nat) : Int)) := by
  unfold addV
  split
  · exact ⟨by omega, fun h => by omega⟩
  · rw [List.length_append, List.length_singleton]
    refine ⟨by omega, fun h => ?_⟩
    rw [List.range_succ, List.map_append, ← h2 (by omega)]
    rfl

/-- In which order they are is of no matter. -/
theorem order_math {n size : Nat} {es L : List Qe} {K K' : List Int} {V V' : Int → List UInt8} (hp : L.Perm es) (h : Found n size es K V) (h' : Found n size L K' V') :
    kRise K' n = kRise K n ∧ ((∃ e ∈ useQ n size L, FailP n K' V' e) ↔ ∃ e ∈ useQ n size es, FailP n K V e) ∧ (∀ x, x ∈ K' ↔ x ∈ K) ∧ ((¬ ∃ e ∈ useQ n size es, FailP n K V e) → ∀ x ∈ K, V' x = V x) := by
  have hU : (useQ n size L).Perm (useQ n size es) := hp.filter _
  have hF : ∀ x, Fol ((useQ n size L).map Qe.of) x ↔ Fol ((useQ n size es).map Qe.of) x := fun x => ⟨Fol.mono fun l hl => (hU.map _).mem_iff.1 hl, Fol.mono fun l hl => (hU.map _).mem_iff.2 hl⟩
  have hK : ∀ x, x ∈ K' ↔ x ∈ K := fun x => by rw [h'.mem, h.mem, hF]
  have hA : ∀ V0 : Int → List UInt8, (∀ p ∈ (useQ n size es).map pairQ, (∀ b ∈ p.1, Fol ((useQ n size es).map Qe.of) b) → zeroB (xorAll p.2 (p.1.map V0)) = true) ↔ (∀ p ∈ (useQ n size L).map pairQ, (∀ b ∈ p.1, Fol ((useQ n size L).map Qe.of) b) → zeroB (xorAll p.2 (p.1.map V0)) = true) := fun V0 =>
    ⟨fun h p hp hc => h p ((hU.map _).mem_iff.1 hp) fun b hb => (hF b).1 (hc b hb), fun h p hp hc => h p ((hU.map _).mem_iff.2 hp) fun b hb => (hF b).2 (hc b hb)⟩
  have hG : AgQ size ((useQ n size L).map pairQ) ↔ AgQ size ((useQ n size es).map pairQ) := by
    constructor
    · intro hg
      obtain ⟨V0, hl0, hA0⟩ := hg.spec
      exact ⟨V0, hl0, by rw [pairs_fst]; exact (hA V0).2 hA0⟩
    · intro hg
      obtain ⟨V0, hl0, hA0⟩ := hg.spec
      exact ⟨V0, hl0, by rw [pairs_fst]; exact (hA V0).1 hA0⟩
  refine ⟨kRise_ext h'.rg h.rg hK, by rw [h'.fail, h.fail, hG], hK, fun hnc x hx => ?_⟩
  rw [h.fail] at hnc
  have hag : AgQ size ((useQ n size es).map pairQ) := Classical.byContradiction fun hn => hnc hn
  obtain ⟨V0, hl0, hA0⟩ := hag.spec
  rw [h'.unique hl0 ((hA V0).1 hA0) x ((hK x).2 hx), h.unique hl0 hA0 x hx]

theorem row_setS {w : World} {B g n cap j sz : Nat} {e : TypeId} {cs : List Value} (h : w.ownsRow B e sz (.slice (some ⟨g, 0, none⟩) n cap) n cs) (u : Value) : (w.setCell ⟨g, j, none⟩ u).ownsRow B e sz (.slice (some ⟨g, 0, none⟩) n cap) n (cs.set j u) := by
  obtain ⟨h1, h2⟩ := h
  refine ⟨by simpa using h1, ?_⟩
  rcases h2 with ⟨h2, -⟩ | ⟨g', cap', cur, hv, hg, hh, hnc, hcm, hcs, htake⟩
  · cases h2
  · injection hv with e1 e2 e3
    injection e1 with e1
    injection e1 with e1 e4 e5
    subst e1
    subst e3
    refine .inr ⟨g, cap, cur.setIfInBounds j u, rfl, hg, ?_, hnc, hcm, by simpa using hcs, ?_⟩
    · unfold World.setCell
      simp [Array.getElem?_modify, hh]
    · rw [Array.toList_setIfInBounds, List.take_set, htake]
theorem flat_set : ∀ {l : List Qe} {i : Nat} {e : Qe}, i < l.length → ((l.flatMap Qe.cells).set (i * 2) e.ov).set (i * 2 + 1) e.vv = (l.set i e).flatMap Qe.cells
  | [], i, e, h => by simp at h
  | a :: l, 0, e, _ => by simp [Qe.cells]
  | a :: l, i + 1, e, h => by
    have h1 := flat_set (l := l) (i := i) (e := e) (by simpa using h)
    rw [List.set_cons_succ, List.flatMap_cons, List.flatMap_cons, ← h1]
    rw [show (i + 1) * 2 = i * 2 + 1 + 1 from by omega]
    simp [Qe.cells]
theorem OwnE.set {B : Nat} {w : World} {g n cap i : Nat} {l : List Qe} (h : OwnE B w (.slice (some ⟨g, 0, none⟩) n cap) n l) (hi : i < n) (e : Qe) : OwnE B ((w.setCell ⟨g, i * 2, none⟩ e.ov).setCell ⟨g, i * 2 + 1, none⟩ e.vv) (.slice (some ⟨g, 0, none⟩) n cap) n (l.set i e) := by
  have h1 := row_setS (j := i * 2 + 1) (row_setS (j := i * 2) h e.ov) e.vv
  rw [flat_set (by rw [h.len]; exact hi)] at h1
  exact h1
theorem OwnE.fro {B : Nat} {w : World} {g n cap : Nat} {l : List Qe} (h : OwnE B w (.slice (some ⟨g, 0, none⟩) n cap) n l) (j : Nat) : w.frozen? ⟨g, j, none⟩ = false := by
  rcases h.2 with ⟨h2, -⟩ | ⟨g', cap', cur, hv, hg, hh, -⟩
  · cases h2
  · injection hv with e1 e2 e3
    injection e1 with e1
    injection e1 with e1 e4 e5
    subst e1
    simp [World.frozen?, hh]
theorem own_cellsE {B : Nat} {W : World} {g m c k : Nat} {T : List Qe} {e : Qe} (h : OwnE B W (.slice (some ⟨g, 0, none⟩) m c) m T) (he : T[k]? = some e) : W.cell? ⟨g, k * 2, none⟩ = some e.ov ∧ W.cell? ⟨g, k * 2 + 1, none⟩ = some e.vv := by
  have h1 : Sl 2 W (.slice (some ⟨g, 0, none⟩) m c) m (T.flatMap Qe.cells) := owned_slN h
  have hk := (List.getElem?_eq_some_iff.1 he).1
  have hl := h.len
  obtain ⟨-, a, c', hv, -, -, -, h5⟩ := h1
  injection hv with e1 e2 e3
  subst e1
  rcases h5 with h0 | ⟨b, off, hb, hc⟩
  · omega
  · injection hb with hb
    injection hb with e4 e5
    subst e4; subst e5
    have d0 := hc (k * 2 + 0) e.ov (by rw [qs_get T k e he 0 (by omega)]; rfl)
    have d1 := hc (k * 2 + 1) e.vv (by rw [qs_get T k e he 1 (by omega)]; rfl)
    rw [Nat.zero_add] at d0 d1
    rw [Nat.add_zero] at d0
    exact ⟨d0, d1⟩
def IsRowX (B g m c : Nat) (T : List Qe) : Value → World → Prop := fun _ W => OwnE B W (.slice (some ⟨g, 0, none⟩) m c) m T
theorem stays_rowX (B g m c : Nat) (T : List Qe) : Stays (IsRowX B g m c T) := fun _ _ _ hb h => OwnE.below h hb
theorem swap_perm {l : List Qe} {i k : Nat} {a b : Qe} (hi : l[i]? = some a) (hk : l[k]? = some b) : ((l.set i b).set k a).Perm l := by
  obtain ⟨h1, rfl⟩ := List.getElem?_eq_some_iff.1 hi
  obtain ⟨h2, rfl⟩ := List.getElem?_eq_some_iff.1 hk
  exact List.set_set_perm h1 h2

end Go.Proofs.Ytkckbeekehecnaa
