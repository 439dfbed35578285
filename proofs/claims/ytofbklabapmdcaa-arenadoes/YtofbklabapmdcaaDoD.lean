/-
  A row that is written in; two values in a new row.
-/
import Derived.Test.YtofbklabapmdcaaDoC
namespace Go.Proofs.Ytofbklabapmdcaa
open Go.RowKit
set_option linter.unusedVariables false

theorem row_at {w : World} {B : Nat} {e : TypeId} {size g n cap : Nat} {xs : List Value} (h : w.ownsRow B e size (.slice (some ⟨g, 0, none⟩) n cap) n xs) {j : Nat} {u : Value} (hj : xs[j]? = some u) : w.cell? ⟨g, j, none⟩ = some u ∧ w.frozen? ⟨g, j, none⟩ = false := by
  obtain ⟨h1, h2⟩ := h
  rcases h2 with ⟨h3, -⟩ | ⟨g', cap', cur, hv, hg, hh, hnc, hcm, hcs, htake⟩
  · cases h3
  · injection hv with e1 _ _
    injection e1 with e1
    injection e1 with e1 _ _
    subst e1
    rw [← htake, List.getElem?_take] at hj
    split at hj
    · refine ⟨?_, by simp [World.frozen?, hh]⟩
      simp only [World.cell?, hh]
      simpa using hj
    · simp at hj

theorem row_set {w : World} {B : Nat} {e : TypeId} {size g n cap : Nat} {xs : List Value} (h : w.ownsRow B e size (.slice (some ⟨g, 0, none⟩) n cap) n xs) (j : Nat) (u : Value) : (w.setCell ⟨g, j, none⟩ u).ownsRow B e size (.slice (some ⟨g, 0, none⟩) n cap) n (xs.set j u) := by
  obtain ⟨h1, h2⟩ := h
  rcases h2 with ⟨h3, -⟩ | ⟨g', cap', cur, hv, hg, hh, hnc, hcm, hcs, htake⟩
  · cases h3
  · injection hv with e1 _ e3
    injection e1 with e1
    injection e1 with e1 _ _
    subst e1
    subst e3
    refine ⟨by simpa using h1, .inr ⟨g, cap, cur.setIfInBounds j u, rfl, hg, at_setCell hh u, hnc, hcm, by simpa using hcs, ?_⟩⟩
    rw [← htake, Array.toList_setIfInBounds, List.take_set]

def IsTwoS (S : Nat → Prop) (u0 u1 : Value) : Value → World → Prop := fun v W => ∃ p cap, v = .slice (some ⟨p, 0, none⟩) 2 cap ∧ 2 ≤ cap ∧ cap ≤ maxLen ∧ ¬ S p ∧ W.cell? ⟨p, 0, none⟩ = some u0 ∧ W.cell? ⟨p, 1, none⟩ = some u1
def IsNewS (S : Nat → Prop) (B size : Nat) (x : List UInt8) : Value → World → Prop := fun v W => ∃ q, v = .slice (some ⟨q, 0, none⟩) size size ∧ B ≤ q ∧ ¬ S q ∧ Blk W q [] x []
def IsAggS (S : Nat → Prop) (B size : Nat) (i : Int) (x : List UInt8) : Value → World → Prop := fun v W => ∃ q, v = .agg #[.int .i64 i, .slice (some ⟨q, 0, none⟩) size size] ∧ B ≤ q ∧ ¬ S q ∧ Blk W q [] x []

theorem cell_keeps {S : Nat → Prop} {W W' : World} (h : KeepsBut S W W') {p j : Nat} {u : Value} (hS : ¬ S p) (hc : W.cell? ⟨p, j, none⟩ = some u) : W'.cell? ⟨p, j, none⟩ = some u := by
  rw [World.cell?_of_block (a := ⟨p, j, none⟩) (h.block p (cell_block_lt hc) hS)]
  exact hc

theorem staysS_two (S : Nat → Prop) (u0 u1 : Value) : StaysS S (IsTwoS S u0 u1) := by
  rintro v W W' hk ⟨p, cap, h1, h2, h3, h4, h5, h6⟩
  exact ⟨p, cap, h1, h2, h3, h4, cell_keeps hk h4 h5, cell_keeps hk h4 h6⟩
theorem staysS_new (S : Nat → Prop) (B size : Nat) (x : List UInt8) : StaysS S (IsNewS S B size x) := by
  rintro v W W' hk ⟨q, h1, h2, h3, h4⟩
  exact ⟨q, h1, h2, h3, h4.kept (hk.block q h4.lt h3)⟩
theorem staysS_agg (S : Nat → Prop) (B size : Nat) (i : Int) (x : List UInt8) : StaysS S (IsAggS S B size i x) := by
  rintro v W W' hk ⟨q, h1, h2, h3, h4⟩
  exact ⟨q, h1, h2, h3, h4.kept (hk.block q h4.lt h3)⟩

theorem IsTwoS.sl {S : Nat → Prop} {u0 u1 v : Value} {W : World} (h : IsTwoS S u0 u1 v W) : Sl 1 W v 2 [u0, u1] := by
  obtain ⟨p, cap, rfl, h2, h3, h4, h5, h6⟩ := h
  refine ⟨rfl, _, cap, rfl, h2, h3, fun h => by simp at h, .inr ⟨p, 0, rfl, fun j u hj => ?_⟩⟩
  rw [Nat.zero_add]
  rcases j with _ | _ | j
  · simp at hj; subst hj; exact h5
  · simp at hj; subst hj; exact h6
  · simp at hj

/-- A full row of one, and one more: a new row of two. -/
theorem step_app2 (W : World) {ops : Array Oper} {o : Oper} {a : Act} {K : Act → World → Prop} {Q : Exit → Act → World → Prop} {E : Prop} (hgd : o.guard = none) (s x : Operand)
    (ho : o.op = .call { callee := .builtin .append, args := #[s, x], argTypes := #[42, 42] }) (p r : Nat) (u0 u1 : Value) (hs : a.eval s = .slice (some ⟨p, 0, none⟩) 1 1) (hx : a.eval x = .slice (some ⟨r, 0, none⟩) 1 1) (hp : W.cell? ⟨p, 0, none⟩ = some u0) (hr : W.cell? ⟨r, 0, none⟩ = some u1)
    (h : ∀ cap W', 2 ≤ cap → cap ≤ maxLen → W'.cell? ⟨W.heap.size, 0, none⟩ = some u0 → W'.cell? ⟨W.heap.size, 1, none⟩ = some u1 → Below W.heap.size W W' → K (a.put o.dst (.slice (some ⟨W.heap.size, 0, none⟩) 2 cap)) W') :
    if Region.wanted o (yielded ops a.tmps) = true then Oper.wp Try.prog o a W K Q else E := by
  have hw : Region.wanted o (yielded ops a.tmps) = true := by simp [Region.wanted, hgd]
  rw [if_pos hw]
  obtain ⟨j0, gi, gz0, gz1, gz2⟩ := info_parts (show (Try.prog.info? 28).map (fun i => (i.zero, i.size, i.bytes)) = some (some (.slice none 0 0), 1, 24) by kernel_rfl)
  have hr2 := run_append_grow (P := Try.prog) W 42 o.type 28 j0 _ Try.underlying42 gi gz0 ⟨p, 0, none⟩ 1 1 [u0] (by simp [gz1]) (fun j v hj => by rcases j with _ | j; (simp at hj; subst hj; exact hp); (simp at hj)) ⟨r, 0, none⟩ 1 1 [u1] (by simp [gz1]) (fun j v hj => by rcases j with _ | j; (simp at hj; subst hj; exact hr); (simp at hj)) (by omega) (by omega) (by rw [gz2]; decide)
  have hge := grownCap_ge W 2 1 28
  have hcm : grownCap W 2 1 28 ≤ maxLen := grownCap_le_maxLen W 2 1 28 (by unfold maxLen; omega)
  unfold Oper.wp execOp
  simp only [ho, resolve, invoke, builtin, Sem.run_bind, Sem.run_pure, Result.andThen_ok, List.map_toArray, List.map_cons, List.map_nil, hs, hx, hr2]
  refine h _ _ hge hcm ?_ ?_ ((below0 W).trans ((below_alloc _ _).mono (by simp)))
  · rw [show W.heap.size = W.drew.heap.size from rfl, World.cell?_alloc_new, Array.getElem?_append_left (by simp)]
    rfl
  · rw [show W.heap.size = W.drew.heap.size from rfl, World.cell?_alloc_new, Array.getElem?_append_left (by simp)]
    rfl

theorem rbs_set (size : Nat) (l : List RB) : ∀ j z, (l.set j z).flatMap (rbCells size) = ((l.flatMap (rbCells size)).set (j * 2) (.int .i64 (z.n : Int))).set (j * 2 + 1) (.slice (some ⟨z.q, 0, none⟩) size size) := by
  induction l with
  | nil => intro j z; simp
  | cons x l ih =>
    intro j z
    cases j with
    | zero => simp [rbCells]
    | succ j =>
      have e := ih j z
      simp only [List.set_cons_succ, List.flatMap_cons, e]
      simp only [rbCells, List.cons_append, List.nil_append, show (j + 1) * 2 = j * 2 + 1 + 1 by omega, List.set_cons_succ]

end Go.Proofs.Ytofbklabapmdcaa
