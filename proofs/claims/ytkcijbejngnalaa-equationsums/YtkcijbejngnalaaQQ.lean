/-
  Slices of equations of one's own; 'append' onto them.
-/
import Derived.Test.YtkcijbejngnalaaQP
import Derived.ArgAppend
import Derived.Deep.Upon
namespace Go.Proofs.Ytkcijbejngnalaa
open Go.RowKit
set_option linter.unusedVariables false

theorem Try.infoE : (Try.prog.info? 41).map (fun i => (i.zero, i.size, i.bytes)) = some (some (.agg #[.slice none 0 0, .slice none 0 0]), 2, 48) := by kernel_rfl
theorem infoE_parts : ∃ i, Try.prog.info? 41 = some i ∧ i.zero = some (.agg #[.slice none 0 0, .slice none 0 0]) ∧ i.size = 2 ∧ i.bytes = 48 := by
  obtain ⟨i, a, b, c, d⟩ := info_parts Try.infoE
  exact ⟨i, a, b, c, d⟩

/-- A row of equations of one's own. -/
def OwnE (B : Nat) (w : World) (v : Value) (n : Nat) (l : List Qe) : Prop := w.ownsRow B 41 2 v n (l.flatMap Qe.cells)
theorem OwnE.len {B : Nat} {w : World} {v : Value} {n : Nat} {l : List Qe} (h : OwnE B w v n l) : l.length = n := by
  have := h.1
  rw [length_qs] at this
  omega
theorem OwnE.lt {B : Nat} {w : World} {v : Value} {n : Nat} {l : List Qe} (h : OwnE B w v n l) : ∀ q, v.ownBlock = some q → B ≤ q ∧ q < w.heap.size := fun q hq => World.ownsRow.lt h q hq
theorem OwnE.kept {B : Nat} {w w' : World} {v : Value} {n : Nat} {l : List Qe} (h : OwnE B w v n l) (hk : ∀ q, v.ownBlock = some q → w'.heap[q]? = w.heap[q]?) : OwnE B w' v n l := owns_kept h hk
theorem OwnE.below {B : Nat} {w w' : World} {v : Value} {n : Nat} {l : List Qe} (h : OwnE B w v n l) (hb : Below w.heap.size w w') : OwnE B w' v n l := h.kept (fun q hq => hb.block q (h.lt q hq).2)
theorem OwnE.mono {B B' : Nat} {w : World} {v : Value} {n : Nat} {l : List Qe} (h : OwnE B w v n l) (hB : B' ≤ B) : OwnE B' w v n l := by
  refine ⟨h.1, ?_⟩
  rcases h.2 with h' | ⟨g, cap, cur, hv, hg, hh, hx⟩
  · exact .inl h'
  · exact .inr ⟨g, cap, cur, hv, Nat.le_trans hB hg, hh, hx⟩
theorem OwnE.nil (B : Nat) (w : World) : OwnE B w (.slice none 0 0) 0 [] := ⟨rfl, .inl ⟨rfl, rfl⟩⟩
theorem OwnE.new {B : Nat} (w : World) (h : B ≤ w.heap.size) (e : Qe) : OwnE B (w.alloc (.cells #[e.ov, e.vv] 41)) (.slice (some ⟨w.heap.size, 0, none⟩) 1 1) 1 [e] := World.ownsRow_lit w #[e.ov, e.vv] 1 h (by simp [maxLen]) rfl
theorem OwnE.qs {B : Nat} {w : World} {v : Value} {n : Nat} {l : List Qe} (h : OwnE B w v n l) (hq : ∀ e ∈ l, QeP w e) : Qs w v l := by
  refine ⟨?_, hq⟩
  rw [h.len]
  exact owned_slN h

theorem e_oneCell {w : World} {l : List Qe} (h : ∀ e ∈ l, QeP w e) : ∀ u ∈ l.flatMap Qe.cells, u.oneCell' = true := by
  intro u hu
  obtain ⟨e, he, hu⟩ := List.mem_flatMap.1 hu
  obtain ⟨a, c, h1, -, -⟩ := zs_shape (h e he).1
  obtain ⟨a', c', h2, -, -⟩ := bs_shape (h e he).2
  have : u = e.ov ∨ u = e.vv := by simpa [Qe.cells] using hu
  rcases this with rfl | rfl
  · rw [h1]; rfl
  · rw [h2]; rfl
theorem one_src {w : World} {e : Qe} : Sl 2 (w.alloc (.cells #[e.ov, e.vv] 41)) (.slice (some ⟨w.heap.size, 0, none⟩) 1 1) 1 ([e].flatMap Qe.cells) := owned_slN (World.ownsRow_lit (base := 0) w #[e.ov, e.vv] 1 (Nat.zero_le _) (by simp [maxLen]) rfl)

/-- Equations behind a row of one's own. -/
theorem wpList_addE (w : World) {ops : Array Oper} {rest : List Oper} {o : Oper} {a : Act} {Q : Exit → Act → World → Prop} (hgd : o.guard = none) (s x : Operand)
    (ho : o.op = .call { callee := .builtin .append, args := #[s, x], argTypes := #[37, 37] })
    (B : Nat) (v : Value) (n : Nat) (l : List Qe) (hs : a.eval s = v) (hown : OwnE B w v n l)
    (xv : Value) (m : Nat) (news : List Qe) (hx : a.eval x = xv) (hsrc : Sl 2 w xv m (news.flatMap Qe.cells)) (hone : ∀ u ∈ news.flatMap Qe.cells, u.oneCell' = true)
    (hlen : n + m ≤ 1000000000) (hbase : B ≤ w.heap.size)
    (h : ∀ ao cap w', OwnE B w' (.slice ao (n + m) cap) (n + m) (l ++ news) → w.grownBy w' v.ownBlock → wpList Try.prog ops Q rest (a.put o.dst (.slice ao (n + m) cap)) w') : wpList Try.prog ops Q (o :: rest) a w := by
  obtain ⟨i, hi, hz, h1, h8⟩ := infoE_parts
  refine wpList_app w hgd s x 37 ho B 41 i (.agg #[.slice none 0 0, .slice none 0 0]) 2 48 Try.underlying37 hi hz h1 h8 rfl (by decide) v n _ hs hown xv m _ hx hsrc hone (by unfold maxLen; omega) (by omega) hbase ?_
  intro ao cap w' h2 h3 h4 h5 h6 h7
  refine h ao cap w' ?_ h3
  unfold OwnE
  rw [List.flatMap_append]
  exact h2
theorem step_addE (w : World) {ops : Array Oper} {o : Oper} {a : Act} {K : Act → World → Prop} {Q : Exit → Act → World → Prop} {E : Prop} (hgd : o.guard = none) (s x : Operand)
    (ho : o.op = .call { callee := .builtin .append, args := #[s, x], argTypes := #[37, 37] })
    (B : Nat) (v : Value) (n : Nat) (l : List Qe) (hs : a.eval s = v) (hown : OwnE B w v n l)
    (xv : Value) (m : Nat) (news : List Qe) (hx : a.eval x = xv) (hsrc : Sl 2 w xv m (news.flatMap Qe.cells)) (hone : ∀ u ∈ news.flatMap Qe.cells, u.oneCell' = true)
    (hlen : n + m ≤ 1000000000) (hbase : B ≤ w.heap.size)
    (h : ∀ ao cap w', OwnE B w' (.slice ao (n + m) cap) (n + m) (l ++ news) → w.grownBy w' v.ownBlock → K (a.put o.dst (.slice ao (n + m) cap)) w') :
    if Region.wanted o (yielded ops a.tmps) = true then Oper.wp Try.prog o a w K Q else E := by
  obtain ⟨i, hi, hz, h1, h8⟩ := infoE_parts
  refine step_app w hgd s x 37 ho B 41 i (.agg #[.slice none 0 0, .slice none 0 0]) 2 48 Try.underlying37 hi hz h1 h8 rfl (by decide) v n _ hs hown xv m _ hx hsrc hone (by unfold maxLen; omega) (by omega) hbase ?_
  intro ao cap w' h2 h3 h4 h5 h6 h7
  refine h ao cap w' ?_ h3
  unfold OwnE
  rw [List.flatMap_append]
  exact h2

set_option maxRecDepth 100000 in
/-- 'append' onto a row of one's own that is full: nothing that was there turns. -/
theorem run_fullE (w : World) (ty : TypeId) (B : Nat) (v : Value) (l : List Qe) (n : Nat) (hown : OwnE B w v n l) (hfull : ∃ g, v = .slice (some ⟨g, 0, none⟩) n n) (xv : Value) (news : List Qe) (hsrc : Qs w xv news) (hlen : n + news.length ≤ 1000000000) (hbase : B ≤ w.heap.size) :
    ∃ ao cap w', (Builtin.append_ #[37, 37] ty #[v, xv]).run Try.prog w = .ok (.slice ao (n + news.length) cap) w' ∧ OwnE B w' (.slice ao (n + news.length) cap) (n + news.length) (l ++ news) ∧ Below w.heap.size w w' := by
  obtain ⟨g, rfl⟩ := hfull
  obtain ⟨i, hi, hz, h1, h8⟩ := infoE_parts
  obtain ⟨-, ao, c, rfl, hmc, hcm, hnone, hc⟩ := hsrc.1
  have hle := hsrc.2
  by_cases h0 : news.length = 0
  · have hn : news = [] := List.eq_nil_of_length_eq_zero h0
    subst hn
    refine ⟨some ⟨g, 0, none⟩, n, w, ?_, by simpa using hown, Below.refl _ _⟩
    refine run_append_nothing w 37 37 ty 41 i Try.underlying37 hi (some ⟨g, 0, none⟩) n n (Nat.le_refl _) _ ?_
    rw [h1]
    cases ao with
    | none =>
      have hc0 := hnone rfl
      subst hc0
      exact Src.ofNil w Try.underlying37 0
    | some ad => exact Src.ofSlice w Try.underlying37 ad 0 c [] rfl (by simp) (by simp)
  · obtain ⟨b, off, rfl, hcs⟩ := hc.resolve_left h0
    have hnl : (news.flatMap Qe.cells).length = news.length * 2 := length_qs _
    have hlo := hown.1
    obtain ⟨-, a2, c2, e2, -, -, -, hold⟩ := owned_slN hown
    injection e2 with e2 _ _
    subst e2
    have holds : ∀ j u, (l.flatMap Qe.cells)[j]? = some u → w.cell? ((⟨g, 0, none⟩ : Addr).add j) = some u := by
      intro j u hj
      rcases hold with h | ⟨b', off', e, hc'⟩
      · have h3 := (List.getElem?_eq_some_iff.1 hj).1
        rw [hlo, h] at h3
        simp at h3
      · injection e with e
        injection e with e1 e2 _
        subst e1
        subst e2
        rw [Addr.add_lit]
        exact hc' j u hj
    obtain ⟨v', w', hr, ho, hg⟩ := run_append_arg_grows (P := Try.prog) w 37 ty 41 i _ 2 48 Try.underlying37 hi hz h1 h8 rfl (by decide) ⟨g, 0, none⟩ n n _ hlo holds ⟨b, off, none⟩ news.length c _ hnl (fun j u hj => by rw [Addr.add_lit]; exact hcs j u hj) (by omega) (by unfold maxLen; omega) (by omega)
    obtain ⟨a3, c3, rfl, -, -, -⟩ := owned_slice ho
    refine ⟨a3, c3, w', hr, ?_, below_fresh hg⟩
    refine OwnE.mono ?_ hbase
    unfold OwnE
    rw [List.flatMap_append]
    exact ho
theorem step_fullE (w : World) {ops : Array Oper} {o : Oper} {a : Act} {K : Act → World → Prop} {Q : Exit → Act → World → Prop} {E : Prop} (hgd : o.guard = none) (s x : Operand)
    (ho : o.op = .call { callee := .builtin .append, args := #[s, x], argTypes := #[37, 37] })
    (B : Nat) (v : Value) (n : Nat) (l : List Qe) (hs : a.eval s = v) (hown : OwnE B w v n l) (hfull : ∃ g, v = .slice (some ⟨g, 0, none⟩) n n)
    (xv : Value) (news : List Qe) (hx : a.eval x = xv) (hsrc : Qs w xv news)
    (hlen : n + news.length ≤ 1000000000) (hbase : B ≤ w.heap.size)
    (h : ∀ ao cap w', OwnE B w' (.slice ao (n + news.length) cap) (n + news.length) (l ++ news) → Below w.heap.size w w' → K (a.put o.dst (.slice ao (n + news.length) cap)) w') :
    if Region.wanted o (yielded ops a.tmps) = true then Oper.wp Try.prog o a w K Q else E := by
  have hw : Region.wanted o (yielded ops a.tmps) = true := by simp [Region.wanted, hgd]
  rw [if_pos hw]
  obtain ⟨ao, cap, w', hr, h2, h3⟩ := run_fullE w o.type B v l n hown hfull xv news hsrc hlen hbase
  unfold Oper.wp execOp
  simp only [ho, resolve, invoke, builtin, Sem.run_bind, Sem.run_pure, Result.andThen_ok, List.map_toArray, List.map_cons, List.map_nil, hs, hx, hr]
  exact h ao cap w' h2 h3

end Go.Proofs.Ytkcijbejngnalaa
