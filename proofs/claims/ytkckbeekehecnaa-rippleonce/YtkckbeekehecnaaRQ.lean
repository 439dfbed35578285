/-
  ripple: a queue of numbers, in memory.
-/
import Derived.Test.YtkckbeekehecnaaZKA
import Derived.Carry
namespace Go.Proofs.Ytkckbeekehecnaa
open Go.RowKit Go.Maps
set_option linter.unusedVariables false
set_option maxRecDepth 100000

/-- Numbers of one's own from some place of their block on: a row from whose beginning some were taken. -/
def TailZ (B : Nat) (W : World) (v : Value) (n : Nat) (l : List Int) : Prop :=
  l.length = n ∧ ((v = .slice none 0 0 ∧ n = 0) ∨
   ∃ g off cap cur, v = .slice (some ⟨g, off, none⟩) n cap ∧ B ≤ g ∧ W.heap[g]? = some (.cells cur 3 (0, 0)) ∧ n ≤ cap ∧ off + cap ≤ cur.size ∧ cap ≤ maxLen ∧ (cur.toList.drop off).take n = l.map (Value.int .i64))

theorem TailZ.nil (B : Nat) (W : World) : TailZ B W (.slice none 0 0) 0 [] := ⟨rfl, .inl ⟨rfl, rfl⟩⟩
theorem TailZ.len {B n : Nat} {W : World} {v : Value} {l : List Int} (h : TailZ B W v n l) : l.length = n := h.1
theorem TailZ.ofOwn {B n : Nat} {W : World} {v : Value} {l : List Int} (h : OwnZ B W v n l) : TailZ B W v n l := by
  refine ⟨h.len, ?_⟩
  rcases h.2 with h0 | ⟨g, cap, cur, hv, hg, hh, hnc, hcm, hcs, ht⟩
  · exact .inl h0
  · exact .inr ⟨g, 0, cap, cur, hv, hg, hh, hnc, by omega, hcm, by simpa using ht⟩
theorem TailZ.lt {B n : Nat} {W : World} {v : Value} {l : List Int} (h : TailZ B W v n l) : ∀ q, v.ownBlock = some q → B ≤ q ∧ q < W.heap.size := by
  intro q hq
  rcases h.2 with ⟨rfl, _⟩ | ⟨g, off, cap, cur, rfl, hb, hg, _⟩
  · simp [Value.ownBlock] at hq
  · simp [Value.ownBlock] at hq
    subst hq
    exact ⟨hb, (Array.getElem?_eq_some_iff.1 hg).1⟩
theorem TailZ.kind {B n : Nat} {W : World} {v : Value} {l : List Int} (h : TailZ B W v n l) {q : Nat} (hq : v.ownBlock = some q) : ∃ cs, W.heap[q]? = some (.cells cs 3 (0, 0)) := by
  rcases h.2 with ⟨rfl, _⟩ | ⟨g, off, cap, cur, rfl, hb, hg, _⟩
  · simp [Value.ownBlock] at hq
  · simp [Value.ownBlock] at hq
    subst hq
    exact ⟨_, hg⟩
theorem TailZ.kept {B n : Nat} {W W' : World} {v : Value} {l : List Int} (h : TailZ B W v n l) (hk : ∀ q, v.ownBlock = some q → W'.heap[q]? = W.heap[q]?) : TailZ B W' v n l := by
  refine ⟨h.1, ?_⟩
  rcases h.2 with h0 | ⟨g, off, cap, cur, rfl, hb, hg, h4⟩
  · exact .inl h0
  · exact .inr ⟨g, off, cap, cur, rfl, hb, (hk g rfl).trans hg, h4⟩
theorem TailZ.cell {B n : Nat} {W : World} {v : Value} {l : List Int} (h : TailZ B W v n l) {j : Nat} {z : Int} (hz : l[j]? = some z) : ∃ g off cap, v = .slice (some ⟨g, off, none⟩) n cap ∧ W.cell? ⟨g, off + j, none⟩ = some (.int .i64 z) := by
  rcases h.2 with ⟨_, h0⟩ | ⟨g, off, cap, cur, rfl, hb, hg, h4, h5, h6, h7⟩
  · have := (List.getElem?_eq_some_iff.1 hz).1
    have := h.1
    omega
  · refine ⟨g, off, cap, rfl, ?_⟩
    have hj : j < n := by have := (List.getElem?_eq_some_iff.1 hz).1; have := h.1; omega
    have e1 : (l.map (Value.int .i64))[j]? = some (.int .i64 z) := by simp [hz]
    rw [← h7, List.getElem?_take_of_lt hj, List.getElem?_drop] at e1
    simp only [World.cell?, hg]
    simpa using e1
/-- The first one is taken. -/
theorem TailZ.tail {B n : Nat} {W : World} {g off cap : Nat} {x : Int} {l : List Int} (h : TailZ B W (.slice (some ⟨g, off, none⟩) (n + 1) cap) (n + 1) (x :: l)) : TailZ B W (.slice (some ⟨g, off + 1, none⟩) n (cap - 1)) n l ∧ (cap = 1 → TailZ B W (.slice (some ⟨g, off, none⟩) n 0) n l) := by
  obtain ⟨h1, ⟨h0, -⟩ | ⟨g', off', cap', cur, hv, hb, hg, h4, h5, h6, h7⟩⟩ := h
  · cases h0
  · injection hv with e1 e2 e3
    injection e1 with e1
    injection e1 with e1 e4 _
    subst e1
    subst e4
    subst e3
    refine ⟨?_, fun hc1 => ⟨by simpa using h1, .inr ⟨g, off, 0, cur, rfl, hb, hg, by omega, by omega, by unfold maxLen; omega, ?_⟩⟩⟩
    case refine_2 =>
      obtain rfl : n = 0 := by omega
      have : l = [] := List.eq_nil_of_length_eq_zero (by simpa using h1)
      subst this
      rfl
    refine ⟨by simpa using h1, .inr ⟨g, off + 1, cap - 1, cur, rfl, hb, hg, by omega, by omega, by unfold maxLen at *; omega, ?_⟩⟩
    have hlt : off < cur.toList.length := by rw [Array.length_toList]; omega
    rw [List.drop_eq_getElem_cons hlt, List.take_succ_cons, List.map_cons] at h7
    injection h7 with _ h7

/-- Onto such a row. -/
theorem run_append_tail (w : World) (B : Nat) (v : Value) (n : Nat) (l : List Int) (hown : TailZ B w v n l) (xv : Value) (m : Nat) (news : List Int) (hsrc : Sl 1 w xv m (news.map (Value.int .i64))) (hm : 0 < m)
    (hlen : n + m ≤ 1000000000) (hbase : B ≤ w.heap.size) (ty : TypeId) :
    ∃ v' w', (Builtin.append_ #[31, 31] ty #[v, xv]).run Try.prog w = .ok v' w' ∧ TailZ B w' v' (n + m) (l ++ news) ∧ w.grownBy w' v.ownBlock ∧ (v'.ownBlock = v.ownBlock ∨ v'.ownBlock = some w.heap.size) := by
  obtain ⟨i, hi, hz, hs1, h8⟩ := infoZ_parts
  rcases hown.2 with ⟨rfl, rfl⟩ | ⟨g, off, cap, cur, rfl, hbg, hg, hnc, hocs, hcpm, htake⟩
  · have hl0 : l = [] := List.eq_nil_of_length_eq_zero hown.1
    subst hl0
    obtain ⟨ao, cap, w', hr, h2, h3, h4, -⟩ := run_app (P := Try.prog) w B 31 ty 3 i (.int .i64 0) 1 8 Try.underlying31 hi hz hs1 h8 rfl (by decide) (.slice none 0 0) 0 [] (World.ownsRow_nil w B 3 1) xv m (news.map (Value.int .i64)) hsrc (z_oneCell _) (by unfold maxLen; omega) (by omega) hbase
    exact ⟨_, w', hr, TailZ.ofOwn (by simpa [OwnZ] using h2), h3, h4⟩
  · obtain ⟨hnl, ao, cap0, rfl, hmc, hcm, hsz, hcell⟩ := hsrc
    rcases hcell with h0 | ⟨b, o, rfl, hcell⟩
    · omega
    have hnews : ∀ j u, (news.map (Value.int .i64))[j]? = some u → w.cell? ((⟨b, o, none⟩ : Addr).add j) = some u := by
      intro j u hu
      rw [Addr.add_lit]
      exact hcell j u hu
    have hnl' : (news.map (Value.int .i64)).length = m * i.size := by rw [hs1]; exact hnl
    have hnl1 : news.length = m := by simpa using hnl
    have hll : l.length = n := hown.1
    by_cases hroom : n + m ≤ cap
    · have hf := run_firstCells_some (P := Try.prog) w i.size m ⟨b, o, none⟩ m cap0 (news.map (Value.int .i64)) hnl' hnews
      have hst := run_storeCells_at Try.prog g (off + n) 3 (news.map (Value.int .i64)) 0 cur w hg (by rw [hnl]; omega) (z_oneCell _)
      simp only [Nat.add_zero] at hst
      refine ⟨.slice (some ⟨g, off, none⟩) (n + m) cap, w.setRow g (cur.toList.take (off + n) ++ news.map (Value.int .i64) ++ cur.toList.drop (off + n + (news.map (Value.int .i64)).length)).toArray, ?_, ⟨by simp [hll, hnl1], .inr ⟨g, off, cap, _, rfl, hbg, setRow_heap w g cur _ 3 _ hg, hroom, ?_, hcpm, ?_⟩⟩, ⟨rfl, rfl, rfl, by simp, fun k _ hk => setRow_other w g k _ (fun e => hk (by simp [Value.ownBlock, e]))⟩, .inl rfl⟩
      · have e1 : n * i.size = n := by rw [hs1]; omega
        simp [Builtin.append_, run_underlying Try.underlying31, sizeOf, typeInfo, hi, Builtin.lenOf, hroom, hf, Addr.add_lit, e1, hst]
      · simp only [List.size_toArray, List.length_append, List.length_take, List.length_drop, Array.length_toList, hnl]
        omega
      · have hd : (cur.toList.take (off + n)).length = off + n := by rw [List.length_take, Array.length_toList]; omega
        rw [List.append_assoc, List.drop_append_of_le_length (by rw [hd]; omega), List.drop_take, show off + n - off = n from by omega, htake, ← List.append_assoc, ← List.map_append, List.take_left']
        simp [hll, hnl1]
    · have holds : ∀ j u, (l.map (Value.int .i64))[j]? = some u → w.cell? ((⟨g, off, none⟩ : Addr).add j) = some u := by
        intro j u hu
        obtain ⟨z, hz1, rfl⟩ : ∃ z, l[j]? = some z ∧ u = .int .i64 z := by
          rw [List.getElem?_map] at hu
          cases hz : l[j]? with
          | none => rw [hz] at hu; cases hu
          | some z => rw [hz] at hu; exact ⟨z, rfl, (Option.some.inj hu).symm⟩
        obtain ⟨g', off', cap', hv, hc⟩ := hown.cell hz1
        injection hv with e1 _ _
        injection e1 with e1
        injection e1 with e1 e2 _
        subst e1
        subst e2
        rw [Addr.add_lit]
        exact hc
      have hr := run_append_grow (P := Try.prog) w 31 ty 3 i (.int .i64 0) Try.underlying31 hi hz ⟨g, off, none⟩ n cap (l.map (Value.int .i64)) (by rw [hs1, List.length_map, hll]; omega) holds ⟨b, o, none⟩ m cap0 (news.map (Value.int .i64)) hnl' hnews (by omega) (by omega) (by rw [h8]; exact growslice_fits (by omega) (by omega))
      have hge := grownCap_ge w (n + m) cap 3
      have hcm2 : grownCap w (n + m) cap 3 ≤ maxLen := grownCap_le_maxLen w (n + m) cap 3 (by unfold maxLen; omega)
      refine ⟨_, _, hr, ⟨by simp [hll, hnl1], .inr ⟨w.heap.size, 0, _, _, rfl, hbase, heap_alloc_new w.drew _, hge, ?_, hcm2, ?_⟩⟩, ⟨rfl, rfl, rfl, by simp, fun k hk _ => heap_alloc_old w.drew _ hk⟩, .inr rfl⟩
      · simp only [Array.size_append, List.size_toArray, size_zeroCells, List.length_map, hll, hnl1, Value.cells]
        simp
        omega
      · rw [List.drop_zero, Array.toList_append, Array.toList_append, ← List.map_append]
        have : (l ++ news).length = n + m := by simp [hll, hnl1]
        rw [List.take_left']
        simp [hll, hnl1]

theorem wpList_addQu (w : World) {ops : Array Oper} {rest : List Oper} {o : Oper} {a : Act} {Q : Exit → Act → World → Prop} (hgd : o.guard = none) (s x : Operand)
    (ho : o.op = .call { callee := .builtin .append, args := #[s, x], argTypes := #[31, 31] })
    (B : Nat) (v : Value) (n : Nat) (l : List Int) (hs : a.eval s = v) (hown : TailZ B w v n l)
    (xv : Value) (m : Nat) (news : List Int) (hx : a.eval x = xv) (hsrc : Sl 1 w xv m (news.map (Value.int .i64))) (hm : 0 < m)
    (hlen : n + m ≤ 1000000000) (hbase : B ≤ w.heap.size)
    (h : ∀ ao cap w', TailZ B w' (.slice ao (n + m) cap) (n + m) (l ++ news) → w.grownBy w' v.ownBlock → ((Value.slice ao (n + m) cap).ownBlock = v.ownBlock ∨ (Value.slice ao (n + m) cap).ownBlock = some w.heap.size) → wpList Try.prog ops Q rest (a.put o.dst (.slice ao (n + m) cap)) w') : wpList Try.prog ops Q (o :: rest) a w := by
  refine wpList_plain hgd fun K hK => ?_
  obtain ⟨v', w', hr, h2, h3, h4⟩ := run_append_tail w B v n l hown xv m news hsrc hm hlen hbase o.type
  unfold Oper.wp execOp
  simp only [ho, resolve, invoke, builtin, Sem.run_bind, Sem.run_pure, Result.andThen_ok, List.map_toArray, List.map_cons, List.map_nil, hs, hx, hr]
  obtain ⟨ao, cap, rfl⟩ : ∃ ao cap, v' = .slice ao (n + m) cap := by
    rcases h2.2 with ⟨h5, h6⟩ | ⟨g, off, cap, cur, h5, _⟩
    · exact ⟨none, 0, by rw [h5, h6]⟩
    · exact ⟨_, _, h5⟩
  exact hK _ _ (h ao cap w' h2 h3 h4)

end Go.Proofs.Ytkckbeekehecnaa
