/-
  outer: New.
-/
import Derived.Test.YthlladpappldbaaOutM
namespace Go.Proofs.Ythlladpappldbaa
open Go.RowKit
set_option linter.unusedVariables false

theorem Try.infoRow : (Try.prog.info? 28).map (fun i => (i.zero, i.size, i.bytes)) = some (some (.slice none 0 0), 1, 24) := by kernel_rfl

theorem alloc_at (W : World) (o : Obj) : (W.alloc o).heap[W.heap.size]? = some o := by
  show (W.heap.push o)[W.heap.size]? = some o
  simp

/-- A row of nil slices. -/
def nils (A : Nat) : List Value := List.replicate A (.slice none 0 0)
def IsNl (B A : Nat) : Value → World → Prop := fun v W => ∃ ro, v = .slice (some ⟨ro, 0, none⟩) A A ∧ B ≤ ro ∧ W.heap[ro]? = some (.cells (nils A).toArray 28 (0, 0))
theorem heap_stays {W W' : World} {k : Nat} {o : Obj} (hb : Below W.heap.size W W') (h : W.heap[k]? = some o) : W'.heap[k]? = some o := (hb.block k (Array.getElem?_eq_some_iff.1 h).1).trans h
theorem stays_nl (B A : Nat) : Stays (IsNl B A) := fun _ _ _ hb ⟨ro, h1, h2, h3⟩ => ⟨ro, h1, h2, heap_stays hb h3⟩
def IsGa (B S N Q A : Nat) : Value → World → Prop := fun v W => ∃ ro, v = .agg #[.int .u64 (S : Int), .int .i64 (N : Int), .int .i64 (Q : Int), .slice (some ⟨ro, 0, none⟩) A A] ∧ B ≤ ro ∧ W.heap[ro]? = some (.cells (nils A).toArray 28 (0, 0))
theorem stays_ga (B S N Q A : Nat) : Stays (IsGa B S N Q A) := fun _ _ _ hb ⟨ro, h1, h2, h3⟩ => ⟨ro, h1, h2, heap_stays hb h3⟩
def IsGp (B S N Q A : Nat) : Value → World → Prop := fun v W => ∃ g ro, v = .pointer (some ⟨g, 0, none⟩) ∧ B ≤ g ∧ B ≤ ro ∧ W.heap[g]? = some (.cells #[.int .u64 (S : Int), .int .i64 (N : Int), .int .i64 (Q : Int), .slice (some ⟨ro, 0, none⟩) A A] 74 (0, 0)) ∧ W.heap[ro]? = some (.cells (nils A).toArray 28 (0, 0))
theorem stays_gp (B S N Q A : Nat) : Stays (IsGp B S N Q A) := fun _ _ _ hb ⟨g, ro, h1, h2, h3, h4, h5⟩ => ⟨g, ro, h1, h2, h3, heap_stays hb h4, heap_stays hb h5⟩

theorem made_nils {w2 : World} {base q n : Nat} (ho : w2.ownsRow base 28 1 (.slice (some ⟨q, 0, none⟩) n n) n (madeCells (Value.slice none 0 0).cells (n * 1)).toList) : w2.heap[q]? = some (.cells (nils n).toArray 28 (0, 0)) := by
  simp only [Value.cells, Nat.mul_one, toList_madeCells_one] at ho
  rcases ho.2 with ⟨hv, _⟩ | ⟨g, cap, cur, hv, _, hh, _, _, hcs, htake⟩
  · cases hv
  · injection hv with e1 _ e3
    injection e1 with e1
    injection e1 with e1 _ _
    subst e1; subst e3
    rw [hh]
    have hl : cur.toList.length = n := by rw [Array.length_toList, hcs, Nat.mul_one]
    have : cur.toList = nils n := by
      rw [← List.take_of_length_le (l := cur.toList) (i := n * 1) (by omega), htake]
      rfl
    rw [← this]

/-- The graph while it is built, and a list of one's own beside it. -/
structure GL (w W : World) (g ro S N Q A : Nat) (cs vs : List Value) (rows : List (List Int)) (lv : Value) (ln : Nat) (l : List Int) : Prop where
  b : GrB w W g ro S N Q A cs vs rows
  o : OwnZ w.heap.size W lv ln l
  ap : ∀ (i : Nat) (v : Value) (q : Nat), vs[i]? = some v → v.ownBlock = some q → lv.ownBlock ≠ some q

section
variable {w W W' : World} {g ro S N Q A : Nat} {cs vs : List Value} {rows : List (List Int)} {lv : Value} {ln : Nat} {l : List Int}

theorem GL.below (h : GL w W g ro S N Q A cs vs rows lv ln l) (b : Below W.heap.size W W') : GL w W' g ro S N Q A cs vs rows lv ln l := ⟨h.b.below b, h.o.below b, h.ap⟩

theorem GL.grow (h : GL w W g ro S N Q A cs vs rows lv ln l) {j : Nat} {v v' : Value} {r r' : List Int} (hv : vs[j]? = some v) (hl : rows[j]? = some r) (hg : W.grownBy W' v.ownBlock) (ho : OwnZ w.heap.size W' v' r'.length r') (hat : v'.ownBlock = v.ownBlock ∨ v'.ownBlock = some W.heap.size) :
    GL w W' g ro S N Q A cs (vs.set j v') (rows.set j r') lv ln l := by
  refine ⟨h.b.grow hv hl hg ho hat, h.o.kept (fun q hq => hg.block q (h.o.lt q hq).2 (fun e => h.ap j v q hv e.symm hq)), ?_⟩
  intro i u q hu hq
  have hj : j < vs.length := (List.getElem?_eq_some_iff.1 hv).1
  by_cases e : j = i
  · subst e
    rw [List.getElem?_set_self hj] at hu
    obtain rfl := Option.some.inj hu
    rcases hat with h1 | h1
    · exact h.ap j v q hv (by rw [← h1]; exact hq)
    · intro e2
      have := (h.o.lt q e2).2
      rw [hq] at h1
      injection h1 with h1
      omega
  · rw [List.getElem?_set_ne e] at hu
    exact h.ap i u q hu hq

theorem GL.store (h : GL w W g ro S N Q A cs vs rows lv ln l) (j : Nat) (u : Value) : GL w (W.setCell ⟨ro, j, none⟩ u) g ro S N Q A (cs.set j u) vs rows lv ln l := by
  refine ⟨h.b.store j u, h.o.kept (fun q hq => Below.heap_setCell _ _ _ _ (fun e => ?_)), h.ap⟩
  obtain ⟨cur, hh⟩ := own_cells h.o hq
  have e' : q = ro := e
  rw [e', h.b.hc] at hh
  injection hh with hh
  injection hh with _ hh _
  exact absurd hh (by decide)
end

theorem grb_start {w W : World} {g ro S N Q A : Nat} (hw : Below w.heap.size w W) (h1 : w.heap.size ≤ g) (h2 : w.heap.size ≤ ro) (h3 : W.heap[g]? = some (.cells #[.int .u64 (S : Int), .int .i64 (N : Int), .int .i64 (Q : Int), .slice (some ⟨ro, 0, none⟩) A A] 74 (0, 0))) (h4 : W.heap[ro]? = some (.cells (nils A).toArray 28 (0, 0))) :
    GrB w W g ro S N Q A (nils A) (nils A) (hasR S A Q 0) := by
  refine ⟨h3, h4, by simp [nils], by simp [nils], by simp [hasR], ?_, ?_, hw, h1, h2⟩
  · intro i v l hv hl
    unfold nils at hv
    rw [List.getElem?_replicate] at hv
    unfold hasR at hl
    rw [List.getElem?_replicate] at hl
    by_cases hi : i < A
    · rw [if_pos hi] at hv hl
      obtain rfl := Option.some.inj hv
      obtain rfl := Option.some.inj hl
      exact OwnZ.nil _ _
    · rw [if_neg hi] at hv
      cases hv
  · intro i j v u q _ hv _ hq
    unfold nils at hv
    rw [List.getElem?_replicate] at hv
    split at hv
    · obtain rfl := Option.some.inj hv
      cases hq
    · cases hv

def JG (g ro S N Q A : Nat) (W : World) : Prop := W.heap[g]? = some (.cells #[.int .u64 (S : Int), .int .i64 (N : Int), .int .i64 (Q : Int), .slice (some ⟨ro, 0, none⟩) A A] 74 (0, 0))
theorem JG.c3 {g ro S N Q A : Nat} {W : World} (h : JG g ro S N Q A W) : W.cell? ⟨g, 3, none⟩ = some (.slice (some ⟨ro, 0, none⟩) A A) := by
  unfold JG at h
  simp [World.cell?, h]

def IsRw (w : World) (g ro S N Q A : Nat) (cs vs : List Value) (rows : List (List Int)) (lv : Value) (ln : Nat) (l : List Int) (x rn : Nat) (r : List Int) : Value → World → Prop :=
  fun v W => ∃ a c, v = .slice a rn c ∧ GL w W g ro S N Q A cs (vs.set x v) (rows.set x r) lv ln l
theorem stays_rw (w : World) (g ro S N Q A : Nat) (cs vs : List Value) (rows : List (List Int)) (lv : Value) (ln : Nat) (l : List Int) (x rn : Nat) (r : List Int) : Stays (IsRw w g ro S N Q A cs vs rows lv ln l x rn r) :=
  fun _ _ _ hb ⟨a, c, h1, h2⟩ => ⟨a, c, h1, h2.below hb⟩
def IsDn (w : World) (g ro S N Q A : Nat) (rows : List (List Int)) (lv : Value) (ln : Nat) (l : List Int) : Value → World → Prop := fun _ W => ∃ vs, GL w W g ro S N Q A vs vs rows lv ln l
theorem stays_dn (w : World) (g ro S N Q A : Nat) (rows : List (List Int)) (lv : Value) (ln : Nat) (l : List Int) : Stays (IsDn w g ro S N Q A rows lv ln l) := fun _ _ _ hb ⟨vs, h⟩ => ⟨vs, h.below hb⟩

set_option maxRecDepth 100000 in
set_option maxHeartbeats 1000000 in
theorem onew_no (N B Q E F : Int) (S : Int) (w : World) (h : ¬ May N B Q E F) :
    Calls Try.prog 22 #[.agg #[.int .i64 N, .int .i64 B, .int .i64 Q, .int .i64 E, .int .i64 F], .int .u64 S] w fun e w' => e = .returned (.tuple #[.pointer none, .int .i64 1]) ∧ Below w.heap.size w w' := by
  have CC : Hid (∀ W, Calls Try.prog 41 #[.agg #[.int .i64 N, .int .i64 B, .int .i64 Q, .int .i64 E, .int .i64 F]] W fun e w' => e = .returned (.int .i64 1) ∧ Below W.heap.size W w') := by
    intro W
    have := pcheck_any N B Q E F W
    rw [mayE_no h] at this
    exact this
  clear h
  go_enter Try.func22, Try.ntmps22
  go_wp2_with fail
  refine (CC.out _).mono ?_
  rintro e w1 ⟨rfl, hb⟩
  have HB : Hid (Below w.heap.size w w1) := below_on (below_alloc _ _) hb
  clear hb CC
  go_wp2
  go_ret2
  exact ⟨rfl, HB.out⟩

set_option maxRecDepth 100000 in
set_option maxHeartbeats 4000000 in
/-- NEW. -/
theorem onew_own (B E F : Int) (N Q A S : Nat) (w : World) (h : PrOk N B Q E F N Q A) (hS : S < 18446744073709551616) :
    Calls Try.prog 22 #[.agg #[.int .i64 N, .int .i64 B, .int .i64 Q, .int .i64 E, .int .i64 F], .int .u64 S] w fun e w' => ∃ g ro vs, e = .returned (.tuple #[.pointer (some ⟨g, 0, none⟩), .int .i64 0]) ∧ GrB w w' g ro S N Q A vs vs (hasR S A Q N) := by
  obtain ⟨i0, hi0, hz0, hz1, hz2⟩ := info_parts Try.infoRow
  have OK : Hid (GrOk S N Q A) := h.ok hS
  have hA := OK.out.a
  have hN := OK.out.n
  have hQ := OK.out.q
  have CC : Hid (∀ W, Calls Try.prog 41 #[.agg #[.int .i64 N, .int .i64 B, .int .i64 Q, .int .i64 E, .int .i64 F]] W fun e w' => e = .returned (.int .i64 0) ∧ Below W.heap.size W w') := by
    intro W
    have := pcheck_any N B Q E F W
    rw [mayE_yes h.may] at this
    exact this
  have CA : Hid (∀ W, Calls Try.prog 42 #[.agg #[.int .i64 N, .int .i64 B, .int .i64 Q, .int .i64 E, .int .i64 F]] W fun e w' => e = .returned (.int .i64 (A : Int)) ∧ Below W.heap.size W w') := by
    intro W
    have := aux_any N B Q E F W h.may.1 h.may.2.2.1 h.may.2.2.2.1
    rw [h.ea] at this
    exact this
  clear h hS
  go_enter Try.func22, Try.ntmps22
  go_upto_region 4 with fail
  refine (CC.out _).mono ?_
  rintro e w1 ⟨rfl, hb1⟩
  have B1 : Hid (Below w.heap.size w w1) := below_on (below_alloc _ _) hb1
  have P1 : Hid (Five w1 w.heap.size N B Q E F) := (five_new w _ _ _ _ _ _).below hb1
  have BX : Hid (∀ W, Below w1.heap.size w1 W → Five W w.heap.size N B Q E F) := fun W hW => P1.out.below hW
  have CX : Hid (∀ W, Below w1.heap.size w1 W → Calls Try.prog 42 #[.agg #[.int .i64 N, .int .i64 B, .int .i64 Q, .int .i64 E, .int .i64 F]] W fun e w' => ∃ v, e = .returned v ∧ IsV (.int .i64 (A : Int)) v w' ∧ Below W.heap.size W w') := by
    intro W _
    refine (CA.out W).mono ?_
    rintro e w' ⟨rfl, hb⟩
    exact ⟨_, rfl, rfl, hb⟩
  clear hb1 CC CA
  go_upto_region 4 with fail
  refine wp_region_any (by kernel_rfl) ?_
  obtain ⟨gs, hgs⟩ : ∃ gs : List (Value → World → Prop), gs = [IsV (Value.int IntKind.u64 ↑S), IsV (.pointer (some ⟨w.heap.size, 0, none⟩)), IsV (.int .i64 (N : Int)), IsV (.pointer (some ⟨w.heap.size, 2, none⟩)), IsV (.int .i64 (Q : Int)), IsV (.agg #[.int .i64 (N : Int), .int .i64 B, .int .i64 (Q : Int), .int .i64 E, .int .i64 F]), IsV (.int .i64 (A : Int)), IsAnyV, IsAnyV, IsAnyV, IsAnyV] := ⟨_, rfl⟩
  have g0 : Hid (gs[0]? = some (IsV (Value.int IntKind.u64 ↑S))) := by unfold Hid; rw [hgs]; rfl
  have g1 : Hid (gs[1]? = some (IsV (.pointer (some ⟨w.heap.size, 0, none⟩)))) := by unfold Hid; rw [hgs]; rfl
  have g2 : Hid (gs[2]? = some (IsV (.int .i64 (N : Int)))) := by unfold Hid; rw [hgs]; rfl
  have g3 : Hid (gs[3]? = some (IsV (.pointer (some ⟨w.heap.size, 2, none⟩)))) := by unfold Hid; rw [hgs]; rfl
  have g4 : Hid (gs[4]? = some (IsV (.int .i64 (Q : Int)))) := by unfold Hid; rw [hgs]; rfl
  have g5 : Hid (gs[5]? = some (IsV (.agg #[.int .i64 (N : Int), .int .i64 B, .int .i64 (Q : Int), .int .i64 E, .int .i64 F]))) := by unfold Hid; rw [hgs]; rfl
  have g6 : Hid (gs[6]? = some (IsV (.int .i64 (A : Int)))) := by unfold Hid; rw [hgs]; rfl
  have g7 : Hid (gs[7]? = some (IsAnyV)) := by unfold Hid; rw [hgs]; rfl
  have g8 : Hid (gs[8]? = some (IsAnyV)) := by unfold Hid; rw [hgs]; rfl
  have g9 : Hid (gs[9]? = some (IsAnyV)) := by unfold Hid; rw [hgs]; rfl
  have g10 : Hid (gs[10]? = some (IsAnyV)) := by unfold Hid; rw [hgs]; rfl
  have gk : Hid (∀ p ∈ gs, ∀ v (U U' : World), p v U → p v U') := by
    unfold Hid
    rw [hgs]
    simp only [List.forall_mem_cons]
    exact ⟨(fun _ _ _ h => h), (fun _ _ _ h => h), (fun _ _ _ h => h), (fun _ _ _ h => h), (fun _ _ _ h => h), (fun _ _ _ h => h), (fun _ _ _ h => h), (fun _ _ _ h => h), (fun _ _ _ h => h), (fun _ _ _ h => h), (fun _ _ _ h => h), by simp⟩
  clear hgs
  have JS : Hid (∀ W W', Below W.heap.size W W' → (fun W => Below w1.heap.size w1 W) W → (fun W => Below w1.heap.size w1 W) W') := fun W W' hb h => h.trans (hb.mono h.size)
  have st7 : Hid (Stays (IsNl w1.heap.size A)) := stays_nl _ _
  have st8 : Hid (Stays (IsGa w1.heap.size S N Q A)) := stays_ga _ _ _ _ _
  have st9 : Hid (Stays (IsGp w1.heap.size S N Q A)) := stays_gp _ _ _ _ _
  have st10 : Hid (Stays (IsGp w1.heap.size S N Q A)) := stays_gp _ _ _ _ _
  refine wpAny_inv4 (fun listed ac W => ∃ xv : Nat → Value, ac = ⟨#[Value.agg #[Value.int IntKind.i64 ↑N, Value.int IntKind.i64 B, Value.int IntKind.i64 ↑Q, Value.int IntKind.i64 E, Value.int IntKind.i64 F], Value.int IntKind.u64 ↑S, Value.pointer (some { block := w.heap.size, off := 0 }), undef, Value.pointer none, Value.int IntKind.i64 (0 : Int), Value.int IntKind.i64 (0 : Int), xv 10, undef, undef, undef, Value.agg #[Value.int IntKind.i64 ↑N, Value.int IntKind.i64 B, Value.int IntKind.i64 ↑Q, Value.int IntKind.i64 E, Value.int IntKind.i64 F], Value.int IntKind.i64 (0 : Int), Value.int IntKind.i64 (0 : Int), Value.bool false, undef, xv 0, xv 1, xv 2, xv 3, xv 4, xv 5, xv 6, xv 7, xv 8, xv 9, undef, undef, undef, undef, undef, undef, undef, undef, undef, undef, undef, undef, undef, undef, undef, undef, undef, undef, undef, undef, undef, undef, undef, undef, undef, undef, undef, undef, undef, undef, undef, undef], []⟩ ∧ (fun W => Below w1.heap.size w1 W) W ∧ Lst gs listed xv W ∧ Fe listed xv W 7 (IsNl w1.heap.size A) ∧ Fe listed xv W 8 (IsGa w1.heap.size S N Q A) ∧ Fe listed xv W 9 (IsGp w1.heap.size S N Q A) ∧ Fe listed xv W 10 (IsGp w1.heap.size S N Q A)) (by kernel_rfl) ?_ ?_ _ _ _ _ (by kernel_rfl) (of_decide_eq_true (by kernel_rfl)) (Down.start _) ⟨fun jx => undef, rfl, below0 _, Lst.start _ _ _ _, Fe.start _ _ _ _ _, Fe.start _ _ _ _ _, Fe.start _ _ _ _ _, Fe.start _ _ _ _ _⟩
  · rintro listed ac W ⟨xv, rfl, hb, hG, hF7, hF8, hF9, hF10⟩ hD i hi hnl hd
    have hin : i < 11 := hi
    clear hi
    have hcase : i = 0 ∨ i = 1 ∨ i = 2 ∨ i = 3 ∨ i = 4 ∨ i = 5 ∨ i = 6 ∨ i = 7 ∨ i = 8 ∨ i = 9 ∨ i = 10 := by omega
    rcases hcase with rfl | rfl | rfl | rfl | rfl | rfl | rfl | rfl | rfl | rfl | rfl
    · refine wpOp_step rfl (fun K' hK => ?_)
      clear hd hin hD
      go_simp
      exact hK _ _ ⟨updV xv 0 (Value.int IntKind.u64 ↑S), by simp [updV], hb, hG.any gk.out g0.out _ rfl, hF7.step (fun _ h => h) (by decide) _, hF8.step (fun _ h => h) (by decide) _, hF9.step (fun _ h => h) (by decide) _, hF10.step (fun _ h => h) (by decide) _⟩
    · refine wpOp_step rfl (fun K' hK => ?_)
      clear hd hin hD
      go_simp
      exact hK _ _ ⟨updV xv 1 (.pointer (some ⟨w.heap.size, 0, none⟩)), by simp [updV], hb, hG.any gk.out g1.out _ rfl, hF7.step (fun _ h => h) (by decide) _, hF8.step (fun _ h => h) (by decide) _, hF9.step (fun _ h => h) (by decide) _, hF10.step (fun _ h => h) (by decide) _⟩
    · refine wpOp_step rfl (fun K' hK => ?_)
      simp [Region.binds] at hd
      have e1 : xv 1 = .pointer (some ⟨w.heap.size, 0, none⟩) := hG.get g1.out (by simp [hd])
      obtain ⟨c0, c1, c2, c3, c4⟩ := BX.out W hb
      clear hd hin hD
      go_simp
      exact hK _ _ ⟨updV xv 2 (.int .i64 (N : Int)), by simp [updV, e1], hb, hG.any gk.out g2.out _ rfl, hF7.step (fun _ h => h) (by decide) _, hF8.step (fun _ h => h) (by decide) _, hF9.step (fun _ h => h) (by decide) _, hF10.step (fun _ h => h) (by decide) _⟩
    · refine wpOp_step rfl (fun K' hK => ?_)
      clear hd hin hD
      go_simp
      exact hK _ _ ⟨updV xv 3 (.pointer (some ⟨w.heap.size, 2, none⟩)), by simp [updV], hb, hG.any gk.out g3.out _ rfl, hF7.step (fun _ h => h) (by decide) _, hF8.step (fun _ h => h) (by decide) _, hF9.step (fun _ h => h) (by decide) _, hF10.step (fun _ h => h) (by decide) _⟩
    · refine wpOp_step rfl (fun K' hK => ?_)
      simp [Region.binds] at hd
      have e3 : xv 3 = .pointer (some ⟨w.heap.size, 2, none⟩) := hG.get g3.out (by simp [hd])
      obtain ⟨c0, c1, c2, c3, c4⟩ := BX.out W hb
      clear hd hin hD
      go_simp
      exact hK _ _ ⟨updV xv 4 (.int .i64 (Q : Int)), by simp [updV, e3], hb, hG.any gk.out g4.out _ rfl, hF7.step (fun _ h => h) (by decide) _, hF8.step (fun _ h => h) (by decide) _, hF9.step (fun _ h => h) (by decide) _, hF10.step (fun _ h => h) (by decide) _⟩
    · refine wpOp_step rfl (fun K' hK => ?_)
      obtain ⟨c0, c1, c2, c3, c4⟩ := BX.out W hb
      clear hd hin hD
      go_simp
      exact hK _ _ ⟨updV xv 5 (.agg #[.int .i64 (N : Int), .int .i64 B, .int .i64 (Q : Int), .int .i64 E, .int .i64 F]), by simp [updV], hb, hG.any gk.out g5.out _ rfl, hF7.step (fun _ h => h) (by decide) _, hF8.step (fun _ h => h) (by decide) _, hF9.step (fun _ h => h) (by decide) _, hF10.step (fun _ h => h) (by decide) _⟩
    · refine wpOp_step rfl (fun K' hK => ?_)
      simp [Region.binds] at hd
      have e5 : xv 5 = .agg #[.int .i64 (N : Int), .int .i64 B, .int .i64 (Q : Int), .int .i64 E, .int .i64 F] := hG.get g5.out (by simp [hd])
      clear hd hin hD
      go_simp
      refine (CX.out W hb).mono ?_
      rintro e w' ⟨v, rfl, hv, hb'⟩
      go_wp2_with fail
      exact ⟨updV xv 6 v, by simp [updV, e5], JS.out _ _ hb' hb, hG.any gk.out g6.out v hv, hF7.on st7.out hb' (by decide) _, hF8.on st8.out hb' (by decide) _, hF9.on st9.out hb' (by decide) _, hF10.on st10.out hb' (by decide) _⟩
    · refine wpOp_step rfl (fun K' hK => ?_)
      simp [Region.binds] at hd
      have e6 : xv 6 = .int .i64 (A : Int) := hG.get g6.out (by simp [hd])
      clear hd hin hD
      refine step_make W rfl (.tmp 22) (.tmp 22) 54 rfl w1.heap.size 28 i0 (.slice none 0 0) 1 Try.underlying54 hi0 hz0 hz1 _ _ A e6 e6 (by rw [hz2]; omega) (by unfold maxLen; omega) hb.size ?_
      intro w' ho hg
      exact hK _ _ ⟨updV xv 7 (.slice (some ⟨W.heap.size, 0, none⟩) A A), by simp [updV, Act.put], JS.out _ _ (below_fresh hg) hb, hG.any gk.out g7.out _ trivial, Fe.new (⟨_, rfl, hb.size, made_nils ho⟩), hF8.on st8.out (below_fresh hg) (by decide) _, hF9.on st9.out (below_fresh hg) (by decide) _, hF10.on st10.out (below_fresh hg) (by decide) _⟩
    · refine wpOp_step rfl (fun K' hK => ?_)
      simp [Region.binds] at hd
      have e0 : xv 0 = Value.int IntKind.u64 ↑S := hG.get g0.out (by simp [hd])
      have e2 : xv 2 = .int .i64 (N : Int) := hG.get g2.out (by simp [hd])
      have e4 : xv 4 = .int .i64 (Q : Int) := hG.get g4.out (by simp [hd])
      have l7 : listed.getD 7 false = true := by simp [hd]
      have m7 := hF7 l7
      clear hd hin hD
      obtain ⟨ro, e7, hq, hh⟩ := m7
      go_simp
      exact hK _ _ ⟨updV xv 8 (.agg #[.int .u64 (S : Int), .int .i64 (N : Int), .int .i64 (Q : Int), .slice (some ⟨ro, 0, none⟩) A A]), by simp [updV, e0, e2, e4, e7], hb, hG.any gk.out g8.out _ trivial, hF7.step (fun _ h => h) (by decide) _, Fe.new (⟨ro, rfl, hq, hh⟩), hF9.step (fun _ h => h) (by decide) _, hF10.step (fun _ h => h) (by decide) _⟩
    · refine wpOp_step rfl (fun K' hK => ?_)
      simp [Region.binds] at hd
      have l8 : listed.getD 8 false = true := by simp [hd]
      have m8 := hF8 l8
      clear hd hin hD
      obtain ⟨ro, e8, hq, hh⟩ := m8
      go_simp
      exact hK _ _ ⟨updV xv 9 (.pointer (some ⟨W.heap.size, 0, none⟩)), by simp [updV, e8], JS.out _ _ (below_alloc _ _) hb, hG.any gk.out g9.out _ trivial, hF7.on st7.out (below_alloc _ _) (by decide) _, hF8.on st8.out (below_alloc _ _) (by decide) _, Fe.new (⟨_, ro, rfl, hb.size, hq, alloc_at _ _, heap_stays (below_alloc _ _) hh⟩), hF10.on st10.out (below_alloc _ _) (by decide) _⟩
    · refine wpOp_step rfl (fun K' hK => ?_)
      simp [Region.binds] at hd
      have l9 : listed.getD 9 false = true := by simp [hd]
      have m9 := hF9 l9
      clear hd hin hD
      go_simp
      exact hK _ _ ⟨updV xv 10 (xv 9), by simp [updV], hb, hG.any gk.out g10.out _ trivial, hF7.step (fun _ h => h) (by decide) _, hF8.step (fun _ h => h) (by decide) _, hF9.step (fun _ h => h) (by decide) _, Fe.new (m9)⟩
  · rintro listed ac W ⟨xv, rfl, hb, hG, hF7, hF8, hF9, hF10⟩ hall
    have m10 : Hid ((IsGp w1.heap.size S N Q A) (xv 10) W) := hF10 (hall 10 (by decide))
    have XW : Hid ((fun W => Below w1.heap.size w1 W) W) := hb
    clear hall hG hb gk JS g0 g1 g2 g3 g4 g5 g6 g7 g8 g9 g10 hF7 st7 hF8 st8 hF9 st9 hF10 st10
    obtain ⟨g, ro, e10, hg, hro, hgc, hrc⟩ := m10.out
    rw [e10]
    clear m10 e10
    have B2 : Hid (Below w.heap.size w W) := below_on B1.out XW.out
    have P2 : Hid (Five W w.heap.size N B Q E F) := BX.out W XW.out
    have I2 : Hid (GrB w W g ro S N Q A (nils A) (nils A) (hasR S A Q 0)) := grb_start B2.out (Nat.le_trans B1.out.size hg) (Nat.le_trans B1.out.size hro) hgc hrc
    have HG0 : Hid (w.heap.size < g ∧ w.heap.size < ro) := by
      have := cell_block_lt P1.out.1
      have h1 : w.heap.size < w1.heap.size := this
      unfold Hid
      omega
    clear hg hro hgc hrc BX CX P1 B1 XW
    have c0 := P2.out.1
    go_wp2
    clear c0 P2
    go_loopw [28] (fun iv wr => ∃ (m : Nat) (vs : List Value), m ≤ N ∧ iv = .int .i64 m ∧ Hid (GrB w wr g ro S N Q A vs vs (hasR S A Q m)) ∧ Hid (Short (8 * m) (hasR S A Q m))) (fun iv _ => N - (intOf iv).toNat)
    case atStart => exact ⟨0, nils A, by omega, rfl, I2, short_start A⟩
    case round =>
      obtain ⟨m, vs, hm, rfl, I, HSh⟩ := hrel
      clear I2
      by_cases hlt : m < N
      · have CO : Hid (Calls Try.prog 28 #[.pointer (some ⟨g, 0, none⟩), .int .i64 m] wr fun e w' => ∃ a c, e = .returned (.slice a Q c) ∧ OwnZ wr.heap.size w' (.slice a Q c) Q (ofD S A Q m) ∧ Below wr.heap.size wr w') := oof_yes g ro S N Q A m vs _ wr I.out.isGr OK.out hlt
        have HLm : Hid (∀ x ∈ ofD S A Q m, 0 ≤ x ∧ x < (A : Int)) := fun x hx => ofD_mem hx
        have HLl : Hid ((ofD S A Q m).length = Q) := ofD_length OK.out.q1 OK.out.qa
        have HNx : Hid (hasR S A Q (m + 1) = addAll (hasR S A Q m) (ofD S A Q m) m) := rfl
        generalize ofD S A Q m = l at *
        go_wp2_with fail
        refine CO.out.mono ?_
        rintro e w3 ⟨a3, c3, rfl, ho3, hb3⟩
        have G3 : Hid (GL w w3 g ro S N Q A vs vs (hasR S A Q m) (.slice a3 Q c3) Q l) := by
          refine ⟨I.out.below hb3, ho3.mono I.out.bel.size, ?_⟩
          intro i v q hv hq e
          obtain ⟨r, hr⟩ := I.out.row hv
          have h1 := ((I.out.own i v r hv hr).lt q hq).2
          have h2 := (ho3.lt q e).1
          omega
        obtain ⟨lb, lc, el, -, hlc, hlm⟩ := owned_shape ho3 OK.out.q1
        injection el with e1 _ e3
        subst e1; subst e3
        unfold maxLen at hlm
        clear ho3 hb3 I CO
        go_wp2
        go_loopw [35] (fun kv wr => ∃ (k : Nat) (vs : List Value), k ≤ Q ∧ kv = .int .i64 k ∧ Hid (GL w wr g ro S N Q A vs vs (addAll (hasR S A Q m) (l.take k) m) (.slice (some ⟨lb, 0, none⟩) Q c3) Q l) ∧ Hid (Short (8 * m + k) (addAll (hasR S A Q m) (l.take k) m))) (fun kv _ => Q - (intOf kv).toNat)
        case atStart => exact ⟨0, vs, by omega, rfl, G3, HSh⟩
        case round =>
          clear G3 HSh
          clear vs
          obtain ⟨k, vs, hk, rfl, G, HSh⟩ := hrel
          by_cases hkQ : k < Q
          · have hkl : k < l.length := by rw [HLl.out]; exact hkQ
            have hmem := HLm.out l[k] (List.getElem_mem hkl)
            obtain ⟨x, hx⟩ : ∃ x : Nat, l[k] = (x : Int) := ⟨l[k].toNat, by omega⟩
            have hxA : x < A := by omega
            have hck : wr.cell? ⟨lb, k, none⟩ = some (.int .i64 (x : Int)) := by
              have := World.ownsRow.cellAt G.out.o k (by omega)
              rw [map_z_at l k hkl, hx] at this
              exact this
            have hxv : x < vs.length := by rw [G.out.b.lv]; exact hxA
            have hxr : x < (addAll (hasR S A Q m) (l.take k) m).length := by rw [G.out.b.lr]; exact hxA
            have Hv : Hid (vs[x]? = some vs[x]) := List.getElem?_eq_getElem hxv
            have Hr0 : Hid ((addAll (hasR S A Q m) (l.take k) m)[x]? = some (addAll (hasR S A Q m) (l.take k) m)[x]) := List.getElem?_eq_getElem hxr
            have HN2 : Hid (addAll (hasR S A Q m) (l.take (k + 1)) m = (addAll (hasR S A Q m) (l.take k) m).set x ((addAll (hasR S A Q m) (l.take k) m)[x] ++ [(m : Int)])) := by
              unfold Hid
              rw [addAll_take m hkl hx, addTo_at Hr0.out]
            have HSh2 : Hid (Short (8 * m + (k + 1)) (addAll (hasR S A Q m) (l.take (k + 1)) m)) := by
              unfold Hid
              rw [addAll_take m hkl hx]
              exact HSh.out.add Hr0.out m
            have hrl : (addAll (hasR S A Q m) (l.take k) m)[x].length ≤ 8 * m + k := HSh.out x _ Hr0.out
            have HR : Hid (addAll (hasR S A Q m) (l.take k) m = addAll (hasR S A Q m) (l.take k) m) := rfl
            obtain ⟨rows2, hR2⟩ : ∃ rs, addAll (hasR S A Q m) (l.take (k + 1)) m = rs := ⟨_, rfl⟩
            have HR2 : Hid (addAll (hasR S A Q m) (l.take (k + 1)) m = rows2) := hR2
            rw [hR2] at HN2
            clear hR2
            have HO := G.out.b.own x _ _ Hv.out Hr0.out
            generalize (addAll (hasR S A Q m) (l.take k) m)[x] = r at *
            generalize addAll (hasR S A Q m) (l.take k) m = rows at *
            obtain ⟨rn, hrn⟩ : ∃ rn, r.length = rn := ⟨_, rfl⟩
            have HRN : Hid (r.length = rn) := hrn
            rw [hrn] at HO hrl
            obtain ⟨av, vc, ev, -⟩ := owned_slice HO
            rw [ev] at Hv HO
            have HOw : Hid (∀ W, GL w W g ro S N Q A vs vs rows (.slice (some ⟨lb, 0, none⟩) Q c3) Q l → OwnZ w.heap.size W (.slice av rn vc) rn r) := by
              intro W hW
              have := hW.b.own x _ r Hv.out Hr0.out
              rw [HRN.out] at this
              exact this
            have JG0 : Hid (JG g ro S N Q A wr) := G.out.b.gc
            clear hmem hx hkl hxv hxr hrn HO ev HSh HR
            have hrn2 : rn + 1 ≤ 1000000000 := by omega
            go_upto_region 11 with fail
            clear hck
            refine wp_region_any (by kernel_rfl) ?_
            obtain ⟨gs, hgs⟩ : ∃ gs : List (Value → World → Prop), gs = [IsV (Value.pointer (some { block := g, off := 0 })), IsV (Value.pointer (some { block := g, off := 0 })), IsV (.pointer (some ⟨g, 3, none⟩)), IsV (.slice (some ⟨ro, 0, none⟩) A A), IsV (Value.int IntKind.i64 ↑x), IsV (Value.pointer (some { block := g, off := 0 })), IsV (Value.pointer (some { block := g, off := 0 })), IsV (.pointer (some ⟨g, 3, none⟩)), IsV (.slice (some ⟨ro, 0, none⟩) A A), IsV (Value.int IntKind.i64 ↑x), IsV (.pointer (some ⟨ro, x, none⟩)), IsV (.slice av rn vc), IsV (Value.int IntKind.i64 ↑m), IsAnyV, IsAnyV, IsV (.pointer (some ⟨ro, x, none⟩)), IsAnyV] := ⟨_, rfl⟩
            have g0 : Hid (gs[0]? = some (IsV (Value.pointer (some { block := g, off := 0 })))) := by unfold Hid; rw [hgs]; rfl
            have g1 : Hid (gs[1]? = some (IsV (Value.pointer (some { block := g, off := 0 })))) := by unfold Hid; rw [hgs]; rfl
            have g2 : Hid (gs[2]? = some (IsV (.pointer (some ⟨g, 3, none⟩)))) := by unfold Hid; rw [hgs]; rfl
            have g3 : Hid (gs[3]? = some (IsV (.slice (some ⟨ro, 0, none⟩) A A))) := by unfold Hid; rw [hgs]; rfl
            have g4 : Hid (gs[4]? = some (IsV (Value.int IntKind.i64 ↑x))) := by unfold Hid; rw [hgs]; rfl
            have g5 : Hid (gs[5]? = some (IsV (Value.pointer (some { block := g, off := 0 })))) := by unfold Hid; rw [hgs]; rfl
            have g6 : Hid (gs[6]? = some (IsV (Value.pointer (some { block := g, off := 0 })))) := by unfold Hid; rw [hgs]; rfl
            have g7 : Hid (gs[7]? = some (IsV (.pointer (some ⟨g, 3, none⟩)))) := by unfold Hid; rw [hgs]; rfl
            have g8 : Hid (gs[8]? = some (IsV (.slice (some ⟨ro, 0, none⟩) A A))) := by unfold Hid; rw [hgs]; rfl
            have g9 : Hid (gs[9]? = some (IsV (Value.int IntKind.i64 ↑x))) := by unfold Hid; rw [hgs]; rfl
            have g10 : Hid (gs[10]? = some (IsV (.pointer (some ⟨ro, x, none⟩)))) := by unfold Hid; rw [hgs]; rfl
            have g11 : Hid (gs[11]? = some (IsV (.slice av rn vc))) := by unfold Hid; rw [hgs]; rfl
            have g12 : Hid (gs[12]? = some (IsV (Value.int IntKind.i64 ↑m))) := by unfold Hid; rw [hgs]; rfl
            have g13 : Hid (gs[13]? = some (IsAnyV)) := by unfold Hid; rw [hgs]; rfl
            have g14 : Hid (gs[14]? = some (IsAnyV)) := by unfold Hid; rw [hgs]; rfl
            have g15 : Hid (gs[15]? = some (IsV (.pointer (some ⟨ro, x, none⟩)))) := by unfold Hid; rw [hgs]; rfl
            have g16 : Hid (gs[16]? = some (IsAnyV)) := by unfold Hid; rw [hgs]; rfl
            have gk : Hid (∀ p ∈ gs, ∀ v (U U' : World), p v U → p v U') := by
              unfold Hid
              rw [hgs]
              simp only [List.forall_mem_cons]
              exact ⟨(fun _ _ _ h => h), (fun _ _ _ h => h), (fun _ _ _ h => h), (fun _ _ _ h => h), (fun _ _ _ h => h), (fun _ _ _ h => h), (fun _ _ _ h => h), (fun _ _ _ h => h), (fun _ _ _ h => h), (fun _ _ _ h => h), (fun _ _ _ h => h), (fun _ _ _ h => h), (fun _ _ _ h => h), (fun _ _ _ h => h), (fun _ _ _ h => h), (fun _ _ _ h => h), (fun _ _ _ h => h), by simp⟩
            clear hgs
            have JS : Hid (∀ Wb Wb', Below Wb.heap.size Wb Wb' → (fun Wb => JG g ro S N Q A Wb) Wb → (fun Wb => JG g ro S N Q A Wb) Wb') := fun Wb Wb' hb h => heap_stays hb h
            have st13 : Hid (Stays (IsZ1 (m : Int))) := stays_z1 _
            have st14 : Hid (Stays (IsRw w g ro S N Q A vs vs rows (.slice (some ⟨lb, 0, none⟩) Q c3) Q l x (rn + 1) (r ++ [(m : Int)]))) := stays_rw _ _ _ _ _ _ _ _ _ _ _ _ _ _ _ _
            have st16 : Hid (Stays (IsDn w g ro S N Q A rows2 (.slice (some ⟨lb, 0, none⟩) Q c3) Q l)) := stays_dn _ _ _ _ _ _ _ _ _ _ _
            have su14 : Hid (∀ Wb Wb', Below Wb.heap.size Wb Wb' → (fun Wb => GL w Wb g ro S N Q A vs vs rows (.slice (some ⟨lb, 0, none⟩) Q c3) Q l) Wb → (fun Wb => GL w Wb g ro S N Q A vs vs rows (.slice (some ⟨lb, 0, none⟩) Q c3) Q l) Wb') := fun Wb Wb' hb h => h.below hb
            refine wpAny_inv4 (fun listed ac Wb => ∃ xvb : Nat → Value, ac = ⟨#[Value.agg #[Value.int IntKind.i64 ↑N, Value.int IntKind.i64 B, Value.int IntKind.i64 ↑Q, Value.int IntKind.i64 E, Value.int IntKind.i64 F], Value.int IntKind.u64 ↑S, Value.pointer (some { block := w.heap.size, off := 0 }), undef, Value.pointer none, Value.int IntKind.i64 (0 : Int), Value.int IntKind.i64 (0 : Int), Value.pointer (some { block := g, off := 0 }), Value.int IntKind.i64 ↑m, undef, Value.int IntKind.i64 ↑x, Value.agg #[Value.int IntKind.i64 ↑N, Value.int IntKind.i64 B, Value.int IntKind.i64 ↑Q, Value.int IntKind.i64 E, Value.int IntKind.i64 F], Value.int IntKind.i64 (0 : Int), Value.int IntKind.i64 (0 : Int), Value.bool false, undef, xv 0, xv 1, xv 2, xv 3, xv 4, xv 5, xv 6, xv 7, xv 8, xv 9, Value.pointer (some { block := w.heap.size, off := 0 }), Value.int IntKind.i64 ↑N, Value.int IntKind.i64 ↑m, Value.bool true, Value.int IntKind.i64 ↑m, Value.pointer (some { block := g, off := 0 }), Value.int IntKind.i64 ↑m, Value.slice (some { block := lb, off := 0 }) Q c3, Value.int IntKind.i64 ↑Q, Value.int IntKind.i64 ↑k, Value.bool true, Value.pointer (some { block := lb, off := k }), Value.int IntKind.i64 ↑x, xvb 0, xvb 1, xvb 2, xvb 3, xvb 4, xvb 5, xvb 6, xvb 7, xvb 8, xvb 9, xvb 10, xvb 11, xvb 12, xvb 13, xvb 14, xvb 15, u55, u56, undef], []⟩ ∧ (fun Wb => JG g ro S N Q A Wb) Wb ∧ Lst gs listed xvb Wb ∧ Fd listed xvb Wb 13 14 (IsZ1 (m : Int)) ∧ Fd listed xvb Wb 14 16 (IsRw w g ro S N Q A vs vs rows (.slice (some ⟨lb, 0, none⟩) Q c3) Q l x (rn + 1) (r ++ [(m : Int)])) ∧ Fe listed xvb Wb 16 (IsDn w g ro S N Q A rows2 (.slice (some ⟨lb, 0, none⟩) Q c3) Q l) ∧ Fz listed Wb 14 (fun Wb => GL w Wb g ro S N Q A vs vs rows (.slice (some ⟨lb, 0, none⟩) Q c3) Q l)) (by kernel_rfl) ?_ ?_ _ _ _ _ (by kernel_rfl) (of_decide_eq_true (by kernel_rfl)) (Down.start _) ⟨fun jx => if jx = 0 then u39 else if jx = 1 then u40 else if jx = 2 then u41 else if jx = 3 then u42 else if jx = 4 then u43 else if jx = 5 then u44 else if jx = 6 then u45 else if jx = 7 then u46 else if jx = 8 then u47 else if jx = 9 then u48 else if jx = 10 then u49 else if jx = 11 then u50 else if jx = 12 then u51 else if jx = 13 then u52 else if jx = 14 then u53 else if jx = 15 then u54 else undef, rfl, JG0.out, Lst.start _ _ _ _, Fd.start _ _ _ _ _ _, Fd.start _ _ _ _ _ _, Fe.start _ _ _ _ _, Fz.start (G.out.below (below0 _))⟩
            · rintro listed ac Wb ⟨xvb, rfl, hb, hG, hF13, hF14, hF16, hU14⟩ hD i hi hnl hd
              have hin : i < 17 := hi
              clear hi
              have hcase : i = 0 ∨ i = 1 ∨ i = 2 ∨ i = 3 ∨ i = 4 ∨ i = 5 ∨ i = 6 ∨ i = 7 ∨ i = 8 ∨ i = 9 ∨ i = 10 ∨ i = 11 ∨ i = 12 ∨ i = 13 ∨ i = 14 ∨ i = 15 ∨ i = 16 := by omega
              rcases hcase with rfl | rfl | rfl | rfl | rfl | rfl | rfl | rfl | rfl | rfl | rfl | rfl | rfl | rfl | rfl | rfl | rfl
              · refine wpOp_step rfl (fun K' hK => ?_)
                clear hd hin hD
                go_simp
                exact hK _ _ ⟨updV xvb 0 (Value.pointer (some { block := g, off := 0 })), by simp [updV], hb, hG.any gk.out g0.out _ rfl, hF13.step (fun _ h => h) (by decide) (by decide) _, hF14.step (fun _ h => h) (by decide) (by decide) _, hF16.step (fun _ h => h) (by decide) _, hU14.step (fun h => h) (by decide)⟩
              · refine wpOp_step rfl (fun K' hK => ?_)
                simp [Region.binds] at hd
                have e0 : xvb 0 = Value.pointer (some { block := g, off := 0 }) := hG.get g0.out (by simp [hd])
                clear hd hin hD
                go_simp
                exact hK _ _ ⟨updV xvb 1 (Value.pointer (some { block := g, off := 0 })), by simp [updV, e0], hb, hG.any gk.out g1.out _ rfl, hF13.step (fun _ h => h) (by decide) (by decide) _, hF14.step (fun _ h => h) (by decide) (by decide) _, hF16.step (fun _ h => h) (by decide) _, hU14.step (fun h => h) (by decide)⟩
              · refine wpOp_step rfl (fun K' hK => ?_)
                simp [Region.binds] at hd
                have e1 : xvb 1 = Value.pointer (some { block := g, off := 0 }) := hG.get g1.out (by simp [hd])
                clear hd hin hD
                go_simp
                exact hK _ _ ⟨updV xvb 2 (.pointer (some ⟨g, 3, none⟩)), by simp [updV, e1], hb, hG.any gk.out g2.out _ rfl, hF13.step (fun _ h => h) (by decide) (by decide) _, hF14.step (fun _ h => h) (by decide) (by decide) _, hF16.step (fun _ h => h) (by decide) _, hU14.step (fun h => h) (by decide)⟩
              · refine wpOp_step rfl (fun K' hK => ?_)
                simp [Region.binds] at hd
                have e2 : xvb 2 = .pointer (some ⟨g, 3, none⟩) := hG.get g2.out (by simp [hd])
                have hc := hb.c3
                clear hd hin hD
                go_simp
                exact hK _ _ ⟨updV xvb 3 (.slice (some ⟨ro, 0, none⟩) A A), by simp [updV, e2], hb, hG.any gk.out g3.out _ rfl, hF13.step (fun _ h => h) (by decide) (by decide) _, hF14.step (fun _ h => h) (by decide) (by decide) _, hF16.step (fun _ h => h) (by decide) _, hU14.step (fun h => h) (by decide)⟩
              · refine wpOp_step rfl (fun K' hK => ?_)
                clear hd hin hD
                go_simp
                exact hK _ _ ⟨updV xvb 4 (Value.int IntKind.i64 ↑x), by simp [updV], hb, hG.any gk.out g4.out _ rfl, hF13.step (fun _ h => h) (by decide) (by decide) _, hF14.step (fun _ h => h) (by decide) (by decide) _, hF16.step (fun _ h => h) (by decide) _, hU14.step (fun h => h) (by decide)⟩
              · refine wpOp_step rfl (fun K' hK => ?_)
                clear hd hin hD
                go_simp
                exact hK _ _ ⟨updV xvb 5 (Value.pointer (some { block := g, off := 0 })), by simp [updV], hb, hG.any gk.out g5.out _ rfl, hF13.step (fun _ h => h) (by decide) (by decide) _, hF14.step (fun _ h => h) (by decide) (by decide) _, hF16.step (fun _ h => h) (by decide) _, hU14.step (fun h => h) (by decide)⟩
              · refine wpOp_step rfl (fun K' hK => ?_)
                simp [Region.binds] at hd
                have e5 : xvb 5 = Value.pointer (some { block := g, off := 0 }) := hG.get g5.out (by simp [hd])
                clear hd hin hD
                go_simp
                exact hK _ _ ⟨updV xvb 6 (Value.pointer (some { block := g, off := 0 })), by simp [updV, e5], hb, hG.any gk.out g6.out _ rfl, hF13.step (fun _ h => h) (by decide) (by decide) _, hF14.step (fun _ h => h) (by decide) (by decide) _, hF16.step (fun _ h => h) (by decide) _, hU14.step (fun h => h) (by decide)⟩
              · refine wpOp_step rfl (fun K' hK => ?_)
                simp [Region.binds] at hd
                have e6 : xvb 6 = Value.pointer (some { block := g, off := 0 }) := hG.get g6.out (by simp [hd])
                clear hd hin hD
                go_simp
                exact hK _ _ ⟨updV xvb 7 (.pointer (some ⟨g, 3, none⟩)), by simp [updV, e6], hb, hG.any gk.out g7.out _ rfl, hF13.step (fun _ h => h) (by decide) (by decide) _, hF14.step (fun _ h => h) (by decide) (by decide) _, hF16.step (fun _ h => h) (by decide) _, hU14.step (fun h => h) (by decide)⟩
              · refine wpOp_step rfl (fun K' hK => ?_)
                simp [Region.binds] at hd
                have e7 : xvb 7 = .pointer (some ⟨g, 3, none⟩) := hG.get g7.out (by simp [hd])
                have hc := hb.c3
                clear hd hin hD
                go_simp
                exact hK _ _ ⟨updV xvb 8 (.slice (some ⟨ro, 0, none⟩) A A), by simp [updV, e7], hb, hG.any gk.out g8.out _ rfl, hF13.step (fun _ h => h) (by decide) (by decide) _, hF14.step (fun _ h => h) (by decide) (by decide) _, hF16.step (fun _ h => h) (by decide) _, hU14.step (fun h => h) (by decide)⟩
              · refine wpOp_step rfl (fun K' hK => ?_)
                clear hd hin hD
                go_simp
                exact hK _ _ ⟨updV xvb 9 (Value.int IntKind.i64 ↑x), by simp [updV], hb, hG.any gk.out g9.out _ rfl, hF13.step (fun _ h => h) (by decide) (by decide) _, hF14.step (fun _ h => h) (by decide) (by decide) _, hF16.step (fun _ h => h) (by decide) _, hU14.step (fun h => h) (by decide)⟩
              · refine wpOp_step rfl (fun K' hK => ?_)
                simp [Region.binds] at hd
                have e8 : xvb 8 = .slice (some ⟨ro, 0, none⟩) A A := hG.get g8.out (by simp [hd])
                have e9 : xvb 9 = Value.int IntKind.i64 ↑x := hG.get g9.out (by simp [hd])
                clear hd hin hD
                go_simp
                exact hK _ _ ⟨updV xvb 10 (.pointer (some ⟨ro, x, none⟩)), by simp [updV, e8, e9], hb, hG.any gk.out g10.out _ rfl, hF13.step (fun _ h => h) (by decide) (by decide) _, hF14.step (fun _ h => h) (by decide) (by decide) _, hF16.step (fun _ h => h) (by decide) _, hU14.step (fun h => h) (by decide)⟩
              · refine wpOp_step rfl (fun K' hK => ?_)
                simp [Region.binds] at hd
                have e10 : xvb 10 = .pointer (some ⟨ro, x, none⟩) := hG.get g10.out (by simp [hd])
                have f14 : listed.getD 14 false = false := by
                  cases hx : listed.getD 14 false with
                  | false => rfl
                  | true =>
                    have r11 : listed.getD 11 false = true := by have h := hD 14 (by decide) hx; simp [Region.binds] at h; simp [h]
                    rw [getD_false hnl] at r11; cases r11
                have u14 := hU14 f14
                have hc := u14.b.cell Hv.out
                clear hd hin hD
                go_simp
                exact hK _ _ ⟨updV xvb 11 (.slice av rn vc), by simp [updV, e10], hb, hG.any gk.out g11.out _ rfl, hF13.step (fun _ h => h) (by decide) (by decide) _, hF14.step (fun _ h => h) (by decide) (by decide) _, hF16.step (fun _ h => h) (by decide) _, hU14.step (fun h => h) (by decide)⟩
              · refine wpOp_step rfl (fun K' hK => ?_)
                clear hd hin hD
                go_simp
                exact hK _ _ ⟨updV xvb 12 (Value.int IntKind.i64 ↑m), by simp [updV], hb, hG.any gk.out g12.out _ rfl, hF13.step (fun _ h => h) (by decide) (by decide) _, hF14.step (fun _ h => h) (by decide) (by decide) _, hF16.step (fun _ h => h) (by decide) _, hU14.step (fun h => h) (by decide)⟩
              · refine wpOp_step rfl (fun K' hK => ?_)
                simp [Region.binds] at hd
                have e12 : xvb 12 = Value.int IntKind.i64 ↑m := hG.get g12.out (by simp [hd])
                clear hd hin hD
                go_simp
                exact hK _ _ ⟨updV xvb 13 (.slice (some ⟨Wb.heap.size, 0, none⟩) 1 1), by simp [updV, e12], JS.out _ _ (below_alloc _ _) hb, hG.any gk.out g13.out _ trivial, Fd.new (zs_one _ _ _), hF14.on st14.out (below_alloc _ _) (by decide) (by decide) _, hF16.on st16.out (below_alloc _ _) (by decide) _, hU14.step (su14.out _ _ (below_alloc _ _)) (by decide)⟩
              · refine wpOp_step rfl (fun K' hK => ?_)
                simp [Region.binds] at hd
                have e11 : xvb 11 = .slice av rn vc := hG.get g11.out (by simp [hd])
                have l13 : listed.getD 13 false = true := by simp [hd]
                have m13 := hF13.get l13 hnl
                have f16 : listed.getD 16 false = false := by
                  cases hx : listed.getD 16 false with
                  | false => rfl
                  | true =>
                    have r14 : listed.getD 14 false = true := by have h := hD 16 (by decide) hx; simp [Region.binds] at h; simp [h]
                    rw [getD_false hnl] at r14; cases r14
                have u14 := hU14.get hnl
                clear hd hin hD
                have hOw := HOw.out Wb u14
                refine step_addZ Wb rfl (.tmp 50) (.tmp 52) rfl w.heap.size (.slice av rn vc) rn r e11 hOw _ 1 [(m : Int)] rfl m13 (by omega) u14.b.bel.size ?_
                intro ao cap w' hown hg hat hnc hcm
                have hgl := u14.grow (r' := r ++ [(m : Int)]) Hv.out Hr0.out hg (by rw [List.length_append, HRN.out]; exact hown) hat
                exact hK _ _ ⟨updV xvb 14 (.slice ao (rn + 1) cap), by simp [updV, Act.put], hgl.b.gc, hG.any gk.out g14.out _ trivial, Fd.off hnl, Fd.new (⟨ao, cap, rfl, hgl⟩), Fe.yet f16 (by decide) _, Fz.off hnl⟩
              · refine wpOp_step rfl (fun K' hK => ?_)
                simp [Region.binds] at hd
                have e3 : xvb 3 = .slice (some ⟨ro, 0, none⟩) A A := hG.get g3.out (by simp [hd])
                have e4 : xvb 4 = Value.int IntKind.i64 ↑x := hG.get g4.out (by simp [hd])
                clear hd hin hD
                go_simp
                exact hK _ _ ⟨updV xvb 15 (.pointer (some ⟨ro, x, none⟩)), by simp [updV, e3, e4], hb, hG.any gk.out g15.out _ rfl, hF13.step (fun _ h => h) (by decide) (by decide) _, hF14.step (fun _ h => h) (by decide) (by decide) _, hF16.step (fun _ h => h) (by decide) _, hU14.step (fun h => h) (by decide)⟩
              · refine wpOp_step rfl (fun K' hK => ?_)
                simp [Region.binds] at hd
                have e15 : xvb 15 = .pointer (some ⟨ro, x, none⟩) := hG.get g15.out (by simp [hd])
                have l14 : listed.getD 14 false = true := by simp [hd]
                have m14 := hF14.get l14 hnl
                have q13 : listed.getD 13 false = true := by simp [hd]
                clear hd hin hD
                obtain ⟨ao, cap, e14, hgl⟩ := m14
                have hc := hgl.b.cell Hv.out
                have hf := hgl.b.free x
                have hst := hgl.store x (.slice ao (rn + 1) cap)
                rw [e14] at hst
                go_simp
                exact hK _ _ ⟨updV xvb 16 undef, by simp [updV, e14, e15], hst.b.gc, hG.any gk.out g16.out _ trivial, Fd.gone l14 (by decide), Fd.off hnl, Fe.new (⟨_, by rw [HN2.out]; exact hst⟩), Fz.gone l14 (by decide)⟩
            · rintro listed ac Wb ⟨xvb, rfl, hb, hG, hF13, hF14, hF16, hU14⟩ hall
              have m16 : Hid ((IsDn w g ro S N Q A rows2 (.slice (some ⟨lb, 0, none⟩) Q c3) Q l) (xvb 16) Wb) := hF16 (hall 16 (by decide))
              have XW : Hid ((fun Wb => JG g ro S N Q A Wb) Wb) := hb
              clear hall hG hb gk JS g0 g1 g2 g3 g4 g5 g6 g7 g8 g9 g10 g11 g12 g13 g14 g15 g16 hF13 st13 hF14 st14 hF16 st16 hU14 su14
              obtain ⟨vs2, hgl2⟩ := m16.out
              have G4 : Hid (GL w Wb g ro S N Q A vs2 vs2 rows2 (.slice (some ⟨lb, 0, none⟩) Q c3) Q l) := hgl2
              clear hgl2 m16 G XW
              go_wp2
              go_roundw
              case rel => exact ⟨k + 1, vs2, by omega, by go_num, by unfold Hid; rw [HR2.out]; exact G4.out, HSh2⟩
              case measure => simp [intOf]; omega
          · obtain rfl : k = Q := by omega
            have I4 : Hid (GrB w wr g ro S N k A vs vs (hasR S A k (m + 1))) := by
              have := G.out.b
              rw [List.take_of_length_le (by rw [HLl.out]; omega), ← HNx.out] at this
              exact this
            have S4 : Hid (Short (8 * (m + 1)) (hasR S A k (m + 1))) := by
              have := HSh.out
              rw [List.take_of_length_le (by rw [HLl.out]; omega), ← HNx.out] at this
              exact this.mono (by omega)
            clear G HSh HNx
            go_wp2
            go_roundw
            case rel => exact ⟨m + 1, vs, by omega, by go_num, I4, S4⟩
            case measure => simp [intOf]; omega
      · obtain rfl : m = N := by omega
        go_wp2
        go_ret2
        exact ⟨g, ro, vs, rfl, I.out⟩

theorem onew_yes (B E F : Int) (N Q A S : Nat) (w : World) (h : PrOk N B Q E F N Q A) (hS : S < 18446744073709551616) :
    Calls Try.prog 22 #[.agg #[.int .i64 N, .int .i64 B, .int .i64 Q, .int .i64 E, .int .i64 F], .int .u64 S] w fun e w' => ∃ g ro vs, e = .returned (.tuple #[.pointer (some ⟨g, 0, none⟩), .int .i64 0]) ∧ IsGr w' g ro S N Q A vs (hasR S A Q N) ∧ Below w.heap.size w w' := by
  refine (onew_own B E F N Q A S w h hS).mono ?_
  rintro e w' ⟨g, ro, vs, rfl, hg⟩
  exact ⟨g, ro, vs, rfl, hg.isGr, hg.bel⟩

end Go.Proofs.Ythlladpappldbaa
