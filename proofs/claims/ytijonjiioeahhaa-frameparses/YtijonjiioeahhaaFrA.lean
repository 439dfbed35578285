/-
  The walks of package frame: New, Check; the document's May of a header.
-/
import Derived.Test.YtijonjiioeahhaaParB
import Derived.Test.YtijonjiioeahhaaCSpk
import Derived.Deep.QuietTactic
import Derived.BigQuiet
namespace Go.Proofs.Ytijonjiioeahhaa
open Go.RowKit
set_option linter.unusedVariables false

/-- A header that may be. -/
def MayH (N B Q E F L : Int) : Prop := May N B Q E F ∧ 0 ≤ L ∧ L ≤ N * B

def decMayH (N B Q E F L : Int) : Decidable (MayH N B Q E F L) := @instDecidableAnd (May N B Q E F) (0 ≤ L ∧ L ≤ N * B) (decMay N B Q E F) inferInstance

def mayHE (N B Q E F L : Int) : Int := @ite Int (MayH N B Q E F L) (decMayH N B Q E F L) 0 1

theorem mayHE_no {N B Q E F L : Int} (h : ¬ MayH N B Q E F L) : mayHE N B Q E F L = 1 := if_neg h
theorem mayHE_yes {N B Q E F L : Int} (h : MayH N B Q E F L) : mayHE N B Q E F L = 0 := if_pos h

/-- A block of a header's numbers, as a box lies. -/
def Eight (W : World) (b : Nat) (S N B Q E F L I : Int) : Prop := W.cell? ⟨b, 0, none⟩ = some (.int .u64 S) ∧ W.cell? ⟨b, 1, none⟩ = some (.int .i64 N) ∧ W.cell? ⟨b, 2, none⟩ = some (.int .i64 B) ∧ W.cell? ⟨b, 3, none⟩ = some (.int .i64 Q) ∧ W.cell? ⟨b, 4, none⟩ = some (.int .i64 E) ∧ W.cell? ⟨b, 5, none⟩ = some (.int .i64 F) ∧ W.cell? ⟨b, 6, none⟩ = some (.int .i64 L) ∧ W.cell? ⟨b, 7, none⟩ = some (.int .u64 I)

theorem Eight.below {W W' : World} {b : Nat} {S N B Q E F L I : Int} (h : Eight W b S N B Q E F L I) (hb : Below W.heap.size W W') : Eight W' b S N B Q E F L I := by
  obtain ⟨h0, h1, h2, h3, h4, h5, h6, h7⟩ := h
  exact ⟨(hb.cell (cell_block_lt h0)).trans h0, (hb.cell (cell_block_lt h1)).trans h1, (hb.cell (cell_block_lt h2)).trans h2, (hb.cell (cell_block_lt h3)).trans h3, (hb.cell (cell_block_lt h4)).trans h4, (hb.cell (cell_block_lt h5)).trans h5, (hb.cell (cell_block_lt h6)).trans h6, (hb.cell (cell_block_lt h7)).trans h7⟩

theorem eight_new (w : World) (t : TypeId) (S N B Q E F L I : Int) : Eight (w.alloc (.cells #[.int .u64 S, .int .i64 N, .int .i64 B, .int .i64 Q, .int .i64 E, .int .i64 F, .int .i64 L, .int .u64 I] t)) w.heap.size S N B Q E F L I := by
  refine ⟨?_, ?_, ?_, ?_, ?_, ?_, ?_, ?_⟩ <;> simp

/-- A Codec at block c, its table at block g. -/
def IsCo (W : World) (c g : Nat) : Prop := W.cell? ⟨c, 0, none⟩ = some (.pointer (some ⟨g, 0, none⟩)) ∧ IsTab W g

theorem IsCo.below {W W' : World} {c g : Nat} (h : IsCo W c g) (hb : Below W.heap.size W W') : IsCo W' c g :=
  ⟨(hb.cell (cell_block_lt h.1)).trans h.1, h.2.below hb⟩

set_option maxRecDepth 100000 in
set_option maxHeartbeats 1000000 in
/-- NEW. -/
theorem fnew_any (w : World) : Calls Try.prog 42 #[] w fun e w' => ∃ c g, e = .returned (.pointer (some ⟨c, 0, none⟩)) ∧ IsCo w' c g ∧ Below w.heap.size w w' ∧ w.heap.size ≤ c ∧ w.heap.size ≤ g ∧ c < w'.heap.size := by
  go_enter Try.func42, Try.ntmps42
  go_wp2_with fail
  refine (new_c _).mono ?_
  rintro e w1 ⟨rfl, hT, hb1, hsz⟩
  have T1 : Hid (IsTab w1 w.heap.size) := hT
  have B1 : Hid (Below w.heap.size w w1) := hb1
  clear hT hb1 hsz
  go_wp2
  go_ret
  refine ⟨w1.heap.size, w.heap.size, rfl, ⟨by simp, T1.out.below (below_alloc _ _)⟩, below_mid B1.out (below_alloc _ _), B1.out.size, Nat.le_refl _, by simp⟩

set_option maxRecDepth 100000 in
set_option maxHeartbeats 1000000 in
/-- CHECK. -/
theorem fcheck_any (S N B Q E F L I : Int) (w : World) : Calls Try.prog 48 #[.agg #[.int .u64 S, .int .i64 N, .int .i64 B, .int .i64 Q, .int .i64 E, .int .i64 F, .int .i64 L, .int .u64 I]] w fun e w' => e = .returned (.int .i64 (mayHE N B Q E F L)) ∧ Below w.heap.size w w' := by
  by_cases hm : May N B Q E F
  · have HM : Hid (mayE N B Q E F = 0) := mayE_yes hm
    go_enter Try.func48, Try.ntmps48
    go_wp2_with fail
    refine (pcheck_any N B Q E F _).mono ?_
    rintro e w1 ⟨rfl, hb1⟩
    rw [HM.out]
    have B1 : Hid (Below w.heap.size w w1) := below_mid (below_alloc _ _) hb1
    have E1 : Hid (Eight w1 w.heap.size S N B Q E F L I) := (eight_new w _ S N B Q E F L I).below hb1
    clear hb1
    obtain ⟨q, hq⟩ : ∃ q, w.heap.size = q := ⟨_, rfl⟩
    rw [hq] at E1
    by_cases hL : L < 0
    · have HR : Hid (mayHE N B Q E F L = 1) := mayHE_no (fun h => by have := h.2.1; omega)
      obtain ⟨c0, c1, c2, c3, c4, c5, c6, c7⟩ := E1.out
      clear hm
      go_wp2
      go_quiet (fail)
      go_wp2
      go_ret
      exact ⟨by rw [HR.out]; rfl, below_drewN B1.out nq⟩
    · have hr := most_range hm.1 hm.2.1
      have A2 : Hid (∀ W, Calls Try.prog 37 #[.agg #[.int .i64 N, .int .i64 B, .int .i64 Q, .int .i64 E, .int .i64 F]] W fun e w' => e = .returned (.int .i64 (N * B)) ∧ Below W.heap.size W w') := fun W => most_any N B Q E F W hm.1 hm.2.1
      have HR1 : Hid (L ≤ N * B → mayHE N B Q E F L = 0) := fun h => mayHE_yes ⟨hm, by omega, h⟩
      have HR2 : Hid (¬ L ≤ N * B → mayHE N B Q E F L = 1) := fun h => mayHE_no (fun k => h k.2.2)
      generalize N * B = P at *
      clear hm hr
      go_wp2
      clear hq
      have BX : Hid (∀ W, Below w1.heap.size w1 W → Eight W q S N B Q E F L I) := fun W hW => E1.out.below hW
      have C2 : Hid (∀ W, Below w1.heap.size w1 W → Calls Try.prog 37 #[.agg #[.int .i64 N, .int .i64 B, .int .i64 Q, .int .i64 E, .int .i64 F]] W fun e w' => ∃ v, e = .returned v ∧ IsV (.int .i64 P) v w' ∧ Below W.heap.size W w') := fun W hW => calls_below (A2.out W)
      by_cases hP : L ≤ P
      · skip
        refine wp_region_any (by kernel_rfl) ?_
        obtain ⟨gs, hgs⟩ : ∃ gs : List (Value → World → Prop), gs = [IsV (.pointer (some ⟨q, 6, none⟩)), IsV (.int .i64 L), IsV (.bool false), IsV (.bool false), IsV (.pointer (some ⟨q, 6, none⟩)), IsV (.int .i64 L), IsV (.pointer (some ⟨q, 1, none⟩)), IsV (.agg #[.int .i64 N, .int .i64 B, .int .i64 Q, .int .i64 E, .int .i64 F]), IsV (.int .i64 P), IsV (.bool false), IsV (.bool false)] := ⟨_, rfl⟩
        have g0 : Hid (gs[0]? = some (IsV (.pointer (some ⟨q, 6, none⟩)))) := by unfold Hid; rw [hgs]; rfl
        have g1 : Hid (gs[1]? = some (IsV (.int .i64 L))) := by unfold Hid; rw [hgs]; rfl
        have g2 : Hid (gs[2]? = some (IsV (.bool false))) := by unfold Hid; rw [hgs]; rfl
        have g3 : Hid (gs[3]? = some (IsV (.bool false))) := by unfold Hid; rw [hgs]; rfl
        have g4 : Hid (gs[4]? = some (IsV (.pointer (some ⟨q, 6, none⟩)))) := by unfold Hid; rw [hgs]; rfl
        have g5 : Hid (gs[5]? = some (IsV (.int .i64 L))) := by unfold Hid; rw [hgs]; rfl
        have g6 : Hid (gs[6]? = some (IsV (.pointer (some ⟨q, 1, none⟩)))) := by unfold Hid; rw [hgs]; rfl
        have g7 : Hid (gs[7]? = some (IsV (.agg #[.int .i64 N, .int .i64 B, .int .i64 Q, .int .i64 E, .int .i64 F]))) := by unfold Hid; rw [hgs]; rfl
        have g8 : Hid (gs[8]? = some (IsV (.int .i64 P))) := by unfold Hid; rw [hgs]; rfl
        have g9 : Hid (gs[9]? = some (IsV (.bool false))) := by unfold Hid; rw [hgs]; rfl
        have g10 : Hid (gs[10]? = some (IsV (.bool false))) := by unfold Hid; rw [hgs]; rfl
        have gk : Hid (∀ p ∈ gs, Stays p) := by
          unfold Hid
          rw [hgs]
          simp only [List.forall_mem_cons]
          exact ⟨stays_v _, stays_v _, stays_v _, stays_v _, stays_v _, stays_v _, stays_v _, stays_v _, stays_v _, stays_v _, stays_v _, by simp⟩
        clear hgs
        refine wpAny_inv (fun listed ac W => ∃ xv : Nat → Value, ac = ⟨#[Value.agg #[Value.int IntKind.u64 S, Value.int IntKind.i64 N, Value.int IntKind.i64 B, Value.int IntKind.i64 Q, Value.int IntKind.i64 E, Value.int IntKind.i64 F, Value.int IntKind.i64 L, Value.int IntKind.u64 I], Value.pointer (some { block := q, off := 0 }), Value.int IntKind.i64 (0 : Int), Value.int IntKind.i64 (0 : Int), Value.pointer (some { block := q, off := 1 }), Value.agg #[Value.int IntKind.i64 N, Value.int IntKind.i64 B, Value.int IntKind.i64 Q, Value.int IntKind.i64 E, Value.int IntKind.i64 F], Value.int IntKind.i64 (0 : Int), Value.int IntKind.i64 (0 : Int), Value.bool false, undef, xv 0, xv 1, xv 2, xv 3, xv 4, xv 5, xv 6, xv 7, xv 8, xv 9, xv 10], []⟩ ∧ Below w1.heap.size w1 W ∧ Lst gs listed xv W) (by kernel_rfl) ?_ ?_ _ _ _ _ (by kernel_rfl) (of_decide_eq_true (by kernel_rfl)) ⟨fun j => undef, rfl, below0 _, Lst.start _ _ _ _⟩
        · rintro listed ac W ⟨xv, rfl, hb, hG⟩ i hi hd
          have hin : i < 11 := hi
          clear hi
          have hcase : i = 0 ∨ i = 1 ∨ i = 2 ∨ i = 3 ∨ i = 4 ∨ i = 5 ∨ i = 6 ∨ i = 7 ∨ i = 8 ∨ i = 9 ∨ i = 10 := by omega
          rcases hcase with rfl | rfl | rfl | rfl | rfl | rfl | rfl | rfl | rfl | rfl | rfl
          · refine wpOp_step rfl (fun K' hK => ?_)
            clear hd hin
            go_simp
            exact hK _ _ ⟨updV xv 0 (.pointer (some ⟨q, 6, none⟩)), by simp [updV], hb, hG.same gk.out g0.out _ rfl⟩
          · refine wpOp_step rfl (fun K' hK => ?_)
            simp [Region.binds] at hd
            have e0 : xv 0 = .pointer (some ⟨q, 6, none⟩) := hG.get g0.out (by simp [hd])
            obtain ⟨c0, c1, c2, c3, c4, c5, c6, c7⟩ := BX.out W hb
            clear hd hin
            go_simp
            exact hK _ _ ⟨updV xv 1 (.int .i64 L), by simp [updV, e0], hb, hG.same gk.out g1.out _ rfl⟩
          · refine wpOp_step rfl (fun K' hK => ?_)
            simp [Region.binds] at hd
            have e1 : xv 1 = .int .i64 L := hG.get g1.out (by simp [hd])
            clear hd hin
            go_simp
            exact hK _ _ ⟨updV xv 2 (.bool false), by simp [updV, e1, hL], hb, hG.same gk.out g2.out _ rfl⟩
          · refine wpOp_step rfl (fun K' hK => ?_)
            simp [Region.binds] at hd
            have e2 : xv 2 = .bool false := hG.get g2.out (by simp [hd])
            clear hd hin
            go_simp
            exact hK _ _ ⟨updV xv 3 (.bool false), by simp [updV, e2], hb, hG.same gk.out g3.out _ rfl⟩
          · refine wpOp_step rfl (fun K' hK => ?_)
            simp [Region.binds] at hd
            have e3 : xv 3 = .bool false := hG.get g3.out (by simp [hd])
            clear hd hin
            go_simp
            exact hK _ _ ⟨updV xv 4 (.pointer (some ⟨q, 6, none⟩)), by simp [updV, e3], hb, hG.same gk.out g4.out _ rfl⟩
          · refine wpOp_step rfl (fun K' hK => ?_)
            simp [Region.binds] at hd
            have e4 : xv 4 = .pointer (some ⟨q, 6, none⟩) := hG.get g4.out (by simp [hd])
            have e3 : xv 3 = .bool false := hG.get g3.out (by simp [hd])
            obtain ⟨c0, c1, c2, c3, c4, c5, c6, c7⟩ := BX.out W hb
            clear hd hin
            go_simp
            exact hK _ _ ⟨updV xv 5 (.int .i64 L), by simp [updV, e4, e3], hb, hG.same gk.out g5.out _ rfl⟩
          · refine wpOp_step rfl (fun K' hK => ?_)
            simp [Region.binds] at hd
            have e3 : xv 3 = .bool false := hG.get g3.out (by simp [hd])
            clear hd hin
            go_simp
            exact hK _ _ ⟨updV xv 6 (.pointer (some ⟨q, 1, none⟩)), by simp [updV, e3], hb, hG.same gk.out g6.out _ rfl⟩
          · refine wpOp_step rfl (fun K' hK => ?_)
            simp [Region.binds] at hd
            have e6 : xv 6 = .pointer (some ⟨q, 1, none⟩) := hG.get g6.out (by simp [hd])
            have e3 : xv 3 = .bool false := hG.get g3.out (by simp [hd])
            obtain ⟨c0, c1, c2, c3, c4, c5, c6, c7⟩ := BX.out W hb
            clear hd hin
            go_simp
            exact hK _ _ ⟨updV xv 7 (.agg #[.int .i64 N, .int .i64 B, .int .i64 Q, .int .i64 E, .int .i64 F]), by simp [updV, e6, e3], hb, hG.same gk.out g7.out _ rfl⟩
          · refine wpOp_step rfl (fun K' hK => ?_)
            simp [Region.binds] at hd
            have e7 : xv 7 = .agg #[.int .i64 N, .int .i64 B, .int .i64 Q, .int .i64 E, .int .i64 F] := hG.get g7.out (by simp [hd])
            have e3 : xv 3 = .bool false := hG.get g3.out (by simp [hd])
            clear hd hin
            go_simp
            refine (C2.out W hb).mono ?_
            rintro e w' ⟨v, rfl, hv, hb'⟩
            go_wp2_with fail
            exact ⟨updV xv 8 v, by simp [updV, e7, e3], hb.trans (hb'.mono hb.size), hG.step gk.out hb' g8.out v hv⟩
          · refine wpOp_step rfl (fun K' hK => ?_)
            simp [Region.binds] at hd
            have e5 : xv 5 = .int .i64 L := hG.get g5.out (by simp [hd])
            have e8 : xv 8 = .int .i64 P := hG.get g8.out (by simp [hd])
            have e3 : xv 3 = .bool false := hG.get g3.out (by simp [hd])
            clear hd hin
            go_simp
            exact hK _ _ ⟨updV xv 9 (.bool false), by simp [updV, e5, e8, e3, hP], hb, hG.same gk.out g9.out _ rfl⟩
          · refine wpOp_step rfl (fun K' hK => ?_)
            simp [Region.binds] at hd
            have e3 : xv 3 = .bool false := hG.get g3.out (by simp [hd])
            have e9 : xv 9 = .bool false := hG.get g9.out (by simp [hd])
            clear hd hin
            go_simp
            exact hK _ _ ⟨updV xv 10 (.bool false), by simp [updV, e3, e9], hb, hG.same gk.out g10.out _ rfl⟩
        · rintro listed ac W ⟨xv, rfl, hb, hG⟩ hall
          have e10 : xv 10 = .bool false := hG.get g10.out (hall 10 (by decide))
          have XW : Hid (Below w1.heap.size w1 W) := hb
          clear hall hG hb gk g0 g1 g2 g3 g4 g5 g6 g7 g8 g9 g10
          rw [e10]
          clear e10
          go_wp2
          go_ret
          exact ⟨by rw [HR1.out hP]; rfl, below_mid B1.out XW.out⟩
      · have hP2 : P < L := by omega
        refine wp_region_any (by kernel_rfl) ?_
        obtain ⟨gs, hgs⟩ : ∃ gs : List (Value → World → Prop), gs = [IsV (.pointer (some ⟨q, 6, none⟩)), IsV (.int .i64 L), IsV (.bool false), IsV (.bool false), IsV (.pointer (some ⟨q, 6, none⟩)), IsV (.int .i64 L), IsV (.pointer (some ⟨q, 1, none⟩)), IsV (.agg #[.int .i64 N, .int .i64 B, .int .i64 Q, .int .i64 E, .int .i64 F]), IsV (.int .i64 P), IsV (.bool true), IsV (.bool true)] := ⟨_, rfl⟩
        have g0 : Hid (gs[0]? = some (IsV (.pointer (some ⟨q, 6, none⟩)))) := by unfold Hid; rw [hgs]; rfl
        have g1 : Hid (gs[1]? = some (IsV (.int .i64 L))) := by unfold Hid; rw [hgs]; rfl
        have g2 : Hid (gs[2]? = some (IsV (.bool false))) := by unfold Hid; rw [hgs]; rfl
        have g3 : Hid (gs[3]? = some (IsV (.bool false))) := by unfold Hid; rw [hgs]; rfl
        have g4 : Hid (gs[4]? = some (IsV (.pointer (some ⟨q, 6, none⟩)))) := by unfold Hid; rw [hgs]; rfl
        have g5 : Hid (gs[5]? = some (IsV (.int .i64 L))) := by unfold Hid; rw [hgs]; rfl
        have g6 : Hid (gs[6]? = some (IsV (.pointer (some ⟨q, 1, none⟩)))) := by unfold Hid; rw [hgs]; rfl
        have g7 : Hid (gs[7]? = some (IsV (.agg #[.int .i64 N, .int .i64 B, .int .i64 Q, .int .i64 E, .int .i64 F]))) := by unfold Hid; rw [hgs]; rfl
        have g8 : Hid (gs[8]? = some (IsV (.int .i64 P))) := by unfold Hid; rw [hgs]; rfl
        have g9 : Hid (gs[9]? = some (IsV (.bool true))) := by unfold Hid; rw [hgs]; rfl
        have g10 : Hid (gs[10]? = some (IsV (.bool true))) := by unfold Hid; rw [hgs]; rfl
        have gk : Hid (∀ p ∈ gs, Stays p) := by
          unfold Hid
          rw [hgs]
          simp only [List.forall_mem_cons]
          exact ⟨stays_v _, stays_v _, stays_v _, stays_v _, stays_v _, stays_v _, stays_v _, stays_v _, stays_v _, stays_v _, stays_v _, by simp⟩
        clear hgs
        refine wpAny_inv (fun listed ac W => ∃ xv : Nat → Value, ac = ⟨#[Value.agg #[Value.int IntKind.u64 S, Value.int IntKind.i64 N, Value.int IntKind.i64 B, Value.int IntKind.i64 Q, Value.int IntKind.i64 E, Value.int IntKind.i64 F, Value.int IntKind.i64 L, Value.int IntKind.u64 I], Value.pointer (some { block := q, off := 0 }), Value.int IntKind.i64 (0 : Int), Value.int IntKind.i64 (0 : Int), Value.pointer (some { block := q, off := 1 }), Value.agg #[Value.int IntKind.i64 N, Value.int IntKind.i64 B, Value.int IntKind.i64 Q, Value.int IntKind.i64 E, Value.int IntKind.i64 F], Value.int IntKind.i64 (0 : Int), Value.int IntKind.i64 (0 : Int), Value.bool false, undef, xv 0, xv 1, xv 2, xv 3, xv 4, xv 5, xv 6, xv 7, xv 8, xv 9, xv 10], []⟩ ∧ Below w1.heap.size w1 W ∧ Lst gs listed xv W) (by kernel_rfl) ?_ ?_ _ _ _ _ (by kernel_rfl) (of_decide_eq_true (by kernel_rfl)) ⟨fun j => undef, rfl, below0 _, Lst.start _ _ _ _⟩
        · rintro listed ac W ⟨xv, rfl, hb, hG⟩ i hi hd
          have hin : i < 11 := hi
          clear hi
          have hcase : i = 0 ∨ i = 1 ∨ i = 2 ∨ i = 3 ∨ i = 4 ∨ i = 5 ∨ i = 6 ∨ i = 7 ∨ i = 8 ∨ i = 9 ∨ i = 10 := by omega
          rcases hcase with rfl | rfl | rfl | rfl | rfl | rfl | rfl | rfl | rfl | rfl | rfl
          · refine wpOp_step rfl (fun K' hK => ?_)
            clear hd hin
            go_simp
            exact hK _ _ ⟨updV xv 0 (.pointer (some ⟨q, 6, none⟩)), by simp [updV], hb, hG.same gk.out g0.out _ rfl⟩
          · refine wpOp_step rfl (fun K' hK => ?_)
            simp [Region.binds] at hd
            have e0 : xv 0 = .pointer (some ⟨q, 6, none⟩) := hG.get g0.out (by simp [hd])
            obtain ⟨c0, c1, c2, c3, c4, c5, c6, c7⟩ := BX.out W hb
            clear hd hin
            go_simp
            exact hK _ _ ⟨updV xv 1 (.int .i64 L), by simp [updV, e0], hb, hG.same gk.out g1.out _ rfl⟩
          · refine wpOp_step rfl (fun K' hK => ?_)
            simp [Region.binds] at hd
            have e1 : xv 1 = .int .i64 L := hG.get g1.out (by simp [hd])
            clear hd hin
            go_simp
            exact hK _ _ ⟨updV xv 2 (.bool false), by simp [updV, e1, hL], hb, hG.same gk.out g2.out _ rfl⟩
          · refine wpOp_step rfl (fun K' hK => ?_)
            simp [Region.binds] at hd
            have e2 : xv 2 = .bool false := hG.get g2.out (by simp [hd])
            clear hd hin
            go_simp
            exact hK _ _ ⟨updV xv 3 (.bool false), by simp [updV, e2], hb, hG.same gk.out g3.out _ rfl⟩
          · refine wpOp_step rfl (fun K' hK => ?_)
            simp [Region.binds] at hd
            have e3 : xv 3 = .bool false := hG.get g3.out (by simp [hd])
            clear hd hin
            go_simp
            exact hK _ _ ⟨updV xv 4 (.pointer (some ⟨q, 6, none⟩)), by simp [updV, e3], hb, hG.same gk.out g4.out _ rfl⟩
          · refine wpOp_step rfl (fun K' hK => ?_)
            simp [Region.binds] at hd
            have e4 : xv 4 = .pointer (some ⟨q, 6, none⟩) := hG.get g4.out (by simp [hd])
            have e3 : xv 3 = .bool false := hG.get g3.out (by simp [hd])
            obtain ⟨c0, c1, c2, c3, c4, c5, c6, c7⟩ := BX.out W hb
            clear hd hin
            go_simp
            exact hK _ _ ⟨updV xv 5 (.int .i64 L), by simp [updV, e4, e3], hb, hG.same gk.out g5.out _ rfl⟩
          · refine wpOp_step rfl (fun K' hK => ?_)
            simp [Region.binds] at hd
            have e3 : xv 3 = .bool false := hG.get g3.out (by simp [hd])
            clear hd hin
            go_simp
            exact hK _ _ ⟨updV xv 6 (.pointer (some ⟨q, 1, none⟩)), by simp [updV, e3], hb, hG.same gk.out g6.out _ rfl⟩
          · refine wpOp_step rfl (fun K' hK => ?_)
            simp [Region.binds] at hd
            have e6 : xv 6 = .pointer (some ⟨q, 1, none⟩) := hG.get g6.out (by simp [hd])
            have e3 : xv 3 = .bool false := hG.get g3.out (by simp [hd])
            obtain ⟨c0, c1, c2, c3, c4, c5, c6, c7⟩ := BX.out W hb
            clear hd hin
            go_simp
            exact hK _ _ ⟨updV xv 7 (.agg #[.int .i64 N, .int .i64 B, .int .i64 Q, .int .i64 E, .int .i64 F]), by simp [updV, e6, e3], hb, hG.same gk.out g7.out _ rfl⟩
          · refine wpOp_step rfl (fun K' hK => ?_)
            simp [Region.binds] at hd
            have e7 : xv 7 = .agg #[.int .i64 N, .int .i64 B, .int .i64 Q, .int .i64 E, .int .i64 F] := hG.get g7.out (by simp [hd])
            have e3 : xv 3 = .bool false := hG.get g3.out (by simp [hd])
            clear hd hin
            go_simp
            refine (C2.out W hb).mono ?_
            rintro e w' ⟨v, rfl, hv, hb'⟩
            go_wp2_with fail
            exact ⟨updV xv 8 v, by simp [updV, e7, e3], hb.trans (hb'.mono hb.size), hG.step gk.out hb' g8.out v hv⟩
          · refine wpOp_step rfl (fun K' hK => ?_)
            simp [Region.binds] at hd
            have e5 : xv 5 = .int .i64 L := hG.get g5.out (by simp [hd])
            have e8 : xv 8 = .int .i64 P := hG.get g8.out (by simp [hd])
            have e3 : xv 3 = .bool false := hG.get g3.out (by simp [hd])
            clear hd hin
            go_simp
            exact hK _ _ ⟨updV xv 9 (.bool true), by simp [updV, e5, e8, e3], hb, hG.same gk.out g9.out _ rfl⟩
          · refine wpOp_step rfl (fun K' hK => ?_)
            simp [Region.binds] at hd
            have e3 : xv 3 = .bool false := hG.get g3.out (by simp [hd])
            have e9 : xv 9 = .bool true := hG.get g9.out (by simp [hd])
            clear hd hin
            go_simp
            exact hK _ _ ⟨updV xv 10 (.bool true), by simp [updV, e3, e9], hb, hG.same gk.out g10.out _ rfl⟩
        · rintro listed ac W ⟨xv, rfl, hb, hG⟩ hall
          have e10 : xv 10 = .bool true := hG.get g10.out (hall 10 (by decide))
          have XW : Hid (Below w1.heap.size w1 W) := hb
          clear hall hG hb gk g0 g1 g2 g3 g4 g5 g6 g7 g8 g9 g10
          rw [e10]
          clear e10
          go_wp2
          go_ret
          exact ⟨by rw [HR2.out (by omega)]; rfl, below_mid B1.out XW.out⟩
  · have HM : Hid (mayE N B Q E F = 1) := mayE_no hm
    have HR : Hid (mayHE N B Q E F L = 1) := mayHE_no (fun h => hm h.1)
    rw [HR.out]
    clear hm HR
    go_enter Try.func48, Try.ntmps48
    go_wp2_with fail
    refine (pcheck_any N B Q E F _).mono ?_
    rintro e w1 ⟨rfl, hb1⟩
    rw [HM.out]
    have B1 : Hid (Below w.heap.size w w1) := below_mid (below_alloc _ _) hb1
    clear hb1
    go_wp2
    go_ret
    exact ⟨rfl, B1.out⟩

set_option maxRecDepth 100000 in
set_option maxHeartbeats 1000000 in
/-- The document's May of a header. -/
theorem rmayh_any (S N B Q E F L I : Int) (w : World) : Calls Try.prog 49 #[.agg #[.int .u64 S, .int .i64 N, .int .i64 B, .int .i64 Q, .int .i64 E, .int .i64 F, .int .i64 L, .int .u64 I]] w fun e w' => e = .returned (.bool (@decide (MayH N B Q E F L) (decMayH N B Q E F L))) ∧ Below w.heap.size w w' := by
  by_cases hm : May N B Q E F
  · have hr := (most_range hm.1 hm.2.1).1
    have HD : Hid (∀ b : Bool, (decide (0 ≤ L ∧ L ≤ N * B)) = b → @decide (MayH N B Q E F L) (decMayH N B Q E F L) = b) := by
      intro b hb
      rw [← hb]
      exact decide_eq_decide.2 ⟨fun h => h.2, fun h => ⟨hm, h⟩⟩
    obtain ⟨P, hP⟩ : ∃ P, N * B = P := ⟨_, rfl⟩
    rw [hP] at HD
    have k1 : IntKind.i64.wrap (N * B) = P := by rw [hr, hP]
    clear hr hP
    go_enter Try.func49, Try.ntmps49
    go_wp2_with fail
    refine (rmay_yes N B Q E F _ hm).mono ?_
    rintro e w1 ⟨rfl, hb1⟩
    have B1 : Hid (Below w.heap.size w w1) := below_mid (below_alloc _ _) hb1
    have E1 : Hid (Eight w1 w.heap.size S N B Q E F L I) := (eight_new w _ S N B Q E F L I).below hb1
    clear hb1 hm
    obtain ⟨c0, c1, c2, c3, c4, c5, c6, c7⟩ := E1.out
    by_cases hL : 0 ≤ L
    · by_cases hL2 : L ≤ P
      · go_wp2
        go_ret
        exact ⟨ret_bool (HD.out true (by simp [hL, hL2])).symm, B1.out⟩
      · go_wp2
        go_ret
        exact ⟨ret_bool (HD.out (decide (L ≤ P)) (by simp [hL])).symm, B1.out⟩
    · go_wp2
      go_ret
      exact ⟨ret_bool (HD.out false (by simp; omega)).symm, B1.out⟩
  · have HD : Hid (@decide (MayH N B Q E F L) (decMayH N B Q E F L) = false) := @decide_eq_false _ (decMayH N B Q E F L) (fun h => hm h.1)
    go_enter Try.func49, Try.ntmps49
    go_wp2_with fail
    refine (rmay_no N B Q E F _ hm).mono ?_
    rintro e w1 ⟨rfl, hb1⟩
    have B1 : Hid (Below w.heap.size w w1) := below_mid (below_alloc _ _) hb1
    clear hb1 hm
    go_wp2
    go_ret
    exact ⟨ret_bool HD.out.symm, B1.out⟩

end Go.Proofs.Ytijonjiioeahhaa
