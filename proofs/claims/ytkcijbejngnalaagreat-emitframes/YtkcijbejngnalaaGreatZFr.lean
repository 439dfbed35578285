/-
  Texts that lie together: FrA FrM FrB FrC FrD FrE FrF FrG FrH FrI FrJ FrK FrL.
-/
import Derived.Test.YtkcijbejngnalaaGreatZPar
import Derived.Test.YtkcijbejngnalaaGreatZCrc
import Derived.Deep.QuietTactic
import Derived.BigQuiet
import Derived.Test.YtkcijbejngnalaaGreatZWire
import Derived.Test.YtkcijbejngnalaaGreatZBase
import Derived.Deep.MidRow
import Derived.Laws.ResultCell
import Derived.Deep.RegionLaw
namespace Go.Proofs.YtkcijbejngnalaaGreat

section
/-
  The walks of package frame: New, Check; the document's May of a header.
-/
open Go.RowKit
set_option linter.unusedVariables false

/-- A header that may be. -/
def MayH (N B Q E F L : Int) : Prop := May N B Q E F ∧ 0 ≤ L ∧ L ≤ N * B

def decMayH (N B Q E F L : Int) : Decidable (MayH N B Q E F L) := @instDecidableAnd (May N B Q E F) (0 ≤ L ∧ L ≤ N * B) (decMay N B Q E F) inferInstance

def mayHE (N B Q E F L : Int) : Int := @ite Int (MayH N B Q E F L) (decMayH N B Q E F L) 0 1

theorem mayHE_no {N B Q E F L : Int} (h : ¬ MayH N B Q E F L) : mayHE N B Q E F L = 1 := if_neg h
theorem mayHE_yes {N B Q E F L : Int} (h : MayH N B Q E F L) : mayHE N B Q E F L = 0 := if_pos h

/-- A block of a header's numbers, as a box lies. -/
def Eight (W : World) (b : Nat) (S N B Q E F L I : Int) : Prop := W.cell? ⟨b, 0, none⟩ = some (.int .u64 S) ∧ W.cell? ⟨b, 1, none⟩ = some (.int .i64 N) ∧ W.cell? ⟨b, 2, none⟩ = some (.int .i64 B) ∧ W.cell? ⟨b, 3, none⟩ = some (.int .i64 Q) ∧ W.cell? ⟨b, 4, none⟩ = some (.int .i64 E) ∧ W.cell? ⟨b, 5, none⟩ = some (.int .i64 F) ∧ W.cell? ⟨b, 6, none⟩ = some (.int .i64 L) ∧ W.cell? ⟨b, 7, none⟩ = some (.int .u64 I)

theorem Eight.below {W W' : World} {b : Nat} {S N B Q E F L I : Int} (h : Eight W b S N B Q E F L I) (hb : Below W.heap.size W W') : Eight W' b S N B Q E F L I := by
  obtain ⟨h0, h1, h2, h3, h4, h5, h6, h7⟩ := h
  exact ⟨(hb.cell (cell_block_lt h0)).trans h0, (hb.cell (cell_block_lt h1)).trans h1, (hb.cell (cell_block_lt h2)).trans h2, (hb.cell (cell_block_lt h3)).trans h3, (hb.cell (cell_block_lt h4)).trans h4, (hb.cell (cell_block_lt h5)).trans h5, (hb.cell (cell_block_lt h6)).trans h6, (hb.cell (cell_block_lt h7)).trans h7⟩

theorem eight_new (w : World) (t : TypeId) (S N B Q E F L I : Int) : Eight (w.alloc (.cells #[.int .u64 S, .int .i64 N, .int .i64 B, .int .i64 Q, .int .i64 E, .int .i64 F, .int .i64 L, .int .u64 I] t)) w.heap.size S N B Q E F L I := by
  refine ⟨?_, ?_, ?_, ?_, ?_, ?_, ?_, ?_⟩ <;> simp

/-- A Codec at block c, its table at block g. -/
def IsCo (W : World) (c g : Nat) : Prop := W.cell? ⟨c, 0, none⟩ = some (.pointer (some ⟨g, 0, none⟩)) ∧ IsTab W g

theorem IsCo.below {W W' : World} {c g : Nat} (h : IsCo W c g) (hb : Below W.heap.size W W') : IsCo W' c g :=
  ⟨(hb.cell (cell_block_lt h.1)).trans h.1, h.2.below hb⟩

set_option maxRecDepth 100000 in
set_option maxHeartbeats 1000000 in
/-- NEW. -/
theorem fnew_any (w : World) : Calls Tryz.prog 24 #[] w fun e w' => ∃ c g, e = .returned (.pointer (some ⟨c, 0, none⟩)) ∧ IsCo w' c g ∧ Below w.heap.size w w' ∧ w.heap.size ≤ c ∧ w.heap.size ≤ g ∧ c < w'.heap.size := by
  go_enter Tryz.func24, Tryz.ntmps24
  go_wp2_with fail
  refine (new_c _).mono ?_
  rintro e w1 ⟨rfl, hT, hb1, hsz⟩
  have T1 : Hid (IsTab w1 w.heap.size) := hT
  have B1 : Hid (Below w.heap.size w w1) := hb1
  clear hT hb1 hsz
  go_wp2
  go_ret
  refine ⟨w1.heap.size, w.heap.size, rfl, ⟨by simp, T1.out.below (below_alloc _ _)⟩, below_mid B1.out (below_alloc _ _), B1.out.size, Nat.le_refl _, by simp⟩

set_option maxRecDepth 100000 in
set_option maxHeartbeats 1000000 in
/-- CHECK. -/
theorem fcheck_any (S N B Q E F L I : Int) (w : World) : Calls Tryz.prog 58 #[.agg #[.int .u64 S, .int .i64 N, .int .i64 B, .int .i64 Q, .int .i64 E, .int .i64 F, .int .i64 L, .int .u64 I]] w fun e w' => e = .returned (.int .i64 (mayHE N B Q E F L)) ∧ Below w.heap.size w w' := by
  by_cases hm : May N B Q E F
  · have HM : Hid (mayE N B Q E F = 0) := mayE_yes hm
    go_enter Tryz.func58, Tryz.ntmps58
    go_wp2_with fail
    refine (pcheck_any N B Q E F _).mono ?_
    rintro e w1 ⟨rfl, hb1⟩
    rw [HM.out]
    have B1 : Hid (Below w.heap.size w w1) := below_mid (below_alloc _ _) hb1
    have E1 : Hid (Eight w1 w.heap.size S N B Q E F L I) := (eight_new w _ S N B Q E F L I).below hb1
    clear hb1
    obtain ⟨q, hq⟩ : ∃ q, w.heap.size = q := ⟨_, rfl⟩
    rw [hq] at E1
    by_cases hL : L < 0
    · have HR : Hid (mayHE N B Q E F L = 1) := mayHE_no (fun h => by have := h.2.1; omega)
      obtain ⟨c0, c1, c2, c3, c4, c5, c6, c7⟩ := E1.out
      clear hm
      go_wp2
      go_quiet (fail)
      go_wp2
      go_ret
      exact ⟨by rw [HR.out]; rfl, below_drewN B1.out nq⟩
    · have hr := most_range hm.1 hm.2.1
      have A2 : Hid (∀ W, Calls Tryz.prog 73 #[.agg #[.int .i64 N, .int .i64 B, .int .i64 Q, .int .i64 E, .int .i64 F]] W fun e w' => e = .returned (.int .i64 (N * B)) ∧ Below W.heap.size W w') := fun W => most_any N B Q E F W hm.1 hm.2.1
      have HR1 : Hid (L ≤ N * B → mayHE N B Q E F L = 0) := fun h => mayHE_yes ⟨hm, by omega, h⟩
      have HR2 : Hid (¬ L ≤ N * B → mayHE N B Q E F L = 1) := fun h => mayHE_no (fun k => h k.2.2)
      generalize N * B = P at *
      clear hm hr
      go_wp2
      clear hq
      have BX : Hid (∀ W, Below w1.heap.size w1 W → Eight W q S N B Q E F L I) := fun W hW => E1.out.below hW
      have C2 : Hid (∀ W, Below w1.heap.size w1 W → Calls Tryz.prog 73 #[.agg #[.int .i64 N, .int .i64 B, .int .i64 Q, .int .i64 E, .int .i64 F]] W fun e w' => ∃ v, e = .returned v ∧ IsV (.int .i64 P) v w' ∧ Below W.heap.size W w') := fun W hW => calls_below (A2.out W)
      by_cases hP : L ≤ P
      · skip
        refine wp_region_any (by kernel_rfl) ?_
        obtain ⟨gs, hgs⟩ : ∃ gs : List (Value → World → Prop), gs = [IsV (.pointer (some ⟨q, 6, none⟩)), IsV (.int .i64 L), IsV (.bool false), IsV (.bool false), IsV (.pointer (some ⟨q, 6, none⟩)), IsV (.int .i64 L), IsV (.pointer (some ⟨q, 1, none⟩)), IsV (.agg #[.int .i64 N, .int .i64 B, .int .i64 Q, .int .i64 E, .int .i64 F]), IsV (.int .i64 P), IsV (.bool false), IsV (.bool false)] := ⟨_, rfl⟩
        have g0 : Hid (gs[0]? = some (IsV (.pointer (some ⟨q, 6, none⟩)))) := by unfold Hid; rw [hgs]; rfl
        have g1 : Hid (gs[1]? = some (IsV (.int .i64 L))) := by unfold Hid; rw [hgs]; rfl
        have g2 : Hid (gs[2]? = some (IsV (.bool false))) := by unfold Hid; rw [hgs]; rfl
        have g3 : Hid (gs[3]? = some (IsV (.bool false))) := by unfold Hid; rw [hgs]; rfl
        have g4 : Hid (gs[4]? = some (IsV (.pointer (some ⟨q, 6, none⟩)))) := by unfold Hid; rw [hgs]; rfl
        have g5 : Hid (gs[5]? = some (IsV (.int .i64 L))) := by unfold Hid; rw [hgs]; rfl
        have g6 : Hid (gs[6]? = some (IsV (.pointer (some ⟨q, 1, none⟩)))) := by unfold Hid; rw [hgs]; rfl
        have g7 : Hid (gs[7]? = some (IsV (.agg #[.int .i64 N, .int .i64 B, .int .i64 Q, .int .i64 E, .int .i64 F]))) := by unfold Hid; rw [hgs]; rfl
        have g8 : Hid (gs[8]? = some (IsV (.int .i64 P))) := by unfold Hid; rw [hgs]; rfl
        have g9 : Hid (gs[9]? = some (IsV (.bool false))) := by unfold Hid; rw [hgs]; rfl
        have g10 : Hid (gs[10]? = some (IsV (.bool false))) := by unfold Hid; rw [hgs]; rfl
        have gk : Hid (∀ p ∈ gs, Stays p) := by
          unfold Hid
          rw [hgs]
          simp only [List.forall_mem_cons]
          exact ⟨stays_v _, stays_v _, stays_v _, stays_v _, stays_v _, stays_v _, stays_v _, stays_v _, stays_v _, stays_v _, stays_v _, by simp⟩
        clear hgs
        refine wpAny_inv (fun listed ac W => ∃ xv : Nat → Value, ac = ⟨#[Value.agg #[Value.int IntKind.u64 S, Value.int IntKind.i64 N, Value.int IntKind.i64 B, Value.int IntKind.i64 Q, Value.int IntKind.i64 E, Value.int IntKind.i64 F, Value.int IntKind.i64 L, Value.int IntKind.u64 I], Value.pointer (some { block := q, off := 0 }), Value.int IntKind.i64 (0 : Int), Value.int IntKind.i64 (0 : Int), Value.pointer (some { block := q, off := 1 }), Value.agg #[Value.int IntKind.i64 N, Value.int IntKind.i64 B, Value.int IntKind.i64 Q, Value.int IntKind.i64 E, Value.int IntKind.i64 F], Value.int IntKind.i64 (0 : Int), Value.int IntKind.i64 (0 : Int), Value.bool false, undef, xv 0, xv 1, xv 2, xv 3, xv 4, xv 5, xv 6, xv 7, xv 8, xv 9, xv 10], []⟩ ∧ Below w1.heap.size w1 W ∧ Lst gs listed xv W) (by kernel_rfl) ?_ ?_ _ _ _ _ (by kernel_rfl) (of_decide_eq_true (by kernel_rfl)) ⟨fun j => undef, rfl, below0 _, Lst.start _ _ _ _⟩
        · rintro listed ac W ⟨xv, rfl, hb, hG⟩ i hi hd
          have hin : i < 11 := hi
          clear hi
          have hcase : i = 0 ∨ i = 1 ∨ i = 2 ∨ i = 3 ∨ i = 4 ∨ i = 5 ∨ i = 6 ∨ i = 7 ∨ i = 8 ∨ i = 9 ∨ i = 10 := by omega
          rcases hcase with rfl | rfl | rfl | rfl | rfl | rfl | rfl | rfl | rfl | rfl | rfl
          · refine wpOp_step rfl (fun K' hK => ?_)
            clear hd hin
            go_simp
            exact hK _ _ ⟨updV xv 0 (.pointer (some ⟨q, 6, none⟩)), by simp [updV], hb, hG.same gk.out g0.out _ rfl⟩
          · refine wpOp_step rfl (fun K' hK => ?_)
            simp [Region.binds] at hd
            have e0 : xv 0 = .pointer (some ⟨q, 6, none⟩) := hG.get g0.out (by simp [hd])
            obtain ⟨c0, c1, c2, c3, c4, c5, c6, c7⟩ := BX.out W hb
            clear hd hin
            go_simp
            exact hK _ _ ⟨updV xv 1 (.int .i64 L), by simp [updV, e0], hb, hG.same gk.out g1.out _ rfl⟩
          · refine wpOp_step rfl (fun K' hK => ?_)
            simp [Region.binds] at hd
            have e1 : xv 1 = .int .i64 L := hG.get g1.out (by simp [hd])
            clear hd hin
            go_simp
            exact hK _ _ ⟨updV xv 2 (.bool false), by simp [updV, e1, hL], hb, hG.same gk.out g2.out _ rfl⟩
          · refine wpOp_step rfl (fun K' hK => ?_)
            simp [Region.binds] at hd
            have e2 : xv 2 = .bool false := hG.get g2.out (by simp [hd])
            clear hd hin
            go_simp
            exact hK _ _ ⟨updV xv 3 (.bool false), by simp [updV, e2], hb, hG.same gk.out g3.out _ rfl⟩
          · refine wpOp_step rfl (fun K' hK => ?_)
            simp [Region.binds] at hd
            have e3 : xv 3 = .bool false := hG.get g3.out (by simp [hd])
            clear hd hin
            go_simp
            exact hK _ _ ⟨updV xv 4 (.pointer (some ⟨q, 6, none⟩)), by simp [updV, e3], hb, hG.same gk.out g4.out _ rfl⟩
          · refine wpOp_step rfl (fun K' hK => ?_)
            simp [Region.binds] at hd
            have e4 : xv 4 = .pointer (some ⟨q, 6, none⟩) := hG.get g4.out (by simp [hd])
            have e3 : xv 3 = .bool false := hG.get g3.out (by simp [hd])
            obtain ⟨c0, c1, c2, c3, c4, c5, c6, c7⟩ := BX.out W hb
            clear hd hin
            go_simp
            exact hK _ _ ⟨updV xv 5 (.int .i64 L), by simp [updV, e4, e3], hb, hG.same gk.out g5.out _ rfl⟩
          · refine wpOp_step rfl (fun K' hK => ?_)
            simp [Region.binds] at hd
            have e3 : xv 3 = .bool false := hG.get g3.out (by simp [hd])
            clear hd hin
            go_simp
            exact hK _ _ ⟨updV xv 6 (.pointer (some ⟨q, 1, none⟩)), by simp [updV, e3], hb, hG.same gk.out g6.out _ rfl⟩
          · refine wpOp_step rfl (fun K' hK => ?_)
            simp [Region.binds] at hd
            have e6 : xv 6 = .pointer (some ⟨q, 1, none⟩) := hG.get g6.out (by simp [hd])
            have e3 : xv 3 = .bool false := hG.get g3.out (by simp [hd])
            obtain ⟨c0, c1, c2, c3, c4, c5, c6, c7⟩ := BX.out W hb
            clear hd hin
            go_simp
            exact hK _ _ ⟨updV xv 7 (.agg #[.int .i64 N, .int .i64 B, .int .i64 Q, .int .i64 E, .int .i64 F]), by simp [updV, e6, e3], hb, hG.same gk.out g7.out _ rfl⟩
          · refine wpOp_step rfl (fun K' hK => ?_)
            simp [Region.binds] at hd
            have e7 : xv 7 = .agg #[.int .i64 N, .int .i64 B, .int .i64 Q, .int .i64 E, .int .i64 F] := hG.get g7.out (by simp [hd])
            have e3 : xv 3 = .bool false := hG.get g3.out (by simp [hd])
            clear hd hin
            go_simp
            refine (C2.out W hb).mono ?_
            rintro e w' ⟨v, rfl, hv, hb'⟩
            go_wp2_with fail
            exact ⟨updV xv 8 v, by simp [updV, e7, e3], hb.trans (hb'.mono hb.size), hG.step gk.out hb' g8.out v hv⟩
          · refine wpOp_step rfl (fun K' hK => ?_)
            simp [Region.binds] at hd
            have e5 : xv 5 = .int .i64 L := hG.get g5.out (by simp [hd])
            have e8 : xv 8 = .int .i64 P := hG.get g8.out (by simp [hd])
            have e3 : xv 3 = .bool false := hG.get g3.out (by simp [hd])
            clear hd hin
            go_simp
            exact hK _ _ ⟨updV xv 9 (.bool false), by simp [updV, e5, e8, e3, hP], hb, hG.same gk.out g9.out _ rfl⟩
          · refine wpOp_step rfl (fun K' hK => ?_)
            simp [Region.binds] at hd
            have e3 : xv 3 = .bool false := hG.get g3.out (by simp [hd])
            have e9 : xv 9 = .bool false := hG.get g9.out (by simp [hd])
            clear hd hin
            go_simp
            exact hK _ _ ⟨updV xv 10 (.bool false), by simp [updV, e3, e9], hb, hG.same gk.out g10.out _ rfl⟩
        · rintro listed ac W ⟨xv, rfl, hb, hG⟩ hall
          have e10 : xv 10 = .bool false := hG.get g10.out (hall 10 (by decide))
          have XW : Hid (Below w1.heap.size w1 W) := hb
          clear hall hG hb gk g0 g1 g2 g3 g4 g5 g6 g7 g8 g9 g10
          rw [e10]
          clear e10
          go_wp2
          go_ret
          exact ⟨by rw [HR1.out hP]; rfl, below_mid B1.out XW.out⟩
      · have hP2 : P < L := by omega
        refine wp_region_any (by kernel_rfl) ?_
        obtain ⟨gs, hgs⟩ : ∃ gs : List (Value → World → Prop), gs = [IsV (.pointer (some ⟨q, 6, none⟩)), IsV (.int .i64 L), IsV (.bool false), IsV (.bool false), IsV (.pointer (some ⟨q, 6, none⟩)), IsV (.int .i64 L), IsV (.pointer (some ⟨q, 1, none⟩)), IsV (.agg #[.int .i64 N, .int .i64 B, .int .i64 Q, .int .i64 E, .int .i64 F]), IsV (.int .i64 P), IsV (.bool true), IsV (.bool true)] := ⟨_, rfl⟩
        have g0 : Hid (gs[0]? = some (IsV (.pointer (some ⟨q, 6, none⟩)))) := by unfold Hid; rw [hgs]; rfl
        have g1 : Hid (gs[1]? = some (IsV (.int .i64 L))) := by unfold Hid; rw [hgs]; rfl
        have g2 : Hid (gs[2]? = some (IsV (.bool false))) := by unfold Hid; rw [hgs]; rfl
        have g3 : Hid (gs[3]? = some (IsV (.bool false))) := by unfold Hid; rw [hgs]; rfl
        have g4 : Hid (gs[4]? = some (IsV (.pointer (some ⟨q, 6, none⟩)))) := by unfold Hid; rw [hgs]; rfl
        have g5 : Hid (gs[5]? = some (IsV (.int .i64 L))) := by unfold Hid; rw [hgs]; rfl
        have g6 : Hid (gs[6]? = some (IsV (.pointer (some ⟨q, 1, none⟩)))) := by unfold Hid; rw [hgs]; rfl
        have g7 : Hid (gs[7]? = some (IsV (.agg #[.int .i64 N, .int .i64 B, .int .i64 Q, .int .i64 E, .int .i64 F]))) := by unfold Hid; rw [hgs]; rfl
        have g8 : Hid (gs[8]? = some (IsV (.int .i64 P))) := by unfold Hid; rw [hgs]; rfl
        have g9 : Hid (gs[9]? = some (IsV (.bool true))) := by unfold Hid; rw [hgs]; rfl
        have g10 : Hid (gs[10]? = some (IsV (.bool true))) := by unfold Hid; rw [hgs]; rfl
        have gk : Hid (∀ p ∈ gs, Stays p) := by
          unfold Hid
          rw [hgs]
          simp only [List.forall_mem_cons]
          exact ⟨stays_v _, stays_v _, stays_v _, stays_v _, stays_v _, stays_v _, stays_v _, stays_v _, stays_v _, stays_v _, stays_v _, by simp⟩
        clear hgs
        refine wpAny_inv (fun listed ac W => ∃ xv : Nat → Value, ac = ⟨#[Value.agg #[Value.int IntKind.u64 S, Value.int IntKind.i64 N, Value.int IntKind.i64 B, Value.int IntKind.i64 Q, Value.int IntKind.i64 E, Value.int IntKind.i64 F, Value.int IntKind.i64 L, Value.int IntKind.u64 I], Value.pointer (some { block := q, off := 0 }), Value.int IntKind.i64 (0 : Int), Value.int IntKind.i64 (0 : Int), Value.pointer (some { block := q, off := 1 }), Value.agg #[Value.int IntKind.i64 N, Value.int IntKind.i64 B, Value.int IntKind.i64 Q, Value.int IntKind.i64 E, Value.int IntKind.i64 F], Value.int IntKind.i64 (0 : Int), Value.int IntKind.i64 (0 : Int), Value.bool false, undef, xv 0, xv 1, xv 2, xv 3, xv 4, xv 5, xv 6, xv 7, xv 8, xv 9, xv 10], []⟩ ∧ Below w1.heap.size w1 W ∧ Lst gs listed xv W) (by kernel_rfl) ?_ ?_ _ _ _ _ (by kernel_rfl) (of_decide_eq_true (by kernel_rfl)) ⟨fun j => undef, rfl, below0 _, Lst.start _ _ _ _⟩
        · rintro listed ac W ⟨xv, rfl, hb, hG⟩ i hi hd
          have hin : i < 11 := hi
          clear hi
          have hcase : i = 0 ∨ i = 1 ∨ i = 2 ∨ i = 3 ∨ i = 4 ∨ i = 5 ∨ i = 6 ∨ i = 7 ∨ i = 8 ∨ i = 9 ∨ i = 10 := by omega
          rcases hcase with rfl | rfl | rfl | rfl | rfl | rfl | rfl | rfl | rfl | rfl | rfl
          · refine wpOp_step rfl (fun K' hK => ?_)
            clear hd hin
            go_simp
            exact hK _ _ ⟨updV xv 0 (.pointer (some ⟨q, 6, none⟩)), by simp [updV], hb, hG.same gk.out g0.out _ rfl⟩
          · refine wpOp_step rfl (fun K' hK => ?_)
            simp [Region.binds] at hd
            have e0 : xv 0 = .pointer (some ⟨q, 6, none⟩) := hG.get g0.out (by simp [hd])
            obtain ⟨c0, c1, c2, c3, c4, c5, c6, c7⟩ := BX.out W hb
            clear hd hin
            go_simp
            exact hK _ _ ⟨updV xv 1 (.int .i64 L), by simp [updV, e0], hb, hG.same gk.out g1.out _ rfl⟩
          · refine wpOp_step rfl (fun K' hK => ?_)
            simp [Region.binds] at hd
            have e1 : xv 1 = .int .i64 L := hG.get g1.out (by simp [hd])
            clear hd hin
            go_simp
            exact hK _ _ ⟨updV xv 2 (.bool false), by simp [updV, e1, hL], hb, hG.same gk.out g2.out _ rfl⟩
          · refine wpOp_step rfl (fun K' hK => ?_)
            simp [Region.binds] at hd
            have e2 : xv 2 = .bool false := hG.get g2.out (by simp [hd])
            clear hd hin
            go_simp
            exact hK _ _ ⟨updV xv 3 (.bool false), by simp [updV, e2], hb, hG.same gk.out g3.out _ rfl⟩
          · refine wpOp_step rfl (fun K' hK => ?_)
            simp [Region.binds] at hd
            have e3 : xv 3 = .bool false := hG.get g3.out (by simp [hd])
            clear hd hin
            go_simp
            exact hK _ _ ⟨updV xv 4 (.pointer (some ⟨q, 6, none⟩)), by simp [updV, e3], hb, hG.same gk.out g4.out _ rfl⟩
          · refine wpOp_step rfl (fun K' hK => ?_)
            simp [Region.binds] at hd
            have e4 : xv 4 = .pointer (some ⟨q, 6, none⟩) := hG.get g4.out (by simp [hd])
            have e3 : xv 3 = .bool false := hG.get g3.out (by simp [hd])
            obtain ⟨c0, c1, c2, c3, c4, c5, c6, c7⟩ := BX.out W hb
            clear hd hin
            go_simp
            exact hK _ _ ⟨updV xv 5 (.int .i64 L), by simp [updV, e4, e3], hb, hG.same gk.out g5.out _ rfl⟩
          · refine wpOp_step rfl (fun K' hK => ?_)
            simp [Region.binds] at hd
            have e3 : xv 3 = .bool false := hG.get g3.out (by simp [hd])
            clear hd hin
            go_simp
            exact hK _ _ ⟨updV xv 6 (.pointer (some ⟨q, 1, none⟩)), by simp [updV, e3], hb, hG.same gk.out g6.out _ rfl⟩
          · refine wpOp_step rfl (fun K' hK => ?_)
            simp [Region.binds] at hd
            have e6 : xv 6 = .pointer (some ⟨q, 1, none⟩) := hG.get g6.out (by simp [hd])
            have e3 : xv 3 = .bool false := hG.get g3.out (by simp [hd])
            obtain ⟨c0, c1, c2, c3, c4, c5, c6, c7⟩ := BX.out W hb
            clear hd hin
            go_simp
            exact hK _ _ ⟨updV xv 7 (.agg #[.int .i64 N, .int .i64 B, .int .i64 Q, .int .i64 E, .int .i64 F]), by simp [updV, e6, e3], hb, hG.same gk.out g7.out _ rfl⟩
          · refine wpOp_step rfl (fun K' hK => ?_)
            simp [Region.binds] at hd
            have e7 : xv 7 = .agg #[.int .i64 N, .int .i64 B, .int .i64 Q, .int .i64 E, .int .i64 F] := hG.get g7.out (by simp [hd])
            have e3 : xv 3 = .bool false := hG.get g3.out (by simp [hd])
            clear hd hin
            go_simp
            refine (C2.out W hb).mono ?_
            rintro e w' ⟨v, rfl, hv, hb'⟩
            go_wp2_with fail
            exact ⟨updV xv 8 v, by simp [updV, e7, e3], hb.trans (hb'.mono hb.size), hG.step gk.out hb' g8.out v hv⟩
          · refine wpOp_step rfl (fun K' hK => ?_)
            simp [Region.binds] at hd
            have e5 : xv 5 = .int .i64 L := hG.get g5.out (by simp [hd])
            have e8 : xv 8 = .int .i64 P := hG.get g8.out (by simp [hd])
            have e3 : xv 3 = .bool false := hG.get g3.out (by simp [hd])
            clear hd hin
            go_simp
            exact hK _ _ ⟨updV xv 9 (.bool true), by simp [updV, e5, e8, e3], hb, hG.same gk.out g9.out _ rfl⟩
          · refine wpOp_step rfl (fun K' hK => ?_)
            simp [Region.binds] at hd
            have e3 : xv 3 = .bool false := hG.get g3.out (by simp [hd])
            have e9 : xv 9 = .bool true := hG.get g9.out (by simp [hd])
            clear hd hin
            go_simp
            exact hK _ _ ⟨updV xv 10 (.bool true), by simp [updV, e3, e9], hb, hG.same gk.out g10.out _ rfl⟩
        · rintro listed ac W ⟨xv, rfl, hb, hG⟩ hall
          have e10 : xv 10 = .bool true := hG.get g10.out (hall 10 (by decide))
          have XW : Hid (Below w1.heap.size w1 W) := hb
          clear hall hG hb gk g0 g1 g2 g3 g4 g5 g6 g7 g8 g9 g10
          rw [e10]
          clear e10
          go_wp2
          go_ret
          exact ⟨by rw [HR2.out (by omega)]; rfl, below_mid B1.out XW.out⟩
  · have HM : Hid (mayE N B Q E F = 1) := mayE_no hm
    have HR : Hid (mayHE N B Q E F L = 1) := mayHE_no (fun h => hm h.1)
    rw [HR.out]
    clear hm HR
    go_enter Tryz.func58, Tryz.ntmps58
    go_wp2_with fail
    refine (pcheck_any N B Q E F _).mono ?_
    rintro e w1 ⟨rfl, hb1⟩
    rw [HM.out]
    have B1 : Hid (Below w.heap.size w w1) := below_mid (below_alloc _ _) hb1
    clear hb1
    go_wp2
    go_ret
    exact ⟨rfl, B1.out⟩

set_option maxRecDepth 100000 in
set_option maxHeartbeats 1000000 in
/-- The document's May of a header. -/
theorem rmayh_any (S N B Q E F L I : Int) (w : World) : Calls Tryz.prog 63 #[.agg #[.int .u64 S, .int .i64 N, .int .i64 B, .int .i64 Q, .int .i64 E, .int .i64 F, .int .i64 L, .int .u64 I]] w fun e w' => e = .returned (.bool (@decide (MayH N B Q E F L) (decMayH N B Q E F L))) ∧ Below w.heap.size w w' := by
  by_cases hm : May N B Q E F
  · have hr := (most_range hm.1 hm.2.1).1
    have HD : Hid (∀ b : Bool, (decide (0 ≤ L ∧ L ≤ N * B)) = b → @decide (MayH N B Q E F L) (decMayH N B Q E F L) = b) := by
      intro b hb
      rw [← hb]
      exact decide_eq_decide.2 ⟨fun h => h.2, fun h => ⟨hm, h⟩⟩
    obtain ⟨P, hP⟩ : ∃ P, N * B = P := ⟨_, rfl⟩
    rw [hP] at HD
    have k1 : IntKind.i64.wrap (N * B) = P := by rw [hr, hP]
    clear hr hP
    go_enter Tryz.func63, Tryz.ntmps63
    go_wp2_with fail
    refine (rmay_yes N B Q E F _ hm).mono ?_
    rintro e w1 ⟨rfl, hb1⟩
    have B1 : Hid (Below w.heap.size w w1) := below_mid (below_alloc _ _) hb1
    have E1 : Hid (Eight w1 w.heap.size S N B Q E F L I) := (eight_new w _ S N B Q E F L I).below hb1
    clear hb1 hm
    obtain ⟨c0, c1, c2, c3, c4, c5, c6, c7⟩ := E1.out
    by_cases hL : 0 ≤ L
    · by_cases hL2 : L ≤ P
      · go_wp2
        go_ret
        exact ⟨ret_bool (HD.out true (by simp [hL, hL2])).symm, B1.out⟩
      · go_wp2
        go_ret
        exact ⟨ret_bool (HD.out (decide (L ≤ P)) (by simp [hL])).symm, B1.out⟩
    · go_wp2
      go_ret
      exact ⟨ret_bool (HD.out false (by simp; omega)).symm, B1.out⟩
  · have HD : Hid (@decide (MayH N B Q E F L) (decMayH N B Q E F L) = false) := @decide_eq_false _ (decMayH N B Q E F L) (fun h => hm h.1)
    go_enter Tryz.func63, Tryz.ntmps63
    go_wp2_with fail
    refine (rmay_no N B Q E F _ hm).mono ?_
    rintro e w1 ⟨rfl, hb1⟩
    have B1 : Hid (Below w.heap.size w w1) := below_mid (below_alloc _ _) hb1
    clear hb1 hm
    go_wp2
    go_ret
    exact ⟨ret_bool HD.out.symm, B1.out⟩

end

section
/-
  Plain mathematics of frames: what is written, what is read; there and back.
-/
open Go.RowKit
set_option linter.unusedVariables false

/-- The head's bytes. -/
def headB (S N B Q E F L I : Nat) : List UInt8 := be 16716 2 ++ be 1 1 ++ be S 8 ++ be N 4 ++ be B 2 ++ be Q 1 ++ be E 2 ++ be F 2 ++ be L 8 ++ be I 8

theorem headB_length (S N B Q E F L I : Nat) : (headB S N B Q E F L I).length = 38 := by
  simp [headB, be_length]

/-- Bytes with their sum. -/
def sealB (l : List UInt8) : List UInt8 := l ++ be4 (MathA.sum l)

theorem sealB_length (l : List UInt8) : (sealB l).length = l.length + 4 := by simp [sealB, be4]

/-- A frame's bytes. -/
def frameB (S N B Q E F L I : Nat) (p : List UInt8) : List UInt8 := sealB (headB S N B Q E F L I ++ p)

theorem frameB_length (S N B Q E F L I : Nat) (p : List UInt8) : (frameB S N B Q E F L I p).length = 42 + p.length := by
  simp [frameB, sealB_length, headB_length]; omega

/-- The number that stands at a place. -/
def num (l : List UInt8) (a s : Nat) : Nat := num64 ((l.drop a).take s)

theorem num_lt (l : List UInt8) (a s : Nat) : num l a s < 18446744073709551616 := num64_lt _

theorem num_at (pre x post : List UInt8) (a s n : Nat) (ha : pre.length = a) (hx : x = be n s) (hn : n < 2 ^ (8 * s)) (h64 : n < 18446744073709551616) : num (pre ++ (x ++ post)) a s = n := by
  subst ha; subst hx
  unfold num
  rw [List.drop_left, List.take_left' (be_length n s)]
  exact num64_be n s hn h64

theorem num64_snoc (l : List UInt8) (x : UInt8) : num64 (l ++ [x]) = (num64 l * 256 + x.toNat) % 18446744073709551616 := by
  unfold num64
  rw [List.foldl_append]
  rfl

theorem num64_small (l : List UInt8) (h : l.length ≤ 8) : num64 l < 2 ^ (8 * l.length) := by
  have H : ∀ n, ∀ l : List UInt8, l.length = n → n ≤ 8 → num64 l < 2 ^ (8 * n) := by
    intro n
    induction n with
    | zero =>
      intro l hl _
      have : l = [] := List.eq_nil_of_length_eq_zero hl
      subst this
      simp [num64]
    | succ n ih =>
      intro l hl hn
      have hne : l ≠ [] := by intro e; subst e; simp at hl
      obtain ⟨l', x, rfl⟩ : ∃ l' x, l = l' ++ [x] := ⟨l.dropLast, l.getLast hne, (List.dropLast_concat_getLast hne).symm⟩
      have hl' : l'.length = n := by simp at hl; omega
      have h1 := ih l' hl' (by omega)
      have h2 := x.toNat_lt
      rw [num64_snoc]
      have e : (2 : Nat) ^ (8 * (n + 1)) = 2 ^ (8 * n) * 256 := by rw [show 8 * (n + 1) = 8 * n + 8 by omega, Nat.pow_add]
      rw [e]
      have h3 : num64 l' * 256 + x.toNat < 2 ^ (8 * n) * 256 := by omega
      exact Nat.lt_of_le_of_lt (Nat.mod_le _ _) h3
  exact H l.length l rfl h

theorem be_snoc (n s : Nat) : be n (s + 1) = be (n / 256) s ++ [UInt8.ofNat n] := by
  unfold be
  rw [List.range_succ, List.map_append]
  congr 1
  · apply List.map_congr_left
    intro i hi
    have hi' : i < s := by simpa using hi
    congr 1
    rw [show 8 * (s + 1 - 1 - i) = 8 + 8 * (s - 1 - i) by omega, Nat.pow_add, ← Nat.div_div_eq_div_mul]
  · simp

/-- Bytes are what their number is as bytes. -/
theorem be_num64 (l : List UInt8) (h : l.length ≤ 8) : be (num64 l) l.length = l := by
  have H : ∀ n, ∀ l : List UInt8, l.length = n → n ≤ 8 → be (num64 l) n = l := by
    intro n
    induction n with
    | zero =>
      intro l hl _
      have : l = [] := List.eq_nil_of_length_eq_zero hl
      subst this
      rfl
    | succ n ih =>
      intro l hl hn
      have hne : l ≠ [] := by intro e; subst e; simp at hl
      obtain ⟨l', x, rfl⟩ : ∃ l' x, l = l' ++ [x] := ⟨l.dropLast, l.getLast hne, (List.dropLast_concat_getLast hne).symm⟩
      have hl' : l'.length = n := by simp at hl; omega
      have h1 := num64_small l' (by omega)
      have h2 := x.toNat_lt
      have e : (2 : Nat) ^ (8 * l'.length) ≤ 2 ^ 56 := Nat.pow_le_pow_right (by omega) (by omega)
      have h3 : num64 l' * 256 + x.toNat < 18446744073709551616 := by omega
      rw [be_snoc, num64_snoc, Nat.mod_eq_of_lt h3]
      have h4 : (num64 l' * 256 + x.toNat) / 256 = num64 l' := by omega
      rw [h4, ih l' hl' (by omega)]
      congr 1
      have h5 : UInt8.ofNat (num64 l' * 256 + x.toNat) = x := by
        apply UInt8.toNat_inj.1
        simp
      rw [h5]
  exact H l.length l rfl h

theorem be_num (l : List UInt8) (a s : Nat) (h : a + s ≤ l.length) (hs : s ≤ 8) : be (num l a s) s = (l.drop a).take s := by
  have hl : ((l.drop a).take s).length = s := by simp; omega
  have := be_num64 ((l.drop a).take s) (by omega)
  rw [hl] at this
  exact this

theorem num_small (l : List UInt8) (a s : Nat) (hs : s ≤ 8) : num l a s < 2 ^ (8 * s) := by
  have h := num64_small ((l.drop a).take s) (by simp; omega)
  have h2 : (2 : Nat) ^ (8 * ((l.drop a).take s).length) ≤ 2 ^ (8 * s) := Nat.pow_le_pow_right (by omega) (by simp; omega)
  exact Nat.lt_of_lt_of_le h h2

/-- A number of 64 bits as an int. -/
def asInt (n : Nat) : Int := IntKind.i64.wrap (n : Int)

theorem asInt_small (n : Nat) (h : n < 9223372036854775808) : asInt n = (n : Int) := by
  unfold asInt
  rw [IntKind.wrap_i64]
  omega

theorem asInt_neg (n : Nat) (h : ¬ n < 9223372036854775808) (h2 : n < 18446744073709551616) : asInt n < 0 := by
  unfold asInt
  rw [IntKind.wrap_i64]
  omega

/-- What a head's bytes say: the error's number. -/
def headE (l : List UInt8) : Int :=
  if num l 0 2 ≠ 16716 then 5 else if num l 2 1 ≠ 1 then 6 else mayHE (num l 11 4) (num l 15 2) (num l 17 1) (num l 18 2) (num l 20 2) (asInt (num l 22 8))

/-- Why bytes are no frame: the error's number. -/
def parseE (l : List UInt8) : Int :=
  if l.length < 42 then 4 else if headE l ≠ 0 then headE l else if l.length ≠ 42 + num l 15 2 then 7 else if rightB l = false then 8 else 0

/-- There and back: the parts of a frame. -/
theorem frame_parts (S N B Q E F L I : Nat) (p : List UInt8) (hS : S < 2 ^ 64) (hN : N < 2 ^ 32) (hB : B < 2 ^ 16) (hQ : Q < 2 ^ 8) (hE : E < 2 ^ 16) (hF : F < 2 ^ 16) (hL : L < 2 ^ 64) (hI : I < 2 ^ 64) :
    let l := frameB S N B Q E F L I p
    num l 0 2 = 16716 ∧ num l 2 1 = 1 ∧ num l 3 8 = S ∧ num l 11 4 = N ∧ num l 15 2 = B ∧ num l 17 1 = Q ∧ num l 18 2 = E ∧ num l 20 2 = F ∧ num l 22 8 = L ∧ num l 30 8 = I ∧ (l.drop 38).take p.length = p := by
  have hl : ∀ n s, (be n s).length = s := be_length
  simp only [frameB, sealB, headB]
  generalize be4 (MathA.sum (be 16716 2 ++ be 1 1 ++ be S 8 ++ be N 4 ++ be B 2 ++ be Q 1 ++ be E 2 ++ be F 2 ++ be L 8 ++ be I 8 ++ p)) = z
  refine ⟨?_, ?_, ?_, ?_, ?_, ?_, ?_, ?_, ?_, ?_, ?_⟩
  · exact (congrArg (fun l => num l 0 2) (by simp only [List.append_assoc, List.nil_append])).trans (num_at [] (be 16716 2) (be 1 1 ++ (be S 8 ++ (be N 4 ++ (be B 2 ++ (be Q 1 ++ (be E 2 ++ (be F 2 ++ (be L 8 ++ (be I 8 ++ (p ++ z)))))))))) 0 2 _ rfl rfl (by decide) (by decide))
  · exact (congrArg (fun l => num l 2 1) (by simp only [List.append_assoc])).trans (num_at (be 16716 2) (be 1 1) (be S 8 ++ (be N 4 ++ (be B 2 ++ (be Q 1 ++ (be E 2 ++ (be F 2 ++ (be L 8 ++ (be I 8 ++ (p ++ z))))))))) 2 1 _ (hl _ _) rfl (by decide) (by decide))
  · exact (congrArg (fun l => num l 3 8) (by simp only [List.append_assoc])).trans (num_at (be 16716 2 ++ be 1 1) (be S 8) (be N 4 ++ (be B 2 ++ (be Q 1 ++ (be E 2 ++ (be F 2 ++ (be L 8 ++ (be I 8 ++ (p ++ z)))))))) 3 8 _ (by simp [hl]) rfl (by omega) (by omega))
  · exact (congrArg (fun l => num l 11 4) (by simp only [List.append_assoc])).trans (num_at (be 16716 2 ++ be 1 1 ++ be S 8) (be N 4) (be B 2 ++ (be Q 1 ++ (be E 2 ++ (be F 2 ++ (be L 8 ++ (be I 8 ++ (p ++ z))))))) 11 4 _ (by simp [hl]) rfl (by omega) (by omega))
  · exact (congrArg (fun l => num l 15 2) (by simp only [List.append_assoc])).trans (num_at (be 16716 2 ++ be 1 1 ++ be S 8 ++ be N 4) (be B 2) (be Q 1 ++ (be E 2 ++ (be F 2 ++ (be L 8 ++ (be I 8 ++ (p ++ z)))))) 15 2 _ (by simp [hl]) rfl (by omega) (by omega))
  · exact (congrArg (fun l => num l 17 1) (by simp only [List.append_assoc])).trans (num_at (be 16716 2 ++ be 1 1 ++ be S 8 ++ be N 4 ++ be B 2) (be Q 1) (be E 2 ++ (be F 2 ++ (be L 8 ++ (be I 8 ++ (p ++ z))))) 17 1 _ (by simp [hl]) rfl (by omega) (by omega))
  · exact (congrArg (fun l => num l 18 2) (by simp only [List.append_assoc])).trans (num_at (be 16716 2 ++ be 1 1 ++ be S 8 ++ be N 4 ++ be B 2 ++ be Q 1) (be E 2) (be F 2 ++ (be L 8 ++ (be I 8 ++ (p ++ z)))) 18 2 _ (by simp [hl]) rfl (by omega) (by omega))
  · exact (congrArg (fun l => num l 20 2) (by simp only [List.append_assoc])).trans (num_at (be 16716 2 ++ be 1 1 ++ be S 8 ++ be N 4 ++ be B 2 ++ be Q 1 ++ be E 2) (be F 2) (be L 8 ++ (be I 8 ++ (p ++ z))) 20 2 _ (by simp [hl]) rfl (by omega) (by omega))
  · exact (congrArg (fun l => num l 22 8) (by simp only [List.append_assoc])).trans (num_at (be 16716 2 ++ be 1 1 ++ be S 8 ++ be N 4 ++ be B 2 ++ be Q 1 ++ be E 2 ++ be F 2) (be L 8) (be I 8 ++ (p ++ z)) 22 8 _ (by simp [hl]) rfl (by omega) (by omega))
  · exact (congrArg (fun l => num l 30 8) (by simp only [List.append_assoc])).trans (num_at (be 16716 2 ++ be 1 1 ++ be S 8 ++ be N 4 ++ be B 2 ++ be Q 1 ++ be E 2 ++ be F 2 ++ be L 8) (be I 8) (p ++ z) 30 8 _ (by simp [hl]) rfl (by omega) (by omega))
  · rw [show (be 16716 2 ++ be 1 1 ++ be S 8 ++ be N 4 ++ be B 2 ++ be Q 1 ++ be E 2 ++ be F 2 ++ be L 8 ++ be I 8 ++ p ++ z) = (be 16716 2 ++ be 1 1 ++ be S 8 ++ be N 4 ++ be B 2 ++ be Q 1 ++ be E 2 ++ be F 2 ++ be L 8 ++ be I 8) ++ (p ++ z) by simp only [List.append_assoc]]
    rw [List.drop_left' (by simp [hl]), List.take_left]

/-- A frame of a header that may be is read. -/
theorem parse_frame (S N B Q E F L I : Nat) (p : List UInt8) (hS : S < 2 ^ 64) (hI : I < 2 ^ 64) (hm : MayH N B Q E F L) (hp : p.length = B) : parseE (frameB S N B Q E F L I p) = 0 := by
  obtain ⟨⟨hN, hB, hQ, hE, hF, hEF⟩, hL0, hL⟩ := hm
  have hr := most_range hN hB
  have hL64 : (L : Int) ≤ 68718428160 := by omega
  obtain ⟨h0, h1, h2, h3, h4, h5, h6, h7, h8, h9, h10⟩ := frame_parts S N B Q E F L I p hS (by omega) (by omega) (by omega) (by omega) (by omega) (by omega) hI
  have hlen := frameB_length S N B Q E F L I p
  have hright : rightB (frameB S N B Q E F L I p) = true := MathA.right_sealed _
  have hhead : headE (frameB S N B Q E F L I p) = 0 := by
    unfold headE
    rw [if_neg (by rw [h0]; simp), if_neg (by rw [h1]; simp), h3, h4, h5, h6, h7, h8, asInt_small L (by omega)]
    exact mayHE_yes ⟨⟨hN, hB, hQ, hE, hF, hEF⟩, hL0, hL⟩
  unfold parseE
  rw [if_neg (by omega), if_neg (by rw [hhead]; simp), if_neg (by rw [h4]; omega), if_neg (by rw [hright]; simp)]

theorem split_at (l : List UInt8) (a s : Nat) : l.drop a = (l.drop a).take s ++ l.drop (a + s) := by
  conv => lhs; rw [← List.take_append_drop s (l.drop a)]
  rw [List.drop_drop]

theorem tl (l : List UInt8) (a s : Nat) (h : a + s ≤ l.length) : ((l.drop a).take s).length = s := by simp; omega

set_option maxHeartbeats 1000000 in
/-- What is read is the frame of what was read. -/
theorem frame_parse (l : List UInt8) (h : parseE l = 0) :
    42 ≤ l.length ∧ l.length = 42 + num l 15 2 ∧ MayH (num l 11 4) (num l 15 2) (num l 17 1) (num l 18 2) (num l 20 2) (num l 22 8) ∧ asInt (num l 22 8) = (num l 22 8 : Nat) ∧
      frameB (num l 3 8) (num l 11 4) (num l 15 2) (num l 17 1) (num l 18 2) (num l 20 2) (num l 22 8) (num l 30 8) ((l.drop 38).take (num l 15 2)) = l := by
  unfold parseE at h
  split at h
  · simp at h
  next h42 =>
    split at h
    next hh => exact absurd h hh
    next hh =>
      split at h
      · simp at h
      next hlen =>
        split at h
        · simp at h
        next hright =>
          have hh' : headE l = 0 := Classical.not_not.1 hh
          have hl : l.length = 42 + num l 15 2 := Classical.not_not.1 hlen
          have hr : rightB l = true := by simpa using hright
          unfold headE at hh'
          split at hh'
          · simp at hh'
          next hm =>
            split at hh'
            · simp at hh'
            next hv =>
              have hm' : num l 0 2 = 16716 := Classical.not_not.1 hm
              have hv' : num l 2 1 = 1 := Classical.not_not.1 hv
              have hmay : MayH (num l 11 4) (num l 15 2) (num l 17 1) (num l 18 2) (num l 20 2) (asInt (num l 22 8)) := by
                by_cases k : MayH (num l 11 4) (num l 15 2) (num l 17 1) (num l 18 2) (num l 20 2) (asInt (num l 22 8))
                · exact k
                · rw [mayHE_no k] at hh'; simp at hh'
              have hL : asInt (num l 22 8) = (num l 22 8 : Nat) := by
                by_cases k : num l 22 8 < 9223372036854775808
                · exact asInt_small _ k
                · have := asInt_neg _ k (num_lt l 22 8)
                  have := hmay.2.1
                  omega
              refine ⟨by omega, hl, by rw [hL] at hmay; exact hmay, hL, ?_⟩
              have e4 : l.length - 4 = 38 + num l 15 2 := by omega
              have hspec := right_spec l (by omega)
              rw [hr, e4] at hspec
              have hspec' := (beq_iff_eq.1 hspec.symm)
              have hhd : headB (num l 3 8) (num l 11 4) (num l 15 2) (num l 17 1) (num l 18 2) (num l 20 2) (num l 22 8) (num l 30 8) ++ (l.drop 38).take (num l 15 2) = l.take (38 + num l 15 2) := by
                unfold headB
                rw [be_num l 3 8 (by omega) (by omega), be_num l 11 4 (by omega) (by omega), be_num l 15 2 (by omega) (by omega), be_num l 17 1 (by omega) (by omega), be_num l 18 2 (by omega) (by omega), be_num l 20 2 (by omega) (by omega), be_num l 22 8 (by omega) (by omega), be_num l 30 8 (by omega) (by omega)]
                have b0 : be 16716 2 = (l.drop 0).take 2 := by rw [← hm']; exact be_num l 0 2 (by omega) (by omega)
                have b1 : be 1 1 = (l.drop 2).take 1 := by rw [← be_num l 2 1 (by omega) (by omega), hv']
                rw [b0, b1]
                generalize num l 15 2 = n at *
                have s0 := split_at l 0 2
                have s1 := split_at l 2 1
                have s2 := split_at l 3 8
                have s3 := split_at l 11 4
                have s4 := split_at l 15 2
                have s5 := split_at l 17 1
                have s6 := split_at l 18 2
                have s7 := split_at l 20 2
                have s8 := split_at l 22 8
                have s9 := split_at l 30 8
                have s10 := split_at l 38 n
                simp only [Nat.zero_add, Nat.reduceAdd] at s0 s1 s2 s3 s4 s5 s6 s7 s8 s9 s10
                have hfull : l.drop 0 = ((l.drop 0).take 2 ++ (l.drop 2).take 1 ++ (l.drop 3).take 8 ++ (l.drop 11).take 4 ++ (l.drop 15).take 2 ++ (l.drop 17).take 1 ++ (l.drop 18).take 2 ++ (l.drop 20).take 2 ++ (l.drop 22).take 8 ++ (l.drop 30).take 8 ++ (l.drop 38).take n) ++ l.drop (38 + n) := by
                  simp only [List.append_assoc]
                  rw [← s10, ← s9, ← s8, ← s7, ← s6, ← s5, ← s4, ← s3, ← s2, ← s1, ← s0]
                have hlen2 : ((l.drop 0).take 2 ++ (l.drop 2).take 1 ++ (l.drop 3).take 8 ++ (l.drop 11).take 4 ++ (l.drop 15).take 2 ++ (l.drop 17).take 1 ++ (l.drop 18).take 2 ++ (l.drop 20).take 2 ++ (l.drop 22).take 8 ++ (l.drop 30).take 8 ++ (l.drop 38).take n).length = 38 + n := by
                  simp only [List.length_append, tl l 0 2 (by omega), tl l 2 1 (by omega), tl l 3 8 (by omega), tl l 11 4 (by omega), tl l 15 2 (by omega), tl l 17 1 (by omega), tl l 18 2 (by omega), tl l 20 2 (by omega), tl l 22 8 (by omega), tl l 30 8 (by omega), tl l 38 n (by omega)]
                have hres := congrArg (List.take (38 + n)) hfull
                rw [List.take_left' hlen2, List.drop_zero] at hres
                exact hres.symm
              unfold frameB sealB
              rw [hhd]
              exact hspec'

end

section
/-
  The walks of package frame: writeHead, Encode.
-/
open Go.RowKit
set_option linter.unusedVariables false

/-- A Writer's state while a header's block is read beside it. -/
def WH (w0 : World) (base b hb : Nat) (row0 : Option Nat) (S N B Q E F L I : Int) (T : List UInt8) (W : World) : Prop :=
  ∃ row, IsWr W base b row T ∧ Eight W hb S N B Q E F L I ∧ row ≠ some hb ∧ b ≠ hb ∧ base ≤ W.heap.size ∧ Fr w0 W b row0 ∧ (row = row0 ∨ ∃ k, row = some k ∧ w0.heap.size ≤ k)

theorem Eight.kept {W W' : World} {b : Nat} {S N B Q E F L I : Int} (h : Eight W b S N B Q E F L I) (hb : W'.heap[b]? = W.heap[b]?) : Eight W' b S N B Q E F L I := by
  obtain ⟨h0, h1, h2, h3, h4, h5, h6, h7⟩ := h
  exact ⟨(World.cell?_of_block (a := ⟨b, 0, none⟩) hb).trans h0, (World.cell?_of_block (a := ⟨b, 1, none⟩) hb).trans h1, (World.cell?_of_block (a := ⟨b, 2, none⟩) hb).trans h2, (World.cell?_of_block (a := ⟨b, 3, none⟩) hb).trans h3, (World.cell?_of_block (a := ⟨b, 4, none⟩) hb).trans h4, (World.cell?_of_block (a := ⟨b, 5, none⟩) hb).trans h5, (World.cell?_of_block (a := ⟨b, 6, none⟩) hb).trans h6, (World.cell?_of_block (a := ⟨b, 7, none⟩) hb).trans h7⟩

theorem wh_put (w0 : World) (base b hb : Nat) (row0 : Option Nat) (S N B Q E F L I : Int) (T : List UInt8) (W : World) (n s : Nat) (h : WH w0 base b hb row0 S N B Q E F L I T W) (h1 : 1 ≤ s) (h8 : s ≤ 8) (hn : n < 2 ^ (8 * s)) (hl : T.length ≤ 1000000) :
    Calls Tryz.prog 94 #[.pointer (some ⟨b, 0, none⟩), .int .u64 n, .int .i64 s] W fun e w' => e = .returned (.bool true) ∧ WH w0 base b hb row0 S N B Q E F L I (T ++ be n s) w' := by
  obtain ⟨row, hw, h8', hr, hbh, hbase, hf, hrow⟩ := h
  refine (put_yes base b row T n s W hw hbase h1 h8 hn hl).mono ?_
  rintro e w' ⟨rfl, row', hw', hf', hr'⟩
  have hlt : hb < W.heap.size := cell_block_lt h8'.1
  have R := fr_trans hf hrow hf' hr'
  refine ⟨rfl, row', hw', h8'.kept (hf'.block hb hlt (Ne.symm hbh) (Ne.symm hr)), ?_, hbh, by have := hf'.size; omega, R.1, R.2⟩
  rcases hr' with rfl | ⟨k, rfl, hk⟩
  · exact hr
  · intro e; injection e with e; omega

theorem wrapU (n : Nat) (h : n < 18446744073709551616) : IntKind.u64.wrap (n : Int) = (n : Int) := by
  simp [IntKind.wrap, IntKind.bits, IntKind.signed]; omega

set_option maxRecDepth 100000 in
set_option maxHeartbeats 2000000 in
/-- writeHead. -/
theorem whead_any (base b : Nat) (row : Option Nat) (S N B Q E F L I : Nat) (w : World) (hw : IsWr w base b row []) (hbase : base ≤ w.heap.size) (hS : S < 2 ^ 64) (hN : N < 2 ^ 32) (hB : B < 2 ^ 16) (hQ : Q < 2 ^ 8) (hE : E < 2 ^ 16) (hF : F < 2 ^ 16) (hL : L < 2 ^ 63) (hI : I < 2 ^ 64) :
    Calls Tryz.prog 59 #[.pointer (some ⟨b, 0, none⟩), .agg #[.int .u64 (S : Nat), .int .i64 (N : Nat), .int .i64 (B : Nat), .int .i64 (Q : Nat), .int .i64 (E : Nat), .int .i64 (F : Nat), .int .i64 (L : Nat), .int .u64 (I : Nat)]] w fun e w' => e = .returned (.tuple #[]) ∧ ∃ row', IsWr w' base b row' (headB S N B Q E F L I) ∧ Fr w w' b row ∧ (row' = row ∨ ∃ k, row' = some k ∧ w.heap.size ≤ k) := by
  have hb0 : Below w.heap.size w (w.alloc (.cells #[.int .u64 (S : Nat), .int .i64 (N : Nat), .int .i64 (B : Nat), .int .i64 (Q : Nat), .int .i64 (E : Nat), .int .i64 (F : Nat), .int .i64 (L : Nat), .int .u64 (I : Nat)] 39)) := below_alloc _ _
  have H0 : Hid (WH w base b w.heap.size row S N B Q E F L I [] (w.alloc (.cells #[.int .u64 (S : Nat), .int .i64 (N : Nat), .int .i64 (B : Nat), .int .i64 (Q : Nat), .int .i64 (E : Nat), .int .i64 (F : Nat), .int .i64 (L : Nat), .int .u64 (I : Nat)] 39))) := by
    refine ⟨row, hw.below hb0, eight_new _ _ _ _ _ _ _ _ _ _, ?_, ?_, by simp; omega, ⟨hb0.os, hb0.tape, hb0.output, hb0.size, fun k hk _ _ => hb0.block k hk⟩, .inl rfl⟩
    · intro e
      have := (hw.lt.2 _ e).2
      omega
    · have := hw.lt.1
      omega
  obtain ⟨k1, k2, k3, k4, k5, k6⟩ : IntKind.u64.wrap (N : Int) = (N : Int) ∧ IntKind.u64.wrap (B : Int) = (B : Int) ∧ IntKind.u64.wrap (Q : Int) = (Q : Int) ∧ IntKind.u64.wrap (E : Int) = (E : Int) ∧ IntKind.u64.wrap (F : Int) = (F : Int) ∧ IntKind.u64.wrap (L : Int) = (L : Int) :=
    ⟨wrapU N (by omega), wrapU B (by omega), wrapU Q (by omega), wrapU E (by omega), wrapU F (by omega), wrapU L (by omega)⟩
  have B2 : Hid (S < 2 ^ (8 * 8)) := hS
  have B3 : Hid (N < 2 ^ (8 * 4)) := hN
  have B4 : Hid (B < 2 ^ (8 * 2)) := hB
  have B5 : Hid (Q < 2 ^ (8 * 1)) := hQ
  have B6 : Hid (E < 2 ^ (8 * 2)) := hE
  have B7 : Hid (F < 2 ^ (8 * 2)) := hF
  have B8 : Hid (L < 2 ^ (8 * 8)) := by unfold Hid; omega
  have B9 : Hid (I < 2 ^ (8 * 8)) := hI
  clear hw hbase hS hN hB hQ hE hF hL hI hb0
  have LE : Hid (∀ n s, (be n s).length = s) := be_length
  go_enter Tryz.func59, Tryz.ntmps59
  go_wp2_with fail
  refine (wh_put w base b w.heap.size row S N B Q E F L I ([]) _ 16716 2 H0.out (by omega) (by omega) (by decide) (by simp)).mono ?_
  rintro e w1 ⟨rfl, h⟩
  have H1 : Hid (WH w base b w.heap.size row S N B Q E F L I ([] ++ be 16716 2) w1) := h
  clear h H0
  go_wp2_with fail
  refine (wh_put w base b w.heap.size row S N B Q E F L I ([] ++ be 16716 2) _ 1 1 H1.out (by omega) (by omega) (by decide) (by simp [LE.out])).mono ?_
  rintro e w2 ⟨rfl, h⟩
  have H2 : Hid (WH w base b w.heap.size row S N B Q E F L I ([] ++ be 16716 2 ++ be 1 1) w2) := h
  clear h H1
  have E2 := H2.out
  obtain ⟨_, _, ⟨c0, c1, c2, c3, c4, c5, c6, c7⟩, _⟩ := E2
  go_wp2_with fail
  refine (wh_put w base b w.heap.size row S N B Q E F L I ([] ++ be 16716 2 ++ be 1 1) _ S 8 H2.out (by omega) (by omega) B2.out (by simp [LE.out])).mono ?_
  rintro e w3 ⟨rfl, h⟩
  have H3 : Hid (WH w base b w.heap.size row S N B Q E F L I ([] ++ be 16716 2 ++ be 1 1 ++ be S 8) w3) := h
  clear h H2 c0 c1 c2 c3 c4 c5 c6 c7
  have E3 := H3.out
  obtain ⟨_, _, ⟨c0, c1, c2, c3, c4, c5, c6, c7⟩, _⟩ := E3
  go_wp2_with fail
  refine (wh_put w base b w.heap.size row S N B Q E F L I ([] ++ be 16716 2 ++ be 1 1 ++ be S 8) _ N 4 H3.out (by omega) (by omega) B3.out (by simp [LE.out])).mono ?_
  rintro e w4 ⟨rfl, h⟩
  have H4 : Hid (WH w base b w.heap.size row S N B Q E F L I ([] ++ be 16716 2 ++ be 1 1 ++ be S 8 ++ be N 4) w4) := h
  clear h H3 c0 c1 c2 c3 c4 c5 c6 c7
  have E4 := H4.out
  obtain ⟨_, _, ⟨c0, c1, c2, c3, c4, c5, c6, c7⟩, _⟩ := E4
  go_wp2_with fail
  refine (wh_put w base b w.heap.size row S N B Q E F L I ([] ++ be 16716 2 ++ be 1 1 ++ be S 8 ++ be N 4) _ B 2 H4.out (by omega) (by omega) B4.out (by simp [LE.out])).mono ?_
  rintro e w5 ⟨rfl, h⟩
  have H5 : Hid (WH w base b w.heap.size row S N B Q E F L I ([] ++ be 16716 2 ++ be 1 1 ++ be S 8 ++ be N 4 ++ be B 2) w5) := h
  clear h H4 c0 c1 c2 c3 c4 c5 c6 c7
  have E5 := H5.out
  obtain ⟨_, _, ⟨c0, c1, c2, c3, c4, c5, c6, c7⟩, _⟩ := E5
  go_wp2_with fail
  refine (wh_put w base b w.heap.size row S N B Q E F L I ([] ++ be 16716 2 ++ be 1 1 ++ be S 8 ++ be N 4 ++ be B 2) _ Q 1 H5.out (by omega) (by omega) B5.out (by simp [LE.out])).mono ?_
  rintro e w6 ⟨rfl, h⟩
  have H6 : Hid (WH w base b w.heap.size row S N B Q E F L I ([] ++ be 16716 2 ++ be 1 1 ++ be S 8 ++ be N 4 ++ be B 2 ++ be Q 1) w6) := h
  clear h H5 c0 c1 c2 c3 c4 c5 c6 c7
  have E6 := H6.out
  obtain ⟨_, _, ⟨c0, c1, c2, c3, c4, c5, c6, c7⟩, _⟩ := E6
  go_wp2_with fail
  refine (wh_put w base b w.heap.size row S N B Q E F L I ([] ++ be 16716 2 ++ be 1 1 ++ be S 8 ++ be N 4 ++ be B 2 ++ be Q 1) _ E 2 H6.out (by omega) (by omega) B6.out (by simp [LE.out])).mono ?_
  rintro e w7 ⟨rfl, h⟩
  have H7 : Hid (WH w base b w.heap.size row S N B Q E F L I ([] ++ be 16716 2 ++ be 1 1 ++ be S 8 ++ be N 4 ++ be B 2 ++ be Q 1 ++ be E 2) w7) := h
  clear h H6 c0 c1 c2 c3 c4 c5 c6 c7
  have E7 := H7.out
  obtain ⟨_, _, ⟨c0, c1, c2, c3, c4, c5, c6, c7⟩, _⟩ := E7
  go_wp2_with fail
  refine (wh_put w base b w.heap.size row S N B Q E F L I ([] ++ be 16716 2 ++ be 1 1 ++ be S 8 ++ be N 4 ++ be B 2 ++ be Q 1 ++ be E 2) _ F 2 H7.out (by omega) (by omega) B7.out (by simp [LE.out])).mono ?_
  rintro e w8 ⟨rfl, h⟩
  have H8 : Hid (WH w base b w.heap.size row S N B Q E F L I ([] ++ be 16716 2 ++ be 1 1 ++ be S 8 ++ be N 4 ++ be B 2 ++ be Q 1 ++ be E 2 ++ be F 2) w8) := h
  clear h H7 c0 c1 c2 c3 c4 c5 c6 c7
  have E8 := H8.out
  obtain ⟨_, _, ⟨c0, c1, c2, c3, c4, c5, c6, c7⟩, _⟩ := E8
  go_wp2_with fail
  refine (wh_put w base b w.heap.size row S N B Q E F L I ([] ++ be 16716 2 ++ be 1 1 ++ be S 8 ++ be N 4 ++ be B 2 ++ be Q 1 ++ be E 2 ++ be F 2) _ L 8 H8.out (by omega) (by omega) B8.out (by simp [LE.out])).mono ?_
  rintro e w9 ⟨rfl, h⟩
  have H9 : Hid (WH w base b w.heap.size row S N B Q E F L I ([] ++ be 16716 2 ++ be 1 1 ++ be S 8 ++ be N 4 ++ be B 2 ++ be Q 1 ++ be E 2 ++ be F 2 ++ be L 8) w9) := h
  clear h H8 c0 c1 c2 c3 c4 c5 c6 c7
  have E9 := H9.out
  obtain ⟨_, _, ⟨c0, c1, c2, c3, c4, c5, c6, c7⟩, _⟩ := E9
  go_wp2_with fail
  refine (wh_put w base b w.heap.size row S N B Q E F L I ([] ++ be 16716 2 ++ be 1 1 ++ be S 8 ++ be N 4 ++ be B 2 ++ be Q 1 ++ be E 2 ++ be F 2 ++ be L 8) _ I 8 H9.out (by omega) (by omega) B9.out (by simp [LE.out])).mono ?_
  rintro e w10 ⟨rfl, h⟩
  have H10 : Hid (WH w base b w.heap.size row S N B Q E F L I ([] ++ be 16716 2 ++ be 1 1 ++ be S 8 ++ be N 4 ++ be B 2 ++ be Q 1 ++ be E 2 ++ be F 2 ++ be L 8 ++ be I 8) w10) := h
  clear h H9 c0 c1 c2 c3 c4 c5 c6 c7
  go_wp2
  go_end0
  obtain ⟨row', hw', -, -, -, -, hf, hr⟩ := H10.out
  exact ⟨rfl, row', by simpa [headB] using hw', hf, hr⟩

end

section
/-
  The walk of package frame: Encode.
-/
open Go.RowKit
set_option linter.unusedVariables false

/-- A packet's block, as a box lies. -/
def Nine (W : World) (b : Nat) (S N B Q E F L I : Int) (v : Value) : Prop := Eight W b S N B Q E F L I ∧ W.cell? ⟨b, 8, none⟩ = some v

theorem Nine.below {W W' : World} {b : Nat} {S N B Q E F L I : Int} {v : Value} (h : Nine W b S N B Q E F L I v) (hb : Below W.heap.size W W') : Nine W' b S N B Q E F L I v :=
  ⟨h.1.below hb, (hb.cell (cell_block_lt h.2)).trans h.2⟩

theorem Nine.kept {W W' : World} {b : Nat} {S N B Q E F L I : Int} {v : Value} (h : Nine W b S N B Q E F L I v) (hb : W'.heap[b]? = W.heap[b]?) : Nine W' b S N B Q E F L I v :=
  ⟨h.1.kept hb, (World.cell?_of_block (a := ⟨b, 8, none⟩) hb).trans h.2⟩

theorem Nine.lt {W : World} {b : Nat} {S N B Q E F L I : Int} {v : Value} (h : Nine W b S N B Q E F L I v) : b < W.heap.size := cell_block_lt h.2

theorem nine_new (w : World) (t : TypeId) (S N B Q E F L I : Int) (v : Value) : Nine (w.alloc (.cells #[.int .u64 S, .int .i64 N, .int .i64 B, .int .i64 Q, .int .i64 E, .int .i64 F, .int .i64 L, .int .u64 I, v] t)) w.heap.size S N B Q E F L I v := by
  refine ⟨⟨?_, ?_, ?_, ?_, ?_, ?_, ?_, ?_⟩, ?_⟩ <;> simp

theorem sl_one {W : World} {q : Nat} {v : Value} (h : W.cell? ⟨q, 0, none⟩ = some v) : Sl 1 W (.slice (some ⟨q, 0, none⟩) 1 1) [v].length [v] := by
  refine ⟨rfl, _, _, rfl, Nat.le_refl _, by simp [maxLen], fun h => by simp at h, .inr ⟨_, _, rfl, ?_⟩⟩
  intro j u hj
  have : j = 0 := by have := (List.getElem?_eq_some_iff.1 hj).1; simp at this; omega
  subst this
  simp at hj
  subst hj
  exact h

/-- New bytes at the head of a block, which may be written. -/
def IsOb (base : Nat) (l : List UInt8) : Value → World → Prop := fun v W => ∃ q, v = .slice (some ⟨q, 0, none⟩) l.length l.length ∧ base ≤ q ∧ Own W q l

theorem stays_ob (base : Nat) (l : List UInt8) : Stays (IsOb base l) := fun _ _ _ hb ⟨q, h1, h2, h3⟩ => ⟨q, h1, h2, h3.kept (hb.block q h3.lt)⟩

set_option maxRecDepth 100000 in
set_option maxHeartbeats 1000000 in
/-- ENCODE, where the header may not be. -/
theorem enc_no (c : Nat) (S N B Q E F L I : Int) (v : Value) (w : World) (hm : ¬ MayH N B Q E F L) :
    Calls Tryz.prog 25 #[.pointer (some ⟨c, 0, none⟩), .agg #[.int .u64 S, .int .i64 N, .int .i64 B, .int .i64 Q, .int .i64 E, .int .i64 F, .int .i64 L, .int .u64 I, v]] w fun e w' => e = .returned (.tuple #[.slice none 0 0, .int .i64 1]) ∧ Below w.heap.size w w' := by
  have HM : Hid (mayHE N B Q E F L = 1) := mayHE_no hm
  clear hm
  go_enter Tryz.func25, Tryz.ntmps25
  go_wp2_with fail
  refine (fcheck_any S N B Q E F L I _).mono ?_
  rintro e w1 ⟨rfl, hb1⟩
  rw [HM.out]
  have B1 : Hid (Below w.heap.size w w1) := below_mid (below_alloc _ _) hb1
  clear hb1
  go_wp2
  go_ret2
  exact ⟨rfl, B1.out⟩

set_option maxRecDepth 100000 in
set_option maxHeartbeats 1000000 in
/-- ENCODE, where the payload isn't as long. -/
theorem enc_len (c : Nat) (S N B Q E F L I : Int) (a : Option Addr) (n k : Nat) (w : World) (hm : MayH N B Q E F L) (hn : (n : Int) ≠ B) :
    Calls Tryz.prog 25 #[.pointer (some ⟨c, 0, none⟩), .agg #[.int .u64 S, .int .i64 N, .int .i64 B, .int .i64 Q, .int .i64 E, .int .i64 F, .int .i64 L, .int .u64 I, .slice a n k]] w fun e w' => e = .returned (.tuple #[.slice none 0 0, .int .i64 7]) ∧ Below w.heap.size w w' := by
  have HM : Hid (mayHE N B Q E F L = 0) := mayHE_yes hm
  clear hm
  go_enter Tryz.func25, Tryz.ntmps25
  go_wp2_with fail
  refine (fcheck_any S N B Q E F L I _).mono ?_
  rintro e w1 ⟨rfl, hb1⟩
  rw [HM.out]
  have B1 : Hid (Below w.heap.size w w1) := below_mid (below_alloc _ _) hb1
  have N1 : Hid (Nine w1 w.heap.size S N B Q E F L I (.slice a n k)) := (nine_new w _ S N B Q E F L I _).below hb1
  clear hb1
  obtain ⟨⟨c0, c1, c2, c3, c4, c5, c6, c7⟩, c8⟩ := N1.out
  go_wp2
  go_ret2
  exact ⟨rfl, B1.out⟩

set_option maxRecDepth 100000 in
set_option maxHeartbeats 2000000 in
/-- ENCODE: the frame. -/
theorem enc_yes (c g : Nat) (S N B Q E F L I : Nat) (a : Option Addr) (k : Nat) (p : List UInt8) (w : World) (hco : IsCo w c g) (hm : MayH N B Q E F L) (hS : S < 2 ^ 64) (hI : I < 2 ^ 64) (hp : Bs w (.slice a B k) p) (hpl : p.length = B) (hB10 : B ≤ 10000) :
    Calls Tryz.prog 25 #[.pointer (some ⟨c, 0, none⟩), .agg #[.int .u64 (S : Nat), .int .i64 (N : Nat), .int .i64 (B : Nat), .int .i64 (Q : Nat), .int .i64 (E : Nat), .int .i64 (F : Nat), .int .i64 (L : Nat), .int .u64 (I : Nat), .slice a B k]] w fun e w' => ∃ q, e = .returned (.tuple #[.slice (some ⟨q, 0, none⟩) (42 + B) (42 + B), .int .i64 0]) ∧ w.heap.size ≤ q ∧ Own w' q (frameB S N B Q E F L I p) ∧ Below w.heap.size w w' := by
  have HM : Hid (mayHE N B Q E F L = 0) := mayHE_yes hm
  obtain ⟨⟨hN, hB, hQ, hE, hF, hEF⟩, hL0, hL⟩ := hm
  have hr := most_range hN hB
  have HB : Hid (S < 2 ^ 64 ∧ N < 2 ^ 32 ∧ B < 2 ^ 16 ∧ Q < 2 ^ 8 ∧ E < 2 ^ 16 ∧ F < 2 ^ 16 ∧ L < 2 ^ 63 ∧ I < 2 ^ 64) := ⟨hS, by omega, by omega, by omega, by omega, by omega, by omega, hI⟩
  have HC : Hid (IsCo w c g) := hco
  have HP : Hid (Bs w (.slice a B k) p) := hp
  have HPL : Hid (p.length = B) := hpl
  have HFL : Hid ((frameB S N B Q E F L I p).length = 42 + B) := by unfold Hid; rw [frameB_length, hpl]
  clear hN hB hQ hE hF hEF hL0 hL hr hS hI hco hp hpl
  go_enter Tryz.func25, Tryz.ntmps25
  go_wp2_with fail
  refine (fcheck_any S N B Q E F L I _).mono ?_
  rintro e w1 ⟨rfl, hb1⟩
  rw [HM.out]
  have B1 : Hid (Below w.heap.size w w1) := below_mid (below_alloc _ _) hb1
  have N1 : Hid (Nine w1 w.heap.size S N B Q E F L I (.slice a B k)) := (nine_new w _ S N B Q E F L I _).below hb1
  clear hb1
  obtain ⟨⟨c0, c1, c2, c3, c4, c5, c6, c7⟩, c8⟩ := N1.out
  have hlt := N1.out.lt
  go_wp2_with fail
  obtain ⟨b, hb⟩ : ∃ b, w1.heap.size = b := ⟨_, rfl⟩
  have W2 : Hid (IsWr (w1.alloc (.cells #[.slice none 0 0] 125)) b b none []) := by
    have h := zero_wr w1 w1.heap.size (Nat.le_refl _)
    rw [hb] at h
    exact h
  have X2 : Hid (Below b w1 (w1.alloc (.cells #[.slice none 0 0] 125))) := by
    rw [← hb]
    exact below_alloc _ _
  have S2 : Hid (b ≤ (w1.alloc (.cells #[.slice none 0 0] 125)).heap.size) := by unfold Hid; simp; omega
  rw [hb]
  have HW1 : Hid (w1.heap.size = b) := hb
  have hltb : w.heap.size < b := by omega
  clear hb hlt c0 c1 c2 c3 c4 c5 c6 c7 c8
  refine (whead_any b b none S N B Q E F L I _ W2.out S2.out HB.out.1 HB.out.2.1 HB.out.2.2.1 HB.out.2.2.2.1 HB.out.2.2.2.2.1 HB.out.2.2.2.2.2.1 HB.out.2.2.2.2.2.2.1 HB.out.2.2.2.2.2.2.2).mono ?_
  rintro e w3 ⟨rfl, row, hw3, hf3, hr3⟩
  have X3 : Hid (Below b w1 w3) := X2.out.trans (hf3.below S2.out (Nat.le_refl _) (fun k hk => by cases hk))
  have W3 : Hid (IsWr w3 b b row (headB S N B Q E F L I)) := hw3
  have N3 : Hid (Nine w3 w.heap.size S N B Q E F L I (.slice a B k)) := by
    have h := N1.out
    have hx := X3.out
    rw [← HW1.out] at hx
    exact h.below hx
  have P3 : Hid (Bs w1 (.slice a B k) p) := HP.out.below B1.out
  have HHL : Hid ((headB S N B Q E F L I).length = 38) := headB_length _ _ _ _ _ _ _ _
  clear hw3 hf3 hr3 W2 X2 S2 N1
  obtain ⟨⟨c0, c1, c2, c3, c4, c5, c6, c7⟩, c8⟩ := N3.out
  obtain ⟨hd, hhd⟩ : ∃ hd, headB S N B Q E F L I = hd := ⟨_, rfl⟩
  rw [hhd] at W3 HHL
  have HHD : Hid (headB S N B Q E F L I = hd) := hhd
  clear hhd
  go_wp2_with fail
  have hq4 : w3.heap.size < (w3.alloc (.cells #[.slice a B k] 25)).heap.size := by simp
  have W4 : Hid (IsWr (w3.alloc (.cells #[.slice a B k] 25)) b b row hd) := W3.out.below (below_alloc _ _)
  have X4 : Hid (Below b w1 (w3.alloc (.cells #[.slice a B k] 25))) := X3.out.alloc (by have := X3.out.size; have := HW1.out; omega) _
  have hst : ∀ W, Fr (w3.alloc (.cells #[.slice a B k] 25)) W b row → Sl 1 W (.slice (some ⟨w3.heap.size, 0, none⟩) 1 1) [Value.slice a B k].length [.slice a B k] ∧ Parts W [.slice a B k] [p] := by
    intro W hf
    have hbW := hf.below (B := b) (by have := X4.out.size; have := HW1.out; omega) (Nat.le_refl _) (fun k hk => (W4.out.lt.2 k hk).1)
    constructor
    · refine sl_one ?_
      rw [World.cell?_of_block (a := ⟨w3.heap.size, 0, none⟩) (hf.block w3.heap.size hq4 (by have := W3.out.lt.1; omega) (by intro e; have := (W3.out.lt.2 _ e.symm).2; omega))]
      simp
    · have h1 := X4.out.trans hbW
      rw [← HW1.out] at h1
      exact parts_one (P3.out.below h1)
  have HST : Hid (∀ W, Fr (w3.alloc (.cells #[.slice a B k] 25)) W b row → Sl 1 W (.slice (some ⟨w3.heap.size, 0, none⟩) 1 1) [Value.slice a B k].length [.slice a B k] ∧ Parts W [.slice a B k] [p]) := hst
  clear hst hq4
  refine (append_any b b row hd (.slice (some ⟨w3.heap.size, 0, none⟩) 1 1) [.slice a B k] [p] _ W4.out (by have := X4.out.size; have := HW1.out; omega) HST.out (by rw [HHL.out]; omega) (by simp) (by intro x hx; simp at hx; subst hx; rw [HPL.out]; exact hB10)).mono ?_
  rintro e w5 ⟨rfl, row5, hw5, hf5, hr5⟩
  have X5 : Hid (Below b w1 w5) := X4.out.trans (hf5.below (by have := X4.out.size; have := HW1.out; omega) (Nat.le_refl _) (fun k hk => (W4.out.lt.2 k hk).1))
  have B5 : Hid (Below w.heap.size w w5) := by
    have h := X5.out
    rw [← HW1.out] at h
    exact below_mid B1.out h
  have W5 : Hid (IsWr w5 b b row5 (hd ++ p)) := by
    have h := hw5
    simp only [List.flatten_cons, List.flatten_nil, List.append_nil] at h
    exact h
  have C5 : Hid (IsCo w5 c g) := HC.out.below B5.out
  have HTL : Hid ((hd ++ p).length ≤ 1000000) := by unfold Hid; rw [List.length_append, HHL.out, HPL.out]; omega
  have HFR : Hid (sealB (hd ++ p) = frameB S N B Q E F L I p) := by unfold Hid frameB; rw [HHD.out]
  clear hw5 hf5 hr5 X4 W4 HST c0 c1 c2 c3 c4 c5 c6 c7 c8 N3 X3 W3 P3
  generalize hd ++ p = T at *
  go_wp2
  have CX : Hid (∀ W, Below w5.heap.size w5 W → W.cell? ⟨c, 0, none⟩ = some (.pointer (some ⟨g, 0, none⟩))) := fun W hW => (C5.out.below hW).1
  have CB : Hid (∀ W, Below w5.heap.size w5 W → Calls Tryz.prog 62 #[.pointer (some ⟨b, 0, none⟩)] W fun e w' => ∃ v, e = .returned v ∧ IsBs T v w' ∧ Below W.heap.size W w') := by
    intro W hW
    refine (bytes_any b b row5 T W (W5.out.below hW) HTL.out).mono ?_
    rintro e w' ⟨q, rfl, hq, ho, hb'⟩
    exact ⟨_, rfl, ho.bs HTL.out, hb'⟩
  have CS : Hid (∀ W v, Below w5.heap.size w5 W → IsBs T v W → Calls Tryz.prog 61 #[.pointer (some ⟨g, 0, none⟩), v] W fun e w' => ∃ u, e = .returned u ∧ IsOb w.heap.size (sealB T) u w' ∧ Below W.heap.size W w') := by
    intro W v hW hv
    refine (seal_any g v T W (C5.out.below hW).2 hv HTL.out).mono ?_
    rintro e w' ⟨rfl, ho, hb'⟩
    refine ⟨_, rfl, ⟨W.heap.size + 1, by rw [sealB_length], ?_, owned_own (l := T ++ be4 (MathA.sum T)) ho (by simp [be4])⟩, hb'⟩
    have h1 := B5.out.size
    have h2 := hW.size
    omega
  refine wp_region_any (by kernel_rfl) ?_
  obtain ⟨gs, hgs⟩ : ∃ gs : List (Value → World → Prop), gs = [IsV (Value.pointer (some { block := c, off := 0 })), IsV (Value.pointer (some { block := c, off := 0 })), IsV (.pointer (some ⟨c, 0, none⟩)), IsV (.pointer (some ⟨g, 0, none⟩)), IsBs T, IsOb w.heap.size (sealB T), IsOb w.heap.size (sealB T), IsV (Value.int IntKind.i64 (0 : Int))] := ⟨_, rfl⟩
  have g0 : Hid (gs[0]? = some (IsV (Value.pointer (some { block := c, off := 0 })))) := by unfold Hid; rw [hgs]; rfl
  have g1 : Hid (gs[1]? = some (IsV (Value.pointer (some { block := c, off := 0 })))) := by unfold Hid; rw [hgs]; rfl
  have g2 : Hid (gs[2]? = some (IsV (.pointer (some ⟨c, 0, none⟩)))) := by unfold Hid; rw [hgs]; rfl
  have g3 : Hid (gs[3]? = some (IsV (.pointer (some ⟨g, 0, none⟩)))) := by unfold Hid; rw [hgs]; rfl
  have g4 : Hid (gs[4]? = some (IsBs T)) := by unfold Hid; rw [hgs]; rfl
  have g5 : Hid (gs[5]? = some (IsOb w.heap.size (sealB T))) := by unfold Hid; rw [hgs]; rfl
  have g6 : Hid (gs[6]? = some (IsOb w.heap.size (sealB T))) := by unfold Hid; rw [hgs]; rfl
  have g7 : Hid (gs[7]? = some (IsV (Value.int IntKind.i64 (0 : Int)))) := by unfold Hid; rw [hgs]; rfl
  have gk : Hid (∀ p ∈ gs, Stays p) := by
    unfold Hid
    rw [hgs]
    simp only [List.forall_mem_cons]
    exact ⟨stays_v _, stays_v _, stays_v _, stays_v _, stays_bs _, stays_ob _ _, stays_ob _ _, stays_v _, by simp⟩
  clear hgs
  refine wpAny_inv (fun listed ac W => ∃ xv : Nat → Value, ac = ⟨#[Value.pointer (some { block := c, off := 0 }), Value.agg #[Value.int IntKind.u64 ↑S, Value.int IntKind.i64 ↑N, Value.int IntKind.i64 ↑B, Value.int IntKind.i64 ↑Q, Value.int IntKind.i64 ↑E, Value.int IntKind.i64 ↑F, Value.int IntKind.i64 ↑L, Value.int IntKind.u64 ↑I, Value.slice a B k], undef, Value.pointer (some { block := w.heap.size, off := 0 }), xv 6, xv 7, Value.int IntKind.i64 (0 : Int), Value.pointer (some { block := b, off := 0 }), Value.pointer (some { block := w.heap.size, off := 0 }), Value.agg #[Value.int IntKind.u64 ↑S, Value.int IntKind.i64 ↑N, Value.int IntKind.i64 ↑B, Value.int IntKind.i64 ↑Q, Value.int IntKind.i64 ↑E, Value.int IntKind.i64 ↑F, Value.int IntKind.i64 ↑L, Value.int IntKind.u64 ↑I], Value.int IntKind.i64 (0 : Int), Value.int IntKind.i64 (0 : Int), Value.bool false, undef, Value.pointer (some { block := w.heap.size, off := 8 }), Value.slice a B k, Value.int IntKind.i64 ↑B, Value.pointer (some { block := w.heap.size, off := 0 }), Value.pointer (some { block := w.heap.size, off := 1 }), Value.pointer (some { block := w.heap.size, off := 2 }), Value.int IntKind.i64 ↑B, Value.bool false, Value.pointer (some { block := w.heap.size, off := 0 }), Value.agg #[Value.int IntKind.u64 ↑S, Value.int IntKind.i64 ↑N, Value.int IntKind.i64 ↑B, Value.int IntKind.i64 ↑Q, Value.int IntKind.i64 ↑E, Value.int IntKind.i64 ↑F, Value.int IntKind.i64 ↑L, Value.int IntKind.u64 ↑I], Value.tuple #[], Value.pointer (some { block := w.heap.size, off := 8 }), Value.slice a B k, Value.slice (some { block := w3.heap.size, off := 0 }) 1 1, Value.tuple #[], xv 0, xv 1, xv 2, xv 3, xv 4, xv 5], []⟩ ∧ Below w5.heap.size w5 W ∧ Lst gs listed xv W) (by kernel_rfl) ?_ ?_ _ _ _ _ (by kernel_rfl) (of_decide_eq_true (by kernel_rfl)) ⟨fun j => if j = 6 then Value.slice none 0 0 else if j = 7 then Value.int IntKind.i64 (0 : Int) else undef, rfl, below0 _, Lst.start _ _ _ _⟩
  · rintro listed ac W ⟨xv, rfl, hb, hG⟩ i hi hd
    have hin : i < 8 := hi
    clear hi
    have hcase : i = 0 ∨ i = 1 ∨ i = 2 ∨ i = 3 ∨ i = 4 ∨ i = 5 ∨ i = 6 ∨ i = 7 := by omega
    rcases hcase with rfl | rfl | rfl | rfl | rfl | rfl | rfl | rfl
    · refine wpOp_step rfl (fun K' hK => ?_)
      clear hd hin
      go_simp
      exact hK _ _ ⟨updV xv 0 (Value.pointer (some { block := c, off := 0 })), by simp [updV], hb, hG.same gk.out g0.out _ rfl⟩
    · refine wpOp_step rfl (fun K' hK => ?_)
      simp [Region.binds] at hd
      have e0 : xv 0 = Value.pointer (some { block := c, off := 0 }) := hG.get g0.out (by simp [hd])
      clear hd hin
      go_simp
      exact hK _ _ ⟨updV xv 1 (Value.pointer (some { block := c, off := 0 })), by simp [updV, e0], hb, hG.same gk.out g1.out _ rfl⟩
    · refine wpOp_step rfl (fun K' hK => ?_)
      simp [Region.binds] at hd
      have e1 : xv 1 = Value.pointer (some { block := c, off := 0 }) := hG.get g1.out (by simp [hd])
      clear hd hin
      go_simp
      exact hK _ _ ⟨updV xv 2 (.pointer (some ⟨c, 0, none⟩)), by simp [updV, e1], hb, hG.same gk.out g2.out _ rfl⟩
    · refine wpOp_step rfl (fun K' hK => ?_)
      simp [Region.binds] at hd
      have e2 : xv 2 = .pointer (some ⟨c, 0, none⟩) := hG.get g2.out (by simp [hd])
      have c0 := CX.out W hb
      clear hd hin
      go_simp
      exact hK _ _ ⟨updV xv 3 (.pointer (some ⟨g, 0, none⟩)), by simp [updV, e2], hb, hG.same gk.out g3.out _ rfl⟩
    · refine wpOp_step rfl (fun K' hK => ?_)
      clear hd hin
      go_simp
      refine (CB.out W hb).mono ?_
      rintro e w' ⟨v, rfl, hv, hb'⟩
      go_wp2_with fail
      exact ⟨updV xv 4 v, by simp [updV], hb.trans (hb'.mono hb.size), hG.step gk.out hb' g4.out v hv⟩
    · refine wpOp_step rfl (fun K' hK => ?_)
      simp [Region.binds] at hd
      have e3 : xv 3 = .pointer (some ⟨g, 0, none⟩) := hG.get g3.out (by simp [hd])
      have m4 : IsBs T (xv 4) W := hG.get g4.out (by simp [hd])
      clear hd hin
      go_simp
      refine (CS.out W _ hb m4).mono ?_
      rintro e w' ⟨v, rfl, hv, hb'⟩
      go_wp2_with fail
      exact ⟨updV xv 5 v, by simp [updV, e3], hb.trans (hb'.mono hb.size), hG.step gk.out hb' g5.out v hv⟩
    · refine wpOp_step rfl (fun K' hK => ?_)
      simp [Region.binds] at hd
      have m5 : IsOb w.heap.size (sealB T) (xv 5) W := hG.get g5.out (by simp [hd])
      clear hd hin
      go_simp
      exact hK _ _ ⟨updV xv 6 (xv 5), by simp [updV], hb, hG.same gk.out g6.out _ m5⟩
    · refine wpOp_step rfl (fun K' hK => ?_)
      clear hd hin
      go_simp
      exact hK _ _ ⟨updV xv 7 (Value.int IntKind.i64 (0 : Int)), by simp [updV], hb, hG.same gk.out g7.out _ rfl⟩
  · rintro listed ac W ⟨xv, rfl, hb, hG⟩ hall
    have m6 : Hid (IsOb w.heap.size (sealB T) (xv 6) W) := hG.get g6.out (hall 6 (by decide))
    have e7 : xv 7 = Value.int IntKind.i64 (0 : Int) := hG.get g7.out (hall 7 (by decide))
    have XW : Hid (Below w5.heap.size w5 W) := hb
    clear hall hG hb gk g0 g1 g2 g3 g4 g5 g6 g7
    rw [e7]
    clear e7
    obtain ⟨q, hq, hq1, hq2⟩ := m6.out
    rw [HFR.out] at hq hq2
    rw [HFL.out] at hq
    rw [hq]
    clear hq m6
    have Q1 : Hid (w.heap.size ≤ q) := hq1
    have Q2 : Hid (Own W q (frameB S N B Q E F L I p)) := hq2
    clear hq1 hq2
    go_wp2
    go_ret2
    exact ⟨q, rfl, Q1.out, Q2.out, below_mid B5.out XW.out⟩

end

section
/-
  The walks of package frame: readHead.
-/
open Go.RowKit
set_option linter.unusedVariables false

/-- A head that is read, from place a on; the answer's block is still zero. -/
structure RH (w0 : World) (B0 v r q rb : Nat) (l : List UInt8) (a : Nat) (W : World) : Prop where
  rd : IsRdW W r q (l.drop a)
  cap : W.cell? ⟨v, 0, none⟩ = some (.pointer (some ⟨r, 0, none⟩))
  res : Eight W rb 0 0 0 0 0 0 0 0
  fz : ∀ i, W.frozen? ⟨rb, i, none⟩ = false
  vr : v ≠ r
  br : rb ≠ r
  bel : Below B0 w0 W
  ge : B0 ≤ r

theorem RH.keep {w0 : World} {B0 v r q rb : Nat} {l : List UInt8} {a : Nat} {W W' : World} (h : RH w0 B0 v r q rb l a W) (hr : W'.heap[r]? = W.heap[r]?) (hq : W'.heap[q]? = W.heap[q]?) (hv : W'.heap[v]? = W.heap[v]?) (hb : W'.heap[rb]? = W.heap[rb]?) (hbel : Below B0 W W') : RH w0 B0 v r q rb l a W' :=
  ⟨h.rd.kept hr hq, (World.cell?_of_block (a := ⟨v, 0, none⟩) hv).trans h.cap, h.res.kept hb, fun i => (World.frozen?_of_block (a := ⟨rb, i, none⟩) hb).trans (h.fz i), h.vr, h.br, h.bel.trans hbel, h.ge⟩

theorem RH.below {w0 : World} {B0 v r q rb : Nat} {l : List UInt8} {a : Nat} {W W' : World} (h : RH w0 B0 v r q rb l a W) (hq : q < W.heap.size) (hB : B0 ≤ W.heap.size) (hb : Below W.heap.size W W') : RH w0 B0 v r q rb l a W' :=
  h.keep (hb.block _ h.rd.lt) (hb.block _ hq) (hb.block _ (cell_block_lt h.cap)) (hb.block _ (cell_block_lt h.res.1)) (hb.mono hB)

/-- And the header's block that is filled. -/
structure RX (w0 : World) (B0 v r q rb hb : Nat) (l : List UInt8) (a : Nat) (S N B Q E F L I : Int) (W : World) : Prop where
  rh : RH w0 B0 v r q rb l a W
  hd : Eight W hb S N B Q E F L I
  fz : ∀ i, W.frozen? ⟨hb, i, none⟩ = false
  n1 : hb ≠ r
  n2 : hb ≠ q
  n3 : hb ≠ v
  n4 : hb ≠ rb
  ge : B0 ≤ hb

theorem RX.store {w0 : World} {B0 v r q rb hb : Nat} {l : List UInt8} {a : Nat} {S N B Q E F L I S' N' B' Q' E' F' L' I' : Int} {W : World} (h : RX w0 B0 v r q rb hb l a S N B Q E F L I W) (i : Nat) (u : Value) (h8 : Eight (W.setCell ⟨hb, i, none⟩ u) hb S' N' B' Q' E' F' L' I') :
    RX w0 B0 v r q rb hb l a S' N' B' Q' E' F' L' I' (W.setCell ⟨hb, i, none⟩ u) := by
  have hk : ∀ k, k ≠ hb → (W.setCell ⟨hb, i, none⟩ u).heap[k]? = W.heap[k]? := fun k hk => Below.heap_setCell W ⟨hb, i, none⟩ u k hk
  refine ⟨h.rh.keep (hk _ (Ne.symm h.n1)) (hk _ (Ne.symm h.n2)) (hk _ (Ne.symm h.n3)) (hk _ (Ne.symm h.n4)) ((Below.refl _ _).setCell h.ge u), h8, fun j => ?_, h.n1, h.n2, h.n3, h.n4, h.ge⟩
  have := h.fz j
  simpa using this

theorem Eight.set0 {W : World} {b : Nat} {S N B Q E F L I : Int} (h : Eight W b S N B Q E F L I) (S' : Int) : Eight (W.setCell ⟨b, 0, none⟩ (.int .u64 S')) b S' N B Q E F L I := by
  obtain ⟨h0, h1, h2, h3, h4, h5, h6, h7⟩ := h
  refine ⟨?_, ?_, ?_, ?_, ?_, ?_, ?_, ?_⟩
  · exact World.cell?_setCell_same W _ _ h0
  · rw [World.cell?_setCell_other W _ _ _ (by simp)]; exact h1
  · rw [World.cell?_setCell_other W _ _ _ (by simp)]; exact h2
  · rw [World.cell?_setCell_other W _ _ _ (by simp)]; exact h3
  · rw [World.cell?_setCell_other W _ _ _ (by simp)]; exact h4
  · rw [World.cell?_setCell_other W _ _ _ (by simp)]; exact h5
  · rw [World.cell?_setCell_other W _ _ _ (by simp)]; exact h6
  · rw [World.cell?_setCell_other W _ _ _ (by simp)]; exact h7

theorem Eight.set1 {W : World} {b : Nat} {S N B Q E F L I : Int} (h : Eight W b S N B Q E F L I) (N' : Int) : Eight (W.setCell ⟨b, 1, none⟩ (.int .i64 N')) b S N' B Q E F L I := by
  obtain ⟨h0, h1, h2, h3, h4, h5, h6, h7⟩ := h
  refine ⟨?_, ?_, ?_, ?_, ?_, ?_, ?_, ?_⟩
  · rw [World.cell?_setCell_other W _ _ _ (by simp)]; exact h0
  · exact World.cell?_setCell_same W _ _ h1
  · rw [World.cell?_setCell_other W _ _ _ (by simp)]; exact h2
  · rw [World.cell?_setCell_other W _ _ _ (by simp)]; exact h3
  · rw [World.cell?_setCell_other W _ _ _ (by simp)]; exact h4
  · rw [World.cell?_setCell_other W _ _ _ (by simp)]; exact h5
  · rw [World.cell?_setCell_other W _ _ _ (by simp)]; exact h6
  · rw [World.cell?_setCell_other W _ _ _ (by simp)]; exact h7

theorem Eight.set2 {W : World} {b : Nat} {S N B Q E F L I : Int} (h : Eight W b S N B Q E F L I) (B' : Int) : Eight (W.setCell ⟨b, 2, none⟩ (.int .i64 B')) b S N B' Q E F L I := by
  obtain ⟨h0, h1, h2, h3, h4, h5, h6, h7⟩ := h
  refine ⟨?_, ?_, ?_, ?_, ?_, ?_, ?_, ?_⟩
  · rw [World.cell?_setCell_other W _ _ _ (by simp)]; exact h0
  · rw [World.cell?_setCell_other W _ _ _ (by simp)]; exact h1
  · exact World.cell?_setCell_same W _ _ h2
  · rw [World.cell?_setCell_other W _ _ _ (by simp)]; exact h3
  · rw [World.cell?_setCell_other W _ _ _ (by simp)]; exact h4
  · rw [World.cell?_setCell_other W _ _ _ (by simp)]; exact h5
  · rw [World.cell?_setCell_other W _ _ _ (by simp)]; exact h6
  · rw [World.cell?_setCell_other W _ _ _ (by simp)]; exact h7

theorem Eight.set3 {W : World} {b : Nat} {S N B Q E F L I : Int} (h : Eight W b S N B Q E F L I) (Q' : Int) : Eight (W.setCell ⟨b, 3, none⟩ (.int .i64 Q')) b S N B Q' E F L I := by
  obtain ⟨h0, h1, h2, h3, h4, h5, h6, h7⟩ := h
  refine ⟨?_, ?_, ?_, ?_, ?_, ?_, ?_, ?_⟩
  · rw [World.cell?_setCell_other W _ _ _ (by simp)]; exact h0
  · rw [World.cell?_setCell_other W _ _ _ (by simp)]; exact h1
  · rw [World.cell?_setCell_other W _ _ _ (by simp)]; exact h2
  · exact World.cell?_setCell_same W _ _ h3
  · rw [World.cell?_setCell_other W _ _ _ (by simp)]; exact h4
  · rw [World.cell?_setCell_other W _ _ _ (by simp)]; exact h5
  · rw [World.cell?_setCell_other W _ _ _ (by simp)]; exact h6
  · rw [World.cell?_setCell_other W _ _ _ (by simp)]; exact h7

theorem Eight.set4 {W : World} {b : Nat} {S N B Q E F L I : Int} (h : Eight W b S N B Q E F L I) (E' : Int) : Eight (W.setCell ⟨b, 4, none⟩ (.int .i64 E')) b S N B Q E' F L I := by
  obtain ⟨h0, h1, h2, h3, h4, h5, h6, h7⟩ := h
  refine ⟨?_, ?_, ?_, ?_, ?_, ?_, ?_, ?_⟩
  · rw [World.cell?_setCell_other W _ _ _ (by simp)]; exact h0
  · rw [World.cell?_setCell_other W _ _ _ (by simp)]; exact h1
  · rw [World.cell?_setCell_other W _ _ _ (by simp)]; exact h2
  · rw [World.cell?_setCell_other W _ _ _ (by simp)]; exact h3
  · exact World.cell?_setCell_same W _ _ h4
  · rw [World.cell?_setCell_other W _ _ _ (by simp)]; exact h5
  · rw [World.cell?_setCell_other W _ _ _ (by simp)]; exact h6
  · rw [World.cell?_setCell_other W _ _ _ (by simp)]; exact h7

theorem Eight.set5 {W : World} {b : Nat} {S N B Q E F L I : Int} (h : Eight W b S N B Q E F L I) (F' : Int) : Eight (W.setCell ⟨b, 5, none⟩ (.int .i64 F')) b S N B Q E F' L I := by
  obtain ⟨h0, h1, h2, h3, h4, h5, h6, h7⟩ := h
  refine ⟨?_, ?_, ?_, ?_, ?_, ?_, ?_, ?_⟩
  · rw [World.cell?_setCell_other W _ _ _ (by simp)]; exact h0
  · rw [World.cell?_setCell_other W _ _ _ (by simp)]; exact h1
  · rw [World.cell?_setCell_other W _ _ _ (by simp)]; exact h2
  · rw [World.cell?_setCell_other W _ _ _ (by simp)]; exact h3
  · rw [World.cell?_setCell_other W _ _ _ (by simp)]; exact h4
  · exact World.cell?_setCell_same W _ _ h5
  · rw [World.cell?_setCell_other W _ _ _ (by simp)]; exact h6
  · rw [World.cell?_setCell_other W _ _ _ (by simp)]; exact h7

theorem Eight.set6 {W : World} {b : Nat} {S N B Q E F L I : Int} (h : Eight W b S N B Q E F L I) (L' : Int) : Eight (W.setCell ⟨b, 6, none⟩ (.int .i64 L')) b S N B Q E F L' I := by
  obtain ⟨h0, h1, h2, h3, h4, h5, h6, h7⟩ := h
  refine ⟨?_, ?_, ?_, ?_, ?_, ?_, ?_, ?_⟩
  · rw [World.cell?_setCell_other W _ _ _ (by simp)]; exact h0
  · rw [World.cell?_setCell_other W _ _ _ (by simp)]; exact h1
  · rw [World.cell?_setCell_other W _ _ _ (by simp)]; exact h2
  · rw [World.cell?_setCell_other W _ _ _ (by simp)]; exact h3
  · rw [World.cell?_setCell_other W _ _ _ (by simp)]; exact h4
  · rw [World.cell?_setCell_other W _ _ _ (by simp)]; exact h5
  · exact World.cell?_setCell_same W _ _ h6
  · rw [World.cell?_setCell_other W _ _ _ (by simp)]; exact h7

theorem Eight.set7 {W : World} {b : Nat} {S N B Q E F L I : Int} (h : Eight W b S N B Q E F L I) (I' : Int) : Eight (W.setCell ⟨b, 7, none⟩ (.int .u64 I')) b S N B Q E F L I' := by
  obtain ⟨h0, h1, h2, h3, h4, h5, h6, h7⟩ := h
  refine ⟨?_, ?_, ?_, ?_, ?_, ?_, ?_, ?_⟩
  · rw [World.cell?_setCell_other W _ _ _ (by simp)]; exact h0
  · rw [World.cell?_setCell_other W _ _ _ (by simp)]; exact h1
  · rw [World.cell?_setCell_other W _ _ _ (by simp)]; exact h2
  · rw [World.cell?_setCell_other W _ _ _ (by simp)]; exact h3
  · rw [World.cell?_setCell_other W _ _ _ (by simp)]; exact h4
  · rw [World.cell?_setCell_other W _ _ _ (by simp)]; exact h5
  · rw [World.cell?_setCell_other W _ _ _ (by simp)]; exact h6
  · exact World.cell?_setCell_same W _ _ h7

theorem store8 {W : World} {b : Nat} {s n o p q r t u : Int} (h : Eight W b s n o p q r t u) (S N B Q E F L I : Int) : Eight ((((((((W.setCell ⟨b, 0, none⟩ (.int .u64 S)).setCell ⟨b, 1, none⟩ (.int .i64 N)).setCell ⟨b, 2, none⟩ (.int .i64 B)).setCell ⟨b, 3, none⟩ (.int .i64 Q)).setCell ⟨b, 4, none⟩ (.int .i64 E)).setCell ⟨b, 5, none⟩ (.int .i64 F)).setCell ⟨b, 6, none⟩ (.int .i64 L)).setCell ⟨b, 7, none⟩ (.int .u64 I)) b S N B Q E F L I :=
  (((((((h.set0 S).set1 N).set2 B).set3 Q).set4 E).set5 F).set6 L).set7 I

theorem below8 {w0 W : World} {B0 b : Nat} (h : Below B0 w0 W) (hb : B0 ≤ b) (v0 v1 v2 v3 v4 v5 v6 v7 : Value) : Below B0 w0 (((((((((W.setCell ⟨b, 0, none⟩ v0).setCell ⟨b, 1, none⟩ v1).setCell ⟨b, 2, none⟩ v2).setCell ⟨b, 3, none⟩ v3).setCell ⟨b, 4, none⟩ v4).setCell ⟨b, 5, none⟩ v5).setCell ⟨b, 6, none⟩ v6).setCell ⟨b, 7, none⟩ v7)) :=
  (((((((h.setCell hb v0).setCell hb v1).setCell hb v2).setCell hb v3).setCell hb v4).setCell hb v5).setCell hb v6).setCell hb v7

theorem load8 {W : World} {b : Nat} {S N B Q E F L I : Int} (h : Eight W b S N B Q E F L I) : (loadVar 39 ⟨b, 0, none⟩).run Tryz.prog W = .ok (.agg #[.int .u64 S, .int .i64 N, .int .i64 B, .int .i64 Q, .int .i64 E, .int .i64 F, .int .i64 L, .int .u64 I]) W := by
  obtain ⟨h0, h1, h2, h3, h4, h5, h6, h7⟩ := h
  refine run_loadVar_mid W b 0 39 [.int .u64 S, .int .i64 N, .int .i64 B, .int .i64 Q, .int .i64 E, .int .i64 F, .int .i64 L, .int .u64 I] _ ?_ Tryz.underlying39 rfl (by kernel_rfl)
  intro j v hj
  rw [Nat.zero_add]
  have hj8 : j < 8 := by have := (List.getElem?_eq_some_iff.1 hj).1; simpa using this
  match j, hj8 with
  | 0, _ => simp at hj; subst hj; exact h0
  | 1, _ => simp at hj; subst hj; exact h1
  | 2, _ => simp at hj; subst hj; exact h2
  | 3, _ => simp at hj; subst hj; exact h3
  | 4, _ => simp at hj; subst hj; exact h4
  | 5, _ => simp at hj; subst hj; exact h5
  | 6, _ => simp at hj; subst hj; exact h6
  | 7, _ => simp at hj; subst hj; exact h7

theorem load9 {W : World} {b : Nat} {S N B Q E F L I : Int} {v : Value} (h : Nine W b S N B Q E F L I v) : (loadVar 41 ⟨b, 0, none⟩).run Tryz.prog W = .ok (.agg #[.int .u64 S, .int .i64 N, .int .i64 B, .int .i64 Q, .int .i64 E, .int .i64 F, .int .i64 L, .int .u64 I, v]) W := by
  obtain ⟨⟨h0, h1, h2, h3, h4, h5, h6, h7⟩, h8⟩ := h
  refine run_loadVar_mid W b 0 41 [.int .u64 S, .int .i64 N, .int .i64 B, .int .i64 Q, .int .i64 E, .int .i64 F, .int .i64 L, .int .u64 I, v] _ ?_ Tryz.underlying41 rfl (by kernel_rfl)
  intro j u hj
  rw [Nat.zero_add]
  have hj9 : j < 9 := by have := (List.getElem?_eq_some_iff.1 hj).1; simpa using this
  match j, hj9 with
  | 0, _ => simp at hj; subst hj; exact h0
  | 1, _ => simp at hj; subst hj; exact h1
  | 2, _ => simp at hj; subst hj; exact h2
  | 3, _ => simp at hj; subst hj; exact h3
  | 4, _ => simp at hj; subst hj; exact h4
  | 5, _ => simp at hj; subst hj; exact h5
  | 6, _ => simp at hj; subst hj; exact h6
  | 7, _ => simp at hj; subst hj; exact h7
  | 8, _ => simp at hj; subst hj; exact h8

theorem nine_store {W : World} {b : Nat} {s n o p q r t u : Int} {v : Value} (h : Nine W b s n o p q r t u v) (S N B Q E F L I : Int) (v' : Value) : Nine (((((((((W.setCell ⟨b, 0, none⟩ (.int .u64 S)).setCell ⟨b, 1, none⟩ (.int .i64 N)).setCell ⟨b, 2, none⟩ (.int .i64 B)).setCell ⟨b, 3, none⟩ (.int .i64 Q)).setCell ⟨b, 4, none⟩ (.int .i64 E)).setCell ⟨b, 5, none⟩ (.int .i64 F)).setCell ⟨b, 6, none⟩ (.int .i64 L)).setCell ⟨b, 7, none⟩ (.int .u64 I)).setCell ⟨b, 8, none⟩ v') b S N B Q E F L I v' := by
  refine ⟨?_, ?_⟩
  · obtain ⟨h0, h1, h2, h3, h4, h5, h6, h7⟩ := store8 h.1 S N B Q E F L I
    refine ⟨?_, ?_, ?_, ?_, ?_, ?_, ?_, ?_⟩
    · rw [World.cell?_setCell_other _ _ _ _ (by simp)]; exact h0
    · rw [World.cell?_setCell_other _ _ _ _ (by simp)]; exact h1
    · rw [World.cell?_setCell_other _ _ _ _ (by simp)]; exact h2
    · rw [World.cell?_setCell_other _ _ _ _ (by simp)]; exact h3
    · rw [World.cell?_setCell_other _ _ _ _ (by simp)]; exact h4
    · rw [World.cell?_setCell_other _ _ _ _ (by simp)]; exact h5
    · rw [World.cell?_setCell_other _ _ _ _ (by simp)]; exact h6
    · rw [World.cell?_setCell_other _ _ _ _ (by simp)]; exact h7
  · refine World.cell?_setCell_same _ _ _ (u := v) ?_
    rw [World.cell?_setCell_other _ _ _ _ (by simp), World.cell?_setCell_other _ _ _ _ (by simp), World.cell?_setCell_other _ _ _ _ (by simp), World.cell?_setCell_other _ _ _ _ (by simp), World.cell?_setCell_other _ _ _ _ (by simp), World.cell?_setCell_other _ _ _ _ (by simp), World.cell?_setCell_other _ _ _ _ (by simp), World.cell?_setCell_other _ _ _ _ (by simp)]
    exact h.2

theorem ret_cell {fn : Func} {p u : Tmp} {ty : TypeId} (h : fn.results = #[.cell p ty, .tmp u]) {tmps : Array Value} {P : Program} {W : World} {b : Nat} {v x : Value} (hp : tmps.getD p undef = .pointer (some ⟨b, 0, none⟩)) (hx : tmps.getD u undef = x) (hl : (loadVar ty ⟨b, 0, none⟩).run P W = .ok v W) : (results fn tmps).run P W = .ok (.tuple #[v, x]) W := by
  rw [results_cell_tmp h, hp, hx]
  simp [asAddr, Result.andThen, hl]

end

section
/-
  The walk of package frame: readHead.
-/
open Go.RowKit
set_option linter.unusedVariables false

/-- The header's values that a head's bytes say; zero, where they say none. -/
def headV (l : List UInt8) : Array Value :=
  if headE l = 0 then #[.int .u64 (num l 3 8), .int .i64 (num l 11 4), .int .i64 (num l 15 2), .int .i64 (num l 17 1), .int .i64 (num l 18 2), .int .i64 (num l 20 2), .int .i64 (asInt (num l 22 8)), .int .u64 (num l 30 8)]
  else #[.int .u64 0, .int .i64 0, .int .i64 0, .int .i64 0, .int .i64 0, .int .i64 0, .int .i64 0, .int .u64 0]

theorem ret_head {l : List UInt8} {n : Int} {c : Array Value} (h : headE l = n) (hc : headV l = c) : Ending.returned (.tuple #[.agg c, .int .i64 n]) = .returned (.tuple #[.agg (headV l), .int .i64 (headE l)]) := by rw [h, hc]

theorem u64_ne {a b : Nat} (h : a ≠ b) : ((a : Int) == (b : Int)) = false := by simp; omega

end

section
/-
  The walk of package frame: Parse.
-/
open Go.RowKit
set_option linter.unusedVariables false

theorem num_take (l : List UInt8) (a s n : Nat) (h : a + s ≤ n) : num (l.take n) a s = num l a s := by
  unfold num
  rw [List.drop_take, List.take_take, Nat.min_eq_left (by omega)]

theorem headE_take (l : List UInt8) : headE (l.take 38) = headE l := by
  unfold headE
  rw [num_take l 0 2 38 (by omega), num_take l 2 1 38 (by omega), num_take l 11 4 38 (by omega), num_take l 15 2 38 (by omega), num_take l 17 1 38 (by omega), num_take l 18 2 38 (by omega), num_take l 20 2 38 (by omega), num_take l 22 8 38 (by omega)]

theorem headV_take (l : List UInt8) : headV (l.take 38) = headV l := by
  unfold headV
  rw [headE_take, num_take l 3 8 38 (by omega), num_take l 11 4 38 (by omega), num_take l 15 2 38 (by omega), num_take l 17 1 38 (by omega), num_take l 18 2 38 (by omega), num_take l 20 2 38 (by omega), num_take l 22 8 38 (by omega), num_take l 30 8 38 (by omega)]

/-- 'copy(dst, src)' where src is longer: its beginning. -/
theorem wpList_copyL (W : World) {ops : Array Oper} {rest : List Oper} {o : Oper} {a : Act} {Q : Exit → Act → World → Prop} (hgd : o.guard = none) (d s : Operand)
    (ho : o.op = .call { callee := .builtin .copy, args := #[d, s], argTypes := #[25, 25] }) (q n c : Nat) (l b : List UInt8) (v : Value) (hd : a.eval d = .slice (some ⟨q, 0, none⟩) n c) (hs : a.eval s = v) (hB : Blk W q [] l []) (hb : Bs W v b) (hn : n = l.length) (hlen : n ≤ b.length)
    (B : Nat) (w0 : World) (hbel : Below B w0 W) (hBq : B ≤ q)
    (h : ∀ W', Blk W' q [] (b.take n) [] → Below B w0 W' → wpList Tryz.prog ops Q rest (a.put o.dst (.int .i64 n)) W') : wpList Tryz.prog ops Q (o :: rest) a W := by
  obtain ⟨hl, ao, cap, rfl, hnc, hcm, hn0, hc⟩ := hb
  have hg : W.heap[q]? = some (.cells (l.map bv).toArray 5) := by have h := hB; unfold Blk at h; simpa using h
  have hlt : (b.take n).length = n := by simp; omega
  refine wpList_copy_splice hgd d s 25 25 ho 5 Tryz.underlying25 infoSize (some ⟨q, 0, none⟩) ao n c b.length cap hd hs q 0 (l.map bv) 5 hg ((b.take n).map bv) (by rw [List.length_map, hlt]; exact (Nat.min_eq_right hlen).symm) ?_ (by simp; omega) (bv_oneCell _) B w0 hbel hBq ?_
  · intro hpos
    refine ⟨rfl, ?_⟩
    rcases hc with h0 | ⟨b', off, rfl, hc⟩
    · rw [List.length_map, hlt] at hpos; omega
    · refine ⟨_, rfl, fun j u hj => ?_⟩
      rw [Addr.add_lit]
      have hjn : j < n := by have := (List.getElem?_eq_some_iff.1 hj).1; rw [List.length_map, hlt] at this; exact this
      rw [List.map_take, List.getElem?_take, if_pos hjn] at hj
      exact hc j u hj
  · intro W' hW hb'
    rw [splice_all _ _ (by rw [List.length_map, hlt, List.length_map, hn])] at hW
    have := h W' (by unfold Blk; simpa using hW.out) hb'
    rw [List.length_map, hlt]
    simpa [goInt] using this

theorem blk_own {W : World} {q : Nat} {l : List UInt8} (h : Blk W q [] l []) : Own W q l := by
  unfold Blk at h
  refine ⟨(l.map bv).toArray, by simpa using h, by simp, ?_⟩
  exact List.take_of_length_le (by simp)

/-- A frame's piece behind the head. -/
theorem bs_head {w : World} {b off n c : Nat} {l : List UInt8} (h : Bs w (.slice (some ⟨b, off, none⟩) n c) l) (h42 : 42 ≤ n) : Bs w (.slice (some ⟨b, off + 38, none⟩) (n - 38) (c - 38)) (l.drop 38) := by
  have hn := h.src.1
  have h2 := h.mid 38 (n - 38) (by omega)
  have hc : n ≤ c := by obtain ⟨_, _, _, e, hc, _⟩ := h; injection e with _ e2 e3; omega
  rw [if_neg (by omega)] at h2
  have e : (l.drop 38).take (n - 38) = l.drop 38 := List.take_of_length_le (by simp; omega)
  rw [e] at h2
  simpa [Addr.add] using h2

theorem below9 {w0 W : World} {B0 b : Nat} (h : Below B0 w0 W) (hb : B0 ≤ b) (v0 v1 v2 v3 v4 v5 v6 v7 v8 : Value) : Below B0 w0 ((((((((((W.setCell ⟨b, 0, none⟩ v0).setCell ⟨b, 1, none⟩ v1).setCell ⟨b, 2, none⟩ v2).setCell ⟨b, 3, none⟩ v3).setCell ⟨b, 4, none⟩ v4).setCell ⟨b, 5, none⟩ v5).setCell ⟨b, 6, none⟩ v6).setCell ⟨b, 7, none⟩ v7).setCell ⟨b, 8, none⟩ v8)) :=
  (below8 h hb v0 v1 v2 v3 v4 v5 v6 v7).setCell hb v8

theorem ret_pair {c : Array Value} {n m : Int} (h : m = n) : Ending.returned (.tuple #[.agg c, .int .i64 n]) = .returned (.tuple #[.agg c, .int .i64 m]) := by rw [h]

end

section
/-
  The walk of package frame: Parse, the sum and the packet.
-/
open Go.RowKit
set_option linter.unusedVariables false

/-- The packet that a frame's bytes are, its payload in block q. -/
def packV (l : List UInt8) (q : Nat) : Array Value := #[.int .u64 (num l 3 8), .int .i64 (num l 11 4), .int .i64 (num l 15 2), .int .i64 (num l 17 1), .int .i64 (num l 18 2), .int .i64 (num l 20 2), .int .i64 (asInt (num l 22 8)), .int .u64 (num l 30 8), .slice (some ⟨q, 0, none⟩) (num l 15 2) (num l 15 2)]

/-- The payload of a frame. -/
def payB (l : List UInt8) : List UInt8 := (l.drop 38).take (num l 15 2)

end

section
/-
  The walks of the document's own answers for frames: Get, number, Same.
-/
open Go.RowKit
set_option linter.unusedVariables false

theorem add64_nat (m : Nat) (y : UInt8) (hm : m < 18446744073709551616) : IntKind.u64.wrap (IntKind.u64.wrap ((m : Int) * 256) + (y.toNat : Int)) = (((m * 256 + y.toNat) % 18446744073709551616 : Nat) : Int) := by
  have hwr : ∀ x : Int, IntKind.u64.wrap x = x % 18446744073709551616 := by intro x; simp [IntKind.wrap, IntKind.bits, IntKind.signed]
  rw [hwr, hwr]
  omega


set_option maxRecDepth 100000 in
set_option maxHeartbeats 1000000 in
/-- The document's Same, of packets that are one. -/
theorem same6_yes (S N B Q E F L I : Int) (a1 a2 : Option Addr) (n1 n2 k1 k2 : Nat) (p : List UInt8) (w : World) (h1 : Bs w (.slice a1 n1 k1) p) (h2 : Bs w (.slice a2 n2 k2) p) :
    Calls Tryz.prog 10 #[.agg #[.int .u64 S, .int .i64 N, .int .i64 B, .int .i64 Q, .int .i64 E, .int .i64 F, .int .i64 L, .int .u64 I, .slice a1 n1 k1], .agg #[.int .u64 S, .int .i64 N, .int .i64 B, .int .i64 Q, .int .i64 E, .int .i64 F, .int .i64 L, .int .u64 I, .slice a2 n2 k2]] w fun e w' => e = .returned (.bool true) ∧ Below w.heap.size w w' := by
  have q1 := fun o o' => conv_bytes ((h1.below (below_alloc w o)).below (below_alloc (w.alloc o) o'))
  have q2 := fun o o' => conv_bytes ((h2.below (below_alloc w o)).below (below_alloc (w.alloc o) o'))
  clear h1 h2
  go_enter Tryz.func10, Tryz.ntmps10
  go_wp2
  go_ret
  exact ⟨rfl, (below_alloc _ _).alloc (by simp) _⟩

end

section
/-
  The walk of the document's own Parse.
-/
open Go.RowKit
set_option linter.unusedVariables false

/-- The packet that a frame's bytes are, its payload in block q, with room k. -/
def packW (l : List UInt8) (q k : Nat) : Array Value := #[.int .u64 (num l 3 8), .int .i64 (num l 11 4), .int .i64 (num l 15 2), .int .i64 (num l 17 1), .int .i64 (num l 18 2), .int .i64 (num l 20 2), .int .i64 (asInt (num l 22 8)), .int .u64 (num l 30 8), .slice (some ⟨q, 0, none⟩) (num l 15 2) k]

/-- What the document's Parse answers. -/
def RP (l : List UInt8) (r : Array Value) (W : World) : Prop :=
  (parseE l ≠ 0 ∧ r = #[.int .u64 0, .int .i64 0, .int .i64 0, .int .i64 0, .int .i64 0, .int .i64 0, .int .i64 0, .int .u64 0, .slice none 0 0]) ∨ (parseE l = 0 ∧ ∃ q k, r = packW l q k ∧ Bs W (.slice (some ⟨q, 0, none⟩) (num l 15 2) k) (payB l))

theorem num_one (l : List UInt8) (a : Nat) (h : a < l.length) : num l a 1 = (l[a]).toNat := by
  unfold num
  rw [List.drop_eq_getElem_cons h, List.take_succ_cons, List.take_zero]
  have := (l[a]).toNat_lt
  show (0 * 256 + (l[a]).toNat) % 18446744073709551616 = _
  omega

theorem ret_rp {l : List UInt8} {n : Int} {r : Array Value} {W w : World} (h : parseE l = n) (hr : RP l r W) (hb : Below w.heap.size w W) :
    ∃ r', Ending.returned (.tuple #[.agg r, .int .i64 n]) = .returned (.tuple #[.agg r', .int .i64 (parseE l)]) ∧ RP l r' W ∧ Below w.heap.size w W := ⟨r, by rw [h], hr, hb⟩

theorem rp_no {l : List UInt8} {n : Int} {W : World} (h : parseE l = n) (hn : n ≠ 0) : RP l #[.int .u64 0, .int .i64 0, .int .i64 0, .int .i64 0, .int .i64 0, .int .i64 0, .int .i64 0, .int .u64 0, .slice none 0 0] W := .inl ⟨by rw [h]; exact hn, rfl⟩

theorem pe_short {l : List UInt8} (h : l.length < 42) : parseE l = 4 := by unfold parseE; rw [if_pos h]
theorem pe_head {l : List UInt8} (h : ¬ l.length < 42) (hh : headE l ≠ 0) : parseE l = headE l := by unfold parseE; rw [if_neg h, if_pos hh]
theorem pe_len {l : List UInt8} (h : ¬ l.length < 42) (hh : headE l = 0) (hl : l.length ≠ 42 + num l 15 2) : parseE l = 7 := by unfold parseE; rw [if_neg h, if_neg (by rw [hh]; simp), if_pos hl]
theorem pe_sum {l : List UInt8} (h : ¬ l.length < 42) (hh : headE l = 0) (hl : l.length = 42 + num l 15 2) (hr : rightB l = false) : parseE l = 8 := by unfold parseE; rw [if_neg h, if_neg (by rw [hh]; simp), if_neg (by rw [← hl]; simp), if_pos hr]
theorem pe_ok {l : List UInt8} (h : ¬ l.length < 42) (hh : headE l = 0) (hl : l.length = 42 + num l 15 2) (hr : rightB l = true) : parseE l = 0 := by unfold parseE; rw [if_neg h, if_neg (by rw [hh]; simp), if_neg (by rw [← hl]; simp), if_neg (by rw [hr]; simp)]

theorem rp_end {w W W' : World} {T : List UInt8} {z0 z1 z2 z3 z4 z5 z7 : Nat} {z6 : Int} {qq kk : Nat} (NW : Nine W' w.heap.size 0 0 0 0 0 0 0 0 (.slice none 0 0)) (hX : Below w.heap.size w W') (hlt : w.heap.size < W.heap.size) (hown : IsOwn W.heap.size (payB T) (.slice (some ⟨qq, 0, none⟩) (payB T).length kk) W') (PE : parseE T = 0)
    (PW : packW T = fun q k => #[.int .u64 (z0 : Nat), .int .i64 (z1 : Nat), .int .i64 (z2 : Nat), .int .i64 (z3 : Nat), .int .i64 (z4 : Nat), .int .i64 (z5 : Nat), .int .i64 z6, .int .u64 (z7 : Nat), .slice (some ⟨q, 0, none⟩) z2 k]) (PL : (payB T).length = z2) (HZ2 : num T 15 2 = z2) :
    ∃ r', Ending.returned (.tuple #[.agg #[.int .u64 (z0 : Nat), .int .i64 (z1 : Nat), .int .i64 (z2 : Nat), .int .i64 (z3 : Nat), .int .i64 (z4 : Nat), .int .i64 (z5 : Nat), .int .i64 z6, .int .u64 (z7 : Nat), (.slice (some ⟨qq, 0, none⟩) (payB T).length kk)], .int .i64 0]) = .returned (.tuple #[.agg r', .int .i64 (parseE T)]) ∧ RP T r' (((((((((W'.setCell ⟨w.heap.size, 0, none⟩ (.int .u64 (z0 : Nat))).setCell ⟨w.heap.size, 1, none⟩ (.int .i64 (z1 : Nat))).setCell ⟨w.heap.size, 2, none⟩ (.int .i64 (z2 : Nat))).setCell ⟨w.heap.size, 3, none⟩ (.int .i64 (z3 : Nat))).setCell ⟨w.heap.size, 4, none⟩ (.int .i64 (z4 : Nat))).setCell ⟨w.heap.size, 5, none⟩ (.int .i64 (z5 : Nat))).setCell ⟨w.heap.size, 6, none⟩ (.int .i64 z6)).setCell ⟨w.heap.size, 7, none⟩ (.int .u64 (z7 : Nat))).setCell ⟨w.heap.size, 8, none⟩ (.slice (some ⟨qq, 0, none⟩) (payB T).length kk)) ∧ Below w.heap.size w (((((((((W'.setCell ⟨w.heap.size, 0, none⟩ (.int .u64 (z0 : Nat))).setCell ⟨w.heap.size, 1, none⟩ (.int .i64 (z1 : Nat))).setCell ⟨w.heap.size, 2, none⟩ (.int .i64 (z2 : Nat))).setCell ⟨w.heap.size, 3, none⟩ (.int .i64 (z3 : Nat))).setCell ⟨w.heap.size, 4, none⟩ (.int .i64 (z4 : Nat))).setCell ⟨w.heap.size, 5, none⟩ (.int .i64 (z5 : Nat))).setCell ⟨w.heap.size, 6, none⟩ (.int .i64 z6)).setCell ⟨w.heap.size, 7, none⟩ (.int .u64 (z7 : Nat))).setCell ⟨w.heap.size, 8, none⟩ (.slice (some ⟨qq, 0, none⟩) (payB T).length kk)) := by
  obtain ⟨q2, k2, post, e2, hq2, hbl, hle, hcm, hcap⟩ := hown
  injection e2 with e2 _ e4
  injection e2 with e2
  injection e2 with e2 _ _
  subst e2; subst e4
  refine ⟨packW T qq kk, by rw [PW, PE, PL], .inr ⟨PE, qq, kk, rfl, ?_⟩, below9 hX (Nat.le_refl _) _ _ _ _ _ _ _ _ _⟩
  have hne : qq ≠ w.heap.size := by omega
  have hk : ∀ (W : World) (i : Nat) (u : Value), (W.setCell ⟨w.heap.size, i, none⟩ u).heap[qq]? = W.heap[qq]? := fun W i u => Below.heap_setCell W ⟨w.heap.size, i, none⟩ u _ hne
  refine (hbl.kept ?_).bs0 _ _ (by rw [HZ2, PL]) (by omega) hcm
  rw [hk, hk, hk, hk, hk, hk, hk, hk, hk]

end

section
/-
  What is read of a frame, and of what was read; the frame statements' own first look.
-/
open Go.RowKit
set_option linter.unusedVariables false

/-- What is read of a frame that was written. -/
theorem pack_frame (S N B Q E F L I : Nat) (p : List UInt8) (hS : S < 2 ^ 64) (hI : I < 2 ^ 64) (hm : MayH N B Q E F L) (hp : p.length = B) :
    (∀ q, packV (frameB S N B Q E F L I p) q = #[.int .u64 (S : Nat), .int .i64 (N : Nat), .int .i64 (B : Nat), .int .i64 (Q : Nat), .int .i64 (E : Nat), .int .i64 (F : Nat), .int .i64 (L : Nat), .int .u64 (I : Nat), .slice (some ⟨q, 0, none⟩) B B]) ∧ payB (frameB S N B Q E F L I p) = p := by
  obtain ⟨⟨hN, hB, hQ, hE, hF, hEF⟩, hL0, hL⟩ := hm
  have hr := most_range hN hB
  obtain ⟨h0, h1, h2, h3, h4, h5, h6, h7, h8, h9, h10⟩ := frame_parts S N B Q E F L I p hS (by omega) (by omega) (by omega) (by omega) (by omega) (by omega) hI
  constructor
  · intro q
    unfold packV
    rw [h2, h3, h4, h5, h6, h7, h8, h9, asInt_small L (by omega)]
  · unfold payB
    rw [hp] at h10
    rw [h4]
    exact h10

/-- What was read of bytes that are a frame. -/
theorem parsed_ok (l : List UInt8) (h : parseE l = 0) : ∃ z0 z1 z2 z3 z4 z5 z6 z7 : Nat, (∀ q, packV l q = #[.int .u64 (z0 : Nat), .int .i64 (z1 : Nat), .int .i64 (z2 : Nat), .int .i64 (z3 : Nat), .int .i64 (z4 : Nat), .int .i64 (z5 : Nat), .int .i64 (z6 : Nat), .int .u64 (z7 : Nat), .slice (some ⟨q, 0, none⟩) z2 z2]) ∧ (∀ q k, packW l q k = #[.int .u64 (z0 : Nat), .int .i64 (z1 : Nat), .int .i64 (z2 : Nat), .int .i64 (z3 : Nat), .int .i64 (z4 : Nat), .int .i64 (z5 : Nat), .int .i64 (z6 : Nat), .int .u64 (z7 : Nat), .slice (some ⟨q, 0, none⟩) z2 k]) ∧
    MayH z1 z2 z3 z4 z5 z6 ∧ frameB z0 z1 z2 z3 z4 z5 z6 z7 (payB l) = l ∧ (payB l).length = z2 ∧ l.length = 42 + z2 ∧ z0 < 2 ^ 64 ∧ z7 < 2 ^ 64 ∧ num l 15 2 = z2 := by
  obtain ⟨h42, hlen, hmay, hL, hfr⟩ := frame_parse l h
  refine ⟨num l 3 8, num l 11 4, num l 15 2, num l 17 1, num l 18 2, num l 20 2, num l 22 8, num l 30 8, ?_, ?_, hmay, hfr, ?_, hlen, num_lt l 3 8, num_lt l 30 8, rfl⟩
  · intro q
    unfold packV
    rw [hL]
  · intro q k
    unfold packW
    rw [hL]
  · unfold payB
    simp
    omega

theorem bs_nil (w : World) : Bs w (.slice none 0 0) [] := ⟨rfl, none, 0, rfl, Nat.le_refl _, by simp [maxLen], fun _ => rfl, .inl rfl⟩

theorem may_smallF : MayH ((3 : Nat) : Int) ((2 : Nat) : Int) ((1 : Nat) : Int) ((1000 : Nat) : Int) ((2 : Nat) : Int) ((6 : Nat) : Int) := by unfold MayH May; decide

end

section
/-
  The walk of the document's own Encode.
-/
open Go.RowKit
set_option linter.unusedVariables false

/-- An operation that isn't done has left its slot as it was. -/
def Ini (listed : Array Bool) (xv : Nat → Value) (c : Nat) (v : Value) : Prop := listed.getD c false = false → xv c = v

theorem Ini.skip {listed : Array Bool} {xv : Nat → Value} {c i : Nat} {v u : Value} (h : Ini listed xv c v) (hc : c ≠ i) : Ini (listed.setIfInBounds i true) (updV xv i u) c v := by
  intro hl
  rw [getD_set_other hc] at hl
  unfold updV
  rw [if_neg hc]
  exact h hl

theorem Ini.done {listed : Array Bool} {xv : Nat → Value} {c : Nat} {v u : Value} (h : listed.getD c true = false) : Ini (listed.setIfInBounds c true) (updV xv c u) c v := by
  intro hl
  rw [getD_set_self h] at hl
  cases hl

/-- Bytes that are owned, from base on. -/
def IsOw (base : Nat) (l : List UInt8) : Value → World → Prop := fun v W => ∃ a c, v = .slice a l.length c ∧ W.ownsRow base 5 1 (.slice a l.length c) l.length (l.map bv)

theorem stays_ow (base : Nat) (l : List UInt8) : Stays (IsOw base l) := fun _ _ _ hb ⟨a, c, h1, h2⟩ => ⟨a, c, h1, owns_kept h2 (fun q hq => hb.block q (h2.lt q hq).2)⟩

theorem IsOw.bs {base : Nat} {l : List UInt8} {v : Value} {W : World} (h : IsOw base l v W) : Bs W v l := by
  obtain ⟨a, c, rfl, h⟩ := h
  exact owned_sl h

theorem owns_monoF {w : World} {base base' : Nat} {e : TypeId} {size : Nat} {v : Value} {n : Nat} {xs : List Value} (h : w.ownsRow base' e size v n xs) (hb : base ≤ base') : w.ownsRow base e size v n xs := by
  refine ⟨h.1, ?_⟩
  rcases h.2 with h' | ⟨g, cap, cur, hv, hg, hx⟩
  · exact .inl h'
  · exact .inr ⟨g, cap, cur, hv, Nat.le_trans hb hg, hx⟩

/-- The document's Put, as a step. -/
theorem rput_step (base : Nat) (l : List UInt8) (n s : Nat) (v : Value) (W : World) (hb : base ≤ W.heap.size) (hv : Bs W v l) (hl : l.length ≤ 1000) (hn : n < 18446744073709551616) (h1 : 1 ≤ s) (h8 : s ≤ 8) :
    Calls Tryz.prog 64 #[v, .int .u64 n, .int .i64 s] W fun e w' => ∃ u, e = .returned u ∧ IsOw base (l ++ be n s) u w' ∧ Below W.heap.size W w' := by
  refine (rput_any v l n s W hv (by omega) hn h1 h8).mono ?_
  rintro e w' ⟨a, c, rfl, ho, hb', -, -⟩
  have hlen : (l ++ be n s).length = l.length + s := by rw [List.length_append, be_length]
  refine ⟨_, rfl, ⟨a, c, by rw [hlen], ?_⟩, hb'⟩
  rw [hlen]
  exact owns_monoF ho hb

theorem Nine.all {W : World} {b : Nat} {S N B Q E F L I : Int} {v : Value} (h : Nine W b S N B Q E F L I v) : W.cell? ⟨b, 0, none⟩ = some (.int .u64 S) ∧ W.cell? ⟨b, 1, none⟩ = some (.int .i64 N) ∧ W.cell? ⟨b, 2, none⟩ = some (.int .i64 B) ∧ W.cell? ⟨b, 3, none⟩ = some (.int .i64 Q) ∧ W.cell? ⟨b, 4, none⟩ = some (.int .i64 E) ∧ W.cell? ⟨b, 5, none⟩ = some (.int .i64 F) ∧ W.cell? ⟨b, 6, none⟩ = some (.int .i64 L) ∧ W.cell? ⟨b, 7, none⟩ = some (.int .u64 I) ∧ W.cell? ⟨b, 8, none⟩ = some v := by
  obtain ⟨⟨h0, h1, h2, h3, h4, h5, h6, h7⟩, h8⟩ := h
  exact ⟨h0, h1, h2, h3, h4, h5, h6, h7, h8⟩

set_option maxRecDepth 100000 in
set_option maxHeartbeats 1000000 in
/-- The document's Encode, where the header may not be. -/
theorem renc_no (S N B Q E F L I : Int) (v : Value) (w : World) (hm : ¬ MayH N B Q E F L) :
    Calls Tryz.prog 26 #[.agg #[.int .u64 S, .int .i64 N, .int .i64 B, .int .i64 Q, .int .i64 E, .int .i64 F, .int .i64 L, .int .u64 I, v]] w fun e w' => e = .returned (.tuple #[.slice none 0 0, .int .i64 1]) ∧ Below w.heap.size w w' := by
  go_enter Tryz.func26, Tryz.ntmps26
  go_wp2_with fail
  refine (rmayh_any S N B Q E F L I _).mono ?_
  rintro e w1 ⟨rfl, hb1⟩
  rw [@decide_eq_false _ (decMayH _ _ _ _ _ _) hm]
  have B1 : Hid (Below w.heap.size w w1) := below_mid (below_alloc _ _) hb1
  clear hb1 hm
  go_wp2
  go_ret2
  exact ⟨rfl, B1.out⟩

set_option maxRecDepth 100000 in
set_option maxHeartbeats 1000000 in
/-- The document's Encode, where the payload isn't as long. -/
theorem renc_len (S N B Q E F L I : Int) (a : Option Addr) (n k : Nat) (w : World) (hm : MayH N B Q E F L) (hn : (n : Int) ≠ B) :
    Calls Tryz.prog 26 #[.agg #[.int .u64 S, .int .i64 N, .int .i64 B, .int .i64 Q, .int .i64 E, .int .i64 F, .int .i64 L, .int .u64 I, .slice a n k]] w fun e w' => e = .returned (.tuple #[.slice none 0 0, .int .i64 7]) ∧ Below w.heap.size w w' := by
  go_enter Tryz.func26, Tryz.ntmps26
  go_wp2_with fail
  refine (rmayh_any S N B Q E F L I _).mono ?_
  rintro e w1 ⟨rfl, hb1⟩
  rw [@decide_eq_true _ (decMayH _ _ _ _ _ _) hm]
  have B1 : Hid (Below w.heap.size w w1) := below_mid (below_alloc _ _) hb1
  have N1 : Hid (Nine w1 w.heap.size S N B Q E F L I (.slice a n k)) := (nine_new w _ S N B Q E F L I _).below hb1
  clear hb1 hm
  obtain ⟨⟨c0, c1, c2, c3, c4, c5, c6, c7⟩, c8⟩ := N1.out
  go_wp2
  go_ret2
  exact ⟨rfl, B1.out⟩

set_option maxRecDepth 100000 in
set_option maxHeartbeats 4000000 in
/-- The document's Encode: the frame. -/
theorem renc_yes (S N B Q E F L I : Nat) (a : Option Addr) (k : Nat) (p : List UInt8) (w : World) (hm : MayH N B Q E F L) (hS : S < 2 ^ 64) (hI : I < 2 ^ 64) (hp : Bs w (.slice a B k) p) (hpl : p.length = B) (hB10 : B ≤ 10000) :
    Calls Tryz.prog 26 #[.agg #[.int .u64 (S : Nat), .int .i64 (N : Nat), .int .i64 (B : Nat), .int .i64 (Q : Nat), .int .i64 (E : Nat), .int .i64 (F : Nat), .int .i64 (L : Nat), .int .u64 (I : Nat), .slice a B k]] w fun e w' => ∃ a' c', e = .returned (.tuple #[.slice a' (42 + B) c', .int .i64 0]) ∧ Bs w' (.slice a' (42 + B) c') (frameB S N B Q E F L I p) ∧ Below w.heap.size w w' := by
  obtain ⟨i0, hi, hz0, hz1, hz2⟩ := info_parts Tryz.infoByte
  have HM : Hid (MayH N B Q E F L) := hm
  obtain ⟨⟨hN, hB, hQ, hE, hF, hEF⟩, hL0, hL⟩ := hm
  have hr := most_range hN hB
  have HU : Hid (S < 18446744073709551616 ∧ N < 18446744073709551616 ∧ B < 18446744073709551616 ∧ Q < 18446744073709551616 ∧ E < 18446744073709551616 ∧ F < 18446744073709551616 ∧ L < 18446744073709551616 ∧ I < 18446744073709551616) := ⟨by omega, by omega, by omega, by omega, by omega, by omega, by omega, by omega⟩
  obtain ⟨k1, k2, k3, k4, k5, k6⟩ : IntKind.u64.wrap (N : Int) = (N : Int) ∧ IntKind.u64.wrap (B : Int) = (B : Int) ∧ IntKind.u64.wrap (Q : Int) = (Q : Int) ∧ IntKind.u64.wrap (E : Int) = (E : Int) ∧ IntKind.u64.wrap (F : Int) = (F : Int) ∧ IntKind.u64.wrap (L : Int) = (L : Int) :=
    ⟨wrapU N (by omega), wrapU B (by omega), wrapU Q (by omega), wrapU E (by omega), wrapU F (by omega), wrapU L (by omega)⟩
  have HP : Hid (Bs w (.slice a B k) p) := hp
  have HPL : Hid (p.length = B) := hpl
  have LE : Hid (∀ n s, (be n s).length = s) := be_length
  clear hN hB hQ hE hF hEF hL0 hL hr hS hI hp hpl
  go_enter Tryz.func26, Tryz.ntmps26
  go_wp2_with fail
  refine (rmayh_any S N B Q E F L I _).mono ?_
  rintro e w1 ⟨rfl, hb1⟩
  rw [@decide_eq_true _ (decMayH _ _ _ _ _ _) HM.out]
  have B1 : Hid (Below w.heap.size w w1) := below_mid (below_alloc _ _) hb1
  have N1 : Hid (Nine w1 w.heap.size S N B Q E F L I (.slice a B k)) := (nine_new w _ S N B Q E F L I _).below hb1
  clear hb1
  obtain ⟨⟨c0, c1, c2, c3, c4, c5, c6, c7⟩, c8⟩ := N1.out
  go_wp2_with fail
  refine (rput_step w1.heap.size [] 16716 2 _ w1 (Nat.le_refl _) (bs_nil _) (by simp) (by omega) (by omega) (by omega)).mono ?_
  rintro e w2 ⟨u2, rfl, ho2, hb2⟩
  go_wp2_with fail
  refine (rput_step w1.heap.size ([] ++ be 16716 2) 1 1 _ w2 hb2.size ho2.bs (by simp [LE.out]) (by omega) (by omega) (by omega)).mono ?_
  rintro e w3 ⟨u3, rfl, ho3, hb3⟩
  have X3' := below_mid hb2 hb3
  have B3 : Hid (Below w.heap.size w w3) := below_mid B1.out X3'
  have N3 : Hid (Nine w3 w.heap.size S N B Q E F L I (.slice a B k)) := N1.out.below X3'
  have O3 : Hid (IsOw w1.heap.size ([] ++ be 16716 2 ++ be 1 1) u3 w3) := ho3
  have S3 : Hid (w1.heap.size ≤ w3.heap.size) := X3'.size
  have HBS : Hid (w.heap.size ≤ w1.heap.size) := B1.out.size
  clear ho2 ho3 hb2 hb3 X3' c0 c1 c2 c3 c4 c5 c6 c7 c8 N1 B1
  obtain ⟨q, hq⟩ : ∃ q, w.heap.size = q := ⟨_, rfl⟩
  obtain ⟨bs, hbs⟩ : ∃ b, w1.heap.size = b := ⟨_, rfl⟩
  rw [hq] at N3
  rw [hbs] at O3 S3 HBS
  clear hbs
  go_wp2
  clear hq
  have BX : Hid (∀ W, Below w3.heap.size w3 W → W.cell? ⟨q, 0, none⟩ = some (.int .u64 (S : Int)) ∧ W.cell? ⟨q, 1, none⟩ = some (.int .i64 (N : Int)) ∧ W.cell? ⟨q, 2, none⟩ = some (.int .i64 (B : Int)) ∧ W.cell? ⟨q, 3, none⟩ = some (.int .i64 (Q : Int)) ∧ W.cell? ⟨q, 4, none⟩ = some (.int .i64 (E : Int)) ∧ W.cell? ⟨q, 5, none⟩ = some (.int .i64 (F : Int)) ∧ W.cell? ⟨q, 6, none⟩ = some (.int .i64 (L : Int)) ∧ W.cell? ⟨q, 7, none⟩ = some (.int .u64 (I : Int)) ∧ W.cell? ⟨q, 8, none⟩ = some (.slice a B k)) := fun W hW => (N3.out.below hW).all
  have CA : Hid (∀ W, Below w3.heap.size w3 W → Calls Tryz.prog 64 #[u3, .int .u64 (S : Int), .int .i64 8] W fun e w' => ∃ v, e = .returned v ∧ IsOw bs ([] ++ be 16716 2 ++ be 1 1 ++ be S 8) v w' ∧ Below W.heap.size W w') := fun W hW => rput_step bs ([] ++ be 16716 2 ++ be 1 1) S 8 u3 W (Nat.le_trans S3.out hW.size) (stays_ow _ _ _ _ _ hW O3.out).bs (by simp [LE.out]) HU.out.1 (by omega) (by omega)
  have CB : Hid (∀ W v, Below w3.heap.size w3 W → IsOw bs ([] ++ be 16716 2 ++ be 1 1 ++ be S 8) v W → Calls Tryz.prog 64 #[v, .int .u64 (N : Int), .int .i64 4] W fun e w' => ∃ v, e = .returned v ∧ IsOw bs ([] ++ be 16716 2 ++ be 1 1 ++ be S 8 ++ be N 4) v w' ∧ Below W.heap.size W w') := fun W v hW hv => rput_step bs ([] ++ be 16716 2 ++ be 1 1 ++ be S 8) N 4 v W (Nat.le_trans S3.out hW.size) hv.bs (by simp [LE.out]) HU.out.2.1 (by omega) (by omega)
  refine wp_region_any (by kernel_rfl) ?_
  obtain ⟨gs, hgs⟩ : ∃ gs : List (Value → World → Prop), gs = [IsV (u3), IsV (.pointer (some ⟨q, 0, none⟩)), IsV (.pointer (some ⟨q, 0, none⟩)), IsV (.int .u64 (S : Int)), IsOw bs ([] ++ be 16716 2 ++ be 1 1 ++ be S 8), IsV (.pointer (some ⟨q, 0, none⟩)), IsV (.pointer (some ⟨q, 1, none⟩)), IsV (.pointer (some ⟨q, 1, none⟩)), IsV (.int .i64 (N : Int)), IsV (.int .u64 (N : Int)), IsOw bs ([] ++ be 16716 2 ++ be 1 1 ++ be S 8 ++ be N 4), IsOw bs ([] ++ be 16716 2 ++ be 1 1 ++ be S 8 ++ be N 4)] := ⟨_, rfl⟩
  have g0 : Hid (gs[0]? = some (IsV (u3))) := by unfold Hid; rw [hgs]; rfl
  have g1 : Hid (gs[1]? = some (IsV (.pointer (some ⟨q, 0, none⟩)))) := by unfold Hid; rw [hgs]; rfl
  have g2 : Hid (gs[2]? = some (IsV (.pointer (some ⟨q, 0, none⟩)))) := by unfold Hid; rw [hgs]; rfl
  have g3 : Hid (gs[3]? = some (IsV (.int .u64 (S : Int)))) := by unfold Hid; rw [hgs]; rfl
  have g4 : Hid (gs[4]? = some (IsOw bs ([] ++ be 16716 2 ++ be 1 1 ++ be S 8))) := by unfold Hid; rw [hgs]; rfl
  have g5 : Hid (gs[5]? = some (IsV (.pointer (some ⟨q, 0, none⟩)))) := by unfold Hid; rw [hgs]; rfl
  have g6 : Hid (gs[6]? = some (IsV (.pointer (some ⟨q, 1, none⟩)))) := by unfold Hid; rw [hgs]; rfl
  have g7 : Hid (gs[7]? = some (IsV (.pointer (some ⟨q, 1, none⟩)))) := by unfold Hid; rw [hgs]; rfl
  have g8 : Hid (gs[8]? = some (IsV (.int .i64 (N : Int)))) := by unfold Hid; rw [hgs]; rfl
  have g9 : Hid (gs[9]? = some (IsV (.int .u64 (N : Int)))) := by unfold Hid; rw [hgs]; rfl
  have g10 : Hid (gs[10]? = some (IsOw bs ([] ++ be 16716 2 ++ be 1 1 ++ be S 8 ++ be N 4))) := by unfold Hid; rw [hgs]; rfl
  have g11 : Hid (gs[11]? = some (IsOw bs ([] ++ be 16716 2 ++ be 1 1 ++ be S 8 ++ be N 4))) := by unfold Hid; rw [hgs]; rfl
  have gk : Hid (∀ p ∈ gs, Stays p) := by
    unfold Hid
    rw [hgs]
    simp only [List.forall_mem_cons]
    exact ⟨stays_v _, stays_v _, stays_v _, stays_v _, stays_ow _ _, stays_v _, stays_v _, stays_v _, stays_v _, stays_v _, stays_ow _ _, stays_ow _ _, by simp⟩
  clear hgs
  refine wpAny_inv3 (fun listed ac W => ∃ xv : Nat → Value, ac = ⟨#[Value.agg #[Value.int IntKind.u64 ↑S, Value.int IntKind.i64 ↑N, Value.int IntKind.i64 ↑B, Value.int IntKind.i64 ↑Q, Value.int IntKind.i64 ↑E, Value.int IntKind.i64 ↑F, Value.int IntKind.i64 ↑L, Value.int IntKind.u64 ↑I, Value.slice a B k], Value.pointer (some { block := q, off := 0 }), Value.slice none 0 0, Value.int IntKind.i64 (0 : Int), xv 11, Value.pointer (some { block := q, off := 0 }), Value.agg #[Value.int IntKind.u64 ↑S, Value.int IntKind.i64 ↑N, Value.int IntKind.i64 ↑B, Value.int IntKind.i64 ↑Q, Value.int IntKind.i64 ↑E, Value.int IntKind.i64 ↑F, Value.int IntKind.i64 ↑L, Value.int IntKind.u64 ↑I], Value.bool true, Value.bool false, Value.pointer (some { block := q, off := 8 }), Value.slice a B k, Value.int IntKind.i64 ↑B, Value.pointer (some { block := q, off := 0 }), Value.pointer (some { block := q, off := 1 }), Value.pointer (some { block := q, off := 2 }), Value.int IntKind.i64 ↑B, Value.bool false, u2, u3, xv 0, xv 1, xv 2, xv 3, xv 4, xv 5, xv 6, xv 7, xv 8, xv 9, xv 10, undef, undef, undef, undef, undef, undef, undef, undef, undef, undef, undef, undef, undef, undef, undef, undef, undef, undef, undef, undef, undef, undef, undef, undef, undef, undef, undef, undef, undef, undef, undef, undef, undef, undef, undef, undef, undef, undef, undef, undef, undef], []⟩ ∧ Below w3.heap.size w3 W ∧ Lst gs listed xv W ∧ Ini listed xv 11 (u3)) (by kernel_rfl) ?_ ?_ _ _ _ _ (by kernel_rfl) (of_decide_eq_true (by kernel_rfl)) (Down.start _) ⟨fun j => if j = 11 then u3 else undef, rfl, below0 _, Lst.start _ _ _ _, (fun _ => rfl)⟩
  · rintro listed ac W ⟨xv, rfl, hb, hG, hI11⟩ hD i hi hnl hd
    have hin : i < 12 := hi
    clear hi
    have hcase : i = 0 ∨ i = 1 ∨ i = 2 ∨ i = 3 ∨ i = 4 ∨ i = 5 ∨ i = 6 ∨ i = 7 ∨ i = 8 ∨ i = 9 ∨ i = 10 ∨ i = 11 := by omega
    rcases hcase with rfl | rfl | rfl | rfl | rfl | rfl | rfl | rfl | rfl | rfl | rfl | rfl
    · refine wpOp_step rfl (fun K' hK => ?_)
      have f11 : listed.getD 11 false = false := by
        cases hx : listed.getD 11 false with
        | false => rfl
        | true =>
          have r0 : listed.getD 0 false = true := by have h := hD 11 (by decide) hx; simp [Region.binds] at h; simp [h]
          rw [getD_false hnl] at r0; cases r0
      have ei11 : xv 11 = u3 := hI11 f11
      clear f11
      have HNL : Hid (listed.getD 0 true = false) := hnl
      clear hnl hD
      clear hd hin
      go_simp
      exact hK _ _ ⟨updV xv 0 (u3), by simp [updV, ei11], hb, hG.same gk.out g0.out _ rfl, hI11.skip (by decide)⟩
    · refine wpOp_step rfl (fun K' hK => ?_)
      have HNL : Hid (listed.getD 1 true = false) := hnl
      clear hnl hD
      clear hd hin
      go_simp
      exact hK _ _ ⟨updV xv 1 (.pointer (some ⟨q, 0, none⟩)), by simp [updV], hb, hG.same gk.out g1.out _ rfl, hI11.skip (by decide)⟩
    · refine wpOp_step rfl (fun K' hK => ?_)
      simp [Region.binds] at hd
      have e1 : xv 1 = .pointer (some ⟨q, 0, none⟩) := hG.get g1.out (by simp [hd])
      have HNL : Hid (listed.getD 2 true = false) := hnl
      clear hnl hD
      clear hd hin
      go_simp
      exact hK _ _ ⟨updV xv 2 (.pointer (some ⟨q, 0, none⟩)), by simp [updV, e1], hb, hG.same gk.out g2.out _ rfl, hI11.skip (by decide)⟩
    · refine wpOp_step rfl (fun K' hK => ?_)
      simp [Region.binds] at hd
      have e2 : xv 2 = .pointer (some ⟨q, 0, none⟩) := hG.get g2.out (by simp [hd])
      have HNL : Hid (listed.getD 3 true = false) := hnl
      clear hnl hD
      obtain ⟨c0, c1, c2, c3, c4, c5, c6, c7, c8⟩ := BX.out W hb
      clear hd hin
      go_simp
      exact hK _ _ ⟨updV xv 3 (.int .u64 (S : Int)), by simp [updV, e2], hb, hG.same gk.out g3.out _ rfl, hI11.skip (by decide)⟩
    · refine wpOp_step rfl (fun K' hK => ?_)
      simp [Region.binds] at hd
      have e0 : xv 0 = u3 := hG.get g0.out (by simp [hd])
      have e3 : xv 3 = .int .u64 (S : Int) := hG.get g3.out (by simp [hd])
      have HNL : Hid (listed.getD 4 true = false) := hnl
      clear hnl hD
      clear hd hin
      go_simp
      refine (CA.out W hb).mono ?_
      rintro e w' ⟨v, rfl, hv, hb'⟩
      go_wp2_with fail
      exact ⟨updV xv 4 v, by simp [updV, e0, e3], hb.trans (hb'.mono hb.size), hG.step gk.out hb' g4.out v hv, hI11.skip (by decide)⟩
    · refine wpOp_step rfl (fun K' hK => ?_)
      have HNL : Hid (listed.getD 5 true = false) := hnl
      clear hnl hD
      clear hd hin
      go_simp
      exact hK _ _ ⟨updV xv 5 (.pointer (some ⟨q, 0, none⟩)), by simp [updV], hb, hG.same gk.out g5.out _ rfl, hI11.skip (by decide)⟩
    · refine wpOp_step rfl (fun K' hK => ?_)
      simp [Region.binds] at hd
      have e5 : xv 5 = .pointer (some ⟨q, 0, none⟩) := hG.get g5.out (by simp [hd])
      have HNL : Hid (listed.getD 6 true = false) := hnl
      clear hnl hD
      clear hd hin
      go_simp
      exact hK _ _ ⟨updV xv 6 (.pointer (some ⟨q, 1, none⟩)), by simp [updV, e5], hb, hG.same gk.out g6.out _ rfl, hI11.skip (by decide)⟩
    · refine wpOp_step rfl (fun K' hK => ?_)
      simp [Region.binds] at hd
      have e6 : xv 6 = .pointer (some ⟨q, 1, none⟩) := hG.get g6.out (by simp [hd])
      have HNL : Hid (listed.getD 7 true = false) := hnl
      clear hnl hD
      clear hd hin
      go_simp
      exact hK _ _ ⟨updV xv 7 (.pointer (some ⟨q, 1, none⟩)), by simp [updV, e6], hb, hG.same gk.out g7.out _ rfl, hI11.skip (by decide)⟩
    · refine wpOp_step rfl (fun K' hK => ?_)
      simp [Region.binds] at hd
      have e7 : xv 7 = .pointer (some ⟨q, 1, none⟩) := hG.get g7.out (by simp [hd])
      have HNL : Hid (listed.getD 8 true = false) := hnl
      clear hnl hD
      obtain ⟨c0, c1, c2, c3, c4, c5, c6, c7, c8⟩ := BX.out W hb
      clear hd hin
      go_simp
      exact hK _ _ ⟨updV xv 8 (.int .i64 (N : Int)), by simp [updV, e7], hb, hG.same gk.out g8.out _ rfl, hI11.skip (by decide)⟩
    · refine wpOp_step rfl (fun K' hK => ?_)
      simp [Region.binds] at hd
      have e8 : xv 8 = .int .i64 (N : Int) := hG.get g8.out (by simp [hd])
      have HNL : Hid (listed.getD 9 true = false) := hnl
      clear hnl hD
      have wr := k1
      clear hd hin
      go_simp
      exact hK _ _ ⟨updV xv 9 (.int .u64 (N : Int)), by simp [updV, e8], hb, hG.same gk.out g9.out _ rfl, hI11.skip (by decide)⟩
    · refine wpOp_step rfl (fun K' hK => ?_)
      simp [Region.binds] at hd
      have m4 : IsOw bs ([] ++ be 16716 2 ++ be 1 1 ++ be S 8) (xv 4) W := hG.get g4.out (by simp [hd])
      have e9 : xv 9 = .int .u64 (N : Int) := hG.get g9.out (by simp [hd])
      have HNL : Hid (listed.getD 10 true = false) := hnl
      clear hnl hD
      clear hd hin
      go_simp
      refine (CB.out W _ hb m4).mono ?_
      rintro e w' ⟨v, rfl, hv, hb'⟩
      go_wp2_with fail
      exact ⟨updV xv 10 v, by simp [updV, e9], hb.trans (hb'.mono hb.size), hG.step gk.out hb' g10.out v hv, hI11.skip (by decide)⟩
    · refine wpOp_step rfl (fun K' hK => ?_)
      simp [Region.binds] at hd
      have m10 : IsOw bs ([] ++ be 16716 2 ++ be 1 1 ++ be S 8 ++ be N 4) (xv 10) W := hG.get g10.out (by simp [hd])
      have HNL : Hid (listed.getD 11 true = false) := hnl
      clear hnl hD
      clear hd hin
      go_simp
      exact hK _ _ ⟨updV xv 11 (xv 10), by simp [updV], hb, hG.same gk.out g11.out _ m10, Ini.done HNL.out⟩
  · rintro listed ac W ⟨xv, rfl, hb, hG, hI11⟩ hall
    have m11 : Hid (IsOw bs ([] ++ be 16716 2 ++ be 1 1 ++ be S 8 ++ be N 4) (xv 11) W) := hG.get g11.out (hall 11 (by decide))
    have XW : Hid (Below w3.heap.size w3 W) := hb
    clear hall hG hb hI11 gk g0 g1 g2 g3 g4 g5 g6 g7 g8 g9 g10 g11
    have N0' : Hid (Nine W q S N B Q E F L I (.slice a B k)) := N3.out.below XW.out
    have B0' : Hid (Below w.heap.size w W) := below_mid B3.out XW.out
    have S0' : Hid (bs ≤ W.heap.size) := Nat.le_trans S3.out XW.out.size
    have O0' : Hid (IsOw bs ([] ++ be 16716 2 ++ be 1 1 ++ be S 8 ++ be N 4) (xv 11) W) := m11.out
    clear BX CA CB XW m11 N3 B3 O3 S3
    generalize xv 11 = t0 at *
    generalize W = y0 at *
    go_wp2
    have BX : Hid (∀ W, Below y0.heap.size y0 W → W.cell? ⟨q, 0, none⟩ = some (.int .u64 (S : Int)) ∧ W.cell? ⟨q, 1, none⟩ = some (.int .i64 (N : Int)) ∧ W.cell? ⟨q, 2, none⟩ = some (.int .i64 (B : Int)) ∧ W.cell? ⟨q, 3, none⟩ = some (.int .i64 (Q : Int)) ∧ W.cell? ⟨q, 4, none⟩ = some (.int .i64 (E : Int)) ∧ W.cell? ⟨q, 5, none⟩ = some (.int .i64 (F : Int)) ∧ W.cell? ⟨q, 6, none⟩ = some (.int .i64 (L : Int)) ∧ W.cell? ⟨q, 7, none⟩ = some (.int .u64 (I : Int)) ∧ W.cell? ⟨q, 8, none⟩ = some (.slice a B k)) := fun W hW => (N0'.out.below hW).all
    have CA : Hid (∀ W, Below y0.heap.size y0 W → Calls Tryz.prog 64 #[t0, .int .u64 (B : Int), .int .i64 2] W fun e w' => ∃ v, e = .returned v ∧ IsOw bs ([] ++ be 16716 2 ++ be 1 1 ++ be S 8 ++ be N 4 ++ be B 2) v w' ∧ Below W.heap.size W w') := fun W hW => rput_step bs ([] ++ be 16716 2 ++ be 1 1 ++ be S 8 ++ be N 4) B 2 t0 W (Nat.le_trans S0'.out hW.size) (stays_ow _ _ _ _ _ hW O0'.out).bs (by simp [LE.out]) HU.out.2.2.1 (by omega) (by omega)
    have CB : Hid (∀ W v, Below y0.heap.size y0 W → IsOw bs ([] ++ be 16716 2 ++ be 1 1 ++ be S 8 ++ be N 4 ++ be B 2) v W → Calls Tryz.prog 64 #[v, .int .u64 (Q : Int), .int .i64 1] W fun e w' => ∃ v, e = .returned v ∧ IsOw bs ([] ++ be 16716 2 ++ be 1 1 ++ be S 8 ++ be N 4 ++ be B 2 ++ be Q 1) v w' ∧ Below W.heap.size W w') := fun W v hW hv => rput_step bs ([] ++ be 16716 2 ++ be 1 1 ++ be S 8 ++ be N 4 ++ be B 2) Q 1 v W (Nat.le_trans S0'.out hW.size) hv.bs (by simp [LE.out]) HU.out.2.2.2.1 (by omega) (by omega)
    refine wp_region_any (by kernel_rfl) ?_
    obtain ⟨gs, hgs⟩ : ∃ gs : List (Value → World → Prop), gs = [IsV (t0), IsV (.pointer (some ⟨q, 0, none⟩)), IsV (.pointer (some ⟨q, 1, none⟩)), IsV (.pointer (some ⟨q, 2, none⟩)), IsV (.int .i64 (B : Int)), IsV (.int .u64 (B : Int)), IsOw bs ([] ++ be 16716 2 ++ be 1 1 ++ be S 8 ++ be N 4 ++ be B 2), IsV (.pointer (some ⟨q, 0, none⟩)), IsV (.pointer (some ⟨q, 1, none⟩)), IsV (.pointer (some ⟨q, 3, none⟩)), IsV (.int .i64 (Q : Int)), IsV (.int .u64 (Q : Int)), IsOw bs ([] ++ be 16716 2 ++ be 1 1 ++ be S 8 ++ be N 4 ++ be B 2 ++ be Q 1), IsOw bs ([] ++ be 16716 2 ++ be 1 1 ++ be S 8 ++ be N 4 ++ be B 2 ++ be Q 1)] := ⟨_, rfl⟩
    have g0 : Hid (gs[0]? = some (IsV (t0))) := by unfold Hid; rw [hgs]; rfl
    have g1 : Hid (gs[1]? = some (IsV (.pointer (some ⟨q, 0, none⟩)))) := by unfold Hid; rw [hgs]; rfl
    have g2 : Hid (gs[2]? = some (IsV (.pointer (some ⟨q, 1, none⟩)))) := by unfold Hid; rw [hgs]; rfl
    have g3 : Hid (gs[3]? = some (IsV (.pointer (some ⟨q, 2, none⟩)))) := by unfold Hid; rw [hgs]; rfl
    have g4 : Hid (gs[4]? = some (IsV (.int .i64 (B : Int)))) := by unfold Hid; rw [hgs]; rfl
    have g5 : Hid (gs[5]? = some (IsV (.int .u64 (B : Int)))) := by unfold Hid; rw [hgs]; rfl
    have g6 : Hid (gs[6]? = some (IsOw bs ([] ++ be 16716 2 ++ be 1 1 ++ be S 8 ++ be N 4 ++ be B 2))) := by unfold Hid; rw [hgs]; rfl
    have g7 : Hid (gs[7]? = some (IsV (.pointer (some ⟨q, 0, none⟩)))) := by unfold Hid; rw [hgs]; rfl
    have g8 : Hid (gs[8]? = some (IsV (.pointer (some ⟨q, 1, none⟩)))) := by unfold Hid; rw [hgs]; rfl
    have g9 : Hid (gs[9]? = some (IsV (.pointer (some ⟨q, 3, none⟩)))) := by unfold Hid; rw [hgs]; rfl
    have g10 : Hid (gs[10]? = some (IsV (.int .i64 (Q : Int)))) := by unfold Hid; rw [hgs]; rfl
    have g11 : Hid (gs[11]? = some (IsV (.int .u64 (Q : Int)))) := by unfold Hid; rw [hgs]; rfl
    have g12 : Hid (gs[12]? = some (IsOw bs ([] ++ be 16716 2 ++ be 1 1 ++ be S 8 ++ be N 4 ++ be B 2 ++ be Q 1))) := by unfold Hid; rw [hgs]; rfl
    have g13 : Hid (gs[13]? = some (IsOw bs ([] ++ be 16716 2 ++ be 1 1 ++ be S 8 ++ be N 4 ++ be B 2 ++ be Q 1))) := by unfold Hid; rw [hgs]; rfl
    have gk : Hid (∀ p ∈ gs, Stays p) := by
      unfold Hid
      rw [hgs]
      simp only [List.forall_mem_cons]
      exact ⟨stays_v _, stays_v _, stays_v _, stays_v _, stays_v _, stays_v _, stays_ow _ _, stays_v _, stays_v _, stays_v _, stays_v _, stays_v _, stays_ow _ _, stays_ow _ _, by simp⟩
    clear hgs
    refine wpAny_inv3 (fun listed ac Wx => ∃ xvx : Nat → Value, ac = ⟨#[Value.agg #[Value.int IntKind.u64 ↑S, Value.int IntKind.i64 ↑N, Value.int IntKind.i64 ↑B, Value.int IntKind.i64 ↑Q, Value.int IntKind.i64 ↑E, Value.int IntKind.i64 ↑F, Value.int IntKind.i64 ↑L, Value.int IntKind.u64 ↑I, Value.slice a B k], Value.pointer (some { block := q, off := 0 }), Value.slice none 0 0, Value.int IntKind.i64 (0 : Int), xvx 13, Value.pointer (some { block := q, off := 0 }), Value.agg #[Value.int IntKind.u64 ↑S, Value.int IntKind.i64 ↑N, Value.int IntKind.i64 ↑B, Value.int IntKind.i64 ↑Q, Value.int IntKind.i64 ↑E, Value.int IntKind.i64 ↑F, Value.int IntKind.i64 ↑L, Value.int IntKind.u64 ↑I], Value.bool true, Value.bool false, Value.pointer (some { block := q, off := 8 }), Value.slice a B k, Value.int IntKind.i64 ↑B, Value.pointer (some { block := q, off := 0 }), Value.pointer (some { block := q, off := 1 }), Value.pointer (some { block := q, off := 2 }), Value.int IntKind.i64 ↑B, Value.bool false, u2, u3, xv 0, xv 1, xv 2, xv 3, xv 4, xv 5, xv 6, xv 7, xv 8, xv 9, xv 10, xvx 0, xvx 1, xvx 2, xvx 3, xvx 4, xvx 5, xvx 6, xvx 7, xvx 8, xvx 9, xvx 10, xvx 11, xvx 12, undef, undef, undef, undef, undef, undef, undef, undef, undef, undef, undef, undef, undef, undef, undef, undef, undef, undef, undef, undef, undef, undef, undef, undef, undef, undef, undef, undef], []⟩ ∧ Below y0.heap.size y0 Wx ∧ Lst gs listed xvx Wx ∧ Ini listed xvx 13 (t0)) (by kernel_rfl) ?_ ?_ _ _ _ _ (by kernel_rfl) (of_decide_eq_true (by kernel_rfl)) (Down.start _) ⟨fun j => if j = 13 then t0 else undef, rfl, below0 _, Lst.start _ _ _ _, (fun _ => rfl)⟩
    · rintro listed ac Wx ⟨xvx, rfl, hb, hG, hI13⟩ hD i hi hnl hd
      have hin : i < 14 := hi
      clear hi
      have hcase : i = 0 ∨ i = 1 ∨ i = 2 ∨ i = 3 ∨ i = 4 ∨ i = 5 ∨ i = 6 ∨ i = 7 ∨ i = 8 ∨ i = 9 ∨ i = 10 ∨ i = 11 ∨ i = 12 ∨ i = 13 := by omega
      rcases hcase with rfl | rfl | rfl | rfl | rfl | rfl | rfl | rfl | rfl | rfl | rfl | rfl | rfl | rfl
      · refine wpOp_step rfl (fun K' hK => ?_)
        have f13 : listed.getD 13 false = false := by
          cases hx : listed.getD 13 false with
          | false => rfl
          | true =>
            have r0 : listed.getD 0 false = true := by have h := hD 13 (by decide) hx; simp [Region.binds] at h; simp [h]
            rw [getD_false hnl] at r0; cases r0
        have ei13 : xvx 13 = t0 := hI13 f13
        clear f13
        have HNL : Hid (listed.getD 0 true = false) := hnl
        clear hnl hD
        clear hd hin
        go_simp
        exact hK _ _ ⟨updV xvx 0 (t0), by simp [updV, ei13], hb, hG.same gk.out g0.out _ rfl, hI13.skip (by decide)⟩
      · refine wpOp_step rfl (fun K' hK => ?_)
        have HNL : Hid (listed.getD 1 true = false) := hnl
        clear hnl hD
        clear hd hin
        go_simp
        exact hK _ _ ⟨updV xvx 1 (.pointer (some ⟨q, 0, none⟩)), by simp [updV], hb, hG.same gk.out g1.out _ rfl, hI13.skip (by decide)⟩
      · refine wpOp_step rfl (fun K' hK => ?_)
        simp [Region.binds] at hd
        have e1 : xvx 1 = .pointer (some ⟨q, 0, none⟩) := hG.get g1.out (by simp [hd])
        have HNL : Hid (listed.getD 2 true = false) := hnl
        clear hnl hD
        clear hd hin
        go_simp
        exact hK _ _ ⟨updV xvx 2 (.pointer (some ⟨q, 1, none⟩)), by simp [updV, e1], hb, hG.same gk.out g2.out _ rfl, hI13.skip (by decide)⟩
      · refine wpOp_step rfl (fun K' hK => ?_)
        simp [Region.binds] at hd
        have e2 : xvx 2 = .pointer (some ⟨q, 1, none⟩) := hG.get g2.out (by simp [hd])
        have HNL : Hid (listed.getD 3 true = false) := hnl
        clear hnl hD
        clear hd hin
        go_simp
        exact hK _ _ ⟨updV xvx 3 (.pointer (some ⟨q, 2, none⟩)), by simp [updV, e2], hb, hG.same gk.out g3.out _ rfl, hI13.skip (by decide)⟩
      · refine wpOp_step rfl (fun K' hK => ?_)
        simp [Region.binds] at hd
        have e3 : xvx 3 = .pointer (some ⟨q, 2, none⟩) := hG.get g3.out (by simp [hd])
        have HNL : Hid (listed.getD 4 true = false) := hnl
        clear hnl hD
        obtain ⟨c0, c1, c2, c3, c4, c5, c6, c7, c8⟩ := BX.out Wx hb
        clear hd hin
        go_simp
        exact hK _ _ ⟨updV xvx 4 (.int .i64 (B : Int)), by simp [updV, e3], hb, hG.same gk.out g4.out _ rfl, hI13.skip (by decide)⟩
      · refine wpOp_step rfl (fun K' hK => ?_)
        simp [Region.binds] at hd
        have e4 : xvx 4 = .int .i64 (B : Int) := hG.get g4.out (by simp [hd])
        have HNL : Hid (listed.getD 5 true = false) := hnl
        clear hnl hD
        have wr := k2
        clear hd hin
        go_simp
        exact hK _ _ ⟨updV xvx 5 (.int .u64 (B : Int)), by simp [updV, e4], hb, hG.same gk.out g5.out _ rfl, hI13.skip (by decide)⟩
      · refine wpOp_step rfl (fun K' hK => ?_)
        simp [Region.binds] at hd
        have e0 : xvx 0 = t0 := hG.get g0.out (by simp [hd])
        have e5 : xvx 5 = .int .u64 (B : Int) := hG.get g5.out (by simp [hd])
        have HNL : Hid (listed.getD 6 true = false) := hnl
        clear hnl hD
        clear hd hin
        go_simp
        refine (CA.out Wx hb).mono ?_
        rintro e w' ⟨v, rfl, hv, hb'⟩
        go_wp2_with fail
        exact ⟨updV xvx 6 v, by simp [updV, e0, e5], hb.trans (hb'.mono hb.size), hG.step gk.out hb' g6.out v hv, hI13.skip (by decide)⟩
      · refine wpOp_step rfl (fun K' hK => ?_)
        have HNL : Hid (listed.getD 7 true = false) := hnl
        clear hnl hD
        clear hd hin
        go_simp
        exact hK _ _ ⟨updV xvx 7 (.pointer (some ⟨q, 0, none⟩)), by simp [updV], hb, hG.same gk.out g7.out _ rfl, hI13.skip (by decide)⟩
      · refine wpOp_step rfl (fun K' hK => ?_)
        simp [Region.binds] at hd
        have e7 : xvx 7 = .pointer (some ⟨q, 0, none⟩) := hG.get g7.out (by simp [hd])
        have HNL : Hid (listed.getD 8 true = false) := hnl
        clear hnl hD
        clear hd hin
        go_simp
        exact hK _ _ ⟨updV xvx 8 (.pointer (some ⟨q, 1, none⟩)), by simp [updV, e7], hb, hG.same gk.out g8.out _ rfl, hI13.skip (by decide)⟩
      · refine wpOp_step rfl (fun K' hK => ?_)
        simp [Region.binds] at hd
        have e8 : xvx 8 = .pointer (some ⟨q, 1, none⟩) := hG.get g8.out (by simp [hd])
        have HNL : Hid (listed.getD 9 true = false) := hnl
        clear hnl hD
        clear hd hin
        go_simp
        exact hK _ _ ⟨updV xvx 9 (.pointer (some ⟨q, 3, none⟩)), by simp [updV, e8], hb, hG.same gk.out g9.out _ rfl, hI13.skip (by decide)⟩
      · refine wpOp_step rfl (fun K' hK => ?_)
        simp [Region.binds] at hd
        have e9 : xvx 9 = .pointer (some ⟨q, 3, none⟩) := hG.get g9.out (by simp [hd])
        have HNL : Hid (listed.getD 10 true = false) := hnl
        clear hnl hD
        obtain ⟨c0, c1, c2, c3, c4, c5, c6, c7, c8⟩ := BX.out Wx hb
        clear hd hin
        go_simp
        exact hK _ _ ⟨updV xvx 10 (.int .i64 (Q : Int)), by simp [updV, e9], hb, hG.same gk.out g10.out _ rfl, hI13.skip (by decide)⟩
      · refine wpOp_step rfl (fun K' hK => ?_)
        simp [Region.binds] at hd
        have e10 : xvx 10 = .int .i64 (Q : Int) := hG.get g10.out (by simp [hd])
        have HNL : Hid (listed.getD 11 true = false) := hnl
        clear hnl hD
        have wr := k3
        clear hd hin
        go_simp
        exact hK _ _ ⟨updV xvx 11 (.int .u64 (Q : Int)), by simp [updV, e10], hb, hG.same gk.out g11.out _ rfl, hI13.skip (by decide)⟩
      · refine wpOp_step rfl (fun K' hK => ?_)
        simp [Region.binds] at hd
        have m6 : IsOw bs ([] ++ be 16716 2 ++ be 1 1 ++ be S 8 ++ be N 4 ++ be B 2) (xvx 6) Wx := hG.get g6.out (by simp [hd])
        have e11 : xvx 11 = .int .u64 (Q : Int) := hG.get g11.out (by simp [hd])
        have HNL : Hid (listed.getD 12 true = false) := hnl
        clear hnl hD
        clear hd hin
        go_simp
        refine (CB.out Wx _ hb m6).mono ?_
        rintro e w' ⟨v, rfl, hv, hb'⟩
        go_wp2_with fail
        exact ⟨updV xvx 12 v, by simp [updV, e11], hb.trans (hb'.mono hb.size), hG.step gk.out hb' g12.out v hv, hI13.skip (by decide)⟩
      · refine wpOp_step rfl (fun K' hK => ?_)
        simp [Region.binds] at hd
        have m12 : IsOw bs ([] ++ be 16716 2 ++ be 1 1 ++ be S 8 ++ be N 4 ++ be B 2 ++ be Q 1) (xvx 12) Wx := hG.get g12.out (by simp [hd])
        have HNL : Hid (listed.getD 13 true = false) := hnl
        clear hnl hD
        clear hd hin
        go_simp
        exact hK _ _ ⟨updV xvx 13 (xvx 12), by simp [updV], hb, hG.same gk.out g13.out _ m12, Ini.done HNL.out⟩
    · rintro listed ac Wx ⟨xvx, rfl, hb, hG, hI13⟩ hall
      have m13 : Hid (IsOw bs ([] ++ be 16716 2 ++ be 1 1 ++ be S 8 ++ be N 4 ++ be B 2 ++ be Q 1) (xvx 13) Wx) := hG.get g13.out (hall 13 (by decide))
      have XW : Hid (Below y0.heap.size y0 Wx) := hb
      clear hall hG hb hI13 gk g0 g1 g2 g3 g4 g5 g6 g7 g8 g9 g10 g11 g12 g13
      have N1' : Hid (Nine Wx q S N B Q E F L I (.slice a B k)) := N0'.out.below XW.out
      have B1' : Hid (Below w.heap.size w Wx) := below_mid B0'.out XW.out
      have S1' : Hid (bs ≤ Wx.heap.size) := Nat.le_trans S0'.out XW.out.size
      have O1' : Hid (IsOw bs ([] ++ be 16716 2 ++ be 1 1 ++ be S 8 ++ be N 4 ++ be B 2 ++ be Q 1) (xvx 13) Wx) := m13.out
      clear BX CA CB XW m13 N0' B0' O0' S0'
      generalize xvx 13 = t1 at *
      generalize Wx = y1 at *
      go_wp2
      have BX : Hid (∀ W, Below y1.heap.size y1 W → W.cell? ⟨q, 0, none⟩ = some (.int .u64 (S : Int)) ∧ W.cell? ⟨q, 1, none⟩ = some (.int .i64 (N : Int)) ∧ W.cell? ⟨q, 2, none⟩ = some (.int .i64 (B : Int)) ∧ W.cell? ⟨q, 3, none⟩ = some (.int .i64 (Q : Int)) ∧ W.cell? ⟨q, 4, none⟩ = some (.int .i64 (E : Int)) ∧ W.cell? ⟨q, 5, none⟩ = some (.int .i64 (F : Int)) ∧ W.cell? ⟨q, 6, none⟩ = some (.int .i64 (L : Int)) ∧ W.cell? ⟨q, 7, none⟩ = some (.int .u64 (I : Int)) ∧ W.cell? ⟨q, 8, none⟩ = some (.slice a B k)) := fun W hW => (N1'.out.below hW).all
      have CA : Hid (∀ W, Below y1.heap.size y1 W → Calls Tryz.prog 64 #[t1, .int .u64 (E : Int), .int .i64 2] W fun e w' => ∃ v, e = .returned v ∧ IsOw bs ([] ++ be 16716 2 ++ be 1 1 ++ be S 8 ++ be N 4 ++ be B 2 ++ be Q 1 ++ be E 2) v w' ∧ Below W.heap.size W w') := fun W hW => rput_step bs ([] ++ be 16716 2 ++ be 1 1 ++ be S 8 ++ be N 4 ++ be B 2 ++ be Q 1) E 2 t1 W (Nat.le_trans S1'.out hW.size) (stays_ow _ _ _ _ _ hW O1'.out).bs (by simp [LE.out]) HU.out.2.2.2.2.1 (by omega) (by omega)
      have CB : Hid (∀ W v, Below y1.heap.size y1 W → IsOw bs ([] ++ be 16716 2 ++ be 1 1 ++ be S 8 ++ be N 4 ++ be B 2 ++ be Q 1 ++ be E 2) v W → Calls Tryz.prog 64 #[v, .int .u64 (F : Int), .int .i64 2] W fun e w' => ∃ v, e = .returned v ∧ IsOw bs ([] ++ be 16716 2 ++ be 1 1 ++ be S 8 ++ be N 4 ++ be B 2 ++ be Q 1 ++ be E 2 ++ be F 2) v w' ∧ Below W.heap.size W w') := fun W v hW hv => rput_step bs ([] ++ be 16716 2 ++ be 1 1 ++ be S 8 ++ be N 4 ++ be B 2 ++ be Q 1 ++ be E 2) F 2 v W (Nat.le_trans S1'.out hW.size) hv.bs (by simp [LE.out]) HU.out.2.2.2.2.2.1 (by omega) (by omega)
      refine wp_region_any (by kernel_rfl) ?_
      obtain ⟨gs, hgs⟩ : ∃ gs : List (Value → World → Prop), gs = [IsV (t1), IsV (.pointer (some ⟨q, 0, none⟩)), IsV (.pointer (some ⟨q, 1, none⟩)), IsV (.pointer (some ⟨q, 4, none⟩)), IsV (.int .i64 (E : Int)), IsV (.int .u64 (E : Int)), IsOw bs ([] ++ be 16716 2 ++ be 1 1 ++ be S 8 ++ be N 4 ++ be B 2 ++ be Q 1 ++ be E 2), IsV (.pointer (some ⟨q, 0, none⟩)), IsV (.pointer (some ⟨q, 1, none⟩)), IsV (.pointer (some ⟨q, 5, none⟩)), IsV (.int .i64 (F : Int)), IsV (.int .u64 (F : Int)), IsOw bs ([] ++ be 16716 2 ++ be 1 1 ++ be S 8 ++ be N 4 ++ be B 2 ++ be Q 1 ++ be E 2 ++ be F 2), IsOw bs ([] ++ be 16716 2 ++ be 1 1 ++ be S 8 ++ be N 4 ++ be B 2 ++ be Q 1 ++ be E 2 ++ be F 2)] := ⟨_, rfl⟩
      have g0 : Hid (gs[0]? = some (IsV (t1))) := by unfold Hid; rw [hgs]; rfl
      have g1 : Hid (gs[1]? = some (IsV (.pointer (some ⟨q, 0, none⟩)))) := by unfold Hid; rw [hgs]; rfl
      have g2 : Hid (gs[2]? = some (IsV (.pointer (some ⟨q, 1, none⟩)))) := by unfold Hid; rw [hgs]; rfl
      have g3 : Hid (gs[3]? = some (IsV (.pointer (some ⟨q, 4, none⟩)))) := by unfold Hid; rw [hgs]; rfl
      have g4 : Hid (gs[4]? = some (IsV (.int .i64 (E : Int)))) := by unfold Hid; rw [hgs]; rfl
      have g5 : Hid (gs[5]? = some (IsV (.int .u64 (E : Int)))) := by unfold Hid; rw [hgs]; rfl
      have g6 : Hid (gs[6]? = some (IsOw bs ([] ++ be 16716 2 ++ be 1 1 ++ be S 8 ++ be N 4 ++ be B 2 ++ be Q 1 ++ be E 2))) := by unfold Hid; rw [hgs]; rfl
      have g7 : Hid (gs[7]? = some (IsV (.pointer (some ⟨q, 0, none⟩)))) := by unfold Hid; rw [hgs]; rfl
      have g8 : Hid (gs[8]? = some (IsV (.pointer (some ⟨q, 1, none⟩)))) := by unfold Hid; rw [hgs]; rfl
      have g9 : Hid (gs[9]? = some (IsV (.pointer (some ⟨q, 5, none⟩)))) := by unfold Hid; rw [hgs]; rfl
      have g10 : Hid (gs[10]? = some (IsV (.int .i64 (F : Int)))) := by unfold Hid; rw [hgs]; rfl
      have g11 : Hid (gs[11]? = some (IsV (.int .u64 (F : Int)))) := by unfold Hid; rw [hgs]; rfl
      have g12 : Hid (gs[12]? = some (IsOw bs ([] ++ be 16716 2 ++ be 1 1 ++ be S 8 ++ be N 4 ++ be B 2 ++ be Q 1 ++ be E 2 ++ be F 2))) := by unfold Hid; rw [hgs]; rfl
      have g13 : Hid (gs[13]? = some (IsOw bs ([] ++ be 16716 2 ++ be 1 1 ++ be S 8 ++ be N 4 ++ be B 2 ++ be Q 1 ++ be E 2 ++ be F 2))) := by unfold Hid; rw [hgs]; rfl
      have gk : Hid (∀ p ∈ gs, Stays p) := by
        unfold Hid
        rw [hgs]
        simp only [List.forall_mem_cons]
        exact ⟨stays_v _, stays_v _, stays_v _, stays_v _, stays_v _, stays_v _, stays_ow _ _, stays_v _, stays_v _, stays_v _, stays_v _, stays_v _, stays_ow _ _, stays_ow _ _, by simp⟩
      clear hgs
      refine wpAny_inv3 (fun listed ac Wy => ∃ xvy : Nat → Value, ac = ⟨#[Value.agg #[Value.int IntKind.u64 ↑S, Value.int IntKind.i64 ↑N, Value.int IntKind.i64 ↑B, Value.int IntKind.i64 ↑Q, Value.int IntKind.i64 ↑E, Value.int IntKind.i64 ↑F, Value.int IntKind.i64 ↑L, Value.int IntKind.u64 ↑I, Value.slice a B k], Value.pointer (some { block := q, off := 0 }), Value.slice none 0 0, Value.int IntKind.i64 (0 : Int), xvy 13, Value.pointer (some { block := q, off := 0 }), Value.agg #[Value.int IntKind.u64 ↑S, Value.int IntKind.i64 ↑N, Value.int IntKind.i64 ↑B, Value.int IntKind.i64 ↑Q, Value.int IntKind.i64 ↑E, Value.int IntKind.i64 ↑F, Value.int IntKind.i64 ↑L, Value.int IntKind.u64 ↑I], Value.bool true, Value.bool false, Value.pointer (some { block := q, off := 8 }), Value.slice a B k, Value.int IntKind.i64 ↑B, Value.pointer (some { block := q, off := 0 }), Value.pointer (some { block := q, off := 1 }), Value.pointer (some { block := q, off := 2 }), Value.int IntKind.i64 ↑B, Value.bool false, u2, u3, xv 0, xv 1, xv 2, xv 3, xv 4, xv 5, xv 6, xv 7, xv 8, xv 9, xv 10, xvx 0, xvx 1, xvx 2, xvx 3, xvx 4, xvx 5, xvx 6, xvx 7, xvx 8, xvx 9, xvx 10, xvx 11, xvx 12, xvy 0, xvy 1, xvy 2, xvy 3, xvy 4, xvy 5, xvy 6, xvy 7, xvy 8, xvy 9, xvy 10, xvy 11, xvy 12, undef, undef, undef, undef, undef, undef, undef, undef, undef, undef, undef, undef, undef, undef, undef], []⟩ ∧ Below y1.heap.size y1 Wy ∧ Lst gs listed xvy Wy ∧ Ini listed xvy 13 (t1)) (by kernel_rfl) ?_ ?_ _ _ _ _ (by kernel_rfl) (of_decide_eq_true (by kernel_rfl)) (Down.start _) ⟨fun j => if j = 13 then t1 else undef, rfl, below0 _, Lst.start _ _ _ _, (fun _ => rfl)⟩
      · rintro listed ac Wy ⟨xvy, rfl, hb, hG, hI13⟩ hD i hi hnl hd
        have hin : i < 14 := hi
        clear hi
        have hcase : i = 0 ∨ i = 1 ∨ i = 2 ∨ i = 3 ∨ i = 4 ∨ i = 5 ∨ i = 6 ∨ i = 7 ∨ i = 8 ∨ i = 9 ∨ i = 10 ∨ i = 11 ∨ i = 12 ∨ i = 13 := by omega
        rcases hcase with rfl | rfl | rfl | rfl | rfl | rfl | rfl | rfl | rfl | rfl | rfl | rfl | rfl | rfl
        · refine wpOp_step rfl (fun K' hK => ?_)
          have f13 : listed.getD 13 false = false := by
            cases hx : listed.getD 13 false with
            | false => rfl
            | true =>
              have r0 : listed.getD 0 false = true := by have h := hD 13 (by decide) hx; simp [Region.binds] at h; simp [h]
              rw [getD_false hnl] at r0; cases r0
          have ei13 : xvy 13 = t1 := hI13 f13
          clear f13
          have HNL : Hid (listed.getD 0 true = false) := hnl
          clear hnl hD
          clear hd hin
          go_simp
          exact hK _ _ ⟨updV xvy 0 (t1), by simp [updV, ei13], hb, hG.same gk.out g0.out _ rfl, hI13.skip (by decide)⟩
        · refine wpOp_step rfl (fun K' hK => ?_)
          have HNL : Hid (listed.getD 1 true = false) := hnl
          clear hnl hD
          clear hd hin
          go_simp
          exact hK _ _ ⟨updV xvy 1 (.pointer (some ⟨q, 0, none⟩)), by simp [updV], hb, hG.same gk.out g1.out _ rfl, hI13.skip (by decide)⟩
        · refine wpOp_step rfl (fun K' hK => ?_)
          simp [Region.binds] at hd
          have e1 : xvy 1 = .pointer (some ⟨q, 0, none⟩) := hG.get g1.out (by simp [hd])
          have HNL : Hid (listed.getD 2 true = false) := hnl
          clear hnl hD
          clear hd hin
          go_simp
          exact hK _ _ ⟨updV xvy 2 (.pointer (some ⟨q, 1, none⟩)), by simp [updV, e1], hb, hG.same gk.out g2.out _ rfl, hI13.skip (by decide)⟩
        · refine wpOp_step rfl (fun K' hK => ?_)
          simp [Region.binds] at hd
          have e2 : xvy 2 = .pointer (some ⟨q, 1, none⟩) := hG.get g2.out (by simp [hd])
          have HNL : Hid (listed.getD 3 true = false) := hnl
          clear hnl hD
          clear hd hin
          go_simp
          exact hK _ _ ⟨updV xvy 3 (.pointer (some ⟨q, 4, none⟩)), by simp [updV, e2], hb, hG.same gk.out g3.out _ rfl, hI13.skip (by decide)⟩
        · refine wpOp_step rfl (fun K' hK => ?_)
          simp [Region.binds] at hd
          have e3 : xvy 3 = .pointer (some ⟨q, 4, none⟩) := hG.get g3.out (by simp [hd])
          have HNL : Hid (listed.getD 4 true = false) := hnl
          clear hnl hD
          obtain ⟨c0, c1, c2, c3, c4, c5, c6, c7, c8⟩ := BX.out Wy hb
          clear hd hin
          go_simp
          exact hK _ _ ⟨updV xvy 4 (.int .i64 (E : Int)), by simp [updV, e3], hb, hG.same gk.out g4.out _ rfl, hI13.skip (by decide)⟩
        · refine wpOp_step rfl (fun K' hK => ?_)
          simp [Region.binds] at hd
          have e4 : xvy 4 = .int .i64 (E : Int) := hG.get g4.out (by simp [hd])
          have HNL : Hid (listed.getD 5 true = false) := hnl
          clear hnl hD
          have wr := k4
          clear hd hin
          go_simp
          exact hK _ _ ⟨updV xvy 5 (.int .u64 (E : Int)), by simp [updV, e4], hb, hG.same gk.out g5.out _ rfl, hI13.skip (by decide)⟩
        · refine wpOp_step rfl (fun K' hK => ?_)
          simp [Region.binds] at hd
          have e0 : xvy 0 = t1 := hG.get g0.out (by simp [hd])
          have e5 : xvy 5 = .int .u64 (E : Int) := hG.get g5.out (by simp [hd])
          have HNL : Hid (listed.getD 6 true = false) := hnl
          clear hnl hD
          clear hd hin
          go_simp
          refine (CA.out Wy hb).mono ?_
          rintro e w' ⟨v, rfl, hv, hb'⟩
          go_wp2_with fail
          exact ⟨updV xvy 6 v, by simp [updV, e0, e5], hb.trans (hb'.mono hb.size), hG.step gk.out hb' g6.out v hv, hI13.skip (by decide)⟩
        · refine wpOp_step rfl (fun K' hK => ?_)
          have HNL : Hid (listed.getD 7 true = false) := hnl
          clear hnl hD
          clear hd hin
          go_simp
          exact hK _ _ ⟨updV xvy 7 (.pointer (some ⟨q, 0, none⟩)), by simp [updV], hb, hG.same gk.out g7.out _ rfl, hI13.skip (by decide)⟩
        · refine wpOp_step rfl (fun K' hK => ?_)
          simp [Region.binds] at hd
          have e7 : xvy 7 = .pointer (some ⟨q, 0, none⟩) := hG.get g7.out (by simp [hd])
          have HNL : Hid (listed.getD 8 true = false) := hnl
          clear hnl hD
          clear hd hin
          go_simp
          exact hK _ _ ⟨updV xvy 8 (.pointer (some ⟨q, 1, none⟩)), by simp [updV, e7], hb, hG.same gk.out g8.out _ rfl, hI13.skip (by decide)⟩
        · refine wpOp_step rfl (fun K' hK => ?_)
          simp [Region.binds] at hd
          have e8 : xvy 8 = .pointer (some ⟨q, 1, none⟩) := hG.get g8.out (by simp [hd])
          have HNL : Hid (listed.getD 9 true = false) := hnl
          clear hnl hD
          clear hd hin
          go_simp
          exact hK _ _ ⟨updV xvy 9 (.pointer (some ⟨q, 5, none⟩)), by simp [updV, e8], hb, hG.same gk.out g9.out _ rfl, hI13.skip (by decide)⟩
        · refine wpOp_step rfl (fun K' hK => ?_)
          simp [Region.binds] at hd
          have e9 : xvy 9 = .pointer (some ⟨q, 5, none⟩) := hG.get g9.out (by simp [hd])
          have HNL : Hid (listed.getD 10 true = false) := hnl
          clear hnl hD
          obtain ⟨c0, c1, c2, c3, c4, c5, c6, c7, c8⟩ := BX.out Wy hb
          clear hd hin
          go_simp
          exact hK _ _ ⟨updV xvy 10 (.int .i64 (F : Int)), by simp [updV, e9], hb, hG.same gk.out g10.out _ rfl, hI13.skip (by decide)⟩
        · refine wpOp_step rfl (fun K' hK => ?_)
          simp [Region.binds] at hd
          have e10 : xvy 10 = .int .i64 (F : Int) := hG.get g10.out (by simp [hd])
          have HNL : Hid (listed.getD 11 true = false) := hnl
          clear hnl hD
          have wr := k5
          clear hd hin
          go_simp
          exact hK _ _ ⟨updV xvy 11 (.int .u64 (F : Int)), by simp [updV, e10], hb, hG.same gk.out g11.out _ rfl, hI13.skip (by decide)⟩
        · refine wpOp_step rfl (fun K' hK => ?_)
          simp [Region.binds] at hd
          have m6 : IsOw bs ([] ++ be 16716 2 ++ be 1 1 ++ be S 8 ++ be N 4 ++ be B 2 ++ be Q 1 ++ be E 2) (xvy 6) Wy := hG.get g6.out (by simp [hd])
          have e11 : xvy 11 = .int .u64 (F : Int) := hG.get g11.out (by simp [hd])
          have HNL : Hid (listed.getD 12 true = false) := hnl
          clear hnl hD
          clear hd hin
          go_simp
          refine (CB.out Wy _ hb m6).mono ?_
          rintro e w' ⟨v, rfl, hv, hb'⟩
          go_wp2_with fail
          exact ⟨updV xvy 12 v, by simp [updV, e11], hb.trans (hb'.mono hb.size), hG.step gk.out hb' g12.out v hv, hI13.skip (by decide)⟩
        · refine wpOp_step rfl (fun K' hK => ?_)
          simp [Region.binds] at hd
          have m12 : IsOw bs ([] ++ be 16716 2 ++ be 1 1 ++ be S 8 ++ be N 4 ++ be B 2 ++ be Q 1 ++ be E 2 ++ be F 2) (xvy 12) Wy := hG.get g12.out (by simp [hd])
          have HNL : Hid (listed.getD 13 true = false) := hnl
          clear hnl hD
          clear hd hin
          go_simp
          exact hK _ _ ⟨updV xvy 13 (xvy 12), by simp [updV], hb, hG.same gk.out g13.out _ m12, Ini.done HNL.out⟩
      · rintro listed ac Wy ⟨xvy, rfl, hb, hG, hI13⟩ hall
        have m13 : Hid (IsOw bs ([] ++ be 16716 2 ++ be 1 1 ++ be S 8 ++ be N 4 ++ be B 2 ++ be Q 1 ++ be E 2 ++ be F 2) (xvy 13) Wy) := hG.get g13.out (hall 13 (by decide))
        have XW : Hid (Below y1.heap.size y1 Wy) := hb
        clear hall hG hb hI13 gk g0 g1 g2 g3 g4 g5 g6 g7 g8 g9 g10 g11 g12 g13
        have N2' : Hid (Nine Wy q S N B Q E F L I (.slice a B k)) := N1'.out.below XW.out
        have B2' : Hid (Below w.heap.size w Wy) := below_mid B1'.out XW.out
        have S2' : Hid (bs ≤ Wy.heap.size) := Nat.le_trans S1'.out XW.out.size
        have O2' : Hid (IsOw bs ([] ++ be 16716 2 ++ be 1 1 ++ be S 8 ++ be N 4 ++ be B 2 ++ be Q 1 ++ be E 2 ++ be F 2) (xvy 13) Wy) := m13.out
        clear BX CA CB XW m13 N1' B1' O1' S1'
        generalize xvy 13 = t2 at *
        generalize Wy = y2 at *
        go_wp2
        have BX : Hid (∀ W, Below y2.heap.size y2 W → W.cell? ⟨q, 0, none⟩ = some (.int .u64 (S : Int)) ∧ W.cell? ⟨q, 1, none⟩ = some (.int .i64 (N : Int)) ∧ W.cell? ⟨q, 2, none⟩ = some (.int .i64 (B : Int)) ∧ W.cell? ⟨q, 3, none⟩ = some (.int .i64 (Q : Int)) ∧ W.cell? ⟨q, 4, none⟩ = some (.int .i64 (E : Int)) ∧ W.cell? ⟨q, 5, none⟩ = some (.int .i64 (F : Int)) ∧ W.cell? ⟨q, 6, none⟩ = some (.int .i64 (L : Int)) ∧ W.cell? ⟨q, 7, none⟩ = some (.int .u64 (I : Int)) ∧ W.cell? ⟨q, 8, none⟩ = some (.slice a B k)) := fun W hW => (N2'.out.below hW).all
        have CA : Hid (∀ W, Below y2.heap.size y2 W → Calls Tryz.prog 64 #[t2, .int .u64 (L : Int), .int .i64 8] W fun e w' => ∃ v, e = .returned v ∧ IsOw bs ([] ++ be 16716 2 ++ be 1 1 ++ be S 8 ++ be N 4 ++ be B 2 ++ be Q 1 ++ be E 2 ++ be F 2 ++ be L 8) v w' ∧ Below W.heap.size W w') := fun W hW => rput_step bs ([] ++ be 16716 2 ++ be 1 1 ++ be S 8 ++ be N 4 ++ be B 2 ++ be Q 1 ++ be E 2 ++ be F 2) L 8 t2 W (Nat.le_trans S2'.out hW.size) (stays_ow _ _ _ _ _ hW O2'.out).bs (by simp [LE.out]) HU.out.2.2.2.2.2.2.1 (by omega) (by omega)
        have CB : Hid (∀ W v, Below y2.heap.size y2 W → IsOw bs ([] ++ be 16716 2 ++ be 1 1 ++ be S 8 ++ be N 4 ++ be B 2 ++ be Q 1 ++ be E 2 ++ be F 2 ++ be L 8) v W → Calls Tryz.prog 64 #[v, .int .u64 (I : Int), .int .i64 8] W fun e w' => ∃ v, e = .returned v ∧ IsOw bs ([] ++ be 16716 2 ++ be 1 1 ++ be S 8 ++ be N 4 ++ be B 2 ++ be Q 1 ++ be E 2 ++ be F 2 ++ be L 8 ++ be I 8) v w' ∧ Below W.heap.size W w') := fun W v hW hv => rput_step bs ([] ++ be 16716 2 ++ be 1 1 ++ be S 8 ++ be N 4 ++ be B 2 ++ be Q 1 ++ be E 2 ++ be F 2 ++ be L 8) I 8 v W (Nat.le_trans S2'.out hW.size) hv.bs (by simp [LE.out]) HU.out.2.2.2.2.2.2.2 (by omega) (by omega)
        refine wp_region_any (by kernel_rfl) ?_
        obtain ⟨gs, hgs⟩ : ∃ gs : List (Value → World → Prop), gs = [IsV (t2), IsV (.pointer (some ⟨q, 0, none⟩)), IsV (.pointer (some ⟨q, 6, none⟩)), IsV (.int .i64 (L : Int)), IsV (.int .u64 (L : Int)), IsOw bs ([] ++ be 16716 2 ++ be 1 1 ++ be S 8 ++ be N 4 ++ be B 2 ++ be Q 1 ++ be E 2 ++ be F 2 ++ be L 8), IsV (.pointer (some ⟨q, 0, none⟩)), IsV (.pointer (some ⟨q, 7, none⟩)), IsV (.int .u64 (I : Int)), IsOw bs ([] ++ be 16716 2 ++ be 1 1 ++ be S 8 ++ be N 4 ++ be B 2 ++ be Q 1 ++ be E 2 ++ be F 2 ++ be L 8 ++ be I 8), IsOw bs ([] ++ be 16716 2 ++ be 1 1 ++ be S 8 ++ be N 4 ++ be B 2 ++ be Q 1 ++ be E 2 ++ be F 2 ++ be L 8 ++ be I 8)] := ⟨_, rfl⟩
        have g0 : Hid (gs[0]? = some (IsV (t2))) := by unfold Hid; rw [hgs]; rfl
        have g1 : Hid (gs[1]? = some (IsV (.pointer (some ⟨q, 0, none⟩)))) := by unfold Hid; rw [hgs]; rfl
        have g2 : Hid (gs[2]? = some (IsV (.pointer (some ⟨q, 6, none⟩)))) := by unfold Hid; rw [hgs]; rfl
        have g3 : Hid (gs[3]? = some (IsV (.int .i64 (L : Int)))) := by unfold Hid; rw [hgs]; rfl
        have g4 : Hid (gs[4]? = some (IsV (.int .u64 (L : Int)))) := by unfold Hid; rw [hgs]; rfl
        have g5 : Hid (gs[5]? = some (IsOw bs ([] ++ be 16716 2 ++ be 1 1 ++ be S 8 ++ be N 4 ++ be B 2 ++ be Q 1 ++ be E 2 ++ be F 2 ++ be L 8))) := by unfold Hid; rw [hgs]; rfl
        have g6 : Hid (gs[6]? = some (IsV (.pointer (some ⟨q, 0, none⟩)))) := by unfold Hid; rw [hgs]; rfl
        have g7 : Hid (gs[7]? = some (IsV (.pointer (some ⟨q, 7, none⟩)))) := by unfold Hid; rw [hgs]; rfl
        have g8 : Hid (gs[8]? = some (IsV (.int .u64 (I : Int)))) := by unfold Hid; rw [hgs]; rfl
        have g9 : Hid (gs[9]? = some (IsOw bs ([] ++ be 16716 2 ++ be 1 1 ++ be S 8 ++ be N 4 ++ be B 2 ++ be Q 1 ++ be E 2 ++ be F 2 ++ be L 8 ++ be I 8))) := by unfold Hid; rw [hgs]; rfl
        have g10 : Hid (gs[10]? = some (IsOw bs ([] ++ be 16716 2 ++ be 1 1 ++ be S 8 ++ be N 4 ++ be B 2 ++ be Q 1 ++ be E 2 ++ be F 2 ++ be L 8 ++ be I 8))) := by unfold Hid; rw [hgs]; rfl
        have gk : Hid (∀ p ∈ gs, Stays p) := by
          unfold Hid
          rw [hgs]
          simp only [List.forall_mem_cons]
          exact ⟨stays_v _, stays_v _, stays_v _, stays_v _, stays_v _, stays_ow _ _, stays_v _, stays_v _, stays_v _, stays_ow _ _, stays_ow _ _, by simp⟩
        clear hgs
        refine wpAny_inv3 (fun listed ac Wz => ∃ xvz : Nat → Value, ac = ⟨#[Value.agg #[Value.int IntKind.u64 ↑S, Value.int IntKind.i64 ↑N, Value.int IntKind.i64 ↑B, Value.int IntKind.i64 ↑Q, Value.int IntKind.i64 ↑E, Value.int IntKind.i64 ↑F, Value.int IntKind.i64 ↑L, Value.int IntKind.u64 ↑I, Value.slice a B k], Value.pointer (some { block := q, off := 0 }), Value.slice none 0 0, Value.int IntKind.i64 (0 : Int), xvz 10, Value.pointer (some { block := q, off := 0 }), Value.agg #[Value.int IntKind.u64 ↑S, Value.int IntKind.i64 ↑N, Value.int IntKind.i64 ↑B, Value.int IntKind.i64 ↑Q, Value.int IntKind.i64 ↑E, Value.int IntKind.i64 ↑F, Value.int IntKind.i64 ↑L, Value.int IntKind.u64 ↑I], Value.bool true, Value.bool false, Value.pointer (some { block := q, off := 8 }), Value.slice a B k, Value.int IntKind.i64 ↑B, Value.pointer (some { block := q, off := 0 }), Value.pointer (some { block := q, off := 1 }), Value.pointer (some { block := q, off := 2 }), Value.int IntKind.i64 ↑B, Value.bool false, u2, u3, xv 0, xv 1, xv 2, xv 3, xv 4, xv 5, xv 6, xv 7, xv 8, xv 9, xv 10, xvx 0, xvx 1, xvx 2, xvx 3, xvx 4, xvx 5, xvx 6, xvx 7, xvx 8, xvx 9, xvx 10, xvx 11, xvx 12, xvy 0, xvy 1, xvy 2, xvy 3, xvy 4, xvy 5, xvy 6, xvy 7, xvy 8, xvy 9, xvy 10, xvy 11, xvy 12, xvz 0, xvz 1, xvz 2, xvz 3, xvz 4, xvz 5, xvz 6, xvz 7, xvz 8, xvz 9, undef, undef, undef, undef, undef], []⟩ ∧ Below y2.heap.size y2 Wz ∧ Lst gs listed xvz Wz ∧ Ini listed xvz 10 (t2)) (by kernel_rfl) ?_ ?_ _ _ _ _ (by kernel_rfl) (of_decide_eq_true (by kernel_rfl)) (Down.start _) ⟨fun j => if j = 10 then t2 else undef, rfl, below0 _, Lst.start _ _ _ _, (fun _ => rfl)⟩
        · rintro listed ac Wz ⟨xvz, rfl, hb, hG, hI10⟩ hD i hi hnl hd
          have hin : i < 11 := hi
          clear hi
          have hcase : i = 0 ∨ i = 1 ∨ i = 2 ∨ i = 3 ∨ i = 4 ∨ i = 5 ∨ i = 6 ∨ i = 7 ∨ i = 8 ∨ i = 9 ∨ i = 10 := by omega
          rcases hcase with rfl | rfl | rfl | rfl | rfl | rfl | rfl | rfl | rfl | rfl | rfl
          · refine wpOp_step rfl (fun K' hK => ?_)
            have f10 : listed.getD 10 false = false := by
              cases hx : listed.getD 10 false with
              | false => rfl
              | true =>
                have r0 : listed.getD 0 false = true := by have h := hD 10 (by decide) hx; simp [Region.binds] at h; simp [h]
                rw [getD_false hnl] at r0; cases r0
            have ei10 : xvz 10 = t2 := hI10 f10
            clear f10
            have HNL : Hid (listed.getD 0 true = false) := hnl
            clear hnl hD
            clear hd hin
            go_simp
            exact hK _ _ ⟨updV xvz 0 (t2), by simp [updV, ei10], hb, hG.same gk.out g0.out _ rfl, hI10.skip (by decide)⟩
          · refine wpOp_step rfl (fun K' hK => ?_)
            have HNL : Hid (listed.getD 1 true = false) := hnl
            clear hnl hD
            clear hd hin
            go_simp
            exact hK _ _ ⟨updV xvz 1 (.pointer (some ⟨q, 0, none⟩)), by simp [updV], hb, hG.same gk.out g1.out _ rfl, hI10.skip (by decide)⟩
          · refine wpOp_step rfl (fun K' hK => ?_)
            simp [Region.binds] at hd
            have e1 : xvz 1 = .pointer (some ⟨q, 0, none⟩) := hG.get g1.out (by simp [hd])
            have HNL : Hid (listed.getD 2 true = false) := hnl
            clear hnl hD
            clear hd hin
            go_simp
            exact hK _ _ ⟨updV xvz 2 (.pointer (some ⟨q, 6, none⟩)), by simp [updV, e1], hb, hG.same gk.out g2.out _ rfl, hI10.skip (by decide)⟩
          · refine wpOp_step rfl (fun K' hK => ?_)
            simp [Region.binds] at hd
            have e2 : xvz 2 = .pointer (some ⟨q, 6, none⟩) := hG.get g2.out (by simp [hd])
            have HNL : Hid (listed.getD 3 true = false) := hnl
            clear hnl hD
            obtain ⟨c0, c1, c2, c3, c4, c5, c6, c7, c8⟩ := BX.out Wz hb
            clear hd hin
            go_simp
            exact hK _ _ ⟨updV xvz 3 (.int .i64 (L : Int)), by simp [updV, e2], hb, hG.same gk.out g3.out _ rfl, hI10.skip (by decide)⟩
          · refine wpOp_step rfl (fun K' hK => ?_)
            simp [Region.binds] at hd
            have e3 : xvz 3 = .int .i64 (L : Int) := hG.get g3.out (by simp [hd])
            have HNL : Hid (listed.getD 4 true = false) := hnl
            clear hnl hD
            have wr := k6
            clear hd hin
            go_simp
            exact hK _ _ ⟨updV xvz 4 (.int .u64 (L : Int)), by simp [updV, e3], hb, hG.same gk.out g4.out _ rfl, hI10.skip (by decide)⟩
          · refine wpOp_step rfl (fun K' hK => ?_)
            simp [Region.binds] at hd
            have e0 : xvz 0 = t2 := hG.get g0.out (by simp [hd])
            have e4 : xvz 4 = .int .u64 (L : Int) := hG.get g4.out (by simp [hd])
            have HNL : Hid (listed.getD 5 true = false) := hnl
            clear hnl hD
            clear hd hin
            go_simp
            refine (CA.out Wz hb).mono ?_
            rintro e w' ⟨v, rfl, hv, hb'⟩
            go_wp2_with fail
            exact ⟨updV xvz 5 v, by simp [updV, e0, e4], hb.trans (hb'.mono hb.size), hG.step gk.out hb' g5.out v hv, hI10.skip (by decide)⟩
          · refine wpOp_step rfl (fun K' hK => ?_)
            have HNL : Hid (listed.getD 6 true = false) := hnl
            clear hnl hD
            clear hd hin
            go_simp
            exact hK _ _ ⟨updV xvz 6 (.pointer (some ⟨q, 0, none⟩)), by simp [updV], hb, hG.same gk.out g6.out _ rfl, hI10.skip (by decide)⟩
          · refine wpOp_step rfl (fun K' hK => ?_)
            simp [Region.binds] at hd
            have e6 : xvz 6 = .pointer (some ⟨q, 0, none⟩) := hG.get g6.out (by simp [hd])
            have HNL : Hid (listed.getD 7 true = false) := hnl
            clear hnl hD
            clear hd hin
            go_simp
            exact hK _ _ ⟨updV xvz 7 (.pointer (some ⟨q, 7, none⟩)), by simp [updV, e6], hb, hG.same gk.out g7.out _ rfl, hI10.skip (by decide)⟩
          · refine wpOp_step rfl (fun K' hK => ?_)
            simp [Region.binds] at hd
            have e7 : xvz 7 = .pointer (some ⟨q, 7, none⟩) := hG.get g7.out (by simp [hd])
            have HNL : Hid (listed.getD 8 true = false) := hnl
            clear hnl hD
            obtain ⟨c0, c1, c2, c3, c4, c5, c6, c7, c8⟩ := BX.out Wz hb
            clear hd hin
            go_simp
            exact hK _ _ ⟨updV xvz 8 (.int .u64 (I : Int)), by simp [updV, e7], hb, hG.same gk.out g8.out _ rfl, hI10.skip (by decide)⟩
          · refine wpOp_step rfl (fun K' hK => ?_)
            simp [Region.binds] at hd
            have m5 : IsOw bs ([] ++ be 16716 2 ++ be 1 1 ++ be S 8 ++ be N 4 ++ be B 2 ++ be Q 1 ++ be E 2 ++ be F 2 ++ be L 8) (xvz 5) Wz := hG.get g5.out (by simp [hd])
            have e8 : xvz 8 = .int .u64 (I : Int) := hG.get g8.out (by simp [hd])
            have HNL : Hid (listed.getD 9 true = false) := hnl
            clear hnl hD
            clear hd hin
            go_simp
            refine (CB.out Wz _ hb m5).mono ?_
            rintro e w' ⟨v, rfl, hv, hb'⟩
            go_wp2_with fail
            exact ⟨updV xvz 9 v, by simp [updV, e8], hb.trans (hb'.mono hb.size), hG.step gk.out hb' g9.out v hv, hI10.skip (by decide)⟩
          · refine wpOp_step rfl (fun K' hK => ?_)
            simp [Region.binds] at hd
            have m9 : IsOw bs ([] ++ be 16716 2 ++ be 1 1 ++ be S 8 ++ be N 4 ++ be B 2 ++ be Q 1 ++ be E 2 ++ be F 2 ++ be L 8 ++ be I 8) (xvz 9) Wz := hG.get g9.out (by simp [hd])
            have HNL : Hid (listed.getD 10 true = false) := hnl
            clear hnl hD
            clear hd hin
            go_simp
            exact hK _ _ ⟨updV xvz 10 (xvz 9), by simp [updV], hb, hG.same gk.out g10.out _ m9, Ini.done HNL.out⟩
        · rintro listed ac Wz ⟨xvz, rfl, hb, hG, hI10⟩ hall
          have m10 : Hid (IsOw bs ([] ++ be 16716 2 ++ be 1 1 ++ be S 8 ++ be N 4 ++ be B 2 ++ be Q 1 ++ be E 2 ++ be F 2 ++ be L 8 ++ be I 8) (xvz 10) Wz) := hG.get g10.out (hall 10 (by decide))
          have XW : Hid (Below y2.heap.size y2 Wz) := hb
          clear hall hG hb hI10 gk g0 g1 g2 g3 g4 g5 g6 g7 g8 g9 g10
          have N3' : Hid (Nine Wz q S N B Q E F L I (.slice a B k)) := N2'.out.below XW.out
          have B3' : Hid (Below w.heap.size w Wz) := below_mid B2'.out XW.out
          have S3' : Hid (bs ≤ Wz.heap.size) := Nat.le_trans S2'.out XW.out.size
          have O3' : Hid (IsOw bs ([] ++ be 16716 2 ++ be 1 1 ++ be S 8 ++ be N 4 ++ be B 2 ++ be Q 1 ++ be E 2 ++ be F 2 ++ be L 8 ++ be I 8) (xvz 10) Wz) := m10.out
          clear BX CA CB XW m10 N2' B2' O2' S2'
          generalize xvz 10 = t3 at *
          generalize Wz = y3 at *
          have HTE : Hid (([] ++ be 16716 2 ++ be 1 1 ++ be S 8 ++ be N 4 ++ be B 2 ++ be Q 1 ++ be E 2 ++ be F 2 ++ be L 8 ++ be I 8 : List UInt8) = headB S N B Q E F L I) := by unfold Hid headB; rw [List.nil_append]
          have HHL : Hid ((headB S N B Q E F L I).length = 38) := headB_length _ _ _ _ _ _ _ _
          obtain ⟨hd, hhd⟩ : ∃ hd, headB S N B Q E F L I = hd := ⟨_, rfl⟩
          have HFR : Hid (frameB S N B Q E F L I p = sealB (hd ++ p)) := by unfold Hid frameB; rw [hhd]
          rw [hhd] at HTE HHL
          rw [HTE.out] at O3'
          clear hhd HTE
          obtain ⟨ao, co, hto, hoo⟩ := O3'.out
          rw [HHL.out] at hto hoo
          subst hto
          have OO : Hid (y3.ownsRow bs 5 1 (.slice ao 38 co) 38 (hd.map bv)) := hoo
          have PB : Hid (Sl 1 y3 (.slice a B k) B (p.map bv)) := by
            have h := HP.out.below B3'.out
            unfold Bs at h
            rw [HPL.out] at h
            exact h
          obtain ⟨-, -, c8⟩ : True ∧ True ∧ y3.cell? ⟨q, 8, none⟩ = some (.slice a B k) := ⟨trivial, trivial, N3'.out.2⟩
          clear hoo O3'
          go_wp2_with (at_builtin; refine wpList_app _ rfl (.tmp 66) (.tmp 68) 25 rfl bs 5 i0 (.int .u8 0) 1 1 Tryz.underlying25 hi hz0 hz1 hz2 rfl (by decide) (.slice ao 38 co) 38 (hd.map bv) rfl OO.out (.slice a B k) B (p.map bv) rfl PB.out (bv_oneCell _) (by unfold maxLen; omega) (by omega) S3'.out ?_; intro a1 c1 w5 ho hgrow hat hne hnc hcm)
          have X5 : Hid (Below w.heap.size w w5) := B3'.out.grown hgrow B3'.out.size (fun k hk => Nat.le_trans HBS.out (OO.out.lt k hk).1)
          have T5 : Hid (Bs w5 (.slice a1 (38 + B) c1) (hd ++ p)) := by
            rw [← List.map_append] at ho
            have h := owned_sl ho
            unfold Hid Bs
            rw [List.length_append, HHL.out, HPL.out]
            exact h
          have HTL : Hid ((hd ++ p).length = 38 + B) := by unfold Hid; rw [List.length_append, HHL.out, HPL.out]
          clear ho hgrow hat hne hnc hcm
          refine (rseal_any _ (hd ++ p) w5 T5.out (by rw [HTL.out]; omega)).mono ?_
          rintro e w6 ⟨a6, c6, rfl, hb6, hx6⟩
          have hL6 : (hd ++ p).length + 4 = 42 + B := by have := HTL.out; omega
          rw [hL6] at hb6 ⊢
          have R6 : Hid (Bs w6 (.slice a6 (42 + B) c6) (frameB S N B Q E F L I p) ∧ Below w.heap.size w w6) := ⟨by rw [HFR.out]; exact hb6, below_mid X5.out hx6⟩
          clear hb6 hx6 hL6 X5 T5
          go_wp2
          go_ret2
          exact ⟨a6, c6, rfl, R6.out⟩

end

section
/-
  Bytes that are owned and written; the numbers of a packet that may be.
-/
open Go.RowKit
set_option linter.unusedVariables false

/-- Whatever it is. -/
def IsAny : Value → World → Prop := fun _ _ => True
theorem stays_any : Stays IsAny := fun _ _ _ _ _ => trivial

theorem Own.set {w : World} {q : Nat} {l : List UInt8} (h : Own w q l) (k : Nat) (hk : k < l.length) (x : UInt8) : Own (w.setCell ⟨q, k, none⟩ (bv x)) q (l.set k x) := by
  obtain ⟨cur, hh, hl, ht⟩ := h
  refine ⟨cur.setIfInBounds k (bv x), ?_, by simp; omega, ?_⟩
  · unfold World.setCell
    simp only [Array.getElem?_modify, if_true, hh, Option.map_some]
    rfl
  · rw [Array.toList_setIfInBounds, List.length_set, List.take_set, ht, List.map_set]

theorem inc_byte (y : UInt8) : Value.int .u8 (((y.toNat : Int) + 1) % 256) = bv (y + 1) := by
  unfold bv
  congr 1

/-- A header that may be, as numbers from 0 on. -/
theorem may_nats {N B Q E F L : Int} (h : MayH N B Q E F L) : ∃ n b q e f l : Nat, N = n ∧ B = b ∧ Q = q ∧ E = e ∧ F = f ∧ L = l := by
  obtain ⟨⟨hN, hB, hQ, hE, hF, hEF⟩, hL0, hL⟩ := h
  exact ⟨N.toNat, B.toNat, Q.toNat, E.toNat, F.toNat, L.toNat, by omega, by omega, by omega, by omega, by omega, by omega⟩

theorem ok_u64 {n : Int} (h : Ok .u64 n) : ∃ k : Nat, n = k ∧ k < 2 ^ 64 := by
  have h1 : 0 ≤ n ∧ n ≤ 18446744073709551615 := by
    simp [Ok, Lit.wf, IntKind.min, IntKind.max, IntKind.bits, IntKind.signed] at h
    omega
  exact ⟨n.toNat, by omega, by omega⟩

end

end Go.Proofs.YtkcijbejngnalaaGreat
