/-
  outer: what the statements' smaller makes of Params; what their speaks says.
-/
import Derived.Test.YthlladpappldbaaOutB
import Derived.Deep.MidRow
import Derived.Laws.ResultCell
namespace Go.Proofs.Ythlladpappldbaa
open Go.RowKit
set_option linter.unusedVariables false

theorem Five.set0 {W : World} {b : Nat} {N B Q E F : Int} (h : Five W b N B Q E F) (N' : Int) : Five (W.setCell ⟨b, 0, none⟩ (.int .i64 N')) b N' B Q E F := by
  obtain ⟨h0, h1, h2, h3, h4⟩ := h
  refine ⟨?_, ?_, ?_, ?_, ?_⟩
  · exact World.cell?_setCell_same W _ _ h0
  · rw [World.cell?_setCell_other W _ _ _ (by simp)]; exact h1
  · rw [World.cell?_setCell_other W _ _ _ (by simp)]; exact h2
  · rw [World.cell?_setCell_other W _ _ _ (by simp)]; exact h3
  · rw [World.cell?_setCell_other W _ _ _ (by simp)]; exact h4

theorem Five.set1 {W : World} {b : Nat} {N B Q E F : Int} (h : Five W b N B Q E F) (B' : Int) : Five (W.setCell ⟨b, 1, none⟩ (.int .i64 B')) b N B' Q E F := by
  obtain ⟨h0, h1, h2, h3, h4⟩ := h
  refine ⟨?_, ?_, ?_, ?_, ?_⟩
  · rw [World.cell?_setCell_other W _ _ _ (by simp)]; exact h0
  · exact World.cell?_setCell_same W _ _ h1
  · rw [World.cell?_setCell_other W _ _ _ (by simp)]; exact h2
  · rw [World.cell?_setCell_other W _ _ _ (by simp)]; exact h3
  · rw [World.cell?_setCell_other W _ _ _ (by simp)]; exact h4

theorem Five.set2 {W : World} {b : Nat} {N B Q E F : Int} (h : Five W b N B Q E F) (Q' : Int) : Five (W.setCell ⟨b, 2, none⟩ (.int .i64 Q')) b N B Q' E F := by
  obtain ⟨h0, h1, h2, h3, h4⟩ := h
  refine ⟨?_, ?_, ?_, ?_, ?_⟩
  · rw [World.cell?_setCell_other W _ _ _ (by simp)]; exact h0
  · rw [World.cell?_setCell_other W _ _ _ (by simp)]; exact h1
  · exact World.cell?_setCell_same W _ _ h2
  · rw [World.cell?_setCell_other W _ _ _ (by simp)]; exact h3
  · rw [World.cell?_setCell_other W _ _ _ (by simp)]; exact h4

theorem Five.set3 {W : World} {b : Nat} {N B Q E F : Int} (h : Five W b N B Q E F) (E' : Int) : Five (W.setCell ⟨b, 3, none⟩ (.int .i64 E')) b N B Q E' F := by
  obtain ⟨h0, h1, h2, h3, h4⟩ := h
  refine ⟨?_, ?_, ?_, ?_, ?_⟩
  · rw [World.cell?_setCell_other W _ _ _ (by simp)]; exact h0
  · rw [World.cell?_setCell_other W _ _ _ (by simp)]; exact h1
  · rw [World.cell?_setCell_other W _ _ _ (by simp)]; exact h2
  · exact World.cell?_setCell_same W _ _ h3
  · rw [World.cell?_setCell_other W _ _ _ (by simp)]; exact h4

theorem Five.set4 {W : World} {b : Nat} {N B Q E F : Int} (h : Five W b N B Q E F) (F' : Int) : Five (W.setCell ⟨b, 4, none⟩ (.int .i64 F')) b N B Q E F' := by
  obtain ⟨h0, h1, h2, h3, h4⟩ := h
  refine ⟨?_, ?_, ?_, ?_, ?_⟩
  · rw [World.cell?_setCell_other W _ _ _ (by simp)]; exact h0
  · rw [World.cell?_setCell_other W _ _ _ (by simp)]; exact h1
  · rw [World.cell?_setCell_other W _ _ _ (by simp)]; exact h2
  · rw [World.cell?_setCell_other W _ _ _ (by simp)]; exact h3
  · exact World.cell?_setCell_same W _ _ h4

theorem store5 {W : World} {b : Nat} {n o p q r : Int} (h : Five W b n o p q r) (N B Q E F : Int) : Five (((((W.setCell ⟨b, 0, none⟩ (.int .i64 N)).setCell ⟨b, 1, none⟩ (.int .i64 B)).setCell ⟨b, 2, none⟩ (.int .i64 Q)).setCell ⟨b, 3, none⟩ (.int .i64 E)).setCell ⟨b, 4, none⟩ (.int .i64 F)) b N B Q E F :=
  ((((h.set0 N).set1 B).set2 Q).set3 E).set4 F

theorem below5 {w0 W : World} {B0 b : Nat} (h : Below B0 w0 W) (hb : B0 ≤ b) (v0 v1 v2 v3 v4 : Value) : Below B0 w0 (((((W.setCell ⟨b, 0, none⟩ v0).setCell ⟨b, 1, none⟩ v1).setCell ⟨b, 2, none⟩ v2).setCell ⟨b, 3, none⟩ v3).setCell ⟨b, 4, none⟩ v4) :=
  ((((h.setCell hb v0).setCell hb v1).setCell hb v2).setCell hb v3).setCell hb v4

theorem load5 {W : World} {b : Nat} {N B Q E F : Int} (h : Five W b N B Q E F) : (loadVar 43 ⟨b, 0, none⟩).run Try.prog W = .ok (.agg #[.int .i64 N, .int .i64 B, .int .i64 Q, .int .i64 E, .int .i64 F]) W := by
  obtain ⟨h0, h1, h2, h3, h4⟩ := h
  refine run_loadVar_mid W b 0 43 [.int .i64 N, .int .i64 B, .int .i64 Q, .int .i64 E, .int .i64 F] _ ?_ Try.underlying43 rfl (by kernel_rfl)
  intro j v hj
  rw [Nat.zero_add]
  have hj5 : j < 5 := by have := (List.getElem?_eq_some_iff.1 hj).1; simpa using this
  match j, hj5 with
  | 0, _ => simp at hj; subst hj; exact h0
  | 1, _ => simp at hj; subst hj; exact h1
  | 2, _ => simp at hj; subst hj; exact h2
  | 3, _ => simp at hj; subst hj; exact h3
  | 4, _ => simp at hj; subst hj; exact h4

theorem ret_cell1 {fn : Func} {p : Tmp} {ty : TypeId} (h : fn.results = #[.cell p ty]) {tmps : Array Value} {P : Program} {W : World} {b : Nat} {v : Value} (hp : tmps.getD p undef = .pointer (some ⟨b, 0, none⟩)) (hl : (loadVar ty ⟨b, 0, none⟩).run P W = .ok v W) : (results fn tmps).run P W = .ok v W := by
  have hp' : tmps[p]?.getD undef = .pointer (some ⟨b, 0, none⟩) := by rw [← hp]; simp
  simp [results, h, hp', asAddr, hl]

/-- No more blocks than are looked at. -/
def smallN (N : Int) : Int := if N > 60 then 1 + N % 60 else N
theorem smallN_le (N : Int) : smallN N ≤ 60 := by unfold smallN; split <;> omega

set_option maxRecDepth 100000 in
set_option maxHeartbeats 1000000 in
theorem smaller_any (N B Q E F : Int) (w : World) :
    Calls Try.prog 23 #[.agg #[.int .i64 N, .int .i64 B, .int .i64 Q, .int .i64 E, .int .i64 F]] w fun e w' => e = .returned (.agg #[.int .i64 (smallN N), .int .i64 B, .int .i64 Q, .int .i64 E, .int .i64 F]) ∧ Below w.heap.size w w' := by
  by_cases h : N > 60
  · obtain ⟨M, hM⟩ : ∃ M, 1 + N % 60 = M := ⟨_, rfl⟩
    have HM : Hid (smallN N = M) := by unfold Hid smallN; rw [if_pos h, hM]
    go_enter Try.func23, Try.ntmps23
    go_wp2
    refine bodyPost_ret (ret_cell1 rfl rfl (load5 (b := w.heap.size + 1) (N := M) (B := B) (Q := Q) (E := E) (F := F) (by refine ⟨?_, ?_, ?_, ?_, ?_⟩ <;> simp))) rfl ?_
    exact ⟨by rw [HM.out], (below_alloc _ _).alloc (by simp) _⟩
  · have HM : Hid (smallN N = N) := if_neg h
    go_enter Try.func23, Try.ntmps23
    go_wp2
    refine bodyPost_ret (ret_cell1 rfl rfl (load5 (b := w.heap.size + 1) (N := N) (B := B) (Q := Q) (E := E) (F := F) (by refine ⟨?_, ?_, ?_, ?_, ?_⟩ <;> simp))) rfl ?_
    exact ⟨by rw [HM.out], (below_alloc _ _).alloc (by simp) _⟩

theorem pr_one : PrOk ((1 : Nat) : Int) 1 ((1 : Nat) : Int) 1000 2 1 1 1 := ⟨by unfold May; decide, rfl, rfl, by decide⟩

theorem of_one (S i : Nat) : ofD S 1 1 i = [0] := by
  unfold ofD
  rw [someD_all]
  rfl
theorem has_one (S : Nat) : hasR S 1 1 1 = [[0]] := by
  show addAll (hasR S 1 1 0) (ofD S 1 1 0) _ = _
  rw [of_one]
  rfl

set_option maxRecDepth 100000 in
set_option maxHeartbeats 1000000 in
theorem speaks10_any (w : World) : Calls Try.prog 21 #[] w fun e w' => e = .returned (.bool true) ∧ Below w.heap.size w w' := by
  have CN : Hid (∀ W, Calls Try.prog 22 #[.agg #[.int .i64 1, .int .i64 1, .int .i64 1, .int .i64 1000, .int .i64 2], .int .u64 7] W fun e w' => ∃ g ro vs, e = .returned (.tuple #[.pointer (some ⟨g, 0, none⟩), .int .i64 0]) ∧ IsGr w' g ro 7 1 1 1 vs [[0]] ∧ Below W.heap.size W w') := by
    intro W
    have := onew_yes 1 1000 2 1 1 1 7 W pr_one (by decide)
    rw [has_one] at this
    exact this
  go_enter Try.func21, Try.ntmps21
  go_wp2_with fail
  refine (CN.out _).mono ?_
  rintro e w1 ⟨g, ro, vs, rfl, hg1, hb1⟩
  have G1 : Hid (IsGr w1 g ro 7 1 1 1 vs [[0]]) := hg1
  have B1 : Hid (Below w.heap.size w w1) := hb1
  clear hg1 hb1 CN
  go_wp2_with fail
  refine (oeq_yes g ro 7 1 1 1 0 1 vs [[0]] [0] _ G1.out (by decide) (by decide) rfl rfl (by decide)).mono ?_
  rintro e w2 ⟨a2, c2, rfl, ho2, hb2⟩
  have G2 : Hid (IsGr w2 g ro 7 1 1 1 vs [[0]]) := G1.out.below hb2
  have B2 : Hid (Below w.heap.size w w2) := below_on B1.out hb2
  have O2 : Hid (Zs w2 (.slice a2 (1 + 1) c2) [0, 1]) := ho2.zs
  clear ho2 hb2 G1 B1
  go_wp2_with fail
  refine (same9_any _ _ [0, 1] [0, 1] _ (O2.out.below (below_alloc _ _)) (zs_lit2 _ _ _ _ _ rfl)).mono ?_
  rintro e w3 ⟨rfl, hb3⟩
  rw [sameI_self]
  have G3 : Hid (IsGr w3 g ro 7 1 1 1 vs [[0]]) := (G2.out.below (below_alloc _ _)).below hb3
  have B3 : Hid (Below w.heap.size w w3) := below_on (below_on B2.out (below_alloc _ _)) hb3
  clear hb3 G2 B2 O2
  go_wp2_with fail
  refine (oof_yes g ro 7 1 1 1 0 vs [[0]] _ G3.out (pr_one.ok (by decide)) (by decide)).mono ?_
  rintro e w4 ⟨a4, c4, rfl, ho4, hb4⟩
  rw [of_one] at ho4
  have G4 : Hid (IsGr w4 g ro 7 1 1 1 vs [[0]]) := G3.out.below hb4
  have B4 : Hid (Below w.heap.size w w4) := below_on B3.out hb4
  have O4 : Hid (Zs w4 (.slice a4 1 c4) [0]) := ho4.zs
  clear ho4 hb4 G3 B3
  go_wp2_with fail
  refine (same9_any _ _ [0] [0] _ (O4.out.below (below_alloc _ _)) (zs_lit1 _ _ _ _ rfl)).mono ?_
  rintro e w5 ⟨rfl, hb5⟩
  rw [sameI_self]
  have G5 : Hid (IsGr w5 g ro 7 1 1 1 vs [[0]]) := (G4.out.below (below_alloc _ _)).below hb5
  have B5 : Hid (Below w.heap.size w w5) := below_on (below_on B4.out (below_alloc _ _)) hb5
  clear hb5 G4 B4 O4
  go_wp2_with fail
  refine (omsg_any g ro 7 1 1 1 vs [[0]] _ G5.out).mono ?_
  rintro e w6 ⟨rfl, rfl⟩
  go_wp2_with fail
  refine (oaux_any g ro 7 1 1 1 vs [[0]] _ G5.out).mono ?_
  rintro e w7 ⟨rfl, rfl⟩
  go_wp2
  go_ret
  exact ⟨rfl, B5.out⟩

/-- Params in a box. -/
def FiveB (W : World) (b : Nat) (N B Q E F : Int) : Prop := W.heap[b]? = some (.cells #[.int .i64 N, .int .i64 B, .int .i64 Q, .int .i64 E, .int .i64 F] 43 (0, 0))
theorem FiveB.five {W : World} {b : Nat} {N B Q E F : Int} (h : FiveB W b N B Q E F) : Five W b N B Q E F := by
  unfold FiveB at h
  refine ⟨?_, ?_, ?_, ?_, ?_⟩ <;> simp [World.cell?, h]
theorem FiveB.fr {W : World} {b : Nat} {N B Q E F : Int} (h : FiveB W b N B Q E F) (i : Nat) : W.frozen? ⟨b, i, none⟩ = false := by
  unfold FiveB at h
  simp [World.frozen?, h]
theorem FiveB.lt {W : World} {b : Nat} {N B Q E F : Int} (h : FiveB W b N B Q E F) : b < W.heap.size := (Array.getElem?_eq_some_iff.1 h).1
theorem FiveB.below {W W' : World} {b : Nat} {N B Q E F : Int} (h : FiveB W b N B Q E F) (hb : Below W.heap.size W W') : FiveB W' b N B Q E F := heap_stays hb h
theorem FiveB.new (W : World) (N B Q E F : Int) : FiveB (W.alloc (.cells #[.int .i64 N, .int .i64 B, .int .i64 Q, .int .i64 E, .int .i64 F] 43)) W.heap.size N B Q E F := alloc_at _ _
theorem fiveB_store {W : World} {b : Nat} {n o p q r : Int} (h : FiveB W b n o p q r) (N B Q E F : Int) : FiveB (((((W.setCell ⟨b, 0, none⟩ (.int .i64 N)).setCell ⟨b, 1, none⟩ (.int .i64 B)).setCell ⟨b, 2, none⟩ (.int .i64 Q)).setCell ⟨b, 3, none⟩ (.int .i64 E)).setCell ⟨b, 4, none⟩ (.int .i64 F)) b N B Q E F := by
  have h0 : W.heap[b]? = some (.cells [Value.int .i64 n, .int .i64 o, .int .i64 p, .int .i64 q, .int .i64 r].toArray 43 (0, 0)) := h
  exact heap_setCell_at (heap_setCell_at (heap_setCell_at (heap_setCell_at (heap_setCell_at h0 _) _) _) _) _

end Go.Proofs.Ythlladpappldbaa
