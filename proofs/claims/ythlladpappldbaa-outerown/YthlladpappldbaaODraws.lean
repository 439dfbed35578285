/-
  OuterDraws.
-/
import Derived.Test.YthlladpappldbaaOutE
import Derived.Test.YthlladpappldbaaLStruct
namespace Go.Proofs.Ythlladpappldbaa
open Go.RowKit
set_option linter.unusedVariables false

theorem may_small {N B Q E F : Int} {n q A : Nat} (h : PrOk N B Q E F n q A) (hN : N ≤ 61) : A ≤ 1000000 := by
  obtain ⟨h1, h2, h3, h4, h5, h6⟩ := h.may
  have r := share_range (N := N) (Q := Q) (E := E) ⟨h1.1, h1.2⟩ h3 h4
  have k1 : 55 * Q * E * N ≤ 440000 * 61 := Int.mul_le_mul r.1.2 hN (by omega) (by omega)
  have e := h.ea
  unfold aux at e
  omega

/-- A graph: its blocks are of their own kinds. -/
structure GrO (W : World) (g ro S N Q A : Nat) (vs : List Value) (rows : List (List Int)) : Prop where
  gc : W.heap[g]? = some (.cells #[.int .u64 (S : Int), .int .i64 (N : Int), .int .i64 (Q : Int), .slice (some ⟨ro, 0, none⟩) A A] 74 (0, 0))
  hc : W.heap[ro]? = some (.cells vs.toArray 28 (0, 0))
  lv : vs.length = A
  lr : rows.length = A
  own : ∀ (i : Nat) (v : Value) (l : List Int), vs[i]? = some v → rows[i]? = some l → OwnZ 0 W v l.length l

section
variable {w W W' : World} {g ro S N Q A : Nat} {vs : List Value} {rows : List (List Int)}
theorem GrB.grO (h : GrB w W g ro S N Q A vs vs rows) : GrO W g ro S N Q A vs rows := ⟨h.gc, h.hc, h.lv, h.lr, fun i v l hv hl => (h.own i v l hv hl).mono (Nat.zero_le _)⟩
theorem GrO.below (h : GrO W g ro S N Q A vs rows) (hb : Below W.heap.size W W') : GrO W' g ro S N Q A vs rows := ⟨heap_stays hb h.gc, heap_stays hb h.hc, h.lv, h.lr, fun i v l hv hl => (h.own i v l hv hl).below hb⟩
theorem GrO.isGr (h : GrO W g ro S N Q A vs rows) : IsGr W g ro S N Q A vs rows := by
  refine ⟨by simp [World.cell?, h.gc], by simp [World.cell?, h.gc], by simp [World.cell?, h.gc], by simp [World.cell?, h.gc], h.lv, h.lr, ?_, fun i v l hv hl => (h.own i v l hv hl).zs⟩
  intro i v hv
  simp [World.cell?, h.hc, hv]
theorem GrO.set (h : GrO W g ro S N Q A vs rows) {b : Nat} (hb : ∃ cs, W.heap[b]? = some (.cells cs 43 (0, 0))) (j : Nat) (u : Value) : GrO (W.setCell ⟨b, j, none⟩ u) g ro S N Q A vs rows := by
  obtain ⟨cs, hb⟩ := hb
  have key : ∀ k, k ≠ b → (W.setCell ⟨b, j, none⟩ u).heap[k]? = W.heap[k]? := fun k hk => Below.heap_setCell _ _ _ _ hk
  refine ⟨(key g (fun e => ?_)).trans h.gc, (key ro (fun e => ?_)).trans h.hc, h.lv, h.lr, fun i v l hv hl => ?_⟩
  · have h1 := h.gc
    rw [e, hb] at h1
    injection h1 with h1
    injection h1 with _ h1 _
    exact absurd h1 (by decide)
  · have h1 := h.hc
    rw [e, hb] at h1
    injection h1 with h1
    injection h1 with _ h1 _
    exact absurd h1 (by decide)
  · have hO := h.own i v l hv hl
    exact hO.kept (fun q hq => key q (fun e => own_ne hO hb (by decide) (by rw [hq, e])))
theorem box_set {W : World} {b j : Nat} {u : Value} (hb : ∃ cs, W.heap[b]? = some (.cells cs 43 (0, 0))) : ∃ cs, (W.setCell ⟨b, j, none⟩ u).heap[b]? = some (.cells cs 43 (0, 0)) := by
  obtain ⟨cs, hb⟩ := hb
  exact ⟨_, heap_setCell_at (cs := cs.toList) (by simpa using hb) u⟩
theorem GrO.aside (h : GrO W g ro S N Q A vs rows) {b : Nat} {n o p q r : Int} (hb : FiveB W b n o p q r) (v0 v1 v2 v3 v4 : Value) : GrO (((((W.setCell ⟨b, 0, none⟩ v0).setCell ⟨b, 1, none⟩ v1).setCell ⟨b, 2, none⟩ v2).setCell ⟨b, 3, none⟩ v3).setCell ⟨b, 4, none⟩ v4) g ro S N Q A vs rows := by
  have h0 : ∃ cs, W.heap[b]? = some (.cells cs 43 (0, 0)) := ⟨_, hb⟩
  exact ((((h.set h0 0 v0).set (box_set h0) 1 v1).set (box_set (box_set h0)) 2 v2).set (box_set (box_set (box_set h0))) 3 v3).set (box_set (box_set (box_set (box_set h0)))) 4 v4
end

theorem Same.of {W : World} {u v : Value} {l : List Int} (h1 : Zs W u l) (h2 : Zs W v l) : Calls Try.prog 17 #[u, v] W fun e w' => ∃ x, e = .returned x ∧ IsV (.int .i64 1) x w' ∧ Below W.heap.size W w' := by
  refine (same9_any u v l l W h1 h2).mono ?_
  rintro e w' ⟨rfl, hb⟩
  rw [sameI_self]
  exact ⟨_, rfl, rfl, hb⟩

set_option maxRecDepth 100000 in
set_option maxHeartbeats 1000000 in
theorem outerDraws_no (N0 B Q E F : Int) (S i : Int) (w : World) (hp : ¬ May (smallN N0) B Q E F) :
    Calls Try.prog 6 #[.agg #[.int .i64 N0, .int .i64 B, .int .i64 Q, .int .i64 E, .int .i64 F], .int .u64 S, .int .i64 i] w fun e w' => e = .returned (.bool true) ∧ Below w.heap.size w w' := by
  obtain ⟨N, hN⟩ : ∃ N, smallN N0 = N := ⟨_, rfl⟩
  have CS : Hid (∀ W, Calls Try.prog 23 #[.agg #[.int .i64 N0, .int .i64 B, .int .i64 Q, .int .i64 E, .int .i64 F]] W fun e w' => e = .returned (.agg #[.int .i64 N, .int .i64 B, .int .i64 Q, .int .i64 E, .int .i64 F]) ∧ Below W.heap.size W w') := by
    intro W
    rw [← hN]
    exact smaller_any N0 B Q E F W
  rw [hN] at hp
  have CN : Hid (∀ W, Calls Try.prog 22 #[.agg #[.int .i64 N, .int .i64 B, .int .i64 Q, .int .i64 E, .int .i64 F], .int .u64 S] W fun e w' => e = .returned (.tuple #[.pointer none, .int .i64 1]) ∧ Below W.heap.size W w') := fun W => onew_no N B Q E F S W hp
  have MP : Hid (∀ W, Calls Try.prog 24 #[.agg #[.int .i64 N, .int .i64 B, .int .i64 Q, .int .i64 E, .int .i64 F]] W fun e w' => e = .returned (.bool false) ∧ Below W.heap.size W w') := fun W => rmay_no N B Q E F W hp
  clear hN hp
  go_enter Try.func6, Try.ntmps6
  go_wp2_with fail
  refine (speaks10_any _).mono ?_
  rintro e w1 ⟨rfl, hb1⟩
  have B1 : Hid (Below w.heap.size w w1) := below_on (below_alloc _ _) hb1
  have P1 : Hid (FiveB w1 w.heap.size N0 B Q E F) := (FiveB.new w _ _ _ _ _).below hb1
  obtain ⟨c0, c1, c2, c3, c4⟩ := P1.out.five
  clear hb1
  go_wp2_with fail
  refine (CS.out _).mono ?_
  rintro e w2 ⟨rfl, hb2⟩
  have B2 : Hid (Below w.heap.size w w2) := below_on B1.out hb2
  have P2 : Hid (FiveB w2 w.heap.size N0 B Q E F) := P1.out.below hb2
  clear hb2 B1 P1 c0 c1 c2 c3 c4
  go_wp2_with fail
  refine (CN.out _).mono ?_
  rintro e w3 ⟨rfl, hb3⟩
  have B3 : Hid (Below w.heap.size w w3) := below_on B2.out hb3
  have P3 : Hid (FiveB w3 w.heap.size N0 B Q E F) := P2.out.below hb3
  clear hb3 B2 P2 CN
  obtain ⟨c0, c1, c2, c3, c4⟩ := P3.out.five
  go_wp2_with fail
  refine (CS.out _).mono ?_
  rintro e w4 ⟨rfl, hb4⟩
  have B4 : Hid (Below w.heap.size w w4) := below_on B3.out hb4
  have P4 : Hid (FiveB w4 w.heap.size N0 B Q E F) := P3.out.below hb4
  clear hb4 B3 P3 c0 c1 c2 c3 c4 CS
  obtain ⟨c0, c1, c2, c3, c4⟩ := P4.out.five
  have f0 := P4.out.fr 0
  have f1 := P4.out.fr 1
  have f2 := P4.out.fr 2
  have f3 := P4.out.fr 3
  have f4 := P4.out.fr 4
  have B5 : Hid (Below w.heap.size w (((((w4.setCell ⟨w.heap.size, 0, none⟩ (.int .i64 N)).setCell ⟨w.heap.size, 1, none⟩ (.int .i64 B)).setCell ⟨w.heap.size, 2, none⟩ (.int .i64 Q)).setCell ⟨w.heap.size, 3, none⟩ (.int .i64 E)).setCell ⟨w.heap.size, 4, none⟩ (.int .i64 F))) := below5 B4.out (Nat.le_refl _) _ _ _ _ _
  have P5 : Hid (FiveB (((((w4.setCell ⟨w.heap.size, 0, none⟩ (.int .i64 N)).setCell ⟨w.heap.size, 1, none⟩ (.int .i64 B)).setCell ⟨w.heap.size, 2, none⟩ (.int .i64 Q)).setCell ⟨w.heap.size, 3, none⟩ (.int .i64 E)).setCell ⟨w.heap.size, 4, none⟩ (.int .i64 F)) w.heap.size N B Q E F) := fiveB_store P4.out _ _ _ _ _
  go_upto_region 5 with fail
  generalize ((((w4.setCell ⟨w.heap.size, 0, none⟩ (.int .i64 N)).setCell ⟨w.heap.size, 1, none⟩ (.int .i64 B)).setCell ⟨w.heap.size, 2, none⟩ (.int .i64 Q)).setCell ⟨w.heap.size, 3, none⟩ (.int .i64 E)).setCell ⟨w.heap.size, 4, none⟩ (.int .i64 F) = w5 at *
  clear c0 c1 c2 c3 c4 f0 f1 f2 f3 f4 B4 P4
  obtain ⟨c0, c1, c2, c3, c4⟩ := P5.out.five
  go_wp2_with fail
  refine (MP.out _).mono ?_
  rintro e w6 ⟨rfl, hb6⟩
  have B6 : Hid (Below w.heap.size w w6) := below_on B5.out hb6
  clear hb6 B5 P5 c0 c1 c2 c3 c4 MP
  go_wp2
  go_ret
  exact ⟨rfl, B6.out⟩

set_option maxRecDepth 100000 in
set_option maxHeartbeats 4000000 in
theorem outerDraws_yes (N0 B E F : Int) (n q A S : Nat) (i : Int) (w : World) (hN : smallN N0 = (n : Int)) (hpr : PrOk n B q E F n q A) (hS : S < 18446744073709551616) :
    Calls Try.prog 6 #[.agg #[.int .i64 N0, .int .i64 B, .int .i64 q, .int .i64 E, .int .i64 F], .int .u64 S, .int .i64 i] w fun e w' => e = .returned (.bool true) ∧ Below w.heap.size w w' := by
  have hn60 : n ≤ 60 := by have := smallN_le N0; omega
  have hA6 : A ≤ 1000000 := may_small hpr (by omega)
  have CS : Hid (∀ W, Calls Try.prog 23 #[.agg #[.int .i64 N0, .int .i64 B, .int .i64 q, .int .i64 E, .int .i64 F]] W fun e w' => e = .returned (.agg #[.int .i64 n, .int .i64 B, .int .i64 q, .int .i64 E, .int .i64 F]) ∧ Below W.heap.size W w') := by
    intro W
    rw [← hN]
    exact smaller_any N0 B q E F W
  have CN : Hid (∀ W, Calls Try.prog 22 #[.agg #[.int .i64 n, .int .i64 B, .int .i64 q, .int .i64 E, .int .i64 F], .int .u64 S] W fun e w' => ∃ g ro vs, e = .returned (.tuple #[.pointer (some ⟨g, 0, none⟩), .int .i64 0]) ∧ GrO w' g ro S n q A vs (hasR S A q n) ∧ Below W.heap.size W w') := by
    intro W
    refine (onew_own B E F n q A S W hpr hS).mono ?_
    rintro e w' ⟨g, ro, vs, rfl, hg⟩
    exact ⟨g, ro, vs, rfl, hg.grO, hg.bel⟩
  have MP : Hid (∀ W, Calls Try.prog 24 #[.agg #[.int .i64 n, .int .i64 B, .int .i64 q, .int .i64 E, .int .i64 F]] W fun e w' => e = .returned (.bool true) ∧ Below W.heap.size W w') := fun W => rmay_yes n B q E F W hpr.may
  have CE : Hid (∀ W, Calls Try.prog 30 #[.agg #[.int .i64 n, .int .i64 B, .int .i64 q, .int .i64 E, .int .i64 F], .int .u64 S] W fun e w' => ∃ oa oc b0 qb vs vE, e = .returned (.slice oa A oc) ∧ EqI W w' b0 n B q E F qb A vs (hasR S A q n) (.slice oa A oc) A vE (eqTo (hasR S A q n) n A)) := fun W => reqs_any B E F n q A S W hpr hS hA6
  have CH : Hid (∀ W, Calls Try.prog 31 #[.agg #[.int .i64 n, .int .i64 B, .int .i64 q, .int .i64 E, .int .i64 F], .int .u64 S] W fun e w' => ∃ qb vs, e = .returned (.slice (some ⟨qb, 0, none⟩) A A) ∧ RfI W.heap.size w' qb A vs (hasR S A q n) ∧ Below W.heap.size W w') := fun W => rhas10_any B E F n q A S W hpr hS hA6
  have CRX : Hid (∀ W, Calls Try.prog 27 #[.agg #[.int .i64 n, .int .i64 B, .int .i64 q, .int .i64 E, .int .i64 F]] W fun e w' => ∃ v, e = .returned v ∧ IsV (.int .i64 (A : Int)) v w' ∧ Below W.heap.size W w') := by
    intro W
    refine (raux_any n B q E F W hpr.may.1 hpr.may.2.2.1 hpr.may.2.2.2.1).mono ?_
    rintro e w' ⟨rfl, hb⟩
    exact ⟨_, rfl, by rw [hpr.ea]; rfl, hb⟩
  have CRO : Hid (∀ W (k : Nat), k ≤ 1048576 → Calls Try.prog 29 #[.agg #[.int .i64 n, .int .i64 B, .int .i64 q, .int .i64 E, .int .i64 F], .int .u64 S, .int .i64 k] W fun e w' => ∃ a c, e = .returned (.slice a q c) ∧ OwnZ W.heap.size w' (.slice a q c) q (ofD S A q k) ∧ Below W.heap.size W w') := fun W k hk => rof_any n B q E F n q A S k W hpr hS hk hA6
  have OK : Hid (GrOk S n q A) := hpr.ok hS
  have hA1 := OK.out.a1
  have hq8 := OK.out.q
  have HRS : Hid (∀ (j : Nat) (r : List Int), (hasR S A q n)[j]? = some r → r.length ≤ n) := fun j r h => hasR_short n j r h
  clear hN hpr hS
  generalize hasR S A q n = rows at *
  go_enter Try.func6, Try.ntmps6
  go_wp2_with fail
  refine (speaks10_any _).mono ?_
  rintro e w1 ⟨rfl, hb1⟩
  have B1 : Hid (Below w.heap.size w w1) := below_on (below_alloc _ _) hb1
  have P1 : Hid (FiveB w1 w.heap.size N0 B q E F) := (FiveB.new w _ _ _ _ _).below hb1
  obtain ⟨c0, c1, c2, c3, c4⟩ := P1.out.five
  clear hb1
  go_wp2_with fail
  refine (CS.out _).mono ?_
  rintro e w2 ⟨rfl, hb2⟩
  have B2 : Hid (Below w.heap.size w w2) := below_on B1.out hb2
  have P2 : Hid (FiveB w2 w.heap.size N0 B q E F) := P1.out.below hb2
  clear hb2 B1 P1 c0 c1 c2 c3 c4
  go_wp2_with fail
  refine (CN.out _).mono ?_
  rintro e w3 ⟨gp, rp, vp, rfl, hg3, hb3⟩
  have G3 : Hid (GrO w3 gp rp S n q A vp rows) := hg3
  have B3 : Hid (Below w.heap.size w w3) := below_on B2.out hb3
  have P3 : Hid (FiveB w3 w.heap.size N0 B q E F) := P2.out.below hb3
  clear hb3 B2 P2 CN hg3
  obtain ⟨c0, c1, c2, c3, c4⟩ := P3.out.five
  go_wp2_with fail
  refine (CS.out _).mono ?_
  rintro e w4 ⟨rfl, hb4⟩
  have G4 : Hid (GrO w4 gp rp S n q A vp rows) := G3.out.below hb4
  have B4 : Hid (Below w.heap.size w w4) := below_on B3.out hb4
  have P4 : Hid (FiveB w4 w.heap.size N0 B q E F) := P3.out.below hb4
  clear hb4 B3 P3 G3 c0 c1 c2 c3 c4 CS
  obtain ⟨c0, c1, c2, c3, c4⟩ := P4.out.five
  have f0 := P4.out.fr 0
  have f1 := P4.out.fr 1
  have f2 := P4.out.fr 2
  have f3 := P4.out.fr 3
  have f4 := P4.out.fr 4
  have B5 : Hid (Below w.heap.size w (((((w4.setCell ⟨w.heap.size, 0, none⟩ (.int .i64 n)).setCell ⟨w.heap.size, 1, none⟩ (.int .i64 B)).setCell ⟨w.heap.size, 2, none⟩ (.int .i64 q)).setCell ⟨w.heap.size, 3, none⟩ (.int .i64 E)).setCell ⟨w.heap.size, 4, none⟩ (.int .i64 F))) := below5 B4.out (Nat.le_refl _) _ _ _ _ _
  have P5 : Hid (FiveB (((((w4.setCell ⟨w.heap.size, 0, none⟩ (.int .i64 n)).setCell ⟨w.heap.size, 1, none⟩ (.int .i64 B)).setCell ⟨w.heap.size, 2, none⟩ (.int .i64 q)).setCell ⟨w.heap.size, 3, none⟩ (.int .i64 E)).setCell ⟨w.heap.size, 4, none⟩ (.int .i64 F)) w.heap.size n B q E F) := fiveB_store P4.out _ _ _ _ _
  have G5 : Hid (IsGr (((((w4.setCell ⟨w.heap.size, 0, none⟩ (.int .i64 n)).setCell ⟨w.heap.size, 1, none⟩ (.int .i64 B)).setCell ⟨w.heap.size, 2, none⟩ (.int .i64 q)).setCell ⟨w.heap.size, 3, none⟩ (.int .i64 E)).setCell ⟨w.heap.size, 4, none⟩ (.int .i64 F)) gp rp S n q A vp rows) := (G4.out.aside P4.out _ _ _ _ _).isGr
  go_upto_region 5 with fail
  generalize ((((w4.setCell ⟨w.heap.size, 0, none⟩ (.int .i64 n)).setCell ⟨w.heap.size, 1, none⟩ (.int .i64 B)).setCell ⟨w.heap.size, 2, none⟩ (.int .i64 q)).setCell ⟨w.heap.size, 3, none⟩ (.int .i64 E)).setCell ⟨w.heap.size, 4, none⟩ (.int .i64 F) = w5 at *
  clear c0 c1 c2 c3 c4 f0 f1 f2 f3 f4 B4 P4 G4
  obtain ⟨c0, c1, c2, c3, c4⟩ := P5.out.five
  go_upto_region 7 with fail
  refine (MP.out _).mono ?_
  rintro e w6 ⟨rfl, hb6⟩
  have G6 : Hid (IsGr w6 gp rp S n q A vp rows) := G5.out.below hb6
  have B6 : Hid (Below w.heap.size w w6) := below_on B5.out hb6
  have P6 : Hid (FiveB w6 w.heap.size n B q E F) := P5.out.below hb6
  clear hb6 B5 P5 G5 c0 c1 c2 c3 c4 MP
  have BX : Hid (∀ W, Below w6.heap.size w6 W → Five W w.heap.size n B q E F) := fun W hW => (P6.out.below hW).five
  have CM : Hid (∀ W, Below w6.heap.size w6 W → Calls Try.prog 25 #[.pointer (some ⟨gp, 0, none⟩)] W fun e w' => ∃ v, e = .returned v ∧ IsV (.int .i64 (n : Int)) v w' ∧ Below W.heap.size W w') := by
    intro W hW
    refine (omsg_any gp rp S n q A vp rows W (G6.out.below hW)).mono ?_
    rintro e w' ⟨rfl, rfl⟩
    exact ⟨_, rfl, rfl, Below.refl _ _⟩
  have CA : Hid (∀ W, Below w6.heap.size w6 W → Calls Try.prog 26 #[.pointer (some ⟨gp, 0, none⟩)] W fun e w' => ∃ v, e = .returned v ∧ IsV (.int .i64 (A : Int)) v w' ∧ Below W.heap.size W w') := by
    intro W hW
    refine (oaux_any gp rp S n q A vp rows W (G6.out.below hW)).mono ?_
    rintro e w' ⟨rfl, rfl⟩
    exact ⟨_, rfl, rfl, Below.refl _ _⟩
  have CR : Hid (∀ W, Below w6.heap.size w6 W → Calls Try.prog 27 #[.agg #[.int .i64 n, .int .i64 B, .int .i64 q, .int .i64 E, .int .i64 F]] W fun e w' => ∃ v, e = .returned v ∧ IsV (.int .i64 (A : Int)) v w' ∧ Below W.heap.size W w') := fun W _ => CRX.out W
  go_upto_region 7 with fail
  refine wp_region_any (by kernel_rfl) ?_
  obtain ⟨gs, hgs⟩ : ∃ gs : List (Value → World → Prop), gs = [IsV (Value.int IntKind.i64 (0 : Int)), IsV (.bool false), IsV (.bool false), IsV (Value.pointer (some { block := gp, off := 0 })), IsV (.bool false), IsV (.bool false), IsV (.bool false), IsV (Value.pointer (some { block := gp, off := 0 })), IsV (.int .i64 (n : Int)), IsV (.pointer (some ⟨w.heap.size, 0, none⟩)), IsV (.int .i64 (n : Int)), IsV (.bool false), IsV (.bool false), IsV (.bool false), IsV (Value.pointer (some { block := gp, off := 0 })), IsV (.int .i64 (A : Int)), IsV (.agg #[.int .i64 (n : Int), .int .i64 B, .int .i64 (q : Int), .int .i64 E, .int .i64 F]), IsV (.int .i64 (A : Int)), IsV (.bool false), IsV (.bool false)] := ⟨_, rfl⟩
  have g0 : Hid (gs[0]? = some (IsV (Value.int IntKind.i64 (0 : Int)))) := by unfold Hid; rw [hgs]; rfl
  have g1 : Hid (gs[1]? = some (IsV (.bool false))) := by unfold Hid; rw [hgs]; rfl
  have g2 : Hid (gs[2]? = some (IsV (.bool false))) := by unfold Hid; rw [hgs]; rfl
  have g3 : Hid (gs[3]? = some (IsV (Value.pointer (some { block := gp, off := 0 })))) := by unfold Hid; rw [hgs]; rfl
  have g4 : Hid (gs[4]? = some (IsV (.bool false))) := by unfold Hid; rw [hgs]; rfl
  have g5 : Hid (gs[5]? = some (IsV (.bool false))) := by unfold Hid; rw [hgs]; rfl
  have g6 : Hid (gs[6]? = some (IsV (.bool false))) := by unfold Hid; rw [hgs]; rfl
  have g7 : Hid (gs[7]? = some (IsV (Value.pointer (some { block := gp, off := 0 })))) := by unfold Hid; rw [hgs]; rfl
  have g8 : Hid (gs[8]? = some (IsV (.int .i64 (n : Int)))) := by unfold Hid; rw [hgs]; rfl
  have g9 : Hid (gs[9]? = some (IsV (.pointer (some ⟨w.heap.size, 0, none⟩)))) := by unfold Hid; rw [hgs]; rfl
  have g10 : Hid (gs[10]? = some (IsV (.int .i64 (n : Int)))) := by unfold Hid; rw [hgs]; rfl
  have g11 : Hid (gs[11]? = some (IsV (.bool false))) := by unfold Hid; rw [hgs]; rfl
  have g12 : Hid (gs[12]? = some (IsV (.bool false))) := by unfold Hid; rw [hgs]; rfl
  have g13 : Hid (gs[13]? = some (IsV (.bool false))) := by unfold Hid; rw [hgs]; rfl
  have g14 : Hid (gs[14]? = some (IsV (Value.pointer (some { block := gp, off := 0 })))) := by unfold Hid; rw [hgs]; rfl
  have g15 : Hid (gs[15]? = some (IsV (.int .i64 (A : Int)))) := by unfold Hid; rw [hgs]; rfl
  have g16 : Hid (gs[16]? = some (IsV (.agg #[.int .i64 (n : Int), .int .i64 B, .int .i64 (q : Int), .int .i64 E, .int .i64 F]))) := by unfold Hid; rw [hgs]; rfl
  have g17 : Hid (gs[17]? = some (IsV (.int .i64 (A : Int)))) := by unfold Hid; rw [hgs]; rfl
  have g18 : Hid (gs[18]? = some (IsV (.bool false))) := by unfold Hid; rw [hgs]; rfl
  have g19 : Hid (gs[19]? = some (IsV (.bool false))) := by unfold Hid; rw [hgs]; rfl
  have gk : Hid (∀ p ∈ gs, Stays p) := by
    unfold Hid
    rw [hgs]
    simp only [List.forall_mem_cons]
    exact ⟨stays_v _, stays_v _, stays_v _, stays_v _, stays_v _, stays_v _, stays_v _, stays_v _, stays_v _, stays_v _, stays_v _, stays_v _, stays_v _, stays_v _, stays_v _, stays_v _, stays_v _, stays_v _, stays_v _, stays_v _, by simp⟩
  clear hgs
  refine wpAny_inv (fun listed ac W => ∃ xv : Nat → Value, ac = ⟨#[Value.agg #[Value.int IntKind.i64 N0, Value.int IntKind.i64 B, Value.int IntKind.i64 ↑q, Value.int IntKind.i64 E, Value.int IntKind.i64 F], Value.int IntKind.u64 ↑S, Value.int IntKind.i64 i, Value.pointer (some { block := w.heap.size, off := 0 }), undef, undef, Value.bool false, Value.pointer (some { block := gp, off := 0 }), Value.int IntKind.i64 (0 : Int), undef, undef, undef, undef, Value.bool true, Value.bool false, Value.tuple #[Value.pointer (some { block := gp, off := 0 }), Value.int IntKind.i64 (0 : Int)], Value.agg #[Value.int IntKind.i64 N0, Value.int IntKind.i64 B, Value.int IntKind.i64 ↑q, Value.int IntKind.i64 E, Value.int IntKind.i64 F], Value.agg #[Value.int IntKind.i64 ↑n, Value.int IntKind.i64 B, Value.int IntKind.i64 ↑q, Value.int IntKind.i64 E, Value.int IntKind.i64 F], Value.int IntKind.u64 ↑S, Value.tuple #[Value.pointer (some { block := gp, off := 0 }), Value.int IntKind.i64 (0 : Int)], Value.pointer (some { block := gp, off := 0 }), Value.int IntKind.i64 (0 : Int), Value.agg #[Value.int IntKind.i64 N0, Value.int IntKind.i64 B, Value.int IntKind.i64 ↑q, Value.int IntKind.i64 E, Value.int IntKind.i64 F], Value.agg #[Value.int IntKind.i64 ↑n, Value.int IntKind.i64 B, Value.int IntKind.i64 ↑q, Value.int IntKind.i64 E, Value.int IntKind.i64 F], Value.agg #[Value.int IntKind.i64 ↑n, Value.int IntKind.i64 B, Value.int IntKind.i64 ↑q, Value.int IntKind.i64 E, Value.int IntKind.i64 F], Value.bool true, Value.bool false, undef, undef, undef, undef, undef, undef, xv 0, xv 1, xv 2, xv 3, xv 4, xv 5, xv 6, xv 7, xv 8, xv 9, xv 10, xv 11, xv 12, xv 13, xv 14, xv 15, xv 16, xv 17, xv 18, xv 19, undef, undef, undef, undef, undef, undef, undef, undef, undef, undef, undef, undef, undef, undef, undef, undef, undef, undef, undef, undef, undef, undef, undef, undef, undef, undef, undef, undef, undef, undef, undef, undef, undef, undef, undef, undef, undef, undef, undef, undef, undef, undef, undef, undef, undef, undef, undef, undef, undef, undef, undef, undef, undef, undef, undef, undef, undef, undef, undef, undef, undef, undef, undef, undef, undef, undef, undef, undef, undef, undef, undef, undef, undef, undef, undef, undef, undef, undef, undef, undef, undef, undef], []⟩ ∧ Below w6.heap.size w6 W ∧ Lst gs listed xv W) (by kernel_rfl) ?_ ?_ _ _ _ _ (by kernel_rfl) (of_decide_eq_true (by kernel_rfl)) ⟨fun j => undef, rfl, below0 _, Lst.start _ _ _ _⟩
  · rintro listed ac W ⟨xv, rfl, hb, hG⟩ i hi hd
    have hin : i < 20 := hi
    clear hi
    have hcase : i = 0 ∨ i = 1 ∨ i = 2 ∨ i = 3 ∨ i = 4 ∨ i = 5 ∨ i = 6 ∨ i = 7 ∨ i = 8 ∨ i = 9 ∨ i = 10 ∨ i = 11 ∨ i = 12 ∨ i = 13 ∨ i = 14 ∨ i = 15 ∨ i = 16 ∨ i = 17 ∨ i = 18 ∨ i = 19 := by omega
    rcases hcase with rfl | rfl | rfl | rfl | rfl | rfl | rfl | rfl | rfl | rfl | rfl | rfl | rfl | rfl | rfl | rfl | rfl | rfl | rfl | rfl
    · refine wpOp_step rfl (fun K' hK => ?_)
      clear hd hin
      go_simp
      exact hK _ _ ⟨updV xv 0 (Value.int IntKind.i64 (0 : Int)), by simp [updV], hb, hG.same gk.out g0.out _ rfl⟩
    · refine wpOp_step rfl (fun K' hK => ?_)
      simp [Region.binds] at hd
      have e0 : xv 0 = Value.int IntKind.i64 (0 : Int) := hG.get g0.out (by simp [hd])
      clear hd hin
      go_simp
      exact hK _ _ ⟨updV xv 1 (.bool false), by simp [updV, e0], hb, hG.same gk.out g1.out _ rfl⟩
    · refine wpOp_step rfl (fun K' hK => ?_)
      simp [Region.binds] at hd
      have e1 : xv 1 = .bool false := hG.get g1.out (by simp [hd])
      clear hd hin
      go_simp
      exact hK _ _ ⟨updV xv 2 (.bool false), by simp [updV, e1], hb, hG.same gk.out g2.out _ rfl⟩
    · refine wpOp_step rfl (fun K' hK => ?_)
      simp [Region.binds] at hd
      have e2 : xv 2 = .bool false := hG.get g2.out (by simp [hd])
      clear hd hin
      go_simp
      exact hK _ _ ⟨updV xv 3 (Value.pointer (some { block := gp, off := 0 })), by simp [updV, e2], hb, hG.same gk.out g3.out _ rfl⟩
    · refine wpOp_step rfl (fun K' hK => ?_)
      simp [Region.binds] at hd
      have e3 : xv 3 = Value.pointer (some { block := gp, off := 0 }) := hG.get g3.out (by simp [hd])
      have e2 : xv 2 = .bool false := hG.get g2.out (by simp [hd])
      clear hd hin
      go_simp
      exact hK _ _ ⟨updV xv 4 (.bool false), by simp [updV, e3, e2], hb, hG.same gk.out g4.out _ rfl⟩
    · refine wpOp_step rfl (fun K' hK => ?_)
      simp [Region.binds] at hd
      have e2 : xv 2 = .bool false := hG.get g2.out (by simp [hd])
      have e4 : xv 4 = .bool false := hG.get g4.out (by simp [hd])
      clear hd hin
      go_simp
      exact hK _ _ ⟨updV xv 5 (.bool false), by simp [updV, e2, e4], hb, hG.same gk.out g5.out _ rfl⟩
    · refine wpOp_step rfl (fun K' hK => ?_)
      simp [Region.binds] at hd
      have e5 : xv 5 = .bool false := hG.get g5.out (by simp [hd])
      clear hd hin
      go_simp
      exact hK _ _ ⟨updV xv 6 (.bool false), by simp [updV, e5], hb, hG.same gk.out g6.out _ rfl⟩
    · refine wpOp_step rfl (fun K' hK => ?_)
      simp [Region.binds] at hd
      have e6 : xv 6 = .bool false := hG.get g6.out (by simp [hd])
      clear hd hin
      go_simp
      exact hK _ _ ⟨updV xv 7 (Value.pointer (some { block := gp, off := 0 })), by simp [updV, e6], hb, hG.same gk.out g7.out _ rfl⟩
    · refine wpOp_step rfl (fun K' hK => ?_)
      simp [Region.binds] at hd
      have e7 : xv 7 = Value.pointer (some { block := gp, off := 0 }) := hG.get g7.out (by simp [hd])
      have e6 : xv 6 = .bool false := hG.get g6.out (by simp [hd])
      clear hd hin
      go_simp
      refine (CM.out W hb).mono ?_
      rintro e w' ⟨v, rfl, hv, hb'⟩
      go_wp2_with fail
      exact ⟨updV xv 8 v, by simp [updV, e7, e6], hb.trans (hb'.mono hb.size), hG.step gk.out hb' g8.out v hv⟩
    · refine wpOp_step rfl (fun K' hK => ?_)
      simp [Region.binds] at hd
      have e6 : xv 6 = .bool false := hG.get g6.out (by simp [hd])
      clear hd hin
      go_simp
      exact hK _ _ ⟨updV xv 9 (.pointer (some ⟨w.heap.size, 0, none⟩)), by simp [updV, e6], hb, hG.same gk.out g9.out _ rfl⟩
    · refine wpOp_step rfl (fun K' hK => ?_)
      simp [Region.binds] at hd
      have e9 : xv 9 = .pointer (some ⟨w.heap.size, 0, none⟩) := hG.get g9.out (by simp [hd])
      have e6 : xv 6 = .bool false := hG.get g6.out (by simp [hd])
      obtain ⟨c0, c1, c2, c3, c4⟩ := BX.out W hb
      clear hd hin
      go_simp
      exact hK _ _ ⟨updV xv 10 (.int .i64 (n : Int)), by simp [updV, e9, e6], hb, hG.same gk.out g10.out _ rfl⟩
    · refine wpOp_step rfl (fun K' hK => ?_)
      simp [Region.binds] at hd
      have e8 : xv 8 = .int .i64 (n : Int) := hG.get g8.out (by simp [hd])
      have e10 : xv 10 = .int .i64 (n : Int) := hG.get g10.out (by simp [hd])
      have e6 : xv 6 = .bool false := hG.get g6.out (by simp [hd])
      clear hd hin
      go_simp
      exact hK _ _ ⟨updV xv 11 (.bool false), by simp [updV, e8, e10, e6], hb, hG.same gk.out g11.out _ rfl⟩
    · refine wpOp_step rfl (fun K' hK => ?_)
      simp [Region.binds] at hd
      have e6 : xv 6 = .bool false := hG.get g6.out (by simp [hd])
      have e11 : xv 11 = .bool false := hG.get g11.out (by simp [hd])
      clear hd hin
      go_simp
      exact hK _ _ ⟨updV xv 12 (.bool false), by simp [updV, e6, e11], hb, hG.same gk.out g12.out _ rfl⟩
    · refine wpOp_step rfl (fun K' hK => ?_)
      simp [Region.binds] at hd
      have e12 : xv 12 = .bool false := hG.get g12.out (by simp [hd])
      clear hd hin
      go_simp
      exact hK _ _ ⟨updV xv 13 (.bool false), by simp [updV, e12], hb, hG.same gk.out g13.out _ rfl⟩
    · refine wpOp_step rfl (fun K' hK => ?_)
      simp [Region.binds] at hd
      have e13 : xv 13 = .bool false := hG.get g13.out (by simp [hd])
      clear hd hin
      go_simp
      exact hK _ _ ⟨updV xv 14 (Value.pointer (some { block := gp, off := 0 })), by simp [updV, e13], hb, hG.same gk.out g14.out _ rfl⟩
    · refine wpOp_step rfl (fun K' hK => ?_)
      simp [Region.binds] at hd
      have e14 : xv 14 = Value.pointer (some { block := gp, off := 0 }) := hG.get g14.out (by simp [hd])
      have e13 : xv 13 = .bool false := hG.get g13.out (by simp [hd])
      clear hd hin
      go_simp
      refine (CA.out W hb).mono ?_
      rintro e w' ⟨v, rfl, hv, hb'⟩
      go_wp2_with fail
      exact ⟨updV xv 15 v, by simp [updV, e14, e13], hb.trans (hb'.mono hb.size), hG.step gk.out hb' g15.out v hv⟩
    · refine wpOp_step rfl (fun K' hK => ?_)
      simp [Region.binds] at hd
      have e13 : xv 13 = .bool false := hG.get g13.out (by simp [hd])
      obtain ⟨c0, c1, c2, c3, c4⟩ := BX.out W hb
      clear hd hin
      go_simp
      exact hK _ _ ⟨updV xv 16 (.agg #[.int .i64 (n : Int), .int .i64 B, .int .i64 (q : Int), .int .i64 E, .int .i64 F]), by simp [updV, e13], hb, hG.same gk.out g16.out _ rfl⟩
    · refine wpOp_step rfl (fun K' hK => ?_)
      simp [Region.binds] at hd
      have e16 : xv 16 = .agg #[.int .i64 (n : Int), .int .i64 B, .int .i64 (q : Int), .int .i64 E, .int .i64 F] := hG.get g16.out (by simp [hd])
      have e13 : xv 13 = .bool false := hG.get g13.out (by simp [hd])
      clear hd hin
      go_simp
      refine (CR.out W hb).mono ?_
      rintro e w' ⟨v, rfl, hv, hb'⟩
      go_wp2_with fail
      exact ⟨updV xv 17 v, by simp [updV, e16, e13], hb.trans (hb'.mono hb.size), hG.step gk.out hb' g17.out v hv⟩
    · refine wpOp_step rfl (fun K' hK => ?_)
      simp [Region.binds] at hd
      have e15 : xv 15 = .int .i64 (A : Int) := hG.get g15.out (by simp [hd])
      have e17 : xv 17 = .int .i64 (A : Int) := hG.get g17.out (by simp [hd])
      have e13 : xv 13 = .bool false := hG.get g13.out (by simp [hd])
      clear hd hin
      go_simp
      exact hK _ _ ⟨updV xv 18 (.bool false), by simp [updV, e15, e17, e13], hb, hG.same gk.out g18.out _ rfl⟩
    · refine wpOp_step rfl (fun K' hK => ?_)
      simp [Region.binds] at hd
      have e13 : xv 13 = .bool false := hG.get g13.out (by simp [hd])
      have e18 : xv 18 = .bool false := hG.get g18.out (by simp [hd])
      clear hd hin
      go_simp
      exact hK _ _ ⟨updV xv 19 (.bool false), by simp [updV, e13, e18], hb, hG.same gk.out g19.out _ rfl⟩
  · rintro listed ac W ⟨xv, rfl, hb, hG⟩ hall
    have e19 : xv 19 = .bool false := hG.get g19.out (hall 19 (by decide))
    have XW : Hid (Below w6.heap.size w6 W) := hb
    clear hall hG hb gk g0 g1 g2 g3 g4 g5 g6 g7 g8 g9 g10 g11 g12 g13 g14 g15 g16 g17 g18 g19
    rw [e19]
    clear e19
    have G7 : Hid (IsGr W gp rp S n q A vp rows) := G6.out.below XW.out
    have B7 : Hid (Below w.heap.size w W) := below_on B6.out XW.out
    have P7 : Hid (FiveB W w.heap.size n B q E F) := P6.out.below XW.out
    clear XW BX CM CA CR G6 B6 P6 CRX
    obtain ⟨c0, c1, c2, c3, c4⟩ := P7.out.five
    go_wp2
    clear c0 c1 c2 c3 c4
    go_loopw [55] (fun kv wr => ∃ k : Nat, k ≤ n ∧ kv = .int .i64 k ∧ Hid (IsGr wr gp rp S n q A vp rows) ∧ Hid (Below w.heap.size w wr) ∧ Hid (FiveB wr w.heap.size n B q E F)) (fun kv _ => n - (intOf kv).toNat)
    case atStart => exact ⟨0, by omega, rfl, G7, B7, P7⟩
    case round =>
      clear G7 B7 P7
      obtain ⟨k, hk, rfl, HG, HB, HP⟩ := hrel
      by_cases hlt : k < n
      · have CO : Hid (∀ W, Below wr.heap.size wr W → Calls Try.prog 28 #[.pointer (some ⟨gp, 0, none⟩), .int .i64 k] W fun e w' => ∃ v, e = .returned v ∧ IsOz wr.heap.size q (ofD S A q k) v w' ∧ Below W.heap.size W w') := by
          intro W hW
          refine (oof_yes gp rp S n q A k vp rows W (HG.out.below hW) OK.out hlt).mono ?_
          rintro e w' ⟨a, c, rfl, ho, hb⟩
          exact ⟨_, rfl, ⟨a, c, rfl, ho.mono hW.size⟩, hb⟩
        have CR : Hid (∀ W, Below wr.heap.size wr W → Calls Try.prog 29 #[.agg #[.int .i64 n, .int .i64 B, .int .i64 q, .int .i64 E, .int .i64 F], .int .u64 S, .int .i64 k] W fun e w' => ∃ v, e = .returned v ∧ IsOz wr.heap.size q (ofD S A q k) v w' ∧ Below W.heap.size W w') := by
          intro W hW
          refine (CRO.out W k (by omega)).mono ?_
          rintro e w' ⟨a, c, rfl, ho, hb⟩
          exact ⟨_, rfl, ⟨a, c, rfl, ho.mono hW.size⟩, hb⟩
        have CY : Hid (∀ W v u, Below wr.heap.size wr W → IsOz wr.heap.size q (ofD S A q k) v W → IsOz wr.heap.size q (ofD S A q k) u W → Calls Try.prog 17 #[v, u] W fun e w' => ∃ x, e = .returned x ∧ IsV (.int .i64 1) x w' ∧ Below W.heap.size W w') := fun W v u _ h1 h2 => Same.of h1.zs h2.zs
        have BX : Hid (∀ W, Below wr.heap.size wr W → Five W w.heap.size n B q E F) := fun W hW => (HP.out.below hW).five
        generalize ofD S A q k = l at *
        go_upto_region 12 with fail
        refine wp_region_any (by kernel_rfl) ?_
        obtain ⟨gs, hgs⟩ : ∃ gs : List (Value → World → Prop), gs = [IsV (Value.pointer (some { block := gp, off := 0 })), IsV (Value.int IntKind.i64 ↑k), IsOz wr.heap.size q l, IsV (.agg #[.int .i64 (n : Int), .int .i64 B, .int .i64 (q : Int), .int .i64 E, .int .i64 F]), IsV (Value.int IntKind.u64 ↑S), IsV (Value.int IntKind.i64 ↑k), IsOz wr.heap.size q l, IsV (.int .i64 1), IsV (.bool false)] := ⟨_, rfl⟩
        have g0 : Hid (gs[0]? = some (IsV (Value.pointer (some { block := gp, off := 0 })))) := by unfold Hid; rw [hgs]; rfl
        have g1 : Hid (gs[1]? = some (IsV (Value.int IntKind.i64 ↑k))) := by unfold Hid; rw [hgs]; rfl
        have g2 : Hid (gs[2]? = some (IsOz wr.heap.size q l)) := by unfold Hid; rw [hgs]; rfl
        have g3 : Hid (gs[3]? = some (IsV (.agg #[.int .i64 (n : Int), .int .i64 B, .int .i64 (q : Int), .int .i64 E, .int .i64 F]))) := by unfold Hid; rw [hgs]; rfl
        have g4 : Hid (gs[4]? = some (IsV (Value.int IntKind.u64 ↑S))) := by unfold Hid; rw [hgs]; rfl
        have g5 : Hid (gs[5]? = some (IsV (Value.int IntKind.i64 ↑k))) := by unfold Hid; rw [hgs]; rfl
        have g6 : Hid (gs[6]? = some (IsOz wr.heap.size q l)) := by unfold Hid; rw [hgs]; rfl
        have g7 : Hid (gs[7]? = some (IsV (.int .i64 1))) := by unfold Hid; rw [hgs]; rfl
        have g8 : Hid (gs[8]? = some (IsV (.bool false))) := by unfold Hid; rw [hgs]; rfl
        have gk : Hid (∀ p ∈ gs, Stays p) := by
          unfold Hid
          rw [hgs]
          simp only [List.forall_mem_cons]
          exact ⟨stays_v _, stays_v _, stays_oz _ _ _, stays_v _, stays_v _, stays_v _, stays_oz _ _ _, stays_v _, stays_v _, by simp⟩
        clear hgs
        refine wpAny_inv (fun listed ac Wb => ∃ xvb : Nat → Value, ac = ⟨#[Value.agg #[Value.int IntKind.i64 N0, Value.int IntKind.i64 B, Value.int IntKind.i64 ↑q, Value.int IntKind.i64 E, Value.int IntKind.i64 F], Value.int IntKind.u64 ↑S, Value.int IntKind.i64 i, Value.pointer (some { block := w.heap.size, off := 0 }), undef, undef, u6, Value.pointer (some { block := gp, off := 0 }), Value.int IntKind.i64 (0 : Int), Value.int IntKind.i64 ↑k, undef, undef, undef, Value.bool true, Value.bool false, Value.tuple #[Value.pointer (some { block := gp, off := 0 }), Value.int IntKind.i64 (0 : Int)], Value.agg #[Value.int IntKind.i64 N0, Value.int IntKind.i64 B, Value.int IntKind.i64 ↑q, Value.int IntKind.i64 E, Value.int IntKind.i64 F], Value.agg #[Value.int IntKind.i64 ↑n, Value.int IntKind.i64 B, Value.int IntKind.i64 ↑q, Value.int IntKind.i64 E, Value.int IntKind.i64 F], Value.int IntKind.u64 ↑S, Value.tuple #[Value.pointer (some { block := gp, off := 0 }), Value.int IntKind.i64 (0 : Int)], Value.pointer (some { block := gp, off := 0 }), Value.int IntKind.i64 (0 : Int), Value.agg #[Value.int IntKind.i64 N0, Value.int IntKind.i64 B, Value.int IntKind.i64 ↑q, Value.int IntKind.i64 E, Value.int IntKind.i64 F], Value.agg #[Value.int IntKind.i64 ↑n, Value.int IntKind.i64 B, Value.int IntKind.i64 ↑q, Value.int IntKind.i64 E, Value.int IntKind.i64 F], Value.agg #[Value.int IntKind.i64 ↑n, Value.int IntKind.i64 B, Value.int IntKind.i64 ↑q, Value.int IntKind.i64 E, Value.int IntKind.i64 F], Value.bool true, Value.bool false, undef, undef, undef, undef, undef, undef, xv 0, xv 1, xv 2, xv 3, xv 4, xv 5, xv 6, xv 7, xv 8, xv 9, xv 10, xv 11, xv 12, xv 13, xv 14, xv 15, xv 16, xv 17, xv 18, Value.bool false, Value.pointer (some { block := w.heap.size, off := 0 }), Value.int IntKind.i64 ↑n, Value.int IntKind.i64 ↑k, Value.bool true, Value.int IntKind.i64 ↑k, xvb 0, xvb 1, xvb 2, xvb 3, xvb 4, xvb 5, xvb 6, xvb 7, xvb 8, u67, undef, undef, undef, undef, undef, undef, undef, undef, undef, undef, undef, undef, undef, undef, undef, undef, undef, undef, undef, undef, undef, undef, undef, undef, undef, undef, undef, undef, undef, undef, undef, undef, undef, undef, undef, undef, undef, undef, undef, undef, undef, undef, undef, undef, undef, undef, undef, undef, undef, undef, undef, undef, undef, undef, undef, undef, undef, undef, undef, undef, undef, undef, undef, undef, undef, undef, undef], []⟩ ∧ Below wr.heap.size wr Wb ∧ Lst gs listed xvb Wb) (by kernel_rfl) ?_ ?_ _ _ _ _ (by kernel_rfl) (of_decide_eq_true (by kernel_rfl)) ⟨fun j => if j = 0 then u58 else if j = 1 then u59 else if j = 2 then u60 else if j = 3 then u61 else if j = 4 then u62 else if j = 5 then u63 else if j = 6 then u64 else if j = 7 then u65 else if j = 8 then u66 else undef, rfl, below0 _, Lst.start _ _ _ _⟩
        · rintro listed ac Wb ⟨xvb, rfl, hb, hG⟩ i hi hd
          have hin : i < 9 := hi
          clear hi
          have hcase : i = 0 ∨ i = 1 ∨ i = 2 ∨ i = 3 ∨ i = 4 ∨ i = 5 ∨ i = 6 ∨ i = 7 ∨ i = 8 := by omega
          rcases hcase with rfl | rfl | rfl | rfl | rfl | rfl | rfl | rfl | rfl
          · refine wpOp_step rfl (fun K' hK => ?_)
            clear hd hin
            go_simp
            exact hK _ _ ⟨updV xvb 0 (Value.pointer (some { block := gp, off := 0 })), by simp [updV], hb, hG.same gk.out g0.out _ rfl⟩
          · refine wpOp_step rfl (fun K' hK => ?_)
            clear hd hin
            go_simp
            exact hK _ _ ⟨updV xvb 1 (Value.int IntKind.i64 ↑k), by simp [updV], hb, hG.same gk.out g1.out _ rfl⟩
          · refine wpOp_step rfl (fun K' hK => ?_)
            simp [Region.binds] at hd
            have e0 : xvb 0 = Value.pointer (some { block := gp, off := 0 }) := hG.get g0.out (by simp [hd])
            have e1 : xvb 1 = Value.int IntKind.i64 ↑k := hG.get g1.out (by simp [hd])
            clear hd hin
            go_simp
            refine (CO.out Wb hb).mono ?_
            rintro e w' ⟨v, rfl, hv, hb'⟩
            go_wp2_with fail
            exact ⟨updV xvb 2 v, by simp [updV, e0, e1], hb.trans (hb'.mono hb.size), hG.step gk.out hb' g2.out v hv⟩
          · refine wpOp_step rfl (fun K' hK => ?_)
            obtain ⟨c0, c1, c2, c3, c4⟩ := BX.out Wb hb
            clear hd hin
            go_simp
            exact hK _ _ ⟨updV xvb 3 (.agg #[.int .i64 (n : Int), .int .i64 B, .int .i64 (q : Int), .int .i64 E, .int .i64 F]), by simp [updV], hb, hG.same gk.out g3.out _ rfl⟩
          · refine wpOp_step rfl (fun K' hK => ?_)
            clear hd hin
            go_simp
            exact hK _ _ ⟨updV xvb 4 (Value.int IntKind.u64 ↑S), by simp [updV], hb, hG.same gk.out g4.out _ rfl⟩
          · refine wpOp_step rfl (fun K' hK => ?_)
            clear hd hin
            go_simp
            exact hK _ _ ⟨updV xvb 5 (Value.int IntKind.i64 ↑k), by simp [updV], hb, hG.same gk.out g5.out _ rfl⟩
          · refine wpOp_step rfl (fun K' hK => ?_)
            simp [Region.binds] at hd
            have e3 : xvb 3 = .agg #[.int .i64 (n : Int), .int .i64 B, .int .i64 (q : Int), .int .i64 E, .int .i64 F] := hG.get g3.out (by simp [hd])
            have e4 : xvb 4 = Value.int IntKind.u64 ↑S := hG.get g4.out (by simp [hd])
            have e5 : xvb 5 = Value.int IntKind.i64 ↑k := hG.get g5.out (by simp [hd])
            clear hd hin
            go_simp
            refine (CR.out Wb hb).mono ?_
            rintro e w' ⟨v, rfl, hv, hb'⟩
            go_wp2_with fail
            exact ⟨updV xvb 6 v, by simp [updV, e3, e4, e5], hb.trans (hb'.mono hb.size), hG.step gk.out hb' g6.out v hv⟩
          · refine wpOp_step rfl (fun K' hK => ?_)
            simp [Region.binds] at hd
            have m2 : IsOz wr.heap.size q l (xvb 2) Wb := hG.get g2.out (by simp [hd])
            have m6 : IsOz wr.heap.size q l (xvb 6) Wb := hG.get g6.out (by simp [hd])
            clear hd hin
            go_simp
            refine (CY.out Wb _ _ hb m2 m6).mono ?_
            rintro e w' ⟨v, rfl, hv, hb'⟩
            go_wp2_with fail
            exact ⟨updV xvb 7 v, by simp [updV], hb.trans (hb'.mono hb.size), hG.step gk.out hb' g7.out v hv⟩
          · refine wpOp_step rfl (fun K' hK => ?_)
            simp [Region.binds] at hd
            have e7 : xvb 7 = .int .i64 1 := hG.get g7.out (by simp [hd])
            clear hd hin
            go_simp
            exact hK _ _ ⟨updV xvb 8 (.bool false), by simp [updV, e7], hb, hG.same gk.out g8.out _ rfl⟩
        · rintro listed ac Wb ⟨xvb, rfl, hb, hG⟩ hall
          have e8 : xvb 8 = .bool false := hG.get g8.out (hall 8 (by decide))
          have XW : Hid (Below wr.heap.size wr Wb) := hb
          clear hall hG hb gk g0 g1 g2 g3 g4 g5 g6 g7 g8
          rw [e8]
          clear e8
          have G8 : Hid (IsGr Wb gp rp S n q A vp rows) := HG.out.below XW.out
          have B8 : Hid (Below w.heap.size w Wb) := below_on HB.out XW.out
          have P8 : Hid (FiveB Wb w.heap.size n B q E F) := HP.out.below XW.out
          clear XW HG HB HP CO CR CY BX
          go_wp2
          go_roundw
          case rel => exact ⟨k + 1, by omega, by go_num, G8, B8, P8⟩
          case measure => simp [intOf]; omega
      · obtain ⟨w8, hw8⟩ : ∃ x, x = wr := ⟨_, rfl⟩
        subst hw8
        obtain ⟨c0, c1, c2, c3, c4⟩ := HP.out.five
        go_wp2_with fail
        refine (CE.out _).mono ?_
        rintro e w9 ⟨oa, oc, b9, qb9, vs9, vE, rfl, hE⟩
        have E9 : Hid (EqI w8 w9 b9 n B q E F qb9 A vs9 rows (.slice oa A oc) A vE (eqTo rows n A)) := hE
        have G9 : Hid (IsGr w9 gp rp S n q A vp rows) := HG.out.below hE.b
        have B9 : Hid (Below w.heap.size w w9) := below_on HB.out hE.b
        have P9 : Hid (FiveB w9 w.heap.size n B q E F) := HP.out.below hE.b
        obtain ⟨eb, ec, ee, -, hec, hem⟩ := owned_shape hE.o (by omega)
        injection ee with e1 _ e3
        subst e1; subst e3
        unfold maxLen at hem
        clear hE HG HB HP CE c0 c1 c2 c3 c4
        obtain ⟨c0, c1, c2, c3, c4⟩ := P9.out.five
        go_wp2_with fail
        refine (CH.out _).mono ?_
        rintro e w10 ⟨qb, vs, rfl, hf10, hb10⟩
        have F10 : Hid (RfI w9.heap.size w10 qb A vs rows) := hf10
        have E10 : Hid (EqI w8 w10 b9 n B q E F qb9 A vs9 rows (.slice (some ⟨eb, 0, none⟩) A oc) A vE (eqTo rows n A)) := E9.out.below hb10
        have G10 : Hid (IsGr w10 gp rp S n q A vp rows) := G9.out.below hb10
        have B10 : Hid (Below w.heap.size w w10) := below_on B9.out hb10
        have P10 : Hid (FiveB w10 w.heap.size n B q E F) := P9.out.below hb10
        clear hf10 hb10 E9 G9 B9 P9 CH c0 c1 c2 c3 c4
        generalize w9.heap.size = bf at *
        go_wp2
        go_loopw [75] (fun jv wr => ∃ j : Nat, j ≤ A ∧ jv = .int .i64 j ∧ Hid (RfI bf wr qb A vs rows) ∧ Hid (EqI w8 wr b9 n B q E F qb9 A vs9 rows (.slice (some ⟨eb, 0, none⟩) A oc) A vE (eqTo rows n A)) ∧ Hid (IsGr wr gp rp S n q A vp rows) ∧ Hid (Below w.heap.size w wr) ∧ Hid (FiveB wr w.heap.size n B q E F)) (fun jv _ => A - (intOf jv).toNat)
        case atStart => exact ⟨0, by omega, rfl, F10, E10, G10, B10, P10⟩
        case round =>
          clear F10 E10 G10 B10 P10
          obtain ⟨j, hj, rfl, HF, HE, HG, HB, HP⟩ := hrel
          by_cases hjA : j < A
          · obtain ⟨rv, r, hrv, hr⟩ := HF.out.row hjA
            have hrl := HRS.out j r hr
            obtain ⟨rn, hrn⟩ : ∃ rn, r.length = rn := ⟨_, rfl⟩
            have HRN : Hid (r.length = rn) := hrn
            have HO := HF.out.own j rv r hrv hr
            rw [hrn] at HO hrl
            obtain ⟨av, vc, ev, hnv, hcv, -⟩ := owned_slice HO
            subst ev
            have hcr := HF.out.cell hrv
            have HZr : Hid (∀ W, Below wr.heap.size wr W → Zs W (.slice av rn vc) r) := fun W hW => (HO.below hW).zs
            have hjE : j < vE.length := by rw [HE.out.len]; exact hjA
            have hvE : vE[j]? = some vE[j] := List.getElem?_eq_getElem hjE
            have hOE := HE.out.rd j _ _ hvE (eqTo_at hr hjA)
            have hcE : wr.cell? ⟨eb, j, none⟩ = some vE[j] := by
              have := World.ownsRow.cellAt HE.out.o j (by omega)
              rw [hvE] at this
              exact this
            rw [List.length_append, hrn] at hOE
            obtain ⟨aE, cE, eE, -⟩ := owned_slice hOE
            rw [eE] at hcE hOE
            have HZe : Hid (∀ W, Below wr.heap.size wr W → W.cell? ⟨eb, j, none⟩ = some (.slice aE (rn + 1) cE) ∧ Zs W (.slice aE (rn + 1) cE) (r ++ [(n : Int) + (j : Int)])) := fun W hW => ⟨(hW.cell (cell_block_lt hcE)).trans hcE, (hOE.below hW).zs⟩
            have CHs : Hid (∀ W, Below wr.heap.size wr W → Calls Try.prog 32 #[.pointer (some ⟨gp, 0, none⟩), .int .i64 j] W fun e w' => ∃ v, e = .returned v ∧ IsOz wr.heap.size rn r v w' ∧ Below W.heap.size W w') := by
              intro W hW
              refine (ohas_yes gp rp S n q A j rn vp rows r W (HG.out.below hW) (by omega) hr hrn (by omega)).mono ?_
              rintro e w' ⟨a, c, rfl, ho, hb⟩
              exact ⟨_, rfl, ⟨a, c, rfl, ho.mono hW.size⟩, hb⟩
            have CEq : Hid (∀ W, Below wr.heap.size wr W → Calls Try.prog 33 #[.pointer (some ⟨gp, 0, none⟩), .int .i64 j] W fun e w' => ∃ v, e = .returned v ∧ IsOz wr.heap.size (rn + 1) (r ++ [(n : Int) + (j : Int)]) v w' ∧ Below W.heap.size W w') := by
              intro W hW
              refine (oeq_yes gp rp S n q A j rn vp rows r W (HG.out.below hW) (by omega) (by omega) hr hrn (by omega)).mono ?_
              rintro e w' ⟨a, c, rfl, ho, hb⟩
              exact ⟨_, rfl, ⟨a, c, rfl, ho.mono hW.size⟩, hb⟩
            have CY1 : Hid (∀ W v, Below wr.heap.size wr W → IsOz wr.heap.size rn r v W → Calls Try.prog 17 #[v, .slice av rn vc] W fun e w' => ∃ x, e = .returned x ∧ IsV (.int .i64 1) x w' ∧ Below W.heap.size W w') := fun W v hW h1 => Same.of h1.zs (HZr.out W hW)
            have CY2 : Hid (∀ W v, Below wr.heap.size wr W → IsOz wr.heap.size (rn + 1) (r ++ [(n : Int) + (j : Int)]) v W → Calls Try.prog 17 #[v, .slice aE (rn + 1) cE] W fun e w' => ∃ x, e = .returned x ∧ IsV (.int .i64 1) x w' ∧ Below W.heap.size W w') := fun W v hW h1 => Same.of h1.zs (HZe.out W hW).2
            have CX : Hid (∀ W, Below wr.heap.size wr W → W.cell? ⟨eb, j, none⟩ = some (.slice aE (rn + 1) cE)) := fun W hW => (HZe.out W hW).1
            clear hrv hr hrn HO hjE hvE hOE hcE eE
            go_upto_region 19 with fail
            refine wp_region_any (by kernel_rfl) ?_
            obtain ⟨gs, hgs⟩ : ∃ gs : List (Value → World → Prop), gs = [IsV (Value.pointer (some { block := gp, off := 0 })), IsV (Value.int IntKind.i64 ↑j), IsOz wr.heap.size rn r, IsV (Value.slice av rn vc), IsV (.int .i64 1), IsV (.bool false), IsV (.bool false), IsV (Value.pointer (some { block := gp, off := 0 })), IsV (Value.int IntKind.i64 ↑j), IsOz wr.heap.size (rn + 1) (r ++ [(n : Int) + (j : Int)]), IsV (Value.slice (some { block := eb, off := 0 }) A oc), IsV (Value.int IntKind.i64 ↑j), IsV (.pointer (some ⟨eb, j, none⟩)), IsV (.slice aE (rn + 1) cE), IsV (.int .i64 1), IsV (.bool false), IsV (.bool false)] := ⟨_, rfl⟩
            have g0 : Hid (gs[0]? = some (IsV (Value.pointer (some { block := gp, off := 0 })))) := by unfold Hid; rw [hgs]; rfl
            have g1 : Hid (gs[1]? = some (IsV (Value.int IntKind.i64 ↑j))) := by unfold Hid; rw [hgs]; rfl
            have g2 : Hid (gs[2]? = some (IsOz wr.heap.size rn r)) := by unfold Hid; rw [hgs]; rfl
            have g3 : Hid (gs[3]? = some (IsV (Value.slice av rn vc))) := by unfold Hid; rw [hgs]; rfl
            have g4 : Hid (gs[4]? = some (IsV (.int .i64 1))) := by unfold Hid; rw [hgs]; rfl
            have g5 : Hid (gs[5]? = some (IsV (.bool false))) := by unfold Hid; rw [hgs]; rfl
            have g6 : Hid (gs[6]? = some (IsV (.bool false))) := by unfold Hid; rw [hgs]; rfl
            have g7 : Hid (gs[7]? = some (IsV (Value.pointer (some { block := gp, off := 0 })))) := by unfold Hid; rw [hgs]; rfl
            have g8 : Hid (gs[8]? = some (IsV (Value.int IntKind.i64 ↑j))) := by unfold Hid; rw [hgs]; rfl
            have g9 : Hid (gs[9]? = some (IsOz wr.heap.size (rn + 1) (r ++ [(n : Int) + (j : Int)]))) := by unfold Hid; rw [hgs]; rfl
            have g10 : Hid (gs[10]? = some (IsV (Value.slice (some { block := eb, off := 0 }) A oc))) := by unfold Hid; rw [hgs]; rfl
            have g11 : Hid (gs[11]? = some (IsV (Value.int IntKind.i64 ↑j))) := by unfold Hid; rw [hgs]; rfl
            have g12 : Hid (gs[12]? = some (IsV (.pointer (some ⟨eb, j, none⟩)))) := by unfold Hid; rw [hgs]; rfl
            have g13 : Hid (gs[13]? = some (IsV (.slice aE (rn + 1) cE))) := by unfold Hid; rw [hgs]; rfl
            have g14 : Hid (gs[14]? = some (IsV (.int .i64 1))) := by unfold Hid; rw [hgs]; rfl
            have g15 : Hid (gs[15]? = some (IsV (.bool false))) := by unfold Hid; rw [hgs]; rfl
            have g16 : Hid (gs[16]? = some (IsV (.bool false))) := by unfold Hid; rw [hgs]; rfl
            have gk : Hid (∀ p ∈ gs, Stays p) := by
              unfold Hid
              rw [hgs]
              simp only [List.forall_mem_cons]
              exact ⟨stays_v _, stays_v _, stays_oz _ _ _, stays_v _, stays_v _, stays_v _, stays_v _, stays_v _, stays_v _, stays_oz _ _ _, stays_v _, stays_v _, stays_v _, stays_v _, stays_v _, stays_v _, stays_v _, by simp⟩
            clear hgs
            refine wpAny_inv (fun listed ac Wc => ∃ xvc : Nat → Value, ac = ⟨#[Value.agg #[Value.int IntKind.i64 N0, Value.int IntKind.i64 B, Value.int IntKind.i64 ↑q, Value.int IntKind.i64 E, Value.int IntKind.i64 F], Value.int IntKind.u64 ↑S, Value.int IntKind.i64 i, Value.pointer (some { block := w.heap.size, off := 0 }), undef, undef, u6, Value.pointer (some { block := gp, off := 0 }), Value.int IntKind.i64 (0 : Int), u9, Value.slice (some { block := eb, off := 0 }) A oc, Value.int IntKind.i64 ↑j, Value.slice av rn vc, Value.bool true, Value.bool false, Value.tuple #[Value.pointer (some { block := gp, off := 0 }), Value.int IntKind.i64 (0 : Int)], Value.agg #[Value.int IntKind.i64 N0, Value.int IntKind.i64 B, Value.int IntKind.i64 ↑q, Value.int IntKind.i64 E, Value.int IntKind.i64 F], Value.agg #[Value.int IntKind.i64 ↑n, Value.int IntKind.i64 B, Value.int IntKind.i64 ↑q, Value.int IntKind.i64 E, Value.int IntKind.i64 F], Value.int IntKind.u64 ↑S, Value.tuple #[Value.pointer (some { block := gp, off := 0 }), Value.int IntKind.i64 (0 : Int)], Value.pointer (some { block := gp, off := 0 }), Value.int IntKind.i64 (0 : Int), Value.agg #[Value.int IntKind.i64 N0, Value.int IntKind.i64 B, Value.int IntKind.i64 ↑q, Value.int IntKind.i64 E, Value.int IntKind.i64 F], Value.agg #[Value.int IntKind.i64 ↑n, Value.int IntKind.i64 B, Value.int IntKind.i64 ↑q, Value.int IntKind.i64 E, Value.int IntKind.i64 F], Value.agg #[Value.int IntKind.i64 ↑n, Value.int IntKind.i64 B, Value.int IntKind.i64 ↑q, Value.int IntKind.i64 E, Value.int IntKind.i64 F], Value.bool true, Value.bool false, undef, undef, undef, undef, undef, undef, xv 0, xv 1, xv 2, xv 3, xv 4, xv 5, xv 6, xv 7, xv 8, xv 9, xv 10, xv 11, xv 12, xv 13, xv 14, xv 15, xv 16, xv 17, xv 18, Value.bool false, Value.pointer (some { block := w.heap.size, off := 0 }), Value.int IntKind.i64 ↑n, Value.int IntKind.i64 ↑k, Value.bool false, u57, u58, u59, u60, u61, u62, u63, u64, u65, u66, u67, Value.agg #[Value.int IntKind.i64 ↑n, Value.int IntKind.i64 B, Value.int IntKind.i64 ↑q, Value.int IntKind.i64 E, Value.int IntKind.i64 F], Value.int IntKind.u64 ↑S, Value.slice (some { block := eb, off := 0 }) A oc, Value.agg #[Value.int IntKind.i64 ↑n, Value.int IntKind.i64 B, Value.int IntKind.i64 ↑q, Value.int IntKind.i64 E, Value.int IntKind.i64 F], Value.int IntKind.u64 ↑S, Value.slice (some { block := qb, off := 0 }) A A, Value.int IntKind.i64 ↑A, Value.int IntKind.i64 ↑j, Value.bool true, Value.int IntKind.i64 ↑j, Value.pointer (some { block := qb, off := j }), Value.slice av rn vc, xvc 0, xvc 1, xvc 2, xvc 3, xvc 4, xvc 5, xvc 6, xvc 7, xvc 8, xvc 9, xvc 10, xvc 11, xvc 12, xvc 13, xvc 14, xvc 15, xvc 16, u97, undef, undef, undef, undef, undef, undef, undef, undef, undef, undef, undef, undef, undef, undef, undef, undef, undef, undef, undef, undef, undef, undef, undef, undef, undef, undef, undef, undef, undef, undef, undef, undef, undef, undef, undef, undef, undef], []⟩ ∧ Below wr.heap.size wr Wc ∧ Lst gs listed xvc Wc) (by kernel_rfl) ?_ ?_ _ _ _ _ (by kernel_rfl) (of_decide_eq_true (by kernel_rfl)) ⟨fun j => if j = 0 then u80 else if j = 1 then u81 else if j = 2 then u82 else if j = 3 then u83 else if j = 4 then u84 else if j = 5 then u85 else if j = 6 then u86 else if j = 7 then u87 else if j = 8 then u88 else if j = 9 then u89 else if j = 10 then u90 else if j = 11 then u91 else if j = 12 then u92 else if j = 13 then u93 else if j = 14 then u94 else if j = 15 then u95 else if j = 16 then u96 else undef, rfl, below0 _, Lst.start _ _ _ _⟩
            · rintro listed ac Wc ⟨xvc, rfl, hb, hG⟩ i hi hd
              have hin : i < 17 := hi
              clear hi
              have hcase : i = 0 ∨ i = 1 ∨ i = 2 ∨ i = 3 ∨ i = 4 ∨ i = 5 ∨ i = 6 ∨ i = 7 ∨ i = 8 ∨ i = 9 ∨ i = 10 ∨ i = 11 ∨ i = 12 ∨ i = 13 ∨ i = 14 ∨ i = 15 ∨ i = 16 := by omega
              rcases hcase with rfl | rfl | rfl | rfl | rfl | rfl | rfl | rfl | rfl | rfl | rfl | rfl | rfl | rfl | rfl | rfl | rfl
              · refine wpOp_step rfl (fun K' hK => ?_)
                clear hd hin
                go_simp
                exact hK _ _ ⟨updV xvc 0 (Value.pointer (some { block := gp, off := 0 })), by simp [updV], hb, hG.same gk.out g0.out _ rfl⟩
              · refine wpOp_step rfl (fun K' hK => ?_)
                clear hd hin
                go_simp
                exact hK _ _ ⟨updV xvc 1 (Value.int IntKind.i64 ↑j), by simp [updV], hb, hG.same gk.out g1.out _ rfl⟩
              · refine wpOp_step rfl (fun K' hK => ?_)
                simp [Region.binds] at hd
                have e0 : xvc 0 = Value.pointer (some { block := gp, off := 0 }) := hG.get g0.out (by simp [hd])
                have e1 : xvc 1 = Value.int IntKind.i64 ↑j := hG.get g1.out (by simp [hd])
                clear hd hin
                go_simp
                refine (CHs.out Wc hb).mono ?_
                rintro e w' ⟨v, rfl, hv, hb'⟩
                go_wp2_with fail
                exact ⟨updV xvc 2 v, by simp [updV, e0, e1], hb.trans (hb'.mono hb.size), hG.step gk.out hb' g2.out v hv⟩
              · refine wpOp_step rfl (fun K' hK => ?_)
                clear hd hin
                go_simp
                exact hK _ _ ⟨updV xvc 3 (Value.slice av rn vc), by simp [updV], hb, hG.same gk.out g3.out _ rfl⟩
              · refine wpOp_step rfl (fun K' hK => ?_)
                simp [Region.binds] at hd
                have m2 : IsOz wr.heap.size rn r (xvc 2) Wc := hG.get g2.out (by simp [hd])
                have e3 : xvc 3 = Value.slice av rn vc := hG.get g3.out (by simp [hd])
                clear hd hin
                go_simp
                refine (CY1.out Wc _ hb m2).mono ?_
                rintro e w' ⟨v, rfl, hv, hb'⟩
                go_wp2_with fail
                exact ⟨updV xvc 4 v, by simp [updV, e3], hb.trans (hb'.mono hb.size), hG.step gk.out hb' g4.out v hv⟩
              · refine wpOp_step rfl (fun K' hK => ?_)
                simp [Region.binds] at hd
                have e4 : xvc 4 = .int .i64 1 := hG.get g4.out (by simp [hd])
                clear hd hin
                go_simp
                exact hK _ _ ⟨updV xvc 5 (.bool false), by simp [updV, e4], hb, hG.same gk.out g5.out _ rfl⟩
              · refine wpOp_step rfl (fun K' hK => ?_)
                simp [Region.binds] at hd
                have e5 : xvc 5 = .bool false := hG.get g5.out (by simp [hd])
                clear hd hin
                go_simp
                exact hK _ _ ⟨updV xvc 6 (.bool false), by simp [updV, e5], hb, hG.same gk.out g6.out _ rfl⟩
              · refine wpOp_step rfl (fun K' hK => ?_)
                simp [Region.binds] at hd
                have e6 : xvc 6 = .bool false := hG.get g6.out (by simp [hd])
                clear hd hin
                go_simp
                exact hK _ _ ⟨updV xvc 7 (Value.pointer (some { block := gp, off := 0 })), by simp [updV, e6], hb, hG.same gk.out g7.out _ rfl⟩
              · refine wpOp_step rfl (fun K' hK => ?_)
                simp [Region.binds] at hd
                have e6 : xvc 6 = .bool false := hG.get g6.out (by simp [hd])
                clear hd hin
                go_simp
                exact hK _ _ ⟨updV xvc 8 (Value.int IntKind.i64 ↑j), by simp [updV, e6], hb, hG.same gk.out g8.out _ rfl⟩
              · refine wpOp_step rfl (fun K' hK => ?_)
                simp [Region.binds] at hd
                have e7 : xvc 7 = Value.pointer (some { block := gp, off := 0 }) := hG.get g7.out (by simp [hd])
                have e8 : xvc 8 = Value.int IntKind.i64 ↑j := hG.get g8.out (by simp [hd])
                have e6 : xvc 6 = .bool false := hG.get g6.out (by simp [hd])
                clear hd hin
                go_simp
                refine (CEq.out Wc hb).mono ?_
                rintro e w' ⟨v, rfl, hv, hb'⟩
                go_wp2_with fail
                exact ⟨updV xvc 9 v, by simp [updV, e7, e8, e6], hb.trans (hb'.mono hb.size), hG.step gk.out hb' g9.out v hv⟩
              · refine wpOp_step rfl (fun K' hK => ?_)
                simp [Region.binds] at hd
                have e6 : xvc 6 = .bool false := hG.get g6.out (by simp [hd])
                clear hd hin
                go_simp
                exact hK _ _ ⟨updV xvc 10 (Value.slice (some { block := eb, off := 0 }) A oc), by simp [updV, e6], hb, hG.same gk.out g10.out _ rfl⟩
              · refine wpOp_step rfl (fun K' hK => ?_)
                simp [Region.binds] at hd
                have e6 : xvc 6 = .bool false := hG.get g6.out (by simp [hd])
                clear hd hin
                go_simp
                exact hK _ _ ⟨updV xvc 11 (Value.int IntKind.i64 ↑j), by simp [updV, e6], hb, hG.same gk.out g11.out _ rfl⟩
              · refine wpOp_step rfl (fun K' hK => ?_)
                simp [Region.binds] at hd
                have e10 : xvc 10 = Value.slice (some { block := eb, off := 0 }) A oc := hG.get g10.out (by simp [hd])
                have e11 : xvc 11 = Value.int IntKind.i64 ↑j := hG.get g11.out (by simp [hd])
                have e6 : xvc 6 = .bool false := hG.get g6.out (by simp [hd])
                clear hd hin
                go_simp
                exact hK _ _ ⟨updV xvc 12 (.pointer (some ⟨eb, j, none⟩)), by simp [updV, e10, e11, e6], hb, hG.same gk.out g12.out _ rfl⟩
              · refine wpOp_step rfl (fun K' hK => ?_)
                simp [Region.binds] at hd
                have e12 : xvc 12 = .pointer (some ⟨eb, j, none⟩) := hG.get g12.out (by simp [hd])
                have e6 : xvc 6 = .bool false := hG.get g6.out (by simp [hd])
                have hc := CX.out Wc hb
                clear hd hin
                go_simp
                exact hK _ _ ⟨updV xvc 13 (.slice aE (rn + 1) cE), by simp [updV, e12, e6], hb, hG.same gk.out g13.out _ rfl⟩
              · refine wpOp_step rfl (fun K' hK => ?_)
                simp [Region.binds] at hd
                have m9 : IsOz wr.heap.size (rn + 1) (r ++ [(n : Int) + (j : Int)]) (xvc 9) Wc := hG.get g9.out (by simp [hd])
                have e13 : xvc 13 = .slice aE (rn + 1) cE := hG.get g13.out (by simp [hd])
                have e6 : xvc 6 = .bool false := hG.get g6.out (by simp [hd])
                clear hd hin
                go_simp
                refine (CY2.out Wc _ hb m9).mono ?_
                rintro e w' ⟨v, rfl, hv, hb'⟩
                go_wp2_with fail
                exact ⟨updV xvc 14 v, by simp [updV, e13, e6], hb.trans (hb'.mono hb.size), hG.step gk.out hb' g14.out v hv⟩
              · refine wpOp_step rfl (fun K' hK => ?_)
                simp [Region.binds] at hd
                have e14 : xvc 14 = .int .i64 1 := hG.get g14.out (by simp [hd])
                have e6 : xvc 6 = .bool false := hG.get g6.out (by simp [hd])
                clear hd hin
                go_simp
                exact hK _ _ ⟨updV xvc 15 (.bool false), by simp [updV, e14, e6], hb, hG.same gk.out g15.out _ rfl⟩
              · refine wpOp_step rfl (fun K' hK => ?_)
                simp [Region.binds] at hd
                have e6 : xvc 6 = .bool false := hG.get g6.out (by simp [hd])
                have e15 : xvc 15 = .bool false := hG.get g15.out (by simp [hd])
                clear hd hin
                go_simp
                exact hK _ _ ⟨updV xvc 16 (.bool false), by simp [updV, e6, e15], hb, hG.same gk.out g16.out _ rfl⟩
            · rintro listed ac Wc ⟨xvc, rfl, hb, hG⟩ hall
              have e16 : xvc 16 = .bool false := hG.get g16.out (hall 16 (by decide))
              have XW : Hid (Below wr.heap.size wr Wc) := hb
              clear hall hG hb gk g0 g1 g2 g3 g4 g5 g6 g7 g8 g9 g10 g11 g12 g13 g14 g15 g16
              rw [e16]
              clear e16
              have F11 : Hid (RfI bf Wc qb A vs rows) := HF.out.below XW.out
              have E11 : Hid (EqI w8 Wc b9 n B q E F qb9 A vs9 rows (.slice (some ⟨eb, 0, none⟩) A oc) A vE (eqTo rows n A)) := HE.out.below XW.out
              have G11 : Hid (IsGr Wc gp rp S n q A vp rows) := HG.out.below XW.out
              have B11 : Hid (Below w.heap.size w Wc) := below_on HB.out XW.out
              have P11 : Hid (FiveB Wc w.heap.size n B q E F) := HP.out.below XW.out
              clear XW HF HE HG HB HP CHs CEq CY1 CY2 CX HZr HZe hcr
              go_wp2
              go_roundw
              case rel => exact ⟨j + 1, by omega, by go_num, F11, E11, G11, B11, P11⟩
              case measure => simp [intOf]; omega
          · clear HF HE
            by_cases hi1 : 0 ≤ i ∧ i < (A : Int)
            · obtain ⟨hi2, hi3⟩ := hi1
              have hi4 : i ≥ 0 := hi2
              go_wp2
              go_ret
              exact ⟨rfl, HB.out⟩
            · have hno : i < 0 ∨ (A : Int) ≤ i := by omega
              have C1 : Hid (∀ W, IsGr W gp rp S n q A vp rows → Calls Try.prog 32 #[.pointer (some ⟨gp, 0, none⟩), .int .i64 i] W fun e w' => e = .returned (.slice none 0 0) ∧ w' = W) := fun W hW => ohas_no gp rp S n q A i vp rows W hW hno
              have C2 : Hid (∀ W, IsGr W gp rp S n q A vp rows → Calls Try.prog 33 #[.pointer (some ⟨gp, 0, none⟩), .int .i64 i] W fun e w' => e = .returned (.slice none 0 0) ∧ w' = W) := fun W hW => oeq_no gp rp S n q A i vp rows W hW hno
              obtain ⟨c0, c1, c2, c3, c4⟩ := HP.out.five
              by_cases h0 : i < 0
              · have C3 : Hid (∀ W, IsGr W gp rp S n q A vp rows → Calls Try.prog 28 #[.pointer (some ⟨gp, 0, none⟩), .int .i64 i] W fun e w' => e = .returned (.slice none 0 0) ∧ w' = W) := fun W hW => oof_no gp rp S n q A i vp rows W hW (.inl h0)
                have h0' : ¬ i ≥ 0 := by omega
                clear hi1 hno
                go_wp2_with fail
                refine (C1.out _ HG.out).mono ?_
                rintro e w12 ⟨rfl, rfl⟩
                go_wp2_with fail
                refine (C2.out _ HG.out).mono ?_
                rintro e w13 ⟨rfl, rfl⟩
                go_wp2_with fail
                refine (C3.out _ HG.out).mono ?_
                rintro e w14 ⟨rfl, rfl⟩
                go_wp2
                go_ret
                exact ⟨rfl, HB.out⟩
              · have hiA : ¬ i < (A : Int) := by omega
                have hi0 : i ≥ 0 := by omega
                clear hi1 hno
                by_cases h1 : i < (n : Int)
                · go_wp2_with fail
                  refine (C1.out _ HG.out).mono ?_
                  rintro e w12 ⟨rfl, rfl⟩
                  go_wp2_with fail
                  refine (C2.out _ HG.out).mono ?_
                  rintro e w13 ⟨rfl, rfl⟩
                  go_wp2
                  go_ret
                  exact ⟨rfl, HB.out⟩
                · have C3 : Hid (∀ W, IsGr W gp rp S n q A vp rows → Calls Try.prog 28 #[.pointer (some ⟨gp, 0, none⟩), .int .i64 i] W fun e w' => e = .returned (.slice none 0 0) ∧ w' = W) := fun W hW => oof_no gp rp S n q A i vp rows W hW (.inr (by omega))
                  go_wp2_with fail
                  refine (C1.out _ HG.out).mono ?_
                  rintro e w12 ⟨rfl, rfl⟩
                  go_wp2_with fail
                  refine (C2.out _ HG.out).mono ?_
                  rintro e w13 ⟨rfl, rfl⟩
                  go_wp2_with fail
                  refine (C3.out _ HG.out).mono ?_
                  rintro e w14 ⟨rfl, rfl⟩
                  go_wp2
                  go_ret
                  exact ⟨rfl, HB.out⟩

theorem outerDraws_law (N B Q E F : Int) (S i : Int) (w : World) (h : Ok .i64 N ∧ Ok .i64 B ∧ Ok .i64 Q ∧ Ok .i64 E ∧ Ok .i64 F) (hS : (Lit.int .u64 S).wf = true) (hi : (Lit.int .i64 i).wf = true) :
    Calls Try.prog 6 #[.agg #[.int .i64 N, .int .i64 B, .int .i64 Q, .int .i64 E, .int .i64 F], .int .u64 S, .int .i64 i] w fun e w' => e = .returned (.bool true) ∧ Below w.heap.size w w' := by
  by_cases hp : May (smallN N) B Q E F
  · simp [Lit.wf, IntKind.min, IntKind.max, IntKind.bits, IntKind.signed] at hS
    obtain ⟨s, rfl⟩ : ∃ s : Nat, S = s := ⟨S.toNat, by omega⟩
    obtain ⟨n, q, A, hpr⟩ := PrOk.of hp
    have e1 := hpr.en
    obtain rfl := hpr.eq
    rw [e1] at hpr
    exact outerDraws_yes N B E F n q A s i w e1 hpr (by omega)
  · exact outerDraws_no N B Q E F S i w hp

end Go.Proofs.Ythlladpappldbaa
