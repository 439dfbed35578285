/-
  Texts that lie together: InA InB InS.
-/
import Derived.Test.YtkckbeekehecnaaGreatZDeg
import Derived.Test.YtkckbeekehecnaaGreatZSmp
import Derived.Test.YtkckbeekehecnaaGreatZRng
import Derived.Test.YtkckbeekehecnaaGreatZBase
namespace Go.Proofs.YtkckbeekehecnaaGreat

section
/-
  inner: New, Blocks; the document's Blocks.
-/
open Go.RowKit
set_option linter.unusedVariables false

/-- A source at a block: its table, its session, how many blocks there are. -/
structure IsSrc (w : World) (a t F E S A : Nat) : Prop where
  c0 : w.cell? ⟨a, 0, none⟩ = some (.pointer (some ⟨t, 0, none⟩))
  c1 : w.cell? ⟨a, 1, none⟩ = some (.int .u64 (S : Int))
  c2 : w.cell? ⟨a, 2, none⟩ = some (.int .i64 (A : Int))
  dt : IsDT w t F E

theorem IsSrc.below {w w' : World} {a t F E S A : Nat} (h : IsSrc w a t F E S A) (hb : Below w.heap.size w w') : IsSrc w' a t F E S A :=
  ⟨(hb.cell (cell_block_lt h.c0)).trans h.c0, (hb.cell (cell_block_lt h.c1)).trans h.c1, (hb.cell (cell_block_lt h.c2)).trans h.c2, h.dt.below hb⟩

set_option maxRecDepth 100000 in
set_option maxHeartbeats 1000000 in
theorem inew_no (N B Q E F : Int) (S : Int) (w : World) (h : ¬ May N B Q E F) :
    Calls Tryz.prog 18 #[.agg #[.int .i64 N, .int .i64 B, .int .i64 Q, .int .i64 E, .int .i64 F], .int .u64 S] w fun e w' => e = .returned (.tuple #[.pointer none, .int .i64 1]) ∧ Below w.heap.size w w' := by
  have CC : Hid (∀ W, Calls Tryz.prog 44 #[.agg #[.int .i64 N, .int .i64 B, .int .i64 Q, .int .i64 E, .int .i64 F]] W fun e w' => e = .returned (.tuple #[.pointer none, .int .i64 1]) ∧ Below W.heap.size W w') := fun W => dnew_no N B Q E F W h
  clear h
  go_enter Tryz.func18, Tryz.ntmps18
  go_wp2_with fail
  refine (CC.out _).mono ?_
  rintro e w1 ⟨rfl, hb⟩
  have HB : Hid (Below w.heap.size w w1) := below_on (below_alloc _ _) hb
  clear hb CC
  go_wp2
  go_ret2
  exact ⟨rfl, HB.out⟩

set_option maxRecDepth 100000 in
set_option maxHeartbeats 1000000 in
/-- NEW. -/
theorem inew_yes (N B Q : Int) (E F S A : Nat) (w : World) (h : May N B Q (E : Nat) (F : Nat)) (hA : N + aux N Q (E : Nat) = (A : Int)) :
    Calls Tryz.prog 18 #[.agg #[.int .i64 N, .int .i64 B, .int .i64 Q, .int .i64 (E : Nat), .int .i64 (F : Nat)], .int .u64 S] w fun e w' => ∃ a t, e = .returned (.tuple #[.pointer (some ⟨a, 0, none⟩), .int .i64 0]) ∧ w.heap.size ≤ a ∧ IsSrc w' a t F E S A ∧ Below w.heap.size w w' := by
  have CC : Hid (∀ W, Calls Tryz.prog 44 #[.agg #[.int .i64 N, .int .i64 B, .int .i64 Q, .int .i64 (E : Nat), .int .i64 (F : Nat)]] W fun e w' => ∃ a, W.heap.size ≤ a ∧ e = .returned (.tuple #[.pointer (some ⟨a, 0, none⟩), .int .i64 0]) ∧ IsDT w' a F E ∧ Below W.heap.size W w') := fun W => dnew_yes N B Q E F W h
  have CA : Hid (∀ W, Calls Tryz.prog 45 #[.agg #[.int .i64 N, .int .i64 B, .int .i64 Q, .int .i64 (E : Nat), .int .i64 (F : Nat)]] W fun e w' => e = .returned (.int .i64 (A : Int)) ∧ Below W.heap.size W w') := by
    intro W
    have := all_any N B Q E F W h.1 h.2.2.1 h.2.2.2.1
    rw [hA] at this
    exact this
  clear h hA
  go_enter Tryz.func18, Tryz.ntmps18
  go_wp2_with fail
  refine (CC.out _).mono ?_
  rintro e w1 ⟨t, -, rfl, hd, hb⟩
  have B1 : Hid (Below w.heap.size w w1) := below_on (below_alloc _ _) hb
  have P1 : Hid (Five w1 w.heap.size N B Q E F) := (five_new w _ _ _ _ _ _).below hb
  have D1 : Hid (IsDT w1 t F E) := hd
  clear hb CC hd
  obtain ⟨c0, c1, c2, c3, c4⟩ := P1.out
  go_wp2_with fail
  refine (CA.out _).mono ?_
  rintro e w2 ⟨rfl, hb2⟩
  have B2 : Hid (Below w.heap.size w w2) := below_on B1.out hb2
  have D2 : Hid (IsDT w2 t F E) := D1.out.below hb2
  clear hb2 CA D1 B1 P1 c0 c1 c2 c3 c4
  go_wp2
  go_ret2
  exact ⟨w2.heap.size, t, rfl, B2.out.size, ⟨by simp, by simp, by simp, D2.out.below (below_alloc _ _)⟩, below_on B2.out (below_alloc _ _)⟩

/-- A number that was drawn, the generator behind it. -/
def IsNx (r s u : Nat) : Value → World → Prop := fun v W => v = .int .u64 (u : Int) ∧ IsRand W r s
theorem stays_nx (r s u : Nat) : Stays (IsNx r s u) := fun _ _ _ hb ⟨h1, h2⟩ => ⟨h1, h2.below hb⟩
/-- A degree, the generator beside it. -/
def IsDg (r s d : Nat) : Value → World → Prop := fun v W => v = .int .i64 (d : Int) ∧ IsRand W r s
theorem stays_dg (r s d : Nat) : Stays (IsDg r s d) := fun _ _ _ hb ⟨h1, h2⟩ => ⟨h1, h2.below hb⟩

set_option maxRecDepth 100000 in
set_option maxHeartbeats 1000000 in
/-- BLOCKS. -/
theorem iblocks_any (a t F E S A id d k s0 s1 u : Nat) (w : World) (h : IsSrc w a t F E S A) (hm : MayD F E) (hA : A ≤ 16777216) (hS : S < 18446744073709551616) (hid : id < 18446744073709551616)
    (H0 : Hid (seedTo 0 [S, 2, id] = s0)) (H1 : Hid (addS s0 = s1)) (H2 : Hid (mix s1 = u)) (hd : DegAt F E u d) (hk : howMany A d = k) (t' : Nat) (l : List Int) (HT : Hid (someD s1 A d = (t', l))) :
    Calls Tryz.prog 32 #[.pointer (some ⟨a, 0, none⟩), .int .u64 id] w fun e w' => ∃ b c, e = .returned (.slice b k c) ∧ OwnZ w.heap.size w' (.slice b k c) k l ∧ Below w.heap.size w w' := by
  have hu : u < 18446744073709551616 := by rw [← H2.out]; exact mix_lt
  have HSr : Hid (IsSrc w a t F E S A) := h
  have HS : Hid (S < 18446744073709551616) := hS
  have HI : Hid (id < 18446744073709551616) := hid
  have CR : Hid (∀ W v, Us W v [S, 2, id] → Calls Tryz.prog 50 #[v] W fun e w' => e = .returned (.pointer (some ⟨W.heap.size, 0, none⟩)) ∧ IsRand w' W.heap.size s0 ∧ Below W.heap.size W w') := by
    intro W v hv
    refine (rnew_any v _ W hv).mono ?_
    rintro e w' ⟨rfl, h1, h2, -⟩
    rw [H0.out] at h1
    exact ⟨rfl, h1, h2⟩
  have CN : Hid (∀ W r, IsRand W r s0 → Calls Tryz.prog 57 #[.pointer (some ⟨r, 0, none⟩)] W fun e w' => e = .returned (.int .u64 (u : Int)) ∧ IsRand w' r s1 ∧ KeepsBut (fun k => k = r) W w') := by
    intro W r hr
    refine (rnd_next r s0 W hr).mono ?_
    rintro e w' ⟨rfl, h1, h2, -⟩
    rw [H1.out] at h1 ⊢
    rw [H2.out]
    exact ⟨rfl, h1, h2⟩
  have CO : Hid (∀ r W v, Below w.heap.size w W → IsNx r s1 u v W → Calls Tryz.prog 56 #[.pointer (some ⟨t, 0, none⟩), v] W fun e w' => ∃ v', e = .returned v' ∧ IsDg r s1 d v' w' ∧ Below W.heap.size W w') := by
    intro r W v hW ⟨hv, hr⟩
    subst hv
    refine (dof_at hd t W (HSr.out.below hW).dt hm hu).mono ?_
    rintro e w' ⟨rfl, hb⟩
    exact ⟨_, rfl, ⟨rfl, hr.below hb⟩, hb⟩
  have CS : Hid (∀ W r, IsRand W r s1 → Calls Tryz.prog 49 #[.pointer (some ⟨r, 0, none⟩), .int .i64 A, .int .i64 d] W fun e w' => ∃ a c, e = .returned (.slice a k c) ∧ OwnZ W.heap.size w' (.slice a k c) k l ∧ IsRand w' r t' ∧ KeepsBut (fun x => x = r) W w') := fun W r hr => some_any r s1 A d W hr (by omega) k hk t' l HT
  have BX : Hid (∀ W, Below w.heap.size w W → W.cell? ⟨a, 0, none⟩ = some (.pointer (some ⟨t, 0, none⟩)) ∧ W.cell? ⟨a, 1, none⟩ = some (.int .u64 (S : Int)) ∧ W.cell? ⟨a, 2, none⟩ = some (.int .i64 (A : Int))) := fun W hW => ⟨(HSr.out.below hW).c0, (HSr.out.below hW).c1, (HSr.out.below hW).c2⟩
  have c1 := h.c1
  clear h hm hA hS hid hd hk HT H0 H1 H2 hu HSr
  go_enter Tryz.func32, Tryz.ntmps32
  go_upto_region 2 with fail
  refine (CR.out _ _ (us_lit3 w _ S 2 id HS.out (by decide) HI.out _ rfl)).mono ?_
  rintro e w1 ⟨rfl, hr1, hb1⟩
  have B1 : Hid (Below w.heap.size w w1) := below_on (below_alloc _ _) hb1
  obtain ⟨r, hr⟩ : ∃ r, (w.alloc (.cells #[.int .u64 (S : Int), .int .u64 ((2 : Nat) : Int), .int .u64 (id : Int)] 24)).heap.size = r := ⟨_, rfl⟩
  have hr0 : w.heap.size ≤ r := by rw [← hr]; simp
  rw [hr] at hr1 ⊢
  have R1 : Hid (IsRand w1 r s0) := hr1
  clear hr1 hb1 hr CR c1
  go_upto_region 2 with fail
  refine wp_region_any (by kernel_rfl) ?_
  obtain ⟨gs, hgs⟩ : ∃ gs : List (Value → World → Prop), gs = [IsV (Value.pointer (some { block := a, off := 0 })), IsV (Value.pointer (some { block := a, off := 0 })), IsV (.pointer (some ⟨a, 0, none⟩)), IsV (.pointer (some ⟨t, 0, none⟩)), IsV (Value.pointer (some { block := r, off := 0 })), IsAnyV, IsAnyV, IsAnyV] := ⟨_, rfl⟩
  have g0 : Hid (gs[0]? = some (IsV (Value.pointer (some { block := a, off := 0 })))) := by unfold Hid; rw [hgs]; rfl
  have g1 : Hid (gs[1]? = some (IsV (Value.pointer (some { block := a, off := 0 })))) := by unfold Hid; rw [hgs]; rfl
  have g2 : Hid (gs[2]? = some (IsV (.pointer (some ⟨a, 0, none⟩)))) := by unfold Hid; rw [hgs]; rfl
  have g3 : Hid (gs[3]? = some (IsV (.pointer (some ⟨t, 0, none⟩)))) := by unfold Hid; rw [hgs]; rfl
  have g4 : Hid (gs[4]? = some (IsV (Value.pointer (some { block := r, off := 0 })))) := by unfold Hid; rw [hgs]; rfl
  have g5 : Hid (gs[5]? = some (IsAnyV)) := by unfold Hid; rw [hgs]; rfl
  have g6 : Hid (gs[6]? = some (IsAnyV)) := by unfold Hid; rw [hgs]; rfl
  have g7 : Hid (gs[7]? = some (IsAnyV)) := by unfold Hid; rw [hgs]; rfl
  have gk : Hid (∀ p ∈ gs, ∀ v (U U' : World), p v U → p v U') := by
    unfold Hid
    rw [hgs]
    simp only [List.forall_mem_cons]
    exact ⟨(fun _ _ _ h => h), (fun _ _ _ h => h), (fun _ _ _ h => h), (fun _ _ _ h => h), (fun _ _ _ h => h), (fun _ _ _ h => h), (fun _ _ _ h => h), (fun _ _ _ h => h), by simp⟩
  clear hgs
  have JS : Hid (∀ W W', Below W.heap.size W W' → (fun W => Below w.heap.size w W) W → (fun W => Below w.heap.size w W) W') := fun W W' hb h => h.trans (hb.mono h.size)
  have st5 : Hid (Stays (IsNx r s1 u)) := stays_nx _ _ _
  have st6 : Hid (Stays (IsDg r s1 d)) := stays_dg _ _ _
  have st7 : Hid (Stays (IsDg r s1 d)) := stays_dg _ _ _
  have su5 : Hid (∀ W W', Below W.heap.size W W' → (fun W => IsRand W r s0) W → (fun W => IsRand W r s0) W') := fun W W' hb h => h.below hb
  refine wpAny_inv4 (fun listed ac W => ∃ xv : Nat → Value, ac = ⟨#[Value.pointer (some { block := a, off := 0 }), Value.int IntKind.u64 ↑id, undef, undef, Value.slice none 0 0, Value.pointer (some { block := r, off := 0 }), xv 7, Value.pointer (some { block := a, off := 0 }), Value.pointer (some { block := a, off := 0 }), Value.pointer (some { block := a, off := 1 }), Value.int IntKind.u64 ↑S, Value.int IntKind.u64 ↑id, Value.slice (some { block := w.heap.size, off := 0 }) 3 3, Value.pointer (some { block := r, off := 0 }), xv 0, xv 1, xv 2, xv 3, xv 4, xv 5, xv 6, undef, undef, undef, undef, undef, undef, undef], []⟩ ∧ (fun W => Below w.heap.size w W) W ∧ Lst gs listed xv W ∧ Fd listed xv W 5 6 (IsNx r s1 u) ∧ Fe listed xv W 6 (IsDg r s1 d) ∧ Fe listed xv W 7 (IsDg r s1 d) ∧ Fz listed W 5 (fun W => IsRand W r s0)) (by kernel_rfl) ?_ ?_ _ _ _ _ (by kernel_rfl) (of_decide_eq_true (by kernel_rfl)) (Down.start _) ⟨fun jx => undef, rfl, below_on B1.out (below0 _), Lst.start _ _ _ _, Fd.start _ _ _ _ _ _, Fe.start _ _ _ _ _, Fe.start _ _ _ _ _, Fz.start (R1.out.below (below0 _))⟩
  · rintro listed ac W ⟨xv, rfl, hb, hG, hF5, hF6, hF7, hU5⟩ hD i hi hnl hd
    have hin : i < 8 := hi
    clear hi
    have hcase : i = 0 ∨ i = 1 ∨ i = 2 ∨ i = 3 ∨ i = 4 ∨ i = 5 ∨ i = 6 ∨ i = 7 := by omega
    rcases hcase with rfl | rfl | rfl | rfl | rfl | rfl | rfl | rfl
    · refine wpOp_step rfl (fun K' hK => ?_)
      clear hd hin hD
      go_simp
      exact hK _ _ ⟨updV xv 0 (Value.pointer (some { block := a, off := 0 })), by simp [updV], hb, hG.any gk.out g0.out _ rfl, hF5.step (fun _ h => h) (by decide) (by decide) _, hF6.step (fun _ h => h) (by decide) _, hF7.step (fun _ h => h) (by decide) _, hU5.step (fun h => h) (by decide)⟩
    · refine wpOp_step rfl (fun K' hK => ?_)
      simp [Region.binds] at hd
      have e0 : xv 0 = Value.pointer (some { block := a, off := 0 }) := hG.get g0.out (by simp [hd])
      clear hd hin hD
      go_simp
      exact hK _ _ ⟨updV xv 1 (Value.pointer (some { block := a, off := 0 })), by simp [updV, e0], hb, hG.any gk.out g1.out _ rfl, hF5.step (fun _ h => h) (by decide) (by decide) _, hF6.step (fun _ h => h) (by decide) _, hF7.step (fun _ h => h) (by decide) _, hU5.step (fun h => h) (by decide)⟩
    · refine wpOp_step rfl (fun K' hK => ?_)
      simp [Region.binds] at hd
      have e1 : xv 1 = Value.pointer (some { block := a, off := 0 }) := hG.get g1.out (by simp [hd])
      clear hd hin hD
      go_simp
      exact hK _ _ ⟨updV xv 2 (.pointer (some ⟨a, 0, none⟩)), by simp [updV, e1], hb, hG.any gk.out g2.out _ rfl, hF5.step (fun _ h => h) (by decide) (by decide) _, hF6.step (fun _ h => h) (by decide) _, hF7.step (fun _ h => h) (by decide) _, hU5.step (fun h => h) (by decide)⟩
    · refine wpOp_step rfl (fun K' hK => ?_)
      simp [Region.binds] at hd
      have e2 : xv 2 = .pointer (some ⟨a, 0, none⟩) := hG.get g2.out (by simp [hd])
      obtain ⟨c0, c1, c2⟩ := BX.out W hb
      clear hd hin hD
      go_simp
      exact hK _ _ ⟨updV xv 3 (.pointer (some ⟨t, 0, none⟩)), by simp [updV, e2], hb, hG.any gk.out g3.out _ rfl, hF5.step (fun _ h => h) (by decide) (by decide) _, hF6.step (fun _ h => h) (by decide) _, hF7.step (fun _ h => h) (by decide) _, hU5.step (fun h => h) (by decide)⟩
    · refine wpOp_step rfl (fun K' hK => ?_)
      clear hd hin hD
      go_simp
      exact hK _ _ ⟨updV xv 4 (Value.pointer (some { block := r, off := 0 })), by simp [updV], hb, hG.any gk.out g4.out _ rfl, hF5.step (fun _ h => h) (by decide) (by decide) _, hF6.step (fun _ h => h) (by decide) _, hF7.step (fun _ h => h) (by decide) _, hU5.step (fun h => h) (by decide)⟩
    · refine wpOp_step rfl (fun K' hK => ?_)
      simp [Region.binds] at hd
      have e4 : xv 4 = Value.pointer (some { block := r, off := 0 }) := hG.get g4.out (by simp [hd])
      have f6 : listed.getD 6 false = false := by
        cases hx : listed.getD 6 false with
        | false => rfl
        | true =>
          have r5 : listed.getD 5 false = true := by have h := hD 6 (by decide) hx; simp [Region.binds] at h; simp [h]
          rw [getD_false hnl] at r5; cases r5
      have f7 : listed.getD 7 false = false := by
        cases hx : listed.getD 7 false with
        | false => rfl
        | true =>
          have r5 : listed.getD 5 false = true := by have h := hD 7 (by decide) hx; simp [Region.binds] at h; simp [h]
          rw [getD_false hnl] at r5; cases r5
      have u5 := hU5.get hnl
      clear hd hin hD
      go_simp
      refine (CN.out W r u5).mono ?_
      rintro e w' ⟨rfl, hr', hk⟩
      go_wp2_with fail
      exact ⟨updV xv 5 (.int .u64 (u : Int)), by simp [updV, e4], hb.trans (hk.below hb.size (fun k e => by omega)), hG.any gk.out g5.out _ trivial, Fd.new (⟨rfl, hr'⟩), Fe.yet f6 (by decide) _, Fe.yet f7 (by decide) _, Fz.off hnl⟩
    · refine wpOp_step rfl (fun K' hK => ?_)
      simp [Region.binds] at hd
      have e3 : xv 3 = .pointer (some ⟨t, 0, none⟩) := hG.get g3.out (by simp [hd])
      have l5 : listed.getD 5 false = true := by simp [hd]
      have m5 := hF5.get l5 hnl
      clear hd hin hD
      go_simp
      refine (CO.out r W _ hb m5).mono ?_
      rintro e w' ⟨v, rfl, hv, hb'⟩
      go_wp2_with fail
      exact ⟨updV xv 6 v, by simp [updV, e3], JS.out _ _ hb' hb, hG.any gk.out g6.out v trivial, Fd.off hnl, Fe.new (hv), hF7.on st7.out hb' (by decide) _, hU5.step (su5.out _ _ hb') (by decide)⟩
    · refine wpOp_step rfl (fun K' hK => ?_)
      simp [Region.binds] at hd
      have l6 : listed.getD 6 false = true := by simp [hd]
      have m6 := hF6 l6
      clear hd hin hD
      go_simp
      exact hK _ _ ⟨updV xv 7 (xv 6), by simp [updV], hb, hG.any gk.out g7.out _ trivial, hF5.step (fun _ h => h) (by decide) (by decide) _, hF6.step (fun _ h => h) (by decide) _, Fe.new (m6), hU5.step (fun h => h) (by decide)⟩
  · rintro listed ac W ⟨xv, rfl, hb, hG, hF5, hF6, hF7, hU5⟩ hall
    have m7 : Hid ((IsDg r s1 d) (xv 7) W) := hF7 (hall 7 (by decide))
    have XW : Hid ((fun W => Below w.heap.size w W) W) := hb
    clear hall hG hb gk JS g0 g1 g2 g3 g4 g5 g6 g7 hF5 st5 hF6 st6 hF7 st7 hU5 su5
    obtain ⟨e7, hR⟩ := m7.out
    rw [e7]
    have R2 : Hid (IsRand W r s1) := hR
    have c2 := (BX.out W XW.out).2.2
    clear m7 e7 hR R1 CN CO BX
    go_wp2_with fail
    refine (CS.out W r R2.out).mono ?_
    rintro e w3 ⟨b, c, rfl, ho, -, hk⟩
    have R3 : Hid (OwnZ w.heap.size w3 (.slice b k c) k l ∧ Below w.heap.size w w3) := ⟨ho.mono XW.out.size, XW.out.trans (hk.below XW.out.size (fun x e => by omega))⟩
    clear ho hk c2 CS
    go_wp2
    go_ret
    exact ⟨b, c, rfl, R3.out⟩

end

section
/-
  inner: the document's Blocks.
-/
open Go.RowKit
set_option linter.unusedVariables false

set_option maxRecDepth 100000 in
set_option maxHeartbeats 1000000 in
/-- The document's Blocks. -/
theorem rblocks_any (N B Q : Int) (E F S A id d k s0 s1 u : Nat) (w : World) (h : May N B Q (E : Nat) (F : Nat)) (hm : MayD F E) (hA : N + aux N Q (E : Nat) = (A : Int)) (hS : S < 18446744073709551616) (hid : id < 18446744073709551616)
    (H0 : Hid (seedTo 0 [S, 2, id] = s0)) (H1 : Hid (addS s0 = s1)) (H2 : Hid (mix s1 = u)) (hd : DegAt F E u d) (hk : howMany A d = k) (t' : Nat) (l : List Int) (HT : Hid (someD s1 A d = (t', l))) :
    Calls Tryz.prog 11 #[.agg #[.int .i64 N, .int .i64 B, .int .i64 Q, .int .i64 (E : Nat), .int .i64 (F : Nat)], .int .u64 S, .int .u64 id] w fun e w' => ∃ b c, e = .returned (.slice b k c) ∧ OwnZ w.heap.size w' (.slice b k c) k l ∧ Below w.heap.size w w' := by
  have hr := aux_range h.1 h.2.2.1 h.2.2.2.1
  have hA2 : A ≤ 16777216 := by have := h.1; omega
  have hd4 : d ≤ 4096 := by have := hd.hi; have := hm.f4; omega
  have hk2 : k ≤ 1000000 := by
    have : k ≤ d := by rw [← hk]; unfold howMany; split <;> omega
    omega
  have HS : Hid (S < 18446744073709551616) := hS
  have HI : Hid (id < 18446744073709551616) := hid
  have hwA : IntKind.i64.wrap (N + aux N Q (E : Nat)) = (A : Int) := by rw [hA, IntKind.wrap_i64]; omega
  have CU : Hid (∀ W v, Us W v [S, 2, id] → Calls Tryz.prog 27 #[v] W fun e w' => e = .returned (.int .u64 (s0 : Nat)) ∧ w' = W) := by
    intro W v hv
    have := rseed_any v _ W hv
    rw [H0.out] at this
    exact this
  have CN : Hid (∀ W, Calls Tryz.prog 26 #[.int .u64 (s0 : Nat)] W fun e w' => e = .returned (.tuple #[.int .u64 (s1 : Nat), .int .u64 (u : Nat)]) ∧ w' = W) := by
    intro W
    have := rref_next s0 W
    rw [H1.out, H2.out] at this
    exact this
  have CA : Hid (∀ W, Below w.heap.size w W → Calls Tryz.prog 29 #[.agg #[.int .i64 N, .int .i64 B, .int .i64 Q, .int .i64 (E : Nat), .int .i64 (F : Nat)]] W fun e w' => ∃ v, e = .returned v ∧ IsV (.int .i64 (aux N Q (E : Nat))) v w' ∧ Below W.heap.size W w') := by
    intro W hW
    refine (raux_any N B Q E F W h.1 h.2.2.1 h.2.2.2.1).mono ?_
    rintro e w' ⟨rfl, hb⟩
    exact ⟨_, rfl, rfl, hb⟩
  have CD : Hid (∀ W, Below w.heap.size w W → Calls Tryz.prog 30 #[.agg #[.int .i64 N, .int .i64 B, .int .i64 Q, .int .i64 (E : Nat), .int .i64 (F : Nat)], .int .u64 (u : Nat)] W fun e w' => ∃ v, e = .returned v ∧ IsV (.int .i64 (d : Int)) v w' ∧ Below W.heap.size W w') := by
    intro W hW
    refine (rdof_at hd N B Q W hm).mono ?_
    rintro e w' ⟨rfl, hb⟩
    exact ⟨_, rfl, rfl, hb⟩
  have CS : Hid (∀ W, Below w.heap.size w W → Calls Tryz.prog 28 #[.int .u64 (s1 : Nat), .int .i64 A, .int .i64 d] W fun e w' => ∃ v, e = .returned v ∧ IsTo w.heap.size t' k l v w' ∧ Below W.heap.size W w') := by
    intro W hW
    refine (rsome_big s1 A d W (by omega) k hk hk2 t' l HT).mono ?_
    rintro e w' ⟨a, c, rfl, ho, hb⟩
    exact ⟨_, rfl, ⟨a, c, rfl, ho.mono hW.size⟩, hb⟩
  have E1 : Hid (IntKind.i64.wrap (N + aux N Q (E : Nat)) = (A : Int)) := hwA
  clear h hm hA hS hid hd hk HT H0 H1 H2 hr hA2 hd4 hk2 hwA
  generalize aux N Q (E : Nat) = X at *
  have P0 : Hid (Five (w.alloc (.cells #[.int .i64 N, .int .i64 B, .int .i64 Q, .int .i64 (E : Int), .int .i64 (F : Int)] 23)) w.heap.size N B Q E F) := five_new w _ N B Q E F
  have B0 : Hid (Below w.heap.size w (w.alloc (.cells #[.int .i64 N, .int .i64 B, .int .i64 Q, .int .i64 (E : Int), .int .i64 (F : Int)] 23))) := below_alloc _ _
  go_enter Tryz.func11, Tryz.ntmps11
  go_upto_region 1 with fail
  generalize w.alloc (.cells #[.int .i64 N, .int .i64 B, .int .i64 Q, .int .i64 (E : Int), .int .i64 (F : Int)] 23) = w0 at *
  go_upto_region 2 with fail
  refine (CU.out _ _ (us_lit3 _ _ S 2 id HS.out (by decide) HI.out _ rfl)).mono ?_
  rintro e w1 ⟨rfl, rfl⟩
  clear CU
  have B3 : Hid (Below w.heap.size w (w0.alloc (.cells #[.int .u64 (S : Int), .int .u64 ((2 : Nat) : Int), .int .u64 (id : Int)] 24))) := below_on B0.out (below_alloc _ _)
  have P3 : Hid (Five (w0.alloc (.cells #[.int .u64 (S : Int), .int .u64 ((2 : Nat) : Int), .int .u64 (id : Int)] 24)) w.heap.size N B Q E F) := P0.out.below (below_alloc _ _)
  generalize w0.alloc (.cells #[.int .u64 (S : Int), .int .u64 ((2 : Nat) : Int), .int .u64 (id : Int)] 24) = w3 at *
  clear P0 B0
  have BX : Hid (∀ W, Below w3.heap.size w3 W → Five W w.heap.size N B Q E F) := fun W hW => P3.out.below hW
  go_upto_region 2 with fail
  refine (CN.out _).mono ?_
  rintro e w2 ⟨rfl, rfl⟩
  clear CN P3
  go_upto_region 2 with fail
  refine wp_region_any (by kernel_rfl) ?_
  obtain ⟨gs, hgs⟩ : ∃ gs : List (Value → World → Prop), gs = [IsV (Value.int IntKind.u64 ↑s1), IsV (.pointer (some ⟨w.heap.size, 0, none⟩)), IsV (.int .i64 N), IsV (.agg #[.int .i64 N, .int .i64 B, .int .i64 Q, .int .i64 (E : Int), .int .i64 (F : Int)]), IsV (.int .i64 X), IsV (.int .i64 (A : Int)), IsV (.agg #[.int .i64 N, .int .i64 B, .int .i64 Q, .int .i64 (E : Int), .int .i64 (F : Int)]), IsV (Value.int IntKind.u64 ↑u), IsV (.int .i64 (d : Int)), IsAnyV, IsAnyV, IsV (.int .u64 (t' : Int)), IsAnyV, IsV (.int .u64 (t' : Int)), IsAnyV] := ⟨_, rfl⟩
  have g0 : Hid (gs[0]? = some (IsV (Value.int IntKind.u64 ↑s1))) := by unfold Hid; rw [hgs]; rfl
  have g1 : Hid (gs[1]? = some (IsV (.pointer (some ⟨w.heap.size, 0, none⟩)))) := by unfold Hid; rw [hgs]; rfl
  have g2 : Hid (gs[2]? = some (IsV (.int .i64 N))) := by unfold Hid; rw [hgs]; rfl
  have g3 : Hid (gs[3]? = some (IsV (.agg #[.int .i64 N, .int .i64 B, .int .i64 Q, .int .i64 (E : Int), .int .i64 (F : Int)]))) := by unfold Hid; rw [hgs]; rfl
  have g4 : Hid (gs[4]? = some (IsV (.int .i64 X))) := by unfold Hid; rw [hgs]; rfl
  have g5 : Hid (gs[5]? = some (IsV (.int .i64 (A : Int)))) := by unfold Hid; rw [hgs]; rfl
  have g6 : Hid (gs[6]? = some (IsV (.agg #[.int .i64 N, .int .i64 B, .int .i64 Q, .int .i64 (E : Int), .int .i64 (F : Int)]))) := by unfold Hid; rw [hgs]; rfl
  have g7 : Hid (gs[7]? = some (IsV (Value.int IntKind.u64 ↑u))) := by unfold Hid; rw [hgs]; rfl
  have g8 : Hid (gs[8]? = some (IsV (.int .i64 (d : Int)))) := by unfold Hid; rw [hgs]; rfl
  have g9 : Hid (gs[9]? = some (IsAnyV)) := by unfold Hid; rw [hgs]; rfl
  have g10 : Hid (gs[10]? = some (IsAnyV)) := by unfold Hid; rw [hgs]; rfl
  have g11 : Hid (gs[11]? = some (IsV (.int .u64 (t' : Int)))) := by unfold Hid; rw [hgs]; rfl
  have g12 : Hid (gs[12]? = some (IsAnyV)) := by unfold Hid; rw [hgs]; rfl
  have g13 : Hid (gs[13]? = some (IsV (.int .u64 (t' : Int)))) := by unfold Hid; rw [hgs]; rfl
  have g14 : Hid (gs[14]? = some (IsAnyV)) := by unfold Hid; rw [hgs]; rfl
  have gk : Hid (∀ p ∈ gs, ∀ v (U U' : World), p v U → p v U') := by
    unfold Hid
    rw [hgs]
    simp only [List.forall_mem_cons]
    exact ⟨(fun _ _ _ h => h), (fun _ _ _ h => h), (fun _ _ _ h => h), (fun _ _ _ h => h), (fun _ _ _ h => h), (fun _ _ _ h => h), (fun _ _ _ h => h), (fun _ _ _ h => h), (fun _ _ _ h => h), (fun _ _ _ h => h), (fun _ _ _ h => h), (fun _ _ _ h => h), (fun _ _ _ h => h), (fun _ _ _ h => h), (fun _ _ _ h => h), by simp⟩
  clear hgs
  have JS : Hid (∀ W W', Below W.heap.size W W' → (fun W => Below w2.heap.size w2 W) W → (fun W => Below w2.heap.size w2 W) W') := fun W W' hb h => h.trans (hb.mono h.size)
  have st9 : Hid (Stays (IsTo w.heap.size t' k l)) := stays_to _ _ _ _
  have st10 : Hid (Stays (IsTo w.heap.size t' k l)) := stays_to _ _ _ _
  have st12 : Hid (Stays (IsOz w.heap.size k l)) := stays_oz _ _ _
  have st14 : Hid (Stays (IsOz w.heap.size k l)) := stays_oz _ _ _
  refine wpAny_inv4 (fun listed ac W => ∃ xv : Nat → Value, ac = ⟨#[Value.agg #[Value.int IntKind.i64 N, Value.int IntKind.i64 B, Value.int IntKind.i64 Q, Value.int IntKind.i64 ↑E, Value.int IntKind.i64 ↑F], Value.int IntKind.u64 ↑S, Value.int IntKind.u64 ↑id, Value.pointer (some { block := w.heap.size, off := 0 }), undef, undef, Value.slice none 0 0, Value.int IntKind.u64 ↑s1, Value.int IntKind.u64 ↑u, xv 13, xv 14, Value.tuple #[Value.int IntKind.u64 ↑s1, Value.int IntKind.u64 ↑u], Value.int IntKind.u64 ↑S, Value.int IntKind.u64 ↑id, Value.slice (some { block := w0.heap.size, off := 0 }) 3 3, Value.int IntKind.u64 ↑s0, Value.tuple #[Value.int IntKind.u64 ↑s1, Value.int IntKind.u64 ↑u], Value.int IntKind.u64 ↑s1, Value.int IntKind.u64 ↑u, xv 10, xv 0, xv 1, xv 2, xv 3, xv 4, xv 5, xv 6, xv 7, xv 8, xv 9, xv 11, xv 12, undef], []⟩ ∧ (fun W => Below w2.heap.size w2 W) W ∧ Lst gs listed xv W ∧ Fe listed xv W 9 (IsTo w.heap.size t' k l) ∧ Fe listed xv W 10 (IsTo w.heap.size t' k l) ∧ Fe listed xv W 12 (IsOz w.heap.size k l) ∧ Fe listed xv W 14 (IsOz w.heap.size k l)) (by kernel_rfl) ?_ ?_ _ _ _ _ (by kernel_rfl) (of_decide_eq_true (by kernel_rfl)) (Down.start _) ⟨fun jx => undef, rfl, below0 _, Lst.start _ _ _ _, Fe.start _ _ _ _ _, Fe.start _ _ _ _ _, Fe.start _ _ _ _ _, Fe.start _ _ _ _ _⟩
  · rintro listed ac W ⟨xv, rfl, hb, hG, hF9, hF10, hF12, hF14⟩ hD i hi hnl hd
    have hin : i < 15 := hi
    clear hi
    have hcase : i = 0 ∨ i = 1 ∨ i = 2 ∨ i = 3 ∨ i = 4 ∨ i = 5 ∨ i = 6 ∨ i = 7 ∨ i = 8 ∨ i = 9 ∨ i = 10 ∨ i = 11 ∨ i = 12 ∨ i = 13 ∨ i = 14 := by omega
    rcases hcase with rfl | rfl | rfl | rfl | rfl | rfl | rfl | rfl | rfl | rfl | rfl | rfl | rfl | rfl | rfl
    · refine wpOp_step rfl (fun K' hK => ?_)
      clear hd hin hD
      go_simp
      exact hK _ _ ⟨updV xv 0 (Value.int IntKind.u64 ↑s1), by simp [updV], hb, hG.any gk.out g0.out _ rfl, hF9.step (fun _ h => h) (by decide) _, hF10.step (fun _ h => h) (by decide) _, hF12.step (fun _ h => h) (by decide) _, hF14.step (fun _ h => h) (by decide) _⟩
    · refine wpOp_step rfl (fun K' hK => ?_)
      clear hd hin hD
      go_simp
      exact hK _ _ ⟨updV xv 1 (.pointer (some ⟨w.heap.size, 0, none⟩)), by simp [updV], hb, hG.any gk.out g1.out _ rfl, hF9.step (fun _ h => h) (by decide) _, hF10.step (fun _ h => h) (by decide) _, hF12.step (fun _ h => h) (by decide) _, hF14.step (fun _ h => h) (by decide) _⟩
    · refine wpOp_step rfl (fun K' hK => ?_)
      simp [Region.binds] at hd
      have e1 : xv 1 = .pointer (some ⟨w.heap.size, 0, none⟩) := hG.get g1.out (by simp [hd])
      obtain ⟨c0, c1, c2, c3, c4⟩ := BX.out W hb
      clear hd hin hD
      go_simp
      exact hK _ _ ⟨updV xv 2 (.int .i64 N), by simp [updV, e1], hb, hG.any gk.out g2.out _ rfl, hF9.step (fun _ h => h) (by decide) _, hF10.step (fun _ h => h) (by decide) _, hF12.step (fun _ h => h) (by decide) _, hF14.step (fun _ h => h) (by decide) _⟩
    · refine wpOp_step rfl (fun K' hK => ?_)
      obtain ⟨c0, c1, c2, c3, c4⟩ := BX.out W hb
      clear hd hin hD
      go_simp
      exact hK _ _ ⟨updV xv 3 (.agg #[.int .i64 N, .int .i64 B, .int .i64 Q, .int .i64 (E : Int), .int .i64 (F : Int)]), by simp [updV], hb, hG.any gk.out g3.out _ rfl, hF9.step (fun _ h => h) (by decide) _, hF10.step (fun _ h => h) (by decide) _, hF12.step (fun _ h => h) (by decide) _, hF14.step (fun _ h => h) (by decide) _⟩
    · refine wpOp_step rfl (fun K' hK => ?_)
      simp [Region.binds] at hd
      have e3 : xv 3 = .agg #[.int .i64 N, .int .i64 B, .int .i64 Q, .int .i64 (E : Int), .int .i64 (F : Int)] := hG.get g3.out (by simp [hd])
      clear hd hin hD
      go_simp
      refine (CA.out W (below_on B3.out hb)).mono ?_
      rintro e w' ⟨v, rfl, hv, hb'⟩
      go_wp2_with fail
      exact ⟨updV xv 4 v, by simp [updV, e3], JS.out _ _ hb' hb, hG.any gk.out g4.out v hv, hF9.on st9.out hb' (by decide) _, hF10.on st10.out hb' (by decide) _, hF12.on st12.out hb' (by decide) _, hF14.on st14.out hb' (by decide) _⟩
    · refine wpOp_step rfl (fun K' hK => ?_)
      simp [Region.binds] at hd
      have e2 : xv 2 = .int .i64 N := hG.get g2.out (by simp [hd])
      have e4 : xv 4 = .int .i64 X := hG.get g4.out (by simp [hd])
      have wr := E1.out
      clear hd hin hD
      go_simp
      exact hK _ _ ⟨updV xv 5 (.int .i64 (A : Int)), by simp [updV, e2, e4], hb, hG.any gk.out g5.out _ rfl, hF9.step (fun _ h => h) (by decide) _, hF10.step (fun _ h => h) (by decide) _, hF12.step (fun _ h => h) (by decide) _, hF14.step (fun _ h => h) (by decide) _⟩
    · refine wpOp_step rfl (fun K' hK => ?_)
      obtain ⟨c0, c1, c2, c3, c4⟩ := BX.out W hb
      clear hd hin hD
      go_simp
      exact hK _ _ ⟨updV xv 6 (.agg #[.int .i64 N, .int .i64 B, .int .i64 Q, .int .i64 (E : Int), .int .i64 (F : Int)]), by simp [updV], hb, hG.any gk.out g6.out _ rfl, hF9.step (fun _ h => h) (by decide) _, hF10.step (fun _ h => h) (by decide) _, hF12.step (fun _ h => h) (by decide) _, hF14.step (fun _ h => h) (by decide) _⟩
    · refine wpOp_step rfl (fun K' hK => ?_)
      clear hd hin hD
      go_simp
      exact hK _ _ ⟨updV xv 7 (Value.int IntKind.u64 ↑u), by simp [updV], hb, hG.any gk.out g7.out _ rfl, hF9.step (fun _ h => h) (by decide) _, hF10.step (fun _ h => h) (by decide) _, hF12.step (fun _ h => h) (by decide) _, hF14.step (fun _ h => h) (by decide) _⟩
    · refine wpOp_step rfl (fun K' hK => ?_)
      simp [Region.binds] at hd
      have e6 : xv 6 = .agg #[.int .i64 N, .int .i64 B, .int .i64 Q, .int .i64 (E : Int), .int .i64 (F : Int)] := hG.get g6.out (by simp [hd])
      have e7 : xv 7 = Value.int IntKind.u64 ↑u := hG.get g7.out (by simp [hd])
      clear hd hin hD
      go_simp
      refine (CD.out W (below_on B3.out hb)).mono ?_
      rintro e w' ⟨v, rfl, hv, hb'⟩
      go_wp2_with fail
      exact ⟨updV xv 8 v, by simp [updV, e6, e7], JS.out _ _ hb' hb, hG.any gk.out g8.out v hv, hF9.on st9.out hb' (by decide) _, hF10.on st10.out hb' (by decide) _, hF12.on st12.out hb' (by decide) _, hF14.on st14.out hb' (by decide) _⟩
    · refine wpOp_step rfl (fun K' hK => ?_)
      simp [Region.binds] at hd
      have e0 : xv 0 = Value.int IntKind.u64 ↑s1 := hG.get g0.out (by simp [hd])
      have e5 : xv 5 = .int .i64 (A : Int) := hG.get g5.out (by simp [hd])
      have e8 : xv 8 = .int .i64 (d : Int) := hG.get g8.out (by simp [hd])
      clear hd hin hD
      go_simp
      refine (CS.out W (below_on B3.out hb)).mono ?_
      rintro e w' ⟨v, rfl, hv, hb'⟩
      go_wp2_with fail
      exact ⟨updV xv 9 v, by simp [updV, e0, e5, e8], JS.out _ _ hb' hb, hG.any gk.out g9.out v trivial, Fe.new (hv), hF10.on st10.out hb' (by decide) _, hF12.on st12.out hb' (by decide) _, hF14.on st14.out hb' (by decide) _⟩
    · refine wpOp_step rfl (fun K' hK => ?_)
      simp [Region.binds] at hd
      have l9 : listed.getD 9 false = true := by simp [hd]
      have m9 := hF9 l9
      clear hd hin hD
      go_simp
      exact hK _ _ ⟨updV xv 10 (xv 9), by simp [updV], hb, hG.any gk.out g10.out _ trivial, hF9.step (fun _ h => h) (by decide) _, Fe.new (m9), hF12.step (fun _ h => h) (by decide) _, hF14.step (fun _ h => h) (by decide) _⟩
    · refine wpOp_step rfl (fun K' hK => ?_)
      simp [Region.binds] at hd
      have l10 : listed.getD 10 false = true := by simp [hd]
      have m10 := hF10 l10
      clear hd hin hD
      obtain ⟨a, c, e10, h10⟩ := m10
      go_simp
      exact hK _ _ ⟨updV xv 11 (.int .u64 (t' : Int)), by simp [updV, e10], hb, hG.any gk.out g11.out _ rfl, hF9.step (fun _ h => h) (by decide) _, hF10.step (fun _ h => h) (by decide) _, hF12.step (fun _ h => h) (by decide) _, hF14.step (fun _ h => h) (by decide) _⟩
    · refine wpOp_step rfl (fun K' hK => ?_)
      simp [Region.binds] at hd
      have l10 : listed.getD 10 false = true := by simp [hd]
      have m10 := hF10 l10
      clear hd hin hD
      obtain ⟨a, c, e10, h10⟩ := m10
      go_simp
      exact hK _ _ ⟨updV xv 12 (.slice a k c), by simp [updV, e10], hb, hG.any gk.out g12.out _ trivial, hF9.step (fun _ h => h) (by decide) _, hF10.step (fun _ h => h) (by decide) _, Fe.new (⟨a, c, rfl, h10⟩), hF14.step (fun _ h => h) (by decide) _⟩
    · refine wpOp_step rfl (fun K' hK => ?_)
      simp [Region.binds] at hd
      have e11 : xv 11 = .int .u64 (t' : Int) := hG.get g11.out (by simp [hd])
      clear hd hin hD
      go_simp
      exact hK _ _ ⟨updV xv 13 (.int .u64 (t' : Int)), by simp [updV, e11], hb, hG.any gk.out g13.out _ rfl, hF9.step (fun _ h => h) (by decide) _, hF10.step (fun _ h => h) (by decide) _, hF12.step (fun _ h => h) (by decide) _, hF14.step (fun _ h => h) (by decide) _⟩
    · refine wpOp_step rfl (fun K' hK => ?_)
      simp [Region.binds] at hd
      have l12 : listed.getD 12 false = true := by simp [hd]
      have m12 := hF12 l12
      clear hd hin hD
      go_simp
      exact hK _ _ ⟨updV xv 14 (xv 12), by simp [updV], hb, hG.any gk.out g14.out _ trivial, hF9.step (fun _ h => h) (by decide) _, hF10.step (fun _ h => h) (by decide) _, hF12.step (fun _ h => h) (by decide) _, Fe.new (m12)⟩
  · rintro listed ac W ⟨xv, rfl, hb, hG, hF9, hF10, hF12, hF14⟩ hall
    have e13 : xv 13 = .int .u64 (t' : Int) := hG.get g13.out (hall 13 (by decide))
    have m14 : Hid ((IsOz w.heap.size k l) (xv 14) W) := hF14 (hall 14 (by decide))
    have XW : Hid ((fun W => Below w2.heap.size w2 W) W) := hb
    clear hall hG hb gk JS g0 g1 g2 g3 g4 g5 g6 g7 g8 g9 g10 g11 g12 g13 g14 hF9 st9 hF10 st10 hF12 st12 hF14 st14
    rw [e13]
    clear e13
    obtain ⟨a, c, e14, ho⟩ := m14.out
    rw [e14]
    clear m14 e14
    have HO : Hid (OwnZ w.heap.size W (.slice a k c) k l) := ho
    clear ho
    go_wp2
    go_ret
    exact ⟨a, c, rfl, HO.out, below_on B3.out XW.out⟩

end

section
/-
  inner: a check block's blocks, named; what the statements' speaks says.
-/
open Go.RowKit
set_option linter.unusedVariables false

/-- The blocks of a check block: k of them, l. -/
def Chk (F E S A id k : Nat) (l : List Int) : Prop := ∃ s0 s1 u d t' : Nat, seedTo 0 [S, 2, id] = s0 ∧ addS s0 = s1 ∧ mix s1 = u ∧ DegAt F E u d ∧ howMany A d = k ∧ someD s1 A d = (t', l)

theorem chk_is (E S A id : Nat) {F : Nat} (hF : 2 ≤ F) : ∃ k l, Chk F E S A id k l := by
  obtain ⟨s0, h0⟩ : ∃ s0, seedTo 0 [S, 2, id] = s0 := ⟨_, rfl⟩
  obtain ⟨s1, h1⟩ : ∃ s1, addS s0 = s1 := ⟨_, rfl⟩
  obtain ⟨u, h2⟩ : ∃ u, mix s1 = u := ⟨_, rfl⟩
  obtain ⟨d, hd⟩ := deg_is (E := E) u hF
  obtain ⟨p, hp⟩ : ∃ p, someD s1 A d = p := ⟨_, rfl⟩
  obtain ⟨t', l⟩ := p
  exact ⟨howMany A d, l, s0, s1, u, d, t', h0, h1, h2, hd, rfl, hp⟩

theorem iblocks_chk {F E S A id k : Nat} {l : List Int} (hc : Chk F E S A id k l) (a t : Nat) (w : World) (h : IsSrc w a t F E S A) (hm : MayD F E) (hA : A ≤ 16777216) (hS : S < 18446744073709551616) (hid : id < 18446744073709551616) :
    Calls Tryz.prog 32 #[.pointer (some ⟨a, 0, none⟩), .int .u64 id] w fun e w' => ∃ b c, e = .returned (.slice b k c) ∧ OwnZ w.heap.size w' (.slice b k c) k l ∧ Below w.heap.size w w' := by
  obtain ⟨s0, s1, u, d, t', h0, h1, h2, hd, hk, hT⟩ := hc
  exact iblocks_any a t F E S A id d k s0 s1 u w h hm hA hS hid h0 h1 h2 hd hk t' l hT

theorem rblocks_chk {F E S A id k : Nat} {l : List Int} (hc : Chk F E S A id k l) (N B Q : Int) (w : World) (h : May N B Q (E : Nat) (F : Nat)) (hm : MayD F E) (hA : N + aux N Q (E : Nat) = (A : Int)) (hS : S < 18446744073709551616) (hid : id < 18446744073709551616) :
    Calls Tryz.prog 11 #[.agg #[.int .i64 N, .int .i64 B, .int .i64 Q, .int .i64 (E : Nat), .int .i64 (F : Nat)], .int .u64 S, .int .u64 id] w fun e w' => ∃ b c, e = .returned (.slice b k c) ∧ OwnZ w.heap.size w' (.slice b k c) k l ∧ Below w.heap.size w w' := by
  obtain ⟨s0, s1, u, d, t', h0, h1, h2, hd, hk, hT⟩ := hc
  exact rblocks_any N B Q E F S A id d k s0 s1 u w h hm hA hS hid h0 h1 h2 hd hk t' l hT

theorem Chk.len {F E S A id k : Nat} {l : List Int} (hc : Chk F E S A id k l) : l.length = k := by
  obtain ⟨s0, s1, u, d, t', -, -, -, -, hk, hT⟩ := hc
  have := someD_length s1 A d
  rw [hT, hk] at this
  exact this
theorem Chk.mem {F E S A id k : Nat} {l : List Int} (hc : Chk F E S A id k l) {x : Int} (hx : x ∈ l) : 0 ≤ x ∧ x < A := by
  obtain ⟨s0, s1, u, d, t', -, -, -, -, hk, hT⟩ := hc
  exact someD_mem (s := s1) (m := d) (by rw [hT]; exact hx)
theorem Chk.rises {F E S A id k : Nat} {l : List Int} (hc : Chk F E S A id k l) : l.Pairwise (· < ·) := by
  obtain ⟨s0, s1, u, d, t', -, -, -, -, hk, hT⟩ := hc
  have := someD_rises s1 A d
  rw [hT] at this
  exact this
theorem Chk.many {F E S A id k : Nat} {l : List Int} (hc : Chk F E S A id k l) (hA : 1 ≤ A) : 1 ≤ k ∧ k ≤ F ∧ k ≤ A := by
  obtain ⟨s0, s1, u, d, t', -, -, -, hd, hk, hT⟩ := hc
  have h1 := hd.lo
  have h2 := hd.hi
  unfold howMany at hk
  split at hk <;> omega

theorem all_nat {N B Q E F : Int} (h : May N B Q E F) : ∃ A : Nat, N + aux N Q E = (A : Int) ∧ 2 ≤ A ∧ A ≤ 16777216 := by
  obtain ⟨h1, h2, h3, h4, h5, h6⟩ := h
  have r := aux_range h1 h3 h4
  exact ⟨(N + aux N Q E).toNat, by omega, by omega, by omega⟩

theorem may_112 : May 1 1 1 ((1000 : Nat) : Int) ((2 : Nat) : Int) := ⟨by omega, by omega, by omega, by omega, by omega, by decide⟩
theorem mayD_21000 : MayD 2 1000 := ⟨by decide, by decide, by decide, by decide, by decide⟩
theorem all_112 : (1 : Int) + aux 1 1 ((1000 : Nat) : Int) = ((2 : Nat) : Int) := by decide

theorem inew_112 (w : World) : Calls Tryz.prog 18 #[.agg #[.int .i64 1, .int .i64 1, .int .i64 1, .int .i64 1000, .int .i64 2], .int .u64 7] w fun e w' => ∃ a t, e = .returned (.tuple #[.pointer (some ⟨a, 0, none⟩), .int .i64 0]) ∧ w.heap.size ≤ a ∧ IsSrc w' a t 2 1000 7 2 ∧ Below w.heap.size w w' := inew_yes 1 1 1 1000 2 7 2 w may_112 all_112

end

end Go.Proofs.YtkckbeekehecnaaGreat
