/-
  WholeOuter.
-/
import Derived.Test.YthlladpappldbaaOutS
import Derived.Test.YthlladpappldbaaOutN
import Derived.Test.YthlladpappldbaaLStruct
namespace Go.Proofs.Ythlladpappldbaa
open Go.RowKit
set_option linter.unusedVariables false

theorem eq_sorted {S A Q m j : Nat} {r : List Int} (h : RowOk S A Q m j r) : (r ++ [(m : Int) + (j : Int)]).Pairwise (· ≤ ·) := by
  rw [List.pairwise_append]
  refine ⟨h.up.imp (fun h => by omega), by simp, ?_⟩
  intro x hx y hy
  have := h.lt x hx
  have := List.mem_singleton.1 hy
  omega

set_option maxRecDepth 100000 in
set_option maxHeartbeats 4000000 in
theorem wholeOuter_walk (N B Q E F : Int) (S : Nat) (w : World) (hS : S < 18446744073709551616) :
    Calls Try.prog 10 #[.agg #[.int .i64 N, .int .i64 B, .int .i64 Q, .int .i64 E, .int .i64 F], .int .u64 S] w fun e w' => e = .returned (.bool true) ∧ Below w.heap.size w w' := by
  have CN : Hid (∀ W, Calls Try.prog 22 #[.agg #[.int .i64 1, .int .i64 1, .int .i64 1, .int .i64 1000, .int .i64 2], .int .u64 7] W fun e w' => ∃ g ro vs, e = .returned (.tuple #[.pointer (some ⟨g, 0, none⟩), .int .i64 0]) ∧ IsGr w' g ro 7 1 1 1 vs [[0]] ∧ Below W.heap.size W w') := by
    intro W
    have := onew_yes 1 1000 2 1 1 1 7 W pr_one (by decide)
    rw [has_one] at this
    exact this
  have HS : Hid (S < 18446744073709551616) := hS
  clear hS
  go_enter Try.func10, Try.ntmps10
  go_wp2_with fail
  refine (CN.out _).mono ?_
  rintro e w1 ⟨g, ro, vs, rfl, hg1, hb1⟩
  have G1 : Hid (IsGr w1 g ro 7 1 1 1 vs [[0]]) := hg1
  have B1 : Hid (Below w.heap.size w w1) := below_on (below_alloc _ _) hb1
  have P1 : Hid (FiveB w1 w.heap.size N B Q E F) := (FiveB.new w _ _ _ _ _).below hb1
  clear hg1 hb1 CN
  go_wp2_with fail
  refine (oeq_yes g ro 7 1 1 1 0 1 vs [[0]] [0] _ G1.out (by decide) (by decide) rfl rfl (by decide)).mono ?_
  rintro e w2 ⟨a2, k2, rfl, -, hb2⟩
  have B2 : Hid (Below w.heap.size w w2) := below_on B1.out hb2
  have P2 : Hid (FiveB w2 w.heap.size N B Q E F) := P1.out.below hb2
  clear hb2 G1 B1 P1
  obtain ⟨c0, c1, c2, c3, c4⟩ := P2.out.five
  by_cases hp : May N B Q E F
  · have MP : Hid (∀ W, Calls Try.prog 24 #[.agg #[.int .i64 N, .int .i64 B, .int .i64 Q, .int .i64 E, .int .i64 F]] W fun e w' => e = .returned (.bool true) ∧ Below W.heap.size W w') := fun W => rmay_yes N B Q E F W hp
    obtain ⟨n, q, A, hpr⟩ := PrOk.of hp
    have hok := hpr.ok HS.out
    obtain rfl := hpr.en
    obtain rfl := hpr.eq
    have OK : Hid (GrOk S n q A) := hok
    have hA := hok.a
    have hq8 := hok.q
    have hq1 := hok.q1
    have CM : Hid (∀ W, Calls Try.prog 22 #[.agg #[.int .i64 n, .int .i64 B, .int .i64 q, .int .i64 E, .int .i64 F], .int .u64 S] W fun e w' => ∃ g ro vs, e = .returned (.tuple #[.pointer (some ⟨g, 0, none⟩), .int .i64 0]) ∧ IsGr w' g ro S n q A vs (hasR S A q n) ∧ Below W.heap.size W w') := fun W => onew_yes B E F n q A S W hpr HS.out
    have HLen : Hid (∀ i, (ofD S A q i).length = q) := fun i => ofD_length hok.q1 hok.qa
    have HTot : Hid (total (hasR S A q n) = n * q) := total_has hok.q1 hok.qa n
    have HRow : Hid (∀ j r, (hasR S A q n)[j]? = some r → RowOk S A q n j r ∧ r.length ≤ n) := fun j r h => ⟨hasR_ok S A q n j r h, hasR_short n j r h⟩
    have HRL : Hid ((hasR S A q n).length = A) := hasR_length S A q n
    have hk : Hid (howMany (A : Int) (q : Int) = q) := by
      have := hok.q1
      have := hok.qa
      unfold Hid howMany
      split <;> omega
    clear hp hpr hok
    go_wp2_with fail
    refine (MP.out _).mono ?_
    rintro e w3 ⟨rfl, hb3⟩
    have B3 : Hid (Below w.heap.size w w3) := below_on B2.out hb3
    have P3 : Hid (FiveB w3 w.heap.size n B q E F) := P2.out.below hb3
    clear hb3 B2 P2 MP c0 c1 c2 c3 c4
    obtain ⟨c0, c1, c2, c3, c4⟩ := P3.out.five
    by_cases h60 : n ≤ 60
    · go_wp2_with fail
      refine (CM.out _).mono ?_
      rintro e w4 ⟨gp, rp, vp, rfl, hg4, hb4⟩
      have G4 : Hid (IsGr w4 gp rp S n q A vp (hasR S A q n)) := hg4
      have B4 : Hid (Below w.heap.size w w4) := below_on B3.out hb4
      have P4 : Hid (FiveB w4 w.heap.size n B q E F) := P3.out.below hb4
      clear hg4 hb4 B3 P3 CM c0 c1 c2 c3 c4
      generalize hasR S A q n = rows at *
      obtain ⟨c0, c1, c2, c3, c4⟩ := P4.out.five
      go_wp2
      clear c0 c1 c2 c3 c4
      go_loopw [53] (fun iv wr => ∃ i : Nat, i ≤ n ∧ iv = .int .i64 i ∧ Hid (IsGr wr gp rp S n q A vp rows) ∧ Hid (Below w.heap.size w wr) ∧ Hid (FiveB wr w.heap.size n B q E F)) (fun iv _ => n - (intOf iv).toNat)
      case atStart => exact ⟨0, by omega, rfl, G4, B4, P4⟩
      case round =>
        clear G4 B4 P4
        obtain ⟨i, hi, rfl, HG, HB, HP⟩ := hrel
        by_cases hlt : i < n
        · obtain ⟨t, l, hT⟩ : ∃ t l, someD (seedTo 0 [S, 1, i]) (A : Int) (q : Int) = (t, l) := ⟨_, _, rfl⟩
          have HL : Hid (ofD S A q i = l) := by unfold Hid ofD; rw [hT]
          have HC : Hid (∀ W r, IsRand W r (seedTo 0 [S, 1, i]) → Calls Try.prog 15 #[.pointer (some ⟨r, 0, none⟩), .int .i64 A, .int .i64 q] W fun e w' => ∃ a c, e = .returned (.slice a q c) ∧ OwnZ W.heap.size w' (.slice a q c) q l ∧ IsRand w' r t ∧ KeepsBut (fun x => x = r) W w') := fun W r hr => some_any r _ A q W hr (by omega) q hk.out t l hT
          clear hT
          have CR : Hid (∀ W v, Below wr.heap.size wr W → IsUs [S, 1, i] v W → Calls Try.prog 12 #[v] W fun e w' => ∃ v, e = .returned v ∧ IsRd wr.heap.size (seedTo 0 [S, 1, i]) v w' ∧ Below W.heap.size W w') := by
            intro W v hW hv
            refine (rnew_any v _ W hv).mono ?_
            rintro e w' ⟨rfl, h1, h2, -⟩
            exact ⟨_, rfl, ⟨_, rfl, hW.size, h1⟩, h2⟩
          generalize seedTo 0 [S, 1, i] = s at *
          have CA : Hid (∀ W, Below wr.heap.size wr W → Calls Try.prog 26 #[.pointer (some ⟨gp, 0, none⟩)] W fun e w' => ∃ v, e = .returned v ∧ IsV (.int .i64 (A : Int)) v w' ∧ Below W.heap.size W w') := by
            intro W hW
            refine (oaux_any gp rp S n q A vp rows W (HG.out.below hW)).mono ?_
            rintro e w' ⟨rfl, rfl⟩
            exact ⟨_, rfl, rfl, Below.refl _ _⟩
          have BX : Hid (∀ W, Below wr.heap.size wr W → Five W w.heap.size n B q E F) := fun W hW => (HP.out.below hW).five
          have hwi : IntKind.u64.wrap (i : Int) = (i : Int) := by rw [IntKind.wrap_u64]; omega
          go_upto_region 13 with fail
          refine wp_region_any (by kernel_rfl) ?_
          obtain ⟨gs, hgs⟩ : ∃ gs : List (Value → World → Prop), gs = [IsV (Value.int IntKind.u64 ↑S), IsV (Value.int IntKind.i64 ↑i), IsV (.int .u64 (i : Int)), IsAnyV, IsAnyV, IsV (Value.pointer (some { block := gp, off := 0 })), IsV (.int .i64 (A : Int)), IsV (.pointer (some ⟨w.heap.size, 2, none⟩)), IsV (.int .i64 (q : Int)), IsAnyV, IsAnyV] := ⟨_, rfl⟩
          have g0 : Hid (gs[0]? = some (IsV (Value.int IntKind.u64 ↑S))) := by unfold Hid; rw [hgs]; rfl
          have g1 : Hid (gs[1]? = some (IsV (Value.int IntKind.i64 ↑i))) := by unfold Hid; rw [hgs]; rfl
          have g2 : Hid (gs[2]? = some (IsV (.int .u64 (i : Int)))) := by unfold Hid; rw [hgs]; rfl
          have g3 : Hid (gs[3]? = some (IsAnyV)) := by unfold Hid; rw [hgs]; rfl
          have g4 : Hid (gs[4]? = some (IsAnyV)) := by unfold Hid; rw [hgs]; rfl
          have g5 : Hid (gs[5]? = some (IsV (Value.pointer (some { block := gp, off := 0 })))) := by unfold Hid; rw [hgs]; rfl
          have g6 : Hid (gs[6]? = some (IsV (.int .i64 (A : Int)))) := by unfold Hid; rw [hgs]; rfl
          have g7 : Hid (gs[7]? = some (IsV (.pointer (some ⟨w.heap.size, 2, none⟩)))) := by unfold Hid; rw [hgs]; rfl
          have g8 : Hid (gs[8]? = some (IsV (.int .i64 (q : Int)))) := by unfold Hid; rw [hgs]; rfl
          have g9 : Hid (gs[9]? = some (IsAnyV)) := by unfold Hid; rw [hgs]; rfl
          have g10 : Hid (gs[10]? = some (IsAnyV)) := by unfold Hid; rw [hgs]; rfl
          have gk : Hid (∀ p ∈ gs, ∀ v (U U' : World), p v U → p v U') := by
            unfold Hid
            rw [hgs]
            simp only [List.forall_mem_cons]
            exact ⟨(fun _ _ _ h => h), (fun _ _ _ h => h), (fun _ _ _ h => h), (fun _ _ _ h => h), (fun _ _ _ h => h), (fun _ _ _ h => h), (fun _ _ _ h => h), (fun _ _ _ h => h), (fun _ _ _ h => h), (fun _ _ _ h => h), (fun _ _ _ h => h), by simp⟩
          clear hgs
          have JS : Hid (∀ W W', Below W.heap.size W W' → (fun W => Below wr.heap.size wr W) W → (fun W => Below wr.heap.size wr W) W') := fun W W' hb h => h.trans (hb.mono h.size)
          have st3 : Hid (Stays (IsUs [S, 1, i])) := stays_us _
          have st4 : Hid (Stays (IsRd wr.heap.size s)) := stays_rd _ _
          have st9 : Hid (Stays (IsOz wr.heap.size q l)) := stays_oz _ _ _
          have st10 : Hid (Stays (IsOz wr.heap.size q l)) := stays_oz _ _ _
          refine wpAny_inv4 (fun listed ac W => ∃ xv : Nat → Value, ac = ⟨#[Value.agg #[Value.int IntKind.i64 ↑n, Value.int IntKind.i64 B, Value.int IntKind.i64 ↑q, Value.int IntKind.i64 E, Value.int IntKind.i64 F], Value.int IntKind.u64 ↑S, Value.pointer (some { block := w.heap.size, off := 0 }), undef, u4, Value.pointer (some { block := gp, off := 0 }), Value.int IntKind.i64 (0 : Int), Value.int IntKind.i64 (0 : Int), Value.int IntKind.i64 ↑i, xv 10, undef, u11, undef, undef, Value.tuple #[Value.pointer (some { block := g, off := 0 }), Value.int IntKind.i64 (0 : Int)], Value.agg #[Value.int IntKind.i64 (1 : Int), Value.int IntKind.i64 (1 : Int), Value.int IntKind.i64 (1 : Int), Value.int IntKind.i64 (1000 : Int), Value.int IntKind.i64 (2 : Int)], Value.tuple #[Value.pointer (some { block := g, off := 0 }), Value.int IntKind.i64 (0 : Int)], Value.pointer (some { block := g, off := 0 }), Value.int IntKind.i64 (0 : Int), Value.int IntKind.i64 (0 : Int), Value.bool false, Value.bool false, Value.pointer (some { block := g, off := 0 }), Value.bool false, Value.bool false, Value.bool false, Value.pointer (some { block := g, off := 0 }), Value.slice a2 2 k2, Value.int IntKind.i64 (2 : Int), Value.bool false, Value.bool false, Value.agg #[Value.int IntKind.i64 ↑n, Value.int IntKind.i64 B, Value.int IntKind.i64 ↑q, Value.int IntKind.i64 E, Value.int IntKind.i64 F], Value.bool true, Value.bool false, Value.bool false, Value.pointer (some { block := w.heap.size, off := 0 }), Value.int IntKind.i64 ↑n, Value.bool (decide ((60 : Int) < ↑n)), Value.bool (decide ((60 : Int) < ↑n)), Value.tuple #[Value.pointer (some { block := gp, off := 0 }), Value.int IntKind.i64 (0 : Int)], Value.agg #[Value.int IntKind.i64 ↑n, Value.int IntKind.i64 B, Value.int IntKind.i64 ↑q, Value.int IntKind.i64 E, Value.int IntKind.i64 F], Value.int IntKind.u64 ↑S, Value.tuple #[Value.pointer (some { block := gp, off := 0 }), Value.int IntKind.i64 (0 : Int)], Value.pointer (some { block := gp, off := 0 }), Value.int IntKind.i64 (0 : Int), Value.int IntKind.i64 (0 : Int), Value.bool false, Value.bool false, Value.pointer (some { block := gp, off := 0 }), Value.bool false, Value.bool false, Value.pointer (some { block := w.heap.size, off := 0 }), Value.int IntKind.i64 ↑n, Value.int IntKind.i64 ↑i, Value.bool true, Value.int IntKind.i64 ↑i, xv 0, xv 1, xv 2, xv 3, xv 4, xv 5, xv 6, xv 7, xv 8, xv 9, u66, u67, u68, u69, u70, u71, u72, u73, u74, u75, u76, u77, u78, u79, u80, u81, u82, u83, u84, u85, undef, undef, undef, undef, undef, undef, undef, undef, undef, undef, undef, undef, undef, undef, undef, undef, undef, undef, undef, undef, undef, undef, undef, undef, undef, undef, undef, undef, undef, undef], []⟩ ∧ (fun W => Below wr.heap.size wr W) W ∧ Lst gs listed xv W ∧ Fd listed xv W 3 4 (IsUs [S, 1, i]) ∧ Fd listed xv W 4 9 (IsRd wr.heap.size s) ∧ Fe listed xv W 9 (IsOz wr.heap.size q l) ∧ Fe listed xv W 10 (IsOz wr.heap.size q l)) (by kernel_rfl) ?_ ?_ _ _ _ _ (by kernel_rfl) (of_decide_eq_true (by kernel_rfl)) (Down.start _) ⟨fun j => if j = 0 then u56 else if j = 1 then u57 else if j = 2 then u58 else if j = 3 then u59 else if j = 4 then u60 else if j = 5 then u61 else if j = 6 then u62 else if j = 7 then u63 else if j = 8 then u64 else if j = 9 then u65 else if j = 10 then u9 else undef, rfl, below0 _, Lst.start _ _ _ _, Fd.start _ _ _ _ _ _, Fd.start _ _ _ _ _ _, Fe.start _ _ _ _ _, Fe.start _ _ _ _ _⟩
          · rintro listed ac W ⟨xv, rfl, hb, hG, hF3, hF4, hF9, hF10⟩ hD i hi hnl hd
            have hin : i < 11 := hi
            clear hi
            have hcase : i = 0 ∨ i = 1 ∨ i = 2 ∨ i = 3 ∨ i = 4 ∨ i = 5 ∨ i = 6 ∨ i = 7 ∨ i = 8 ∨ i = 9 ∨ i = 10 := by omega
            rcases hcase with rfl | rfl | rfl | rfl | rfl | rfl | rfl | rfl | rfl | rfl | rfl
            · refine wpOp_step rfl (fun K' hK => ?_)
              clear hd hin hD
              go_simp
              exact hK _ _ ⟨updV xv 0 (Value.int IntKind.u64 ↑S), by simp [updV], hb, hG.any gk.out g0.out _ rfl, hF3.step (fun _ h => h) (by decide) (by decide) _, hF4.step (fun _ h => h) (by decide) (by decide) _, hF9.step (fun _ h => h) (by decide) _, hF10.step (fun _ h => h) (by decide) _⟩
            · refine wpOp_step rfl (fun K' hK => ?_)
              clear hd hin hD
              go_simp
              exact hK _ _ ⟨updV xv 1 (Value.int IntKind.i64 ↑i), by simp [updV], hb, hG.any gk.out g1.out _ rfl, hF3.step (fun _ h => h) (by decide) (by decide) _, hF4.step (fun _ h => h) (by decide) (by decide) _, hF9.step (fun _ h => h) (by decide) _, hF10.step (fun _ h => h) (by decide) _⟩
            · refine wpOp_step rfl (fun K' hK => ?_)
              simp [Region.binds] at hd
              have e1 : xv 1 = Value.int IntKind.i64 ↑i := hG.get g1.out (by simp [hd])
              clear hd hin hD
              go_simp
              exact hK _ _ ⟨updV xv 2 (.int .u64 (i : Int)), by simp [updV, e1], hb, hG.any gk.out g2.out _ rfl, hF3.step (fun _ h => h) (by decide) (by decide) _, hF4.step (fun _ h => h) (by decide) (by decide) _, hF9.step (fun _ h => h) (by decide) _, hF10.step (fun _ h => h) (by decide) _⟩
            · refine wpOp_step rfl (fun K' hK => ?_)
              simp [Region.binds] at hd
              have e0 : xv 0 = Value.int IntKind.u64 ↑S := hG.get g0.out (by simp [hd])
              have e2 : xv 2 = .int .u64 (i : Int) := hG.get g2.out (by simp [hd])
              clear hd hin hD
              go_simp
              exact hK _ _ ⟨updV xv 3 (.slice (some ⟨W.heap.size, 0, none⟩) 3 3), by simp [updV, e0, e2], JS.out _ _ (below_alloc _ _) hb, hG.any gk.out g3.out _ trivial, Fd.new (us_lit3 _ _ S 1 i HS.out (by decide) (by omega) _ rfl), hF4.on st4.out (below_alloc _ _) (by decide) (by decide) _, hF9.on st9.out (below_alloc _ _) (by decide) _, hF10.on st10.out (below_alloc _ _) (by decide) _⟩
            · refine wpOp_step rfl (fun K' hK => ?_)
              simp [Region.binds] at hd
              have l3 : listed.getD 3 false = true := by simp [hd]
              have m3 := hF3.get l3 hnl
              clear hd hin hD
              go_simp
              refine (CR.out W _ hb m3).mono ?_
              rintro e w' ⟨v, rfl, hv, hb'⟩
              go_wp2_with fail
              exact ⟨updV xv 4 v, by simp [updV], JS.out _ _ hb' hb, hG.any gk.out g4.out v trivial, Fd.off hnl, Fd.new (hv), hF9.on st9.out hb' (by decide) _, hF10.on st10.out hb' (by decide) _⟩
            · refine wpOp_step rfl (fun K' hK => ?_)
              clear hd hin hD
              go_simp
              exact hK _ _ ⟨updV xv 5 (Value.pointer (some { block := gp, off := 0 })), by simp [updV], hb, hG.any gk.out g5.out _ rfl, hF3.step (fun _ h => h) (by decide) (by decide) _, hF4.step (fun _ h => h) (by decide) (by decide) _, hF9.step (fun _ h => h) (by decide) _, hF10.step (fun _ h => h) (by decide) _⟩
            · refine wpOp_step rfl (fun K' hK => ?_)
              simp [Region.binds] at hd
              have e5 : xv 5 = Value.pointer (some { block := gp, off := 0 }) := hG.get g5.out (by simp [hd])
              clear hd hin hD
              go_simp
              refine (CA.out W hb).mono ?_
              rintro e w' ⟨v, rfl, hv, hb'⟩
              go_wp2_with fail
              exact ⟨updV xv 6 v, by simp [updV, e5], JS.out _ _ hb' hb, hG.any gk.out g6.out v hv, hF3.on st3.out hb' (by decide) (by decide) _, hF4.on st4.out hb' (by decide) (by decide) _, hF9.on st9.out hb' (by decide) _, hF10.on st10.out hb' (by decide) _⟩
            · refine wpOp_step rfl (fun K' hK => ?_)
              clear hd hin hD
              go_simp
              exact hK _ _ ⟨updV xv 7 (.pointer (some ⟨w.heap.size, 2, none⟩)), by simp [updV], hb, hG.any gk.out g7.out _ rfl, hF3.step (fun _ h => h) (by decide) (by decide) _, hF4.step (fun _ h => h) (by decide) (by decide) _, hF9.step (fun _ h => h) (by decide) _, hF10.step (fun _ h => h) (by decide) _⟩
            · refine wpOp_step rfl (fun K' hK => ?_)
              simp [Region.binds] at hd
              have e7 : xv 7 = .pointer (some ⟨w.heap.size, 2, none⟩) := hG.get g7.out (by simp [hd])
              obtain ⟨c0, c1, c2, c3, c4⟩ := BX.out W hb
              clear hd hin hD
              go_simp
              exact hK _ _ ⟨updV xv 8 (.int .i64 (q : Int)), by simp [updV, e7], hb, hG.any gk.out g8.out _ rfl, hF3.step (fun _ h => h) (by decide) (by decide) _, hF4.step (fun _ h => h) (by decide) (by decide) _, hF9.step (fun _ h => h) (by decide) _, hF10.step (fun _ h => h) (by decide) _⟩
            · refine wpOp_step rfl (fun K' hK => ?_)
              simp [Region.binds] at hd
              have l4 : listed.getD 4 false = true := by simp [hd]
              have m4 := hF4.get l4 hnl
              have e6 : xv 6 = .int .i64 (A : Int) := hG.get g6.out (by simp [hd])
              have e8 : xv 8 = .int .i64 (q : Int) := hG.get g8.out (by simp [hd])
              have f10 : listed.getD 10 false = false := by
                cases hx : listed.getD 10 false with
                | false => rfl
                | true =>
                  have r9 : listed.getD 9 false = true := by have h := hD 10 (by decide) hx; simp [Region.binds] at h; simp [h]
                  rw [getD_false hnl] at r9; cases r9
              clear hd hin hD
              obtain ⟨r, e4, hr, hR⟩ := m4
              go_simp
              refine (HC.out W r hR).mono ?_
              rintro e w' ⟨a, c, rfl, ho, -, hk⟩
              go_wp2_with fail
              exact ⟨updV xv 9 (.slice a q c), by simp [updV, e4, e6, e8], hb.trans (hk.below hb.size (fun k e => by omega)), hG.any gk.out g9.out _ trivial, Fd.gone l4 (by decide), Fd.off hnl, Fe.new (⟨a, c, rfl, ho.mono hb.size⟩), Fe.yet f10 (by decide) _⟩
            · refine wpOp_step rfl (fun K' hK => ?_)
              simp [Region.binds] at hd
              have l9 : listed.getD 9 false = true := by simp [hd]
              have m9 := hF9 l9
              clear hd hin hD
              go_simp
              exact hK _ _ ⟨updV xv 10 (xv 9), by simp [updV], hb, hG.any gk.out g10.out _ trivial, hF3.step (fun _ h => h) (by decide) (by decide) _, hF4.step (fun _ h => h) (by decide) (by decide) _, hF9.step (fun _ h => h) (by decide) _, Fe.new (m9)⟩
          · rintro listed ac W ⟨xv, rfl, hb, hG, hF3, hF4, hF9, hF10⟩ hall
            have m10 : Hid ((IsOz wr.heap.size q l) (xv 10) W) := hF10 (hall 10 (by decide))
            have XW : Hid ((fun W => Below wr.heap.size wr W) W) := hb
            clear hall hG hb gk JS g0 g1 g2 g3 g4 g5 g6 g7 g8 g9 g10 hF3 st3 hF4 st4 hF9 st9 hF10 st10
            obtain ⟨a5, k5, e10, ho5⟩ := m10.out
            rw [e10]
            clear m10 e10
            have O5 : Hid (OwnZ wr.heap.size W (.slice a5 q k5) q l) := ho5
            have G5 : Hid (IsGr W gp rp S n q A vp rows) := HG.out.below XW.out
            have B5 : Hid (Below w.heap.size w W) := below_on HB.out XW.out
            have P5 : Hid (FiveB W w.heap.size n B q E F) := HP.out.below XW.out
            clear XW HG HB HP CR HC CA BX
            obtain ⟨lb, lc, el, -, hlc, hlm⟩ := owned_shape ho5 hq1
            injection el with e1 _ e3
            subst e1; subst e3
            unfold maxLen at hlm
            have Z5 : Hid (Zs W (.slice (some ⟨lb, 0, none⟩) q k5) l) := ho5.zs
            clear ho5 O5
            go_wp2_with fail
            refine (oof_yes gp rp S n q A i vp rows _ G5.out OK.out hlt).mono ?_
            rintro e w6 ⟨a6, k6, rfl, ho6, hb6⟩
            rw [HL.out] at ho6
            have O6 : Hid (Zs w6 (.slice a6 q k6) l) := ho6.zs
            have Z6 : Hid (Zs w6 (.slice (some ⟨lb, 0, none⟩) q k5) l) := Z5.out.below hb6
            have G6 : Hid (IsGr w6 gp rp S n q A vp rows) := G5.out.below hb6
            have B6 : Hid (Below w.heap.size w w6) := below_on B5.out hb6
            have P6 : Hid (FiveB w6 w.heap.size n B q E F) := P5.out.below hb6
            clear ho6 hb6 G5 B5 P5 Z5
            go_wp2_with fail
            refine (same9_any _ _ l l _ O6.out Z6.out).mono ?_
            rintro e w7 ⟨rfl, hb7⟩
            rw [sameI_self]
            have Z7 : Hid (Zs w7 (.slice (some ⟨lb, 0, none⟩) q k5) l) := Z6.out.below hb7
            have G7 : Hid (IsGr w7 gp rp S n q A vp rows) := G6.out.below hb7
            have B7 : Hid (Below w.heap.size w w7) := below_on B6.out hb7
            have P7 : Hid (FiveB w7 w.heap.size n B q E F) := P6.out.below hb7
            have HLq : Hid (l.length = q) := by unfold Hid; rw [← HL.out]; exact HLen.out i
            have HLm : Hid (∀ x ∈ l, 0 ≤ x ∧ x < (A : Int)) := by intro x hx; rw [← HL.out] at hx; exact ofD_mem hx
            clear hb7 G6 B6 P6 Z6 O6
            go_wp2
            go_loopw [74] (fun kv wr => ∃ k : Nat, k ≤ q ∧ kv = .int .i64 k ∧ Hid (Zs wr (.slice (some ⟨lb, 0, none⟩) q k5) l) ∧ Hid (IsGr wr gp rp S n q A vp rows) ∧ Hid (Below w.heap.size w wr) ∧ Hid (FiveB wr w.heap.size n B q E F)) (fun kv _ => q - (intOf kv).toNat)
            case atStart => exact ⟨0, by omega, rfl, Z7, G7, B7, P7⟩
            case round =>
              clear Z7 G7 B7 P7
              obtain ⟨k, hkq, rfl, HZ, HG, HB, HP⟩ := hrel
              by_cases hlk : k < q
              · have hkl : k < l.length := by rw [HLq.out]; exact hlk
                have hmem := List.getElem_mem hkl
                have hrg := HLm.out l[k] hmem
                obtain ⟨x, hx⟩ : ∃ x : Nat, l[k] = (x : Int) := ⟨l[k].toNat, by omega⟩
                have hxA : x < A := by omega
                have hck : wr.cell? ⟨lb, k, none⟩ = some (.int .i64 (x : Int)) := by
                  obtain ⟨-, hz⟩ := zs_cells HZ.out
                  rcases hz with h0 | ⟨b, off, e, hc⟩
                  · rw [HLq.out] at h0
                    omega
                  · injection e with e
                    injection e with e1 e2 _
                    subst e1; subst e2
                    have := hc k hkl
                    rw [Nat.zero_add] at this
                    rw [this]
                    simp [List.getD, hkl, hx]
                have hxr : x < rows.length := by rw [HRL.out]; exact hxA
                obtain ⟨r, hr⟩ : ∃ r, rows[x]? = some r := ⟨_, List.getElem?_eq_getElem hxr⟩
                have hro := HRow.out x r hr
                have Hin : Hid ((i : Int) ∈ r ++ [(n : Int) + (x : Int)]) := by
                  refine List.mem_append.2 (.inl ((hro.1.mem i).2 ⟨hlt, ?_⟩))
                  rw [HL.out, ← hx]
                  exact hmem
                have Hso : Hid ((r ++ [(n : Int) + (x : Int)]).Pairwise (· ≤ ·)) := eq_sorted hro.1
                obtain ⟨rn, hrn⟩ : ∃ rn, r.length = rn := ⟨_, rfl⟩
                have hrn60 : rn ≤ n := by rw [← hrn]; exact hro.2
                have CE : Hid (Calls Try.prog 33 #[.pointer (some ⟨gp, 0, none⟩), .int .i64 x] wr fun e w' => ∃ a c, e = .returned (.slice a (rn + 1) c) ∧ OwnZ wr.heap.size w' (.slice a (rn + 1) c) (rn + 1) (r ++ [(n : Int) + (x : Int)]) ∧ Below wr.heap.size wr w') := oeq_yes gp rp S n q A x rn vp rows r wr HG.out (by omega) hA hr hrn (by omega)
                have HRN : Hid (r.length = rn) := hrn
                clear hmem hrg hx hkl hxr hr hro hrn
                go_wp2_with fail
                refine CE.out.mono ?_
                rintro e w8 ⟨a8, k8, rfl, ho8, hb8⟩
                have O8 : Hid (Zs w8 (.slice a8 (rn + 1) k8) (r ++ [(n : Int) + (x : Int)])) := ho8.zs
                have Z8 : Hid (Zs w8 (.slice (some ⟨lb, 0, none⟩) q k5) l) := HZ.out.below hb8
                have G8 : Hid (IsGr w8 gp rp S n q A vp rows) := HG.out.below hb8
                have B8 : Hid (Below w.heap.size w w8) := below_on HB.out hb8
                have P8 : Hid (FiveB w8 w.heap.size n B q E F) := HP.out.below hb8
                clear ho8 hb8 HZ HG HB HP CE hck
                have CH : Hid (Calls Try.prog 19 #[.slice a8 (rn + 1) k8, .int .i64 i] w8 fun e w' => e = .returned (.bool true) ∧ Below w8.heap.size w8 w') := by
                  have := shas_any i _ _ w8 O8.out (by rw [List.length_append, HRN.out]; simp; omega) Hso.out
                  rw [decide_eq_true Hin.out] at this
                  exact this
                clear Hin Hso O8
                go_wp2_with fail
                refine CH.out.mono ?_
                rintro e w9 ⟨rfl, hb9⟩
                have Z9 : Hid (Zs w9 (.slice (some ⟨lb, 0, none⟩) q k5) l) := Z8.out.below hb9
                have G9 : Hid (IsGr w9 gp rp S n q A vp rows) := G8.out.below hb9
                have B9 : Hid (Below w.heap.size w w9) := below_on B8.out hb9
                have P9 : Hid (FiveB w9 w.heap.size n B q E F) := P8.out.below hb9
                clear hb9 Z8 G8 B8 P8 CH
                go_wp2
                go_roundw
                case rel => exact ⟨k + 1, by omega, by go_num, Z9, G9, B9, P9⟩
                case measure => simp [intOf]; omega
              · clear HZ
                go_wp2
                go_roundw
                case rel => exact ⟨i + 1, by omega, by go_num, HG, HB, HP⟩
                case measure => simp [intOf]; omega
        · go_wp2_with fail
          refine (oaux_any gp rp S n q A vp rows _ HG.out).mono ?_
          rintro e w5 ⟨rfl, rfl⟩
          have HB0 : Hid (Below w.heap.size w w5) := HB
          go_wp2
          go_loopw [88, 7] (fun jv pv wr => ∃ j p : Nat, j ≤ A ∧ jv = .int .i64 j ∧ pv = .int .i64 p ∧ p ≤ j * 61 ∧ Hid (p = totalTo rows j + j) ∧ Hid (IsGr wr gp rp S n q A vp rows) ∧ Hid (Below w.heap.size w wr) ∧ Hid (FiveB wr w.heap.size n B q E F)) (fun jv _ _ => A - (intOf jv).toNat)
          case atStart => exact ⟨0, 0, by omega, rfl, rfl, by omega, by unfold Hid; rw [totalTo_zero], HG, HB, HP⟩
          case round =>
            clear HG HB HP HB0
            obtain ⟨j, p, hjA, rfl, rfl, hp61, HPj, HG, HB, HP⟩ := hrel
            by_cases hjl : j < A
            · have hjr : j < rows.length := by rw [HRL.out]; exact hjl
              obtain ⟨r, hr⟩ : ∃ r, rows[j]? = some r := ⟨_, List.getElem?_eq_getElem hjr⟩
              have hro := HRow.out j r hr
              have Hin : Hid ((n : Int) + (j : Int) ∈ r ++ [(n : Int) + (j : Int)]) := List.mem_append.2 (.inr (by simp))
              have Hso : Hid ((r ++ [(n : Int) + (j : Int)]).Pairwise (· ≤ ·)) := eq_sorted hro.1
              obtain ⟨rn, hrn⟩ : ∃ rn, r.length = rn := ⟨_, rfl⟩
              have hrn60 : rn ≤ 60 := by have := hro.2; omega
              have HPn : Hid (p + (rn + 1) = totalTo rows (j + 1) + (j + 1)) := by
                have := totalTo_next hr
                have e := HPj.out
                unfold Hid
                omega
              have CE : Hid (Calls Try.prog 33 #[.pointer (some ⟨gp, 0, none⟩), .int .i64 j] wr fun e w' => ∃ a c, e = .returned (.slice a (rn + 1) c) ∧ OwnZ wr.heap.size w' (.slice a (rn + 1) c) (rn + 1) (r ++ [(n : Int) + (j : Int)]) ∧ Below wr.heap.size wr w') := oeq_yes gp rp S n q A j rn vp rows r wr HG.out (by omega) hA hr hrn (by omega)
              have HRN : Hid (r.length = rn) := hrn
              clear hjr hr hro hrn
              go_wp2_with fail
              refine CE.out.mono ?_
              rintro e w8 ⟨a8, k8, rfl, ho8, hb8⟩
              have O8 : Hid (Zs w8 (.slice a8 (rn + 1) k8) (r ++ [(n : Int) + (j : Int)])) := ho8.zs
              have G8 : Hid (IsGr w8 gp rp S n q A vp rows) := HG.out.below hb8
              have B8 : Hid (Below w.heap.size w w8) := below_on HB.out hb8
              have P8 : Hid (FiveB w8 w.heap.size n B q E F) := HP.out.below hb8
              clear ho8 hb8 HG HB HP CE
              have CH : Hid (Calls Try.prog 19 #[.slice a8 (rn + 1) k8, .int .i64 ((n : Int) + (j : Int))] w8 fun e w' => e = .returned (.bool true) ∧ Below w8.heap.size w8 w') := by
                have := shas_any ((n : Int) + (j : Int)) _ _ w8 O8.out (by rw [List.length_append, HRN.out]; simp; omega) Hso.out
                rw [decide_eq_true Hin.out] at this
                exact this
              clear Hin Hso O8
              obtain ⟨c0, c1, c2, c3, c4⟩ := P8.out.five
              go_wp2_with fail
              refine CH.out.mono ?_
              rintro e w9 ⟨rfl, hb9⟩
              have G9 : Hid (IsGr w9 gp rp S n q A vp rows) := G8.out.below hb9
              have B9 : Hid (Below w.heap.size w w9) := below_on B8.out hb9
              have P9 : Hid (FiveB w9 w.heap.size n B q E F) := P8.out.below hb9
              clear hb9 G8 B8 P8 CH c0 c1 c2 c3 c4
              go_wp2
              go_roundw
              case rel => exact ⟨j + 1, p + (rn + 1), by omega, by go_num, int_val (by omega), by omega, HPn, G9, B9, P9⟩
              case measure => simp [intOf]; omega
            · obtain rfl : j = A := by omega
              have HPE : Hid (p = n * q + j) := by
                unfold Hid
                rw [HPj.out, totalTo_all (by rw [HRL.out]; omega), HTot.out]
              obtain ⟨nq, hnq⟩ : ∃ nq, n * q = nq := ⟨_, rfl⟩
              have hnq2 : (n : Int) * (q : Int) = (nq : Int) := by rw [← hnq]; simp
              have hnq3 : nq ≤ 480 := by rw [← hnq]; exact Nat.mul_le_mul h60 hq8
              have E1 : Hid (IntKind.i64.wrap ((n : Int) * (q : Int)) = (nq : Int)) := by unfold Hid; rw [hnq2, IntKind.wrap_i64]; omega
              have HPF : Hid (p = nq + j) := by rw [← hnq]; exact HPE
              obtain rfl := HPF.out
              have CA : Hid (∀ W, Below wr.heap.size wr W → Calls Try.prog 26 #[.pointer (some ⟨gp, 0, none⟩)] W fun e w' => ∃ v, e = .returned v ∧ IsV (.int .i64 (j : Int)) v w' ∧ Below W.heap.size W w') := by
                intro W hW
                refine (oaux_any gp rp S n q j vp rows W (HG.out.below hW)).mono ?_
                rintro e w' ⟨rfl, rfl⟩
                exact ⟨_, rfl, rfl, Below.refl _ _⟩
              have BX : Hid (∀ W, Below wr.heap.size wr W → Five W w.heap.size n B q E F) := fun W hW => (HP.out.below hW).five
              clear hnq HPE HPF HPj HG HP hnq2
              go_upto_region 31 with fail
              refine wp_region_any (by kernel_rfl) ?_
              obtain ⟨gs, hgs⟩ : ∃ gs : List (Value → World → Prop), gs = [IsV (Value.int IntKind.i64 ↑(nq + j)), IsV (.pointer (some ⟨w.heap.size, 0, none⟩)), IsV (.int .i64 (n : Int)), IsV (.pointer (some ⟨w.heap.size, 2, none⟩)), IsV (.int .i64 (q : Int)), IsV (.int .i64 (nq : Int)), IsV (Value.pointer (some { block := gp, off := 0 })), IsV (.int .i64 (j : Int)), IsV (.int .i64 ((nq : Int) + (j : Int))), IsV (.bool true), IsV (.bool true)] := ⟨_, rfl⟩
              have g0 : Hid (gs[0]? = some (IsV (Value.int IntKind.i64 ↑(nq + j)))) := by unfold Hid; rw [hgs]; rfl
              have g1 : Hid (gs[1]? = some (IsV (.pointer (some ⟨w.heap.size, 0, none⟩)))) := by unfold Hid; rw [hgs]; rfl
              have g2 : Hid (gs[2]? = some (IsV (.int .i64 (n : Int)))) := by unfold Hid; rw [hgs]; rfl
              have g3 : Hid (gs[3]? = some (IsV (.pointer (some ⟨w.heap.size, 2, none⟩)))) := by unfold Hid; rw [hgs]; rfl
              have g4 : Hid (gs[4]? = some (IsV (.int .i64 (q : Int)))) := by unfold Hid; rw [hgs]; rfl
              have g5 : Hid (gs[5]? = some (IsV (.int .i64 (nq : Int)))) := by unfold Hid; rw [hgs]; rfl
              have g6 : Hid (gs[6]? = some (IsV (Value.pointer (some { block := gp, off := 0 })))) := by unfold Hid; rw [hgs]; rfl
              have g7 : Hid (gs[7]? = some (IsV (.int .i64 (j : Int)))) := by unfold Hid; rw [hgs]; rfl
              have g8 : Hid (gs[8]? = some (IsV (.int .i64 ((nq : Int) + (j : Int))))) := by unfold Hid; rw [hgs]; rfl
              have g9 : Hid (gs[9]? = some (IsV (.bool true))) := by unfold Hid; rw [hgs]; rfl
              have g10 : Hid (gs[10]? = some (IsV (.bool true))) := by unfold Hid; rw [hgs]; rfl
              have gk : Hid (∀ p ∈ gs, Stays p) := by
                unfold Hid
                rw [hgs]
                simp only [List.forall_mem_cons]
                exact ⟨stays_v _, stays_v _, stays_v _, stays_v _, stays_v _, stays_v _, stays_v _, stays_v _, stays_v _, stays_v _, stays_v _, by simp⟩
              clear hgs
              refine wpAny_inv (fun listed ac Wc => ∃ xvc : Nat → Value, ac = ⟨#[Value.agg #[Value.int IntKind.i64 ↑n, Value.int IntKind.i64 B, Value.int IntKind.i64 ↑q, Value.int IntKind.i64 E, Value.int IntKind.i64 F], Value.int IntKind.u64 ↑S, Value.pointer (some { block := w.heap.size, off := 0 }), undef, xvc 10, Value.pointer (some { block := gp, off := 0 }), Value.int IntKind.i64 (0 : Int), Value.int IntKind.i64 ↑(nq + j), u8, u9, undef, u11, u12, u13, Value.tuple #[Value.pointer (some { block := g, off := 0 }), Value.int IntKind.i64 (0 : Int)], Value.agg #[Value.int IntKind.i64 (1 : Int), Value.int IntKind.i64 (1 : Int), Value.int IntKind.i64 (1 : Int), Value.int IntKind.i64 (1000 : Int), Value.int IntKind.i64 (2 : Int)], Value.tuple #[Value.pointer (some { block := g, off := 0 }), Value.int IntKind.i64 (0 : Int)], Value.pointer (some { block := g, off := 0 }), Value.int IntKind.i64 (0 : Int), Value.int IntKind.i64 (0 : Int), Value.bool false, Value.bool false, Value.pointer (some { block := g, off := 0 }), Value.bool false, Value.bool false, Value.bool false, Value.pointer (some { block := g, off := 0 }), Value.slice a2 2 k2, Value.int IntKind.i64 (2 : Int), Value.bool false, Value.bool false, Value.agg #[Value.int IntKind.i64 ↑n, Value.int IntKind.i64 B, Value.int IntKind.i64 ↑q, Value.int IntKind.i64 E, Value.int IntKind.i64 F], Value.bool true, Value.bool false, Value.bool false, Value.pointer (some { block := w.heap.size, off := 0 }), Value.int IntKind.i64 ↑n, Value.bool (decide ((60 : Int) < ↑n)), Value.bool (decide ((60 : Int) < ↑n)), Value.tuple #[Value.pointer (some { block := gp, off := 0 }), Value.int IntKind.i64 (0 : Int)], Value.agg #[Value.int IntKind.i64 ↑n, Value.int IntKind.i64 B, Value.int IntKind.i64 ↑q, Value.int IntKind.i64 E, Value.int IntKind.i64 F], Value.int IntKind.u64 ↑S, Value.tuple #[Value.pointer (some { block := gp, off := 0 }), Value.int IntKind.i64 (0 : Int)], Value.pointer (some { block := gp, off := 0 }), Value.int IntKind.i64 (0 : Int), Value.int IntKind.i64 (0 : Int), Value.bool false, Value.bool false, Value.pointer (some { block := gp, off := 0 }), Value.bool false, Value.bool false, Value.pointer (some { block := w.heap.size, off := 0 }), Value.int IntKind.i64 ↑n, Value.int IntKind.i64 ↑i, Value.bool false, u55, u56, u57, u58, u59, u60, u61, u62, u63, u64, u65, u66, u67, u68, u69, u70, u71, u72, u73, u74, u75, u76, u77, u78, u79, u80, u81, u82, u83, u84, u85, Value.pointer (some { block := gp, off := 0 }), Value.int IntKind.i64 ↑j, Value.int IntKind.i64 ↑j, Value.bool false, u90, u91, u92, u93, u94, u95, u96, u97, u98, u99, u100, u101, u102, u103, u104, u105, xvc 0, xvc 1, xvc 2, xvc 3, xvc 4, xvc 5, xvc 6, xvc 7, xvc 8, xvc 9], []⟩ ∧ Below wr.heap.size wr Wc ∧ Lst gs listed xvc Wc) (by kernel_rfl) ?_ ?_ _ _ _ _ (by kernel_rfl) (of_decide_eq_true (by kernel_rfl)) ⟨fun j => if j = 10 then u4 else undef, rfl, below0 _, Lst.start _ _ _ _⟩
              · rintro listed ac Wc ⟨xvc, rfl, hb, hG⟩ i hi hd
                have hin : i < 11 := hi
                clear hi
                have hcase : i = 0 ∨ i = 1 ∨ i = 2 ∨ i = 3 ∨ i = 4 ∨ i = 5 ∨ i = 6 ∨ i = 7 ∨ i = 8 ∨ i = 9 ∨ i = 10 := by omega
                rcases hcase with rfl | rfl | rfl | rfl | rfl | rfl | rfl | rfl | rfl | rfl | rfl
                · refine wpOp_step rfl (fun K' hK => ?_)
                  clear hd hin
                  go_simp
                  exact hK _ _ ⟨updV xvc 0 (Value.int IntKind.i64 ↑(nq + j)), by simp [updV], hb, hG.same gk.out g0.out _ rfl⟩
                · refine wpOp_step rfl (fun K' hK => ?_)
                  clear hd hin
                  go_simp
                  exact hK _ _ ⟨updV xvc 1 (.pointer (some ⟨w.heap.size, 0, none⟩)), by simp [updV], hb, hG.same gk.out g1.out _ rfl⟩
                · refine wpOp_step rfl (fun K' hK => ?_)
                  simp [Region.binds] at hd
                  have e1 : xvc 1 = .pointer (some ⟨w.heap.size, 0, none⟩) := hG.get g1.out (by simp [hd])
                  obtain ⟨c0, c1, c2, c3, c4⟩ := BX.out Wc hb
                  clear hd hin
                  go_simp
                  exact hK _ _ ⟨updV xvc 2 (.int .i64 (n : Int)), by simp [updV, e1], hb, hG.same gk.out g2.out _ rfl⟩
                · refine wpOp_step rfl (fun K' hK => ?_)
                  clear hd hin
                  go_simp
                  exact hK _ _ ⟨updV xvc 3 (.pointer (some ⟨w.heap.size, 2, none⟩)), by simp [updV], hb, hG.same gk.out g3.out _ rfl⟩
                · refine wpOp_step rfl (fun K' hK => ?_)
                  simp [Region.binds] at hd
                  have e3 : xvc 3 = .pointer (some ⟨w.heap.size, 2, none⟩) := hG.get g3.out (by simp [hd])
                  obtain ⟨c0, c1, c2, c3, c4⟩ := BX.out Wc hb
                  clear hd hin
                  go_simp
                  exact hK _ _ ⟨updV xvc 4 (.int .i64 (q : Int)), by simp [updV, e3], hb, hG.same gk.out g4.out _ rfl⟩
                · refine wpOp_step rfl (fun K' hK => ?_)
                  simp [Region.binds] at hd
                  have e2 : xvc 2 = .int .i64 (n : Int) := hG.get g2.out (by simp [hd])
                  have e4 : xvc 4 = .int .i64 (q : Int) := hG.get g4.out (by simp [hd])
                  have wr := E1.out
                  clear hd hin
                  go_simp
                  exact hK _ _ ⟨updV xvc 5 (.int .i64 (nq : Int)), by simp [updV, e2, e4], hb, hG.same gk.out g5.out _ rfl⟩
                · refine wpOp_step rfl (fun K' hK => ?_)
                  clear hd hin
                  go_simp
                  exact hK _ _ ⟨updV xvc 6 (Value.pointer (some { block := gp, off := 0 })), by simp [updV], hb, hG.same gk.out g6.out _ rfl⟩
                · refine wpOp_step rfl (fun K' hK => ?_)
                  simp [Region.binds] at hd
                  have e6 : xvc 6 = Value.pointer (some { block := gp, off := 0 }) := hG.get g6.out (by simp [hd])
                  clear hd hin
                  go_simp
                  refine (CA.out Wc hb).mono ?_
                  rintro e w' ⟨v, rfl, hv, hb'⟩
                  go_wp2_with fail
                  exact ⟨updV xvc 7 v, by simp [updV, e6], hb.trans (hb'.mono hb.size), hG.step gk.out hb' g7.out v hv⟩
                · refine wpOp_step rfl (fun K' hK => ?_)
                  simp [Region.binds] at hd
                  have e5 : xvc 5 = .int .i64 (nq : Int) := hG.get g5.out (by simp [hd])
                  have e7 : xvc 7 = .int .i64 (j : Int) := hG.get g7.out (by simp [hd])
                  have wr : IntKind.i64.wrap ((nq : Int) + (j : Int)) = (nq : Int) + (j : Int) := by rw [IntKind.wrap_i64]; omega
                  clear hd hin
                  go_simp
                  exact hK _ _ ⟨updV xvc 8 (.int .i64 ((nq : Int) + (j : Int))), by simp [updV, e5, e7], hb, hG.same gk.out g8.out _ rfl⟩
                · refine wpOp_step rfl (fun K' hK => ?_)
                  simp [Region.binds] at hd
                  have e0 : xvc 0 = Value.int IntKind.i64 ↑(nq + j) := hG.get g0.out (by simp [hd])
                  have e8 : xvc 8 = .int .i64 ((nq : Int) + (j : Int)) := hG.get g8.out (by simp [hd])
                  clear hd hin
                  go_simp
                  exact hK _ _ ⟨updV xvc 9 (.bool true), by simp [updV, e0, e8], hb, hG.same gk.out g9.out _ rfl⟩
                · refine wpOp_step rfl (fun K' hK => ?_)
                  simp [Region.binds] at hd
                  have e9 : xvc 9 = .bool true := hG.get g9.out (by simp [hd])
                  clear hd hin
                  go_simp
                  exact hK _ _ ⟨updV xvc 10 (.bool true), by simp [updV, e9], hb, hG.same gk.out g10.out _ rfl⟩
              · rintro listed ac Wc ⟨xvc, rfl, hb, hG⟩ hall
                have e10 : xvc 10 = .bool true := hG.get g10.out (hall 10 (by decide))
                have XW : Hid (Below wr.heap.size wr Wc) := hb
                clear hall hG hb gk g0 g1 g2 g3 g4 g5 g6 g7 g8 g9 g10
                rw [e10]
                clear e10
                have BF : Hid (Below w.heap.size w Wc) := below_on HB.out XW.out
                clear XW
                go_wp2
                go_ret
                exact ⟨rfl, BF.out⟩
    · go_wp2
      go_ret
      exact ⟨rfl, B3.out⟩
  · have MP : Hid (∀ W, Calls Try.prog 24 #[.agg #[.int .i64 N, .int .i64 B, .int .i64 Q, .int .i64 E, .int .i64 F]] W fun e w' => e = .returned (.bool false) ∧ Below W.heap.size W w') := fun W => rmay_no N B Q E F W hp
    clear hp
    go_wp2_with fail
    refine (MP.out _).mono ?_
    rintro e w3 ⟨rfl, hb3⟩
    have B3 : Hid (Below w.heap.size w w3) := below_on B2.out hb3
    clear hb3
    go_wp2
    go_ret
    exact ⟨rfl, B3.out⟩

theorem wholeOuter_law (N B Q E F : Int) (S : Int) (w : World) (h : Ok .i64 N ∧ Ok .i64 B ∧ Ok .i64 Q ∧ Ok .i64 E ∧ Ok .i64 F) (hS : (Lit.int .u64 S).wf = true) :
    Calls Try.prog 10 #[.agg #[.int .i64 N, .int .i64 B, .int .i64 Q, .int .i64 E, .int .i64 F], .int .u64 S] w fun e w' => e = .returned (.bool true) ∧ Below w.heap.size w w' := by
  simp [Lit.wf, IntKind.min, IntKind.max, IntKind.bits, IntKind.signed] at hS
  obtain ⟨s, rfl⟩ : ∃ s : Nat, S = s := ⟨S.toNat, by omega⟩
  exact wholeOuter_walk N B Q E F s w (by omega)

end Go.Proofs.Ythlladpappldbaa
