/-
  outer: Equation; the document's Of.
-/
import Derived.Test.YthlladpappldbaaOutA
import Derived.Test.YthlladpappldbaaLIntsB
import Derived.Test.YthlladpappldbaaParB
namespace Go.Proofs.Ythlladpappldbaa
open Go.RowKit
set_option linter.unusedVariables false

set_option maxRecDepth 100000 in
set_option maxHeartbeats 1000000 in
/-- EQUATION: a row, and N and its number behind it. -/
theorem oeq_yes (g ro S N Q A j n : Nat) (vs : List Value) (rows : List (List Int)) (l : List Int) (w : World) (h : IsGr w g ro S N Q A vs rows) (hN : N ≤ 1048576) (hA : A ≤ 16777216) (hl : rows[j]? = some l) (hn : l.length = n) (hn2 : n ≤ 1000000) :
    Calls Try.prog 33 #[.pointer (some ⟨g, 0, none⟩), .int .i64 j] w fun e w' => ∃ a c, e = .returned (.slice a (n + 1) c) ∧ OwnZ w.heap.size w' (.slice a (n + 1) c) (n + 1) (l ++ [(N : Int) + (j : Int)]) ∧ Below w.heap.size w w' := by
  have hj : j < A := by
    have := (List.getElem?_eq_some_iff.1 hl).1
    rw [h.lr] at this
    exact this
  have CA : Hid (Calls Try.prog 26 #[.pointer (some ⟨g, 0, none⟩)] w fun e w' => e = .returned (.int .i64 (A : Int)) ∧ w' = w) := oaux_any g ro S N Q A vs rows w h
  have CH : Hid (∀ W, Below w.heap.size w W → Calls Try.prog 32 #[.pointer (some ⟨g, 0, none⟩), .int .i64 j] W fun e w' => ∃ v, e = .returned v ∧ IsOz w.heap.size n l v w' ∧ Below W.heap.size W w') := by
    intro W hW
    refine (ohas_yes g ro S N Q A j n vs rows l W (h.below hW) hA hl hn (by omega)).mono ?_
    rintro e w' ⟨a, c, rfl, ho, hb⟩
    exact ⟨_, rfl, ⟨a, c, rfl, ho.mono hW.size⟩, hb⟩
  have BX : Hid (∀ W, Below w.heap.size w W → W.cell? ⟨g, 0, none⟩ = some (.int .u64 (S : Int)) ∧ W.cell? ⟨g, 1, none⟩ = some (.int .i64 (N : Int))) := fun W hW => ⟨(hW.cell (cell_block_lt h.c0)).trans h.c0, (hW.cell (cell_block_lt h.c1)).trans h.c1⟩
  clear h hl hn
  have hw8 : IntKind.i64.wrap ((N : Int) + (j : Int)) = (N : Int) + (j : Int) := by rw [IntKind.wrap_i64]; omega
  go_enter Try.func33, Try.ntmps33
  go_upto_region 3 with fail
  refine CA.out.mono ?_
  rintro e w1 ⟨rfl, rfl⟩
  clear CA
  go_upto_region 3 with fail
  have hjG : ¬ A ≤ j := by omega
  refine wp_region_any (by kernel_rfl) ?_
  obtain ⟨gs, hgs⟩ : ∃ gs : List (Value → World → Prop), gs = [IsV (Value.pointer (some { block := g, off := 0 })), IsV (Value.int IntKind.i64 ↑j), IsAnyV, IsV (Value.pointer (some { block := g, off := 0 })), IsV (Value.pointer (some { block := g, off := 0 })), IsV (.pointer (some ⟨g, 1, none⟩)), IsV (.int .i64 (N : Int)), IsV (Value.int IntKind.i64 ↑j), IsV (.int .i64 ((N : Int) + (j : Int))), IsAnyV, IsAnyV, IsAnyV] := ⟨_, rfl⟩
  have g0 : Hid (gs[0]? = some (IsV (Value.pointer (some { block := g, off := 0 })))) := by unfold Hid; rw [hgs]; rfl
  have g1 : Hid (gs[1]? = some (IsV (Value.int IntKind.i64 ↑j))) := by unfold Hid; rw [hgs]; rfl
  have g2 : Hid (gs[2]? = some (IsAnyV)) := by unfold Hid; rw [hgs]; rfl
  have g3 : Hid (gs[3]? = some (IsV (Value.pointer (some { block := g, off := 0 })))) := by unfold Hid; rw [hgs]; rfl
  have g4 : Hid (gs[4]? = some (IsV (Value.pointer (some { block := g, off := 0 })))) := by unfold Hid; rw [hgs]; rfl
  have g5 : Hid (gs[5]? = some (IsV (.pointer (some ⟨g, 1, none⟩)))) := by unfold Hid; rw [hgs]; rfl
  have g6 : Hid (gs[6]? = some (IsV (.int .i64 (N : Int)))) := by unfold Hid; rw [hgs]; rfl
  have g7 : Hid (gs[7]? = some (IsV (Value.int IntKind.i64 ↑j))) := by unfold Hid; rw [hgs]; rfl
  have g8 : Hid (gs[8]? = some (IsV (.int .i64 ((N : Int) + (j : Int))))) := by unfold Hid; rw [hgs]; rfl
  have g9 : Hid (gs[9]? = some (IsAnyV)) := by unfold Hid; rw [hgs]; rfl
  have g10 : Hid (gs[10]? = some (IsAnyV)) := by unfold Hid; rw [hgs]; rfl
  have g11 : Hid (gs[11]? = some (IsAnyV)) := by unfold Hid; rw [hgs]; rfl
  have gk : Hid (∀ p ∈ gs, ∀ v (U U' : World), p v U → p v U') := by
    unfold Hid
    rw [hgs]
    simp only [List.forall_mem_cons]
    exact ⟨(fun _ _ _ h => h), (fun _ _ _ h => h), (fun _ _ _ h => h), (fun _ _ _ h => h), (fun _ _ _ h => h), (fun _ _ _ h => h), (fun _ _ _ h => h), (fun _ _ _ h => h), (fun _ _ _ h => h), (fun _ _ _ h => h), (fun _ _ _ h => h), (fun _ _ _ h => h), by simp⟩
  clear hgs
  have JS : Hid (∀ W W', Below W.heap.size W W' → (fun W => Below w1.heap.size w1 W) W → (fun W => Below w1.heap.size w1 W) W') := fun W W' hb h => h.trans (hb.mono h.size)
  have st2 : Hid (Stays (IsOz w1.heap.size n l)) := stays_oz _ _ _
  have st9 : Hid (Stays (IsZ1 ((N : Int) + (j : Int)))) := stays_z1 _
  have st10 : Hid (Stays (IsOz w1.heap.size (n + 1) (l ++ [(N : Int) + (j : Int)]))) := stays_oz _ _ _
  have st11 : Hid (Stays (IsOz w1.heap.size (n + 1) (l ++ [(N : Int) + (j : Int)]))) := stays_oz _ _ _
  refine wpAny_inv4 (fun listed ac W => ∃ xv : Nat → Value, ac = ⟨#[Value.pointer (some { block := g, off := 0 }), Value.int IntKind.i64 ↑j, undef, undef, xv 11, Value.int IntKind.i64 ↑j, Value.bool (decide (↑j < (0 : Int))), Value.bool (decide (↑j < (0 : Int))), Value.int IntKind.i64 ↑j, Value.pointer (some { block := g, off := 0 }), Value.int IntKind.i64 ↑A, Value.bool (decide (A ≤ j)), Value.bool (decide (↑j < (0 : Int)) || decide (A ≤ j)), xv 0, xv 1, xv 2, xv 3, xv 4, xv 5, xv 6, xv 7, xv 8, xv 9, xv 10], []⟩ ∧ (fun W => Below w1.heap.size w1 W) W ∧ Lst gs listed xv W ∧ Fd listed xv W 2 10 (IsOz w1.heap.size n l) ∧ Fd listed xv W 9 10 (IsZ1 ((N : Int) + (j : Int))) ∧ Fe listed xv W 10 (IsOz w1.heap.size (n + 1) (l ++ [(N : Int) + (j : Int)])) ∧ Fe listed xv W 11 (IsOz w1.heap.size (n + 1) (l ++ [(N : Int) + (j : Int)]))) (by kernel_rfl) ?_ ?_ _ _ _ _ (by kernel_rfl) (of_decide_eq_true (by kernel_rfl)) (Down.start _) ⟨fun j => if j = 11 then Value.slice none 0 0 else undef, rfl, below0 _, Lst.start _ _ _ _, Fd.start _ _ _ _ _ _, Fd.start _ _ _ _ _ _, Fe.start _ _ _ _ _, Fe.start _ _ _ _ _⟩
  · rintro listed ac W ⟨xv, rfl, hb, hG, hF2, hF9, hF10, hF11⟩ hD i hi hnl hd
    have hin : i < 12 := hi
    clear hi
    have hcase : i = 0 ∨ i = 1 ∨ i = 2 ∨ i = 3 ∨ i = 4 ∨ i = 5 ∨ i = 6 ∨ i = 7 ∨ i = 8 ∨ i = 9 ∨ i = 10 ∨ i = 11 := by omega
    rcases hcase with rfl | rfl | rfl | rfl | rfl | rfl | rfl | rfl | rfl | rfl | rfl | rfl
    · refine wpOp_step rfl (fun K' hK => ?_)
      clear hd hin hD
      go_simp
      exact hK _ _ ⟨updV xv 0 (Value.pointer (some { block := g, off := 0 })), by simp [updV, hjG], hb, hG.any gk.out g0.out _ rfl, hF2.step (fun _ h => h) (by decide) (by decide) _, hF9.step (fun _ h => h) (by decide) (by decide) _, hF10.step (fun _ h => h) (by decide) _, hF11.step (fun _ h => h) (by decide) _⟩
    · refine wpOp_step rfl (fun K' hK => ?_)
      clear hd hin hD
      go_simp
      exact hK _ _ ⟨updV xv 1 (Value.int IntKind.i64 ↑j), by simp [updV, hjG], hb, hG.any gk.out g1.out _ rfl, hF2.step (fun _ h => h) (by decide) (by decide) _, hF9.step (fun _ h => h) (by decide) (by decide) _, hF10.step (fun _ h => h) (by decide) _, hF11.step (fun _ h => h) (by decide) _⟩
    · refine wpOp_step rfl (fun K' hK => ?_)
      simp [Region.binds] at hd
      have e0 : xv 0 = Value.pointer (some { block := g, off := 0 }) := hG.get g0.out (by simp [hd])
      have e1 : xv 1 = Value.int IntKind.i64 ↑j := hG.get g1.out (by simp [hd])
      clear hd hin hD
      go_simp
      refine (CH.out W hb).mono ?_
      rintro e w' ⟨v, rfl, hv, hb'⟩
      go_wp2_with fail
      exact ⟨updV xv 2 v, by simp [updV, e0, e1, hjG], JS.out _ _ hb' hb, hG.any gk.out g2.out v trivial, Fd.new (hv), hF9.on st9.out hb' (by decide) (by decide) _, hF10.on st10.out hb' (by decide) _, hF11.on st11.out hb' (by decide) _⟩
    · refine wpOp_step rfl (fun K' hK => ?_)
      clear hd hin hD
      go_simp
      exact hK _ _ ⟨updV xv 3 (Value.pointer (some { block := g, off := 0 })), by simp [updV, hjG], hb, hG.any gk.out g3.out _ rfl, hF2.step (fun _ h => h) (by decide) (by decide) _, hF9.step (fun _ h => h) (by decide) (by decide) _, hF10.step (fun _ h => h) (by decide) _, hF11.step (fun _ h => h) (by decide) _⟩
    · refine wpOp_step rfl (fun K' hK => ?_)
      simp [Region.binds] at hd
      have e3 : xv 3 = Value.pointer (some { block := g, off := 0 }) := hG.get g3.out (by simp [hd])
      clear hd hin hD
      go_simp
      exact hK _ _ ⟨updV xv 4 (Value.pointer (some { block := g, off := 0 })), by simp [updV, e3, hjG], hb, hG.any gk.out g4.out _ rfl, hF2.step (fun _ h => h) (by decide) (by decide) _, hF9.step (fun _ h => h) (by decide) (by decide) _, hF10.step (fun _ h => h) (by decide) _, hF11.step (fun _ h => h) (by decide) _⟩
    · refine wpOp_step rfl (fun K' hK => ?_)
      simp [Region.binds] at hd
      have e4 : xv 4 = Value.pointer (some { block := g, off := 0 }) := hG.get g4.out (by simp [hd])
      clear hd hin hD
      go_simp
      exact hK _ _ ⟨updV xv 5 (.pointer (some ⟨g, 1, none⟩)), by simp [updV, e4, hjG], hb, hG.any gk.out g5.out _ rfl, hF2.step (fun _ h => h) (by decide) (by decide) _, hF9.step (fun _ h => h) (by decide) (by decide) _, hF10.step (fun _ h => h) (by decide) _, hF11.step (fun _ h => h) (by decide) _⟩
    · refine wpOp_step rfl (fun K' hK => ?_)
      simp [Region.binds] at hd
      have e5 : xv 5 = .pointer (some ⟨g, 1, none⟩) := hG.get g5.out (by simp [hd])
      obtain ⟨c0, c1⟩ := BX.out W hb
      clear hd hin hD
      go_simp
      exact hK _ _ ⟨updV xv 6 (.int .i64 (N : Int)), by simp [updV, e5, hjG], hb, hG.any gk.out g6.out _ rfl, hF2.step (fun _ h => h) (by decide) (by decide) _, hF9.step (fun _ h => h) (by decide) (by decide) _, hF10.step (fun _ h => h) (by decide) _, hF11.step (fun _ h => h) (by decide) _⟩
    · refine wpOp_step rfl (fun K' hK => ?_)
      clear hd hin hD
      go_simp
      exact hK _ _ ⟨updV xv 7 (Value.int IntKind.i64 ↑j), by simp [updV, hjG], hb, hG.any gk.out g7.out _ rfl, hF2.step (fun _ h => h) (by decide) (by decide) _, hF9.step (fun _ h => h) (by decide) (by decide) _, hF10.step (fun _ h => h) (by decide) _, hF11.step (fun _ h => h) (by decide) _⟩
    · refine wpOp_step rfl (fun K' hK => ?_)
      simp [Region.binds] at hd
      have e6 : xv 6 = .int .i64 (N : Int) := hG.get g6.out (by simp [hd])
      have e7 : xv 7 = Value.int IntKind.i64 ↑j := hG.get g7.out (by simp [hd])
      clear hd hin hD
      go_simp
      exact hK _ _ ⟨updV xv 8 (.int .i64 ((N : Int) + (j : Int))), by simp [updV, e6, e7, hjG], hb, hG.any gk.out g8.out _ rfl, hF2.step (fun _ h => h) (by decide) (by decide) _, hF9.step (fun _ h => h) (by decide) (by decide) _, hF10.step (fun _ h => h) (by decide) _, hF11.step (fun _ h => h) (by decide) _⟩
    · refine wpOp_step rfl (fun K' hK => ?_)
      simp [Region.binds] at hd
      have e8 : xv 8 = .int .i64 ((N : Int) + (j : Int)) := hG.get g8.out (by simp [hd])
      clear hd hin hD
      go_simp
      exact hK _ _ ⟨updV xv 9 (.slice (some ⟨W.heap.size, 0, none⟩) 1 1), by simp [updV, e8, hjG], JS.out _ _ (below_alloc _ _) hb, hG.any gk.out g9.out _ trivial, hF2.on st2.out (below_alloc _ _) (by decide) (by decide) _, Fd.new (zs_one _ _ _), hF10.on st10.out (below_alloc _ _) (by decide) _, hF11.on st11.out (below_alloc _ _) (by decide) _⟩
    · refine wpOp_step rfl (fun K' hK => ?_)
      simp [Region.binds] at hd
      have l2 : listed.getD 2 false = true := by simp [hd]
      have m2 := hF2.get l2 hnl
      have l9 : listed.getD 9 false = true := by simp [hd]
      have m9 := hF9.get l9 hnl
      have f11 : listed.getD 11 false = false := by
        cases hx : listed.getD 11 false with
        | false => rfl
        | true =>
          have r10 : listed.getD 10 false = true := by have h := hD 11 (by decide) hx; simp [Region.binds] at h; simp [h]
          rw [getD_false hnl] at r10; cases r10
      clear hd hin hD
      obtain ⟨a2, c2, e2, h2⟩ := m2
      refine step_addZ W rfl (.tmp 15) (.tmp 22) rfl w1.heap.size (.slice a2 n c2) n l e2 h2 _ 1 [(N : Int) + (j : Int)] rfl m9 (by omega) hb.size ?_
      intro ao cap w' hown hg hat hnc hcm
      exact hK _ _ ⟨updV xv 10 (.slice ao (n + 1) cap), by simp [updV, Act.put], hb.grown hg hb.size (fun k hk => (h2.lt k hk).1), hG.any gk.out g10.out _ trivial, Fd.off hnl, Fd.off hnl, Fe.new (⟨ao, cap, rfl, hown⟩), Fe.yet f11 (by decide) _⟩
    · refine wpOp_step rfl (fun K' hK => ?_)
      simp [Region.binds] at hd
      have l10 : listed.getD 10 false = true := by simp [hd]
      have m10 := hF10 l10
      clear hd hin hD
      go_simp
      exact hK _ _ ⟨updV xv 11 (xv 10), by simp [updV, hjG], hb, hG.any gk.out g11.out _ trivial, hF2.step (fun _ h => h) (by decide) (by decide) _, hF9.step (fun _ h => h) (by decide) (by decide) _, hF10.step (fun _ h => h) (by decide) _, Fe.new (m10)⟩
  · rintro listed ac W ⟨xv, rfl, hb, hG, hF2, hF9, hF10, hF11⟩ hall
    have m11 : Hid ((IsOz w1.heap.size (n + 1) (l ++ [(N : Int) + (j : Int)])) (xv 11) W) := hF11 (hall 11 (by decide))
    have XW : Hid ((fun W => Below w1.heap.size w1 W) W) := hb
    clear hall hG hb gk JS g0 g1 g2 g3 g4 g5 g6 g7 g8 g9 g10 g11 hF2 st2 hF9 st9 hF10 st10 hF11 st11
    obtain ⟨a, c, e11, ho⟩ := m11.out
    rw [e11]
    clear m11 e11
    have HO : Hid (OwnZ w1.heap.size W (.slice a (n + 1) c) (n + 1) (l ++ [(N : Int) + (j : Int)])) := ho
    clear ho
    go_wp2
    go_ret
    exact ⟨a, c, rfl, HO.out, XW.out⟩

set_option maxRecDepth 100000 in
set_option maxHeartbeats 400000 in
theorem oeq_no (g ro S N Q A : Nat) (i : Int) (vs : List Value) (rows : List (List Int)) (w : World) (h : IsGr w g ro S N Q A vs rows) (hi : i < 0 ∨ (A : Int) ≤ i) :
    Calls Try.prog 33 #[.pointer (some ⟨g, 0, none⟩), .int .i64 i] w fun e w' => e = .returned (.slice none 0 0) ∧ w' = w := by
  have CA : Hid (Calls Try.prog 26 #[.pointer (some ⟨g, 0, none⟩)] w fun e w' => e = .returned (.int .i64 (A : Int)) ∧ w' = w) := oaux_any g ro S N Q A vs rows w h
  clear h
  by_cases h0 : i < 0
  · clear hi
    go_enter Try.func33, Try.ntmps33
    go_wp2
    go_ret
    exact ⟨rfl, rfl⟩
  · have h2 : i ≥ (A : Int) := hi.resolve_left h0
    clear hi
    go_enter Try.func33, Try.ntmps33
    go_wp2_with fail
    refine CA.out.mono ?_
    rintro e w1 ⟨rfl, rfl⟩
    go_wp2
    go_ret
    exact ⟨rfl, rfl⟩

/-- Params that may be, and what is made of them. -/
structure PrOk (N B Q E F : Int) (n q A : Nat) : Prop where
  may : May N B Q E F
  en : N = (n : Int)
  eq : Q = (q : Int)
  ea : aux N Q E = (A : Int)

theorem PrOk.ok {N B Q E F : Int} {n q A : Nat} (h : PrOk N B Q E F n q A) {S : Nat} (hS : S < 18446744073709551616) : GrOk S n q A := by
  obtain ⟨h1, h2, h3, h4, h5, h6⟩ := h.may
  have r := aux_range h1 h3 h4
  have e1 := h.en
  have e2 := h.eq
  have e3 := h.ea
  exact ⟨hS, by omega, by omega, by omega, by omega, by omega, by omega⟩

theorem PrOk.of {N B Q E F : Int} (h : May N B Q E F) : ∃ n q A, PrOk N B Q E F n q A := by
  obtain ⟨h1, h2, h3, h4, h5, h6⟩ := h
  have r := aux_range h1 h3 h4
  exact ⟨N.toNat, Q.toNat, (aux N Q E).toNat, ⟨h1, h2, h3, h4, h5, h6⟩, by omega, by omega, by omega⟩

def IsTo (B t n : Nat) (l : List Int) : Value → World → Prop := fun v W => ∃ a c, v = .tuple #[.int .u64 (t : Int), .slice a n c] ∧ OwnZ B W (.slice a n c) n l
theorem stays_to (B t n : Nat) (l : List Int) : Stays (IsTo B t n l) := fun _ _ _ hb ⟨a, c, h1, h2⟩ => ⟨a, c, h1, h2.below hb⟩

set_option maxRecDepth 100000 in
set_option maxHeartbeats 1000000 in
/-- The document's Of. -/
theorem rof_any (N B Q E F : Int) (n q A S i : Nat) (w : World) (h : PrOk N B Q E F n q A) (hS : S < 18446744073709551616) (hi : i ≤ 1048576) (hA : A ≤ 1000000) :
    Calls Try.prog 29 #[.agg #[.int .i64 N, .int .i64 B, .int .i64 Q, .int .i64 E, .int .i64 F], .int .u64 S, .int .i64 i] w fun e w' => ∃ a c, e = .returned (.slice a q c) ∧ OwnZ w.heap.size w' (.slice a q c) q (ofD S A q i) ∧ Below w.heap.size w w' := by
  have ok := h.ok hS
  have HS : Hid (S < 18446744073709551616) := hS
  obtain ⟨t, l, hT⟩ : ∃ t l, someD (seedTo 0 [S, 1, i]) (A : Int) (q : Int) = (t, l) := ⟨_, _, rfl⟩
  have HL : Hid (ofD S A q i = l) := by unfold Hid ofD; rw [hT]
  have hk : howMany (A : Int) (q : Int) = q := by
    have := ok.q1
    have := ok.qa
    unfold howMany
    split <;> omega
  have CS : Hid (∀ W, Below w.heap.size w W → Calls Try.prog 14 #[.int .u64 (seedTo 0 [S, 1, i] : Nat), .int .i64 A, .int .i64 Q] W fun e w' => ∃ v, e = .returned v ∧ IsTo w.heap.size t q l v w' ∧ Below W.heap.size W w') := by
    intro W hW
    rw [h.eq]
    refine (rsome_any (seedTo 0 [S, 1, i]) A q W (by omega) q hk t l hT).mono ?_
    rintro e w' ⟨a, c, rfl, ho, hb⟩
    exact ⟨_, rfl, ⟨a, c, rfl, ho.mono hW.size⟩, hb⟩
  have CU : Hid (∀ W v, Below w.heap.size w W → IsUs [S, 1, i] v W → Calls Try.prog 13 #[v] W fun e w' => ∃ v, e = .returned v ∧ IsV (.int .u64 (seedTo 0 [S, 1, i] : Nat)) v w' ∧ Below W.heap.size W w') := by
    intro W v hW hv
    refine (rseed_any v _ W hv).mono ?_
    rintro e w' ⟨rfl, rfl⟩
    exact ⟨_, rfl, rfl, Below.refl _ _⟩
  have CA : Hid (∀ W, Below w.heap.size w W → Calls Try.prog 27 #[.agg #[.int .i64 N, .int .i64 B, .int .i64 Q, .int .i64 E, .int .i64 F]] W fun e w' => ∃ v, e = .returned v ∧ IsV (.int .i64 (A : Int)) v w' ∧ Below W.heap.size W w') := by
    intro W hW
    refine (raux_any N B Q E F W h.may.1 h.may.2.2.1 h.may.2.2.2.1).mono ?_
    rintro e w' ⟨rfl, hb⟩
    exact ⟨_, rfl, by rw [h.ea]; rfl, hb⟩
  clear hT hk ok h hS
  generalize seedTo 0 [S, 1, i] = s at *
  have hwi : IntKind.u64.wrap (i : Int) = (i : Int) := by rw [IntKind.wrap_u64]; omega
  have BX : Hid (∀ W, Below (w.alloc (.cells #[.int .i64 N, .int .i64 B, .int .i64 Q, .int .i64 E, .int .i64 F] 43)).heap.size (w.alloc (.cells #[.int .i64 N, .int .i64 B, .int .i64 Q, .int .i64 E, .int .i64 F] 43)) W → Five W w.heap.size N B Q E F) := fun W hW => (five_new w _ N B Q E F).below hW
  have B1 : Hid (Below w.heap.size w (w.alloc (.cells #[.int .i64 N, .int .i64 B, .int .i64 Q, .int .i64 E, .int .i64 F] 43))) := below_alloc _ _
  go_enter Try.func29, Try.ntmps29
  go_upto_region 1 with fail
  generalize w.alloc (.cells #[.int .i64 N, .int .i64 B, .int .i64 Q, .int .i64 E, .int .i64 F] 43) = w1 at *
  refine wp_region_any (by kernel_rfl) ?_
  obtain ⟨gs, hgs⟩ : ∃ gs : List (Value → World → Prop), gs = [IsV (Value.int IntKind.u64 ↑S), IsV (Value.int IntKind.i64 ↑i), IsV (.int .u64 (i : Int)), IsAnyV, IsV (.int .u64 (s : Int)), IsV (.agg #[.int .i64 N, .int .i64 B, .int .i64 Q, .int .i64 E, .int .i64 F]), IsV (.int .i64 (A : Int)), IsV (.pointer (some ⟨w.heap.size, 2, none⟩)), IsV (.int .i64 Q), IsAnyV, IsAnyV, IsV (.int .u64 (t : Int)), IsAnyV, IsV (.int .u64 (t : Int)), IsAnyV] := ⟨_, rfl⟩
  have g0 : Hid (gs[0]? = some (IsV (Value.int IntKind.u64 ↑S))) := by unfold Hid; rw [hgs]; rfl
  have g1 : Hid (gs[1]? = some (IsV (Value.int IntKind.i64 ↑i))) := by unfold Hid; rw [hgs]; rfl
  have g2 : Hid (gs[2]? = some (IsV (.int .u64 (i : Int)))) := by unfold Hid; rw [hgs]; rfl
  have g3 : Hid (gs[3]? = some (IsAnyV)) := by unfold Hid; rw [hgs]; rfl
  have g4 : Hid (gs[4]? = some (IsV (.int .u64 (s : Int)))) := by unfold Hid; rw [hgs]; rfl
  have g5 : Hid (gs[5]? = some (IsV (.agg #[.int .i64 N, .int .i64 B, .int .i64 Q, .int .i64 E, .int .i64 F]))) := by unfold Hid; rw [hgs]; rfl
  have g6 : Hid (gs[6]? = some (IsV (.int .i64 (A : Int)))) := by unfold Hid; rw [hgs]; rfl
  have g7 : Hid (gs[7]? = some (IsV (.pointer (some ⟨w.heap.size, 2, none⟩)))) := by unfold Hid; rw [hgs]; rfl
  have g8 : Hid (gs[8]? = some (IsV (.int .i64 Q))) := by unfold Hid; rw [hgs]; rfl
  have g9 : Hid (gs[9]? = some (IsAnyV)) := by unfold Hid; rw [hgs]; rfl
  have g10 : Hid (gs[10]? = some (IsAnyV)) := by unfold Hid; rw [hgs]; rfl
  have g11 : Hid (gs[11]? = some (IsV (.int .u64 (t : Int)))) := by unfold Hid; rw [hgs]; rfl
  have g12 : Hid (gs[12]? = some (IsAnyV)) := by unfold Hid; rw [hgs]; rfl
  have g13 : Hid (gs[13]? = some (IsV (.int .u64 (t : Int)))) := by unfold Hid; rw [hgs]; rfl
  have g14 : Hid (gs[14]? = some (IsAnyV)) := by unfold Hid; rw [hgs]; rfl
  have gk : Hid (∀ p ∈ gs, ∀ v (U U' : World), p v U → p v U') := by
    unfold Hid
    rw [hgs]
    simp only [List.forall_mem_cons]
    exact ⟨(fun _ _ _ h => h), (fun _ _ _ h => h), (fun _ _ _ h => h), (fun _ _ _ h => h), (fun _ _ _ h => h), (fun _ _ _ h => h), (fun _ _ _ h => h), (fun _ _ _ h => h), (fun _ _ _ h => h), (fun _ _ _ h => h), (fun _ _ _ h => h), (fun _ _ _ h => h), (fun _ _ _ h => h), (fun _ _ _ h => h), (fun _ _ _ h => h), by simp⟩
  clear hgs
  have JS : Hid (∀ W W', Below W.heap.size W W' → (fun W => Below w1.heap.size w1 W) W → (fun W => Below w1.heap.size w1 W) W') := fun W W' hb h => h.trans (hb.mono h.size)
  have st3 : Hid (Stays (IsUs [S, 1, i])) := stays_us _
  have st9 : Hid (Stays (IsTo w.heap.size t q l)) := stays_to _ _ _ _
  have st10 : Hid (Stays (IsTo w.heap.size t q l)) := stays_to _ _ _ _
  have st12 : Hid (Stays (IsOz w.heap.size q l)) := stays_oz _ _ _
  have st14 : Hid (Stays (IsOz w.heap.size q l)) := stays_oz _ _ _
  refine wpAny_inv4 (fun listed ac W => ∃ xv : Nat → Value, ac = ⟨#[Value.agg #[Value.int IntKind.i64 N, Value.int IntKind.i64 B, Value.int IntKind.i64 Q, Value.int IntKind.i64 E, Value.int IntKind.i64 F], Value.int IntKind.u64 ↑S, Value.int IntKind.i64 ↑i, Value.pointer (some { block := w.heap.size, off := 0 }), undef, undef, Value.slice none 0 0, xv 13, xv 14, xv 10, xv 0, xv 1, xv 2, xv 3, xv 4, xv 5, xv 6, xv 7, xv 8, xv 9, xv 11, xv 12, undef], []⟩ ∧ (fun W => Below w1.heap.size w1 W) W ∧ Lst gs listed xv W ∧ Fd listed xv W 3 4 (IsUs [S, 1, i]) ∧ Fe listed xv W 9 (IsTo w.heap.size t q l) ∧ Fe listed xv W 10 (IsTo w.heap.size t q l) ∧ Fe listed xv W 12 (IsOz w.heap.size q l) ∧ Fe listed xv W 14 (IsOz w.heap.size q l)) (by kernel_rfl) ?_ ?_ _ _ _ _ (by kernel_rfl) (of_decide_eq_true (by kernel_rfl)) (Down.start _) ⟨fun j => undef, rfl, below0 _, Lst.start _ _ _ _, Fd.start _ _ _ _ _ _, Fe.start _ _ _ _ _, Fe.start _ _ _ _ _, Fe.start _ _ _ _ _, Fe.start _ _ _ _ _⟩
  · rintro listed ac W ⟨xv, rfl, hb, hG, hF3, hF9, hF10, hF12, hF14⟩ hD i hi hnl hd
    have hin : i < 15 := hi
    clear hi
    have hcase : i = 0 ∨ i = 1 ∨ i = 2 ∨ i = 3 ∨ i = 4 ∨ i = 5 ∨ i = 6 ∨ i = 7 ∨ i = 8 ∨ i = 9 ∨ i = 10 ∨ i = 11 ∨ i = 12 ∨ i = 13 ∨ i = 14 := by omega
    rcases hcase with rfl | rfl | rfl | rfl | rfl | rfl | rfl | rfl | rfl | rfl | rfl | rfl | rfl | rfl | rfl
    · refine wpOp_step rfl (fun K' hK => ?_)
      clear hd hin hD
      go_simp
      exact hK _ _ ⟨updV xv 0 (Value.int IntKind.u64 ↑S), by simp [updV], hb, hG.any gk.out g0.out _ rfl, hF3.step (fun _ h => h) (by decide) (by decide) _, hF9.step (fun _ h => h) (by decide) _, hF10.step (fun _ h => h) (by decide) _, hF12.step (fun _ h => h) (by decide) _, hF14.step (fun _ h => h) (by decide) _⟩
    · refine wpOp_step rfl (fun K' hK => ?_)
      clear hd hin hD
      go_simp
      exact hK _ _ ⟨updV xv 1 (Value.int IntKind.i64 ↑i), by simp [updV], hb, hG.any gk.out g1.out _ rfl, hF3.step (fun _ h => h) (by decide) (by decide) _, hF9.step (fun _ h => h) (by decide) _, hF10.step (fun _ h => h) (by decide) _, hF12.step (fun _ h => h) (by decide) _, hF14.step (fun _ h => h) (by decide) _⟩
    · refine wpOp_step rfl (fun K' hK => ?_)
      simp [Region.binds] at hd
      have e1 : xv 1 = Value.int IntKind.i64 ↑i := hG.get g1.out (by simp [hd])
      clear hd hin hD
      go_simp
      exact hK _ _ ⟨updV xv 2 (.int .u64 (i : Int)), by simp [updV, e1], hb, hG.any gk.out g2.out _ rfl, hF3.step (fun _ h => h) (by decide) (by decide) _, hF9.step (fun _ h => h) (by decide) _, hF10.step (fun _ h => h) (by decide) _, hF12.step (fun _ h => h) (by decide) _, hF14.step (fun _ h => h) (by decide) _⟩
    · refine wpOp_step rfl (fun K' hK => ?_)
      simp [Region.binds] at hd
      have e0 : xv 0 = Value.int IntKind.u64 ↑S := hG.get g0.out (by simp [hd])
      have e2 : xv 2 = .int .u64 (i : Int) := hG.get g2.out (by simp [hd])
      clear hd hin hD
      go_simp
      exact hK _ _ ⟨updV xv 3 (.slice (some ⟨W.heap.size, 0, none⟩) 3 3), by simp [updV, e0, e2], JS.out _ _ (below_alloc _ _) hb, hG.any gk.out g3.out _ trivial, Fd.new (us_lit3 _ _ S 1 i HS.out (by decide) (by omega) _ rfl), hF9.on st9.out (below_alloc _ _) (by decide) _, hF10.on st10.out (below_alloc _ _) (by decide) _, hF12.on st12.out (below_alloc _ _) (by decide) _, hF14.on st14.out (below_alloc _ _) (by decide) _⟩
    · refine wpOp_step rfl (fun K' hK => ?_)
      simp [Region.binds] at hd
      have l3 : listed.getD 3 false = true := by simp [hd]
      have m3 := hF3.get l3 hnl
      clear hd hin hD
      go_simp
      refine (CU.out W _ (below_on B1.out hb) m3).mono ?_
      rintro e w' ⟨v, rfl, hv, hb'⟩
      go_wp2_with fail
      exact ⟨updV xv 4 v, by simp [updV], JS.out _ _ hb' hb, hG.any gk.out g4.out v hv, Fd.off hnl, hF9.on st9.out hb' (by decide) _, hF10.on st10.out hb' (by decide) _, hF12.on st12.out hb' (by decide) _, hF14.on st14.out hb' (by decide) _⟩
    · refine wpOp_step rfl (fun K' hK => ?_)
      obtain ⟨c0, c1, c2, c3, c4⟩ := BX.out W hb
      clear hd hin hD
      go_simp
      exact hK _ _ ⟨updV xv 5 (.agg #[.int .i64 N, .int .i64 B, .int .i64 Q, .int .i64 E, .int .i64 F]), by simp [updV], hb, hG.any gk.out g5.out _ rfl, hF3.step (fun _ h => h) (by decide) (by decide) _, hF9.step (fun _ h => h) (by decide) _, hF10.step (fun _ h => h) (by decide) _, hF12.step (fun _ h => h) (by decide) _, hF14.step (fun _ h => h) (by decide) _⟩
    · refine wpOp_step rfl (fun K' hK => ?_)
      simp [Region.binds] at hd
      have e5 : xv 5 = .agg #[.int .i64 N, .int .i64 B, .int .i64 Q, .int .i64 E, .int .i64 F] := hG.get g5.out (by simp [hd])
      clear hd hin hD
      go_simp
      refine (CA.out W (below_on B1.out hb)).mono ?_
      rintro e w' ⟨v, rfl, hv, hb'⟩
      go_wp2_with fail
      exact ⟨updV xv 6 v, by simp [updV, e5], JS.out _ _ hb' hb, hG.any gk.out g6.out v hv, hF3.on st3.out hb' (by decide) (by decide) _, hF9.on st9.out hb' (by decide) _, hF10.on st10.out hb' (by decide) _, hF12.on st12.out hb' (by decide) _, hF14.on st14.out hb' (by decide) _⟩
    · refine wpOp_step rfl (fun K' hK => ?_)
      clear hd hin hD
      go_simp
      exact hK _ _ ⟨updV xv 7 (.pointer (some ⟨w.heap.size, 2, none⟩)), by simp [updV], hb, hG.any gk.out g7.out _ rfl, hF3.step (fun _ h => h) (by decide) (by decide) _, hF9.step (fun _ h => h) (by decide) _, hF10.step (fun _ h => h) (by decide) _, hF12.step (fun _ h => h) (by decide) _, hF14.step (fun _ h => h) (by decide) _⟩
    · refine wpOp_step rfl (fun K' hK => ?_)
      simp [Region.binds] at hd
      have e7 : xv 7 = .pointer (some ⟨w.heap.size, 2, none⟩) := hG.get g7.out (by simp [hd])
      obtain ⟨c0, c1, c2, c3, c4⟩ := BX.out W hb
      clear hd hin hD
      go_simp
      exact hK _ _ ⟨updV xv 8 (.int .i64 Q), by simp [updV, e7], hb, hG.any gk.out g8.out _ rfl, hF3.step (fun _ h => h) (by decide) (by decide) _, hF9.step (fun _ h => h) (by decide) _, hF10.step (fun _ h => h) (by decide) _, hF12.step (fun _ h => h) (by decide) _, hF14.step (fun _ h => h) (by decide) _⟩
    · refine wpOp_step rfl (fun K' hK => ?_)
      simp [Region.binds] at hd
      have e4 : xv 4 = .int .u64 (s : Int) := hG.get g4.out (by simp [hd])
      have e6 : xv 6 = .int .i64 (A : Int) := hG.get g6.out (by simp [hd])
      have e8 : xv 8 = .int .i64 Q := hG.get g8.out (by simp [hd])
      clear hd hin hD
      go_simp
      refine (CS.out W (below_on B1.out hb)).mono ?_
      rintro e w' ⟨v, rfl, hv, hb'⟩
      go_wp2_with fail
      exact ⟨updV xv 9 v, by simp [updV, e4, e6, e8], JS.out _ _ hb' hb, hG.any gk.out g9.out v trivial, hF3.on st3.out hb' (by decide) (by decide) _, Fe.new (hv), hF10.on st10.out hb' (by decide) _, hF12.on st12.out hb' (by decide) _, hF14.on st14.out hb' (by decide) _⟩
    · refine wpOp_step rfl (fun K' hK => ?_)
      simp [Region.binds] at hd
      have l9 : listed.getD 9 false = true := by simp [hd]
      have m9 := hF9 l9
      clear hd hin hD
      go_simp
      exact hK _ _ ⟨updV xv 10 (xv 9), by simp [updV], hb, hG.any gk.out g10.out _ trivial, hF3.step (fun _ h => h) (by decide) (by decide) _, hF9.step (fun _ h => h) (by decide) _, Fe.new (m9), hF12.step (fun _ h => h) (by decide) _, hF14.step (fun _ h => h) (by decide) _⟩
    · refine wpOp_step rfl (fun K' hK => ?_)
      simp [Region.binds] at hd
      have l10 : listed.getD 10 false = true := by simp [hd]
      have m10 := hF10 l10
      clear hd hin hD
      obtain ⟨a, c, e10, h10⟩ := m10
      go_simp
      exact hK _ _ ⟨updV xv 11 (.int .u64 (t : Int)), by simp [updV, e10], hb, hG.any gk.out g11.out _ rfl, hF3.step (fun _ h => h) (by decide) (by decide) _, hF9.step (fun _ h => h) (by decide) _, hF10.step (fun _ h => h) (by decide) _, hF12.step (fun _ h => h) (by decide) _, hF14.step (fun _ h => h) (by decide) _⟩
    · refine wpOp_step rfl (fun K' hK => ?_)
      simp [Region.binds] at hd
      have l10 : listed.getD 10 false = true := by simp [hd]
      have m10 := hF10 l10
      clear hd hin hD
      obtain ⟨a, c, e10, h10⟩ := m10
      go_simp
      exact hK _ _ ⟨updV xv 12 (.slice a q c), by simp [updV, e10], hb, hG.any gk.out g12.out _ trivial, hF3.step (fun _ h => h) (by decide) (by decide) _, hF9.step (fun _ h => h) (by decide) _, hF10.step (fun _ h => h) (by decide) _, Fe.new (⟨a, c, rfl, h10⟩), hF14.step (fun _ h => h) (by decide) _⟩
    · refine wpOp_step rfl (fun K' hK => ?_)
      simp [Region.binds] at hd
      have e11 : xv 11 = .int .u64 (t : Int) := hG.get g11.out (by simp [hd])
      clear hd hin hD
      go_simp
      exact hK _ _ ⟨updV xv 13 (.int .u64 (t : Int)), by simp [updV, e11], hb, hG.any gk.out g13.out _ rfl, hF3.step (fun _ h => h) (by decide) (by decide) _, hF9.step (fun _ h => h) (by decide) _, hF10.step (fun _ h => h) (by decide) _, hF12.step (fun _ h => h) (by decide) _, hF14.step (fun _ h => h) (by decide) _⟩
    · refine wpOp_step rfl (fun K' hK => ?_)
      simp [Region.binds] at hd
      have l12 : listed.getD 12 false = true := by simp [hd]
      have m12 := hF12 l12
      clear hd hin hD
      go_simp
      exact hK _ _ ⟨updV xv 14 (xv 12), by simp [updV], hb, hG.any gk.out g14.out _ trivial, hF3.step (fun _ h => h) (by decide) (by decide) _, hF9.step (fun _ h => h) (by decide) _, hF10.step (fun _ h => h) (by decide) _, hF12.step (fun _ h => h) (by decide) _, Fe.new (m12)⟩
  · rintro listed ac W ⟨xv, rfl, hb, hG, hF3, hF9, hF10, hF12, hF14⟩ hall
    have e13 : xv 13 = .int .u64 (t : Int) := hG.get g13.out (hall 13 (by decide))
    have m14 : Hid ((IsOz w.heap.size q l) (xv 14) W) := hF14 (hall 14 (by decide))
    have XW : Hid ((fun W => Below w1.heap.size w1 W) W) := hb
    clear hall hG hb gk JS g0 g1 g2 g3 g4 g5 g6 g7 g8 g9 g10 g11 g12 g13 g14 hF3 st3 hF9 st9 hF10 st10 hF12 st12 hF14 st14
    rw [e13]
    clear e13
    obtain ⟨a, c, e14, ho⟩ := m14.out
    rw [e14]
    clear m14 e14
    have HO : Hid (OwnZ w.heap.size W (.slice a q c) q l) := ho
    clear ho
    go_wp2
    go_ret
    exact ⟨a, c, rfl, by rw [HL.out]; exact HO.out, below_on B1.out XW.out⟩

end Go.Proofs.Ythlladpappldbaa
