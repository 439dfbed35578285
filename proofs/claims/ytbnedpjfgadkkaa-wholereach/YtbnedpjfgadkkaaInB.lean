/-
  inner: the document's Blocks.
-/
import Derived.Test.YtbnedpjfgadkkaaInA
namespace Go.Proofs.Ytbnedpjfgadkkaa
open Go.RowKit
set_option linter.unusedVariables false

set_option maxRecDepth 100000 in
set_option maxHeartbeats 1000000 in
/-- The document's Blocks. -/
theorem rblocks_any (N B Q : Int) (E F S A id d k s0 s1 u : Nat) (w : World) (h : May N B Q (E : Nat) (F : Nat)) (hm : MayD F E) (hA : N + aux N Q (E : Nat) = (A : Int)) (hS : S < 18446744073709551616) (hid : id < 18446744073709551616)
    (H0 : Hid (seedTo 0 [S, 2, id] = s0)) (H1 : Hid (addS s0 = s1)) (H2 : Hid (mix s1 = u)) (hd : DegAt F E u d) (hk : howMany A d = k) (t' : Nat) (l : List Int) (HT : Hid (someD s1 A d = (t', l))) :
    Calls Try.prog 16 #[.agg #[.int .i64 N, .int .i64 B, .int .i64 Q, .int .i64 (E : Nat), .int .i64 (F : Nat)], .int .u64 S, .int .u64 id] w fun e w' => ∃ b c, e = .returned (.slice b k c) ∧ OwnZ w.heap.size w' (.slice b k c) k l ∧ Below w.heap.size w w' := by
  have hr := aux_range h.1 h.2.2.1 h.2.2.2.1
  have hA2 : A ≤ 16777216 := by have := h.1; omega
  have hd4 : d ≤ 4096 := by have := hd.hi; have := hm.f4; omega
  have hk2 : k ≤ 1000000 := by
    have : k ≤ d := by rw [← hk]; unfold howMany; split <;> omega
    omega
  have HS : Hid (S < 18446744073709551616) := hS
  have HI : Hid (id < 18446744073709551616) := hid
  have hwA : IntKind.i64.wrap (N + aux N Q (E : Nat)) = (A : Int) := by rw [hA, IntKind.wrap_i64]; omega
  have CU : Hid (∀ W v, Us W v [S, 2, id] → Calls Try.prog 31 #[v] W fun e w' => e = .returned (.int .u64 (s0 : Nat)) ∧ w' = W) := by
    intro W v hv
    have := rseed_any v _ W hv
    rw [H0.out] at this
    exact this
  have CN : Hid (∀ W, Calls Try.prog 30 #[.int .u64 (s0 : Nat)] W fun e w' => e = .returned (.tuple #[.int .u64 (s1 : Nat), .int .u64 (u : Nat)]) ∧ w' = W) := by
    intro W
    have := rref_next s0 W
    rw [H1.out, H2.out] at this
    exact this
  have CA : Hid (∀ W, Below w.heap.size w W → Calls Try.prog 17 #[.agg #[.int .i64 N, .int .i64 B, .int .i64 Q, .int .i64 (E : Nat), .int .i64 (F : Nat)]] W fun e w' => ∃ v, e = .returned v ∧ IsV (.int .i64 (aux N Q (E : Nat))) v w' ∧ Below W.heap.size W w') := by
    intro W hW
    refine (raux_any N B Q E F W h.1 h.2.2.1 h.2.2.2.1).mono ?_
    rintro e w' ⟨rfl, hb⟩
    exact ⟨_, rfl, rfl, hb⟩
  have CD : Hid (∀ W, Below w.heap.size w W → Calls Try.prog 33 #[.agg #[.int .i64 N, .int .i64 B, .int .i64 Q, .int .i64 (E : Nat), .int .i64 (F : Nat)], .int .u64 (u : Nat)] W fun e w' => ∃ v, e = .returned v ∧ IsV (.int .i64 (d : Int)) v w' ∧ Below W.heap.size W w') := by
    intro W hW
    refine (rdof_at hd N B Q W hm).mono ?_
    rintro e w' ⟨rfl, hb⟩
    exact ⟨_, rfl, rfl, hb⟩
  have CS : Hid (∀ W, Below w.heap.size w W → Calls Try.prog 32 #[.int .u64 (s1 : Nat), .int .i64 A, .int .i64 d] W fun e w' => ∃ v, e = .returned v ∧ IsTo w.heap.size t' k l v w' ∧ Below W.heap.size W w') := by
    intro W hW
    refine (rsome_big s1 A d W (by omega) k hk hk2 t' l HT).mono ?_
    rintro e w' ⟨a, c, rfl, ho, hb⟩
    exact ⟨_, rfl, ⟨a, c, rfl, ho.mono hW.size⟩, hb⟩
  have E1 : Hid (IntKind.i64.wrap (N + aux N Q (E : Nat)) = (A : Int)) := hwA
  clear h hm hA hS hid hd hk HT H0 H1 H2 hr hA2 hd4 hk2 hwA
  generalize aux N Q (E : Nat) = X at *
  have P0 : Hid (Five (w.alloc (.cells #[.int .i64 N, .int .i64 B, .int .i64 Q, .int .i64 (E : Int), .int .i64 (F : Int)] 23)) w.heap.size N B Q E F) := five_new w _ N B Q E F
  have B0 : Hid (Below w.heap.size w (w.alloc (.cells #[.int .i64 N, .int .i64 B, .int .i64 Q, .int .i64 (E : Int), .int .i64 (F : Int)] 23))) := below_alloc _ _
  go_enter Try.func16, Try.ntmps16
  go_upto_region 1 with fail
  generalize w.alloc (.cells #[.int .i64 N, .int .i64 B, .int .i64 Q, .int .i64 (E : Int), .int .i64 (F : Int)] 23) = w0 at *
  go_upto_region 2 with fail
  refine (CU.out _ _ (us_lit3 _ _ S 2 id HS.out (by decide) HI.out _ rfl)).mono ?_
  rintro e w1 ⟨rfl, rfl⟩
  clear CU
  have B3 : Hid (Below w.heap.size w (w0.alloc (.cells #[.int .u64 (S : Int), .int .u64 ((2 : Nat) : Int), .int .u64 (id : Int)] 24))) := below_on B0.out (below_alloc _ _)
  have P3 : Hid (Five (w0.alloc (.cells #[.int .u64 (S : Int), .int .u64 ((2 : Nat) : Int), .int .u64 (id : Int)] 24)) w.heap.size N B Q E F) := P0.out.below (below_alloc _ _)
  generalize w0.alloc (.cells #[.int .u64 (S : Int), .int .u64 ((2 : Nat) : Int), .int .u64 (id : Int)] 24) = w3 at *
  clear P0 B0
  have BX : Hid (∀ W, Below w3.heap.size w3 W → Five W w.heap.size N B Q E F) := fun W hW => P3.out.below hW
  go_upto_region 2 with fail
  refine (CN.out _).mono ?_
  rintro e w2 ⟨rfl, rfl⟩
  clear CN P3
  go_upto_region 2 with fail
  refine wp_region_any (by kernel_rfl) ?_
  obtain ⟨gs, hgs⟩ : ∃ gs : List (Value → World → Prop), gs = [IsV (Value.int IntKind.u64 ↑s1), IsV (.pointer (some ⟨w.heap.size, 0, none⟩)), IsV (.int .i64 N), IsV (.agg #[.int .i64 N, .int .i64 B, .int .i64 Q, .int .i64 (E : Int), .int .i64 (F : Int)]), IsV (.int .i64 X), IsV (.int .i64 (A : Int)), IsV (.agg #[.int .i64 N, .int .i64 B, .int .i64 Q, .int .i64 (E : Int), .int .i64 (F : Int)]), IsV (Value.int IntKind.u64 ↑u), IsV (.int .i64 (d : Int)), IsAnyV, IsAnyV, IsV (.int .u64 (t' : Int)), IsAnyV, IsV (.int .u64 (t' : Int)), IsAnyV] := ⟨_, rfl⟩
  have g0 : Hid (gs[0]? = some (IsV (Value.int IntKind.u64 ↑s1))) := by unfold Hid; rw [hgs]; rfl
  have g1 : Hid (gs[1]? = some (IsV (.pointer (some ⟨w.heap.size, 0, none⟩)))) := by unfold Hid; rw [hgs]; rfl
  have g2 : Hid (gs[2]? = some (IsV (.int .i64 N))) := by unfold Hid; rw [hgs]; rfl
  have g3 : Hid (gs[3]? = some (IsV (.agg #[.int .i64 N, .int .i64 B, .int .i64 Q, .int .i64 (E : Int), .int .i64 (F : Int)]))) := by unfold Hid; rw [hgs]; rfl
  have g4 : Hid (gs[4]? = some (IsV (.int .i64 X))) := by unfold Hid; rw [hgs]; rfl
  have g5 : Hid (gs[5]? = some (IsV (.int .i64 (A : Int)))) := by unfold Hid; rw [hgs]; rfl
  have g6 : Hid (gs[6]? = some (IsV (.agg #[.int .i64 N, .int .i64 B, .int .i64 Q, .int .i64 (E : Int), .int .i64 (F : Int)]))) := by unfold Hid; rw [hgs]; rfl
  have g7 : Hid (gs[7]? = some (IsV (Value.int IntKind.u64 ↑u))) := by unfold Hid; rw [hgs]; rfl
  have g8 : Hid (gs[8]? = some (IsV (.int .i64 (d : Int)))) := by unfold Hid; rw [hgs]; rfl
  have g9 : Hid (gs[9]? = some (IsAnyV)) := by unfold Hid; rw [hgs]; rfl
  have g10 : Hid (gs[10]? = some (IsAnyV)) := by unfold Hid; rw [hgs]; rfl
  have g11 : Hid (gs[11]? = some (IsV (.int .u64 (t' : Int)))) := by unfold Hid; rw [hgs]; rfl
  have g12 : Hid (gs[12]? = some (IsAnyV)) := by unfold Hid; rw [hgs]; rfl
  have g13 : Hid (gs[13]? = some (IsV (.int .u64 (t' : Int)))) := by unfold Hid; rw [hgs]; rfl
  have g14 : Hid (gs[14]? = some (IsAnyV)) := by unfold Hid; rw [hgs]; rfl
  have gk : Hid (∀ p ∈ gs, ∀ v (U U' : World), p v U → p v U') := by
    unfold Hid
    rw [hgs]
    simp only [List.forall_mem_cons]
    exact ⟨(fun _ _ _ h => h), (fun _ _ _ h => h), (fun _ _ _ h => h), (fun _ _ _ h => h), (fun _ _ _ h => h), (fun _ _ _ h => h), (fun _ _ _ h => h), (fun _ _ _ h => h), (fun _ _ _ h => h), (fun _ _ _ h => h), (fun _ _ _ h => h), (fun _ _ _ h => h), (fun _ _ _ h => h), (fun _ _ _ h => h), (fun _ _ _ h => h), by simp⟩
  clear hgs
  have JS : Hid (∀ W W', Below W.heap.size W W' → (fun W => Below w2.heap.size w2 W) W → (fun W => Below w2.heap.size w2 W) W') := fun W W' hb h => h.trans (hb.mono h.size)
  have st9 : Hid (Stays (IsTo w.heap.size t' k l)) := stays_to _ _ _ _
  have st10 : Hid (Stays (IsTo w.heap.size t' k l)) := stays_to _ _ _ _
  have st12 : Hid (Stays (IsOz w.heap.size k l)) := stays_oz _ _ _
  have st14 : Hid (Stays (IsOz w.heap.size k l)) := stays_oz _ _ _
  refine wpAny_inv4 (fun listed ac W => ∃ xv : Nat → Value, ac = ⟨#[Value.agg #[Value.int IntKind.i64 N, Value.int IntKind.i64 B, Value.int IntKind.i64 Q, Value.int IntKind.i64 ↑E, Value.int IntKind.i64 ↑F], Value.int IntKind.u64 ↑S, Value.int IntKind.u64 ↑id, Value.pointer (some { block := w.heap.size, off := 0 }), undef, undef, Value.slice none 0 0, Value.int IntKind.u64 ↑s1, Value.int IntKind.u64 ↑u, xv 13, xv 14, Value.tuple #[Value.int IntKind.u64 ↑s1, Value.int IntKind.u64 ↑u], Value.int IntKind.u64 ↑S, Value.int IntKind.u64 ↑id, Value.slice (some { block := w0.heap.size, off := 0 }) 3 3, Value.int IntKind.u64 ↑s0, Value.tuple #[Value.int IntKind.u64 ↑s1, Value.int IntKind.u64 ↑u], Value.int IntKind.u64 ↑s1, Value.int IntKind.u64 ↑u, xv 10, xv 0, xv 1, xv 2, xv 3, xv 4, xv 5, xv 6, xv 7, xv 8, xv 9, xv 11, xv 12, undef], []⟩ ∧ (fun W => Below w2.heap.size w2 W) W ∧ Lst gs listed xv W ∧ Fe listed xv W 9 (IsTo w.heap.size t' k l) ∧ Fe listed xv W 10 (IsTo w.heap.size t' k l) ∧ Fe listed xv W 12 (IsOz w.heap.size k l) ∧ Fe listed xv W 14 (IsOz w.heap.size k l)) (by kernel_rfl) ?_ ?_ _ _ _ _ (by kernel_rfl) (of_decide_eq_true (by kernel_rfl)) (Down.start _) ⟨fun jx => undef, rfl, below0 _, Lst.start _ _ _ _, Fe.start _ _ _ _ _, Fe.start _ _ _ _ _, Fe.start _ _ _ _ _, Fe.start _ _ _ _ _⟩
  · rintro listed ac W ⟨xv, rfl, hb, hG, hF9, hF10, hF12, hF14⟩ hD i hi hnl hd
    have hin : i < 15 := hi
    clear hi
    have hcase : i = 0 ∨ i = 1 ∨ i = 2 ∨ i = 3 ∨ i = 4 ∨ i = 5 ∨ i = 6 ∨ i = 7 ∨ i = 8 ∨ i = 9 ∨ i = 10 ∨ i = 11 ∨ i = 12 ∨ i = 13 ∨ i = 14 := by omega
    rcases hcase with rfl | rfl | rfl | rfl | rfl | rfl | rfl | rfl | rfl | rfl | rfl | rfl | rfl | rfl | rfl
    · refine wpOp_step rfl (fun K' hK => ?_)
      clear hd hin hD
      go_simp
      exact hK _ _ ⟨updV xv 0 (Value.int IntKind.u64 ↑s1), by simp [updV], hb, hG.any gk.out g0.out _ rfl, hF9.step (fun _ h => h) (by decide) _, hF10.step (fun _ h => h) (by decide) _, hF12.step (fun _ h => h) (by decide) _, hF14.step (fun _ h => h) (by decide) _⟩
    · refine wpOp_step rfl (fun K' hK => ?_)
      clear hd hin hD
      go_simp
      exact hK _ _ ⟨updV xv 1 (.pointer (some ⟨w.heap.size, 0, none⟩)), by simp [updV], hb, hG.any gk.out g1.out _ rfl, hF9.step (fun _ h => h) (by decide) _, hF10.step (fun _ h => h) (by decide) _, hF12.step (fun _ h => h) (by decide) _, hF14.step (fun _ h => h) (by decide) _⟩
    · refine wpOp_step rfl (fun K' hK => ?_)
      simp [Region.binds] at hd
      have e1 : xv 1 = .pointer (some ⟨w.heap.size, 0, none⟩) := hG.get g1.out (by simp [hd])
      obtain ⟨c0, c1, c2, c3, c4⟩ := BX.out W hb
      clear hd hin hD
      go_simp
      exact hK _ _ ⟨updV xv 2 (.int .i64 N), by simp [updV, e1], hb, hG.any gk.out g2.out _ rfl, hF9.step (fun _ h => h) (by decide) _, hF10.step (fun _ h => h) (by decide) _, hF12.step (fun _ h => h) (by decide) _, hF14.step (fun _ h => h) (by decide) _⟩
    · refine wpOp_step rfl (fun K' hK => ?_)
      obtain ⟨c0, c1, c2, c3, c4⟩ := BX.out W hb
      clear hd hin hD
      go_simp
      exact hK _ _ ⟨updV xv 3 (.agg #[.int .i64 N, .int .i64 B, .int .i64 Q, .int .i64 (E : Int), .int .i64 (F : Int)]), by simp [updV], hb, hG.any gk.out g3.out _ rfl, hF9.step (fun _ h => h) (by decide) _, hF10.step (fun _ h => h) (by decide) _, hF12.step (fun _ h => h) (by decide) _, hF14.step (fun _ h => h) (by decide) _⟩
    · refine wpOp_step rfl (fun K' hK => ?_)
      simp [Region.binds] at hd
      have e3 : xv 3 = .agg #[.int .i64 N, .int .i64 B, .int .i64 Q, .int .i64 (E : Int), .int .i64 (F : Int)] := hG.get g3.out (by simp [hd])
      clear hd hin hD
      go_simp
      refine (CA.out W (below_on B3.out hb)).mono ?_
      rintro e w' ⟨v, rfl, hv, hb'⟩
      go_wp2_with fail
      exact ⟨updV xv 4 v, by simp [updV, e3], JS.out _ _ hb' hb, hG.any gk.out g4.out v hv, hF9.on st9.out hb' (by decide) _, hF10.on st10.out hb' (by decide) _, hF12.on st12.out hb' (by decide) _, hF14.on st14.out hb' (by decide) _⟩
    · refine wpOp_step rfl (fun K' hK => ?_)
      simp [Region.binds] at hd
      have e2 : xv 2 = .int .i64 N := hG.get g2.out (by simp [hd])
      have e4 : xv 4 = .int .i64 X := hG.get g4.out (by simp [hd])
      have wr := E1.out
      clear hd hin hD
      go_simp
      exact hK _ _ ⟨updV xv 5 (.int .i64 (A : Int)), by simp [updV, e2, e4], hb, hG.any gk.out g5.out _ rfl, hF9.step (fun _ h => h) (by decide) _, hF10.step (fun _ h => h) (by decide) _, hF12.step (fun _ h => h) (by decide) _, hF14.step (fun _ h => h) (by decide) _⟩
    · refine wpOp_step rfl (fun K' hK => ?_)
      obtain ⟨c0, c1, c2, c3, c4⟩ := BX.out W hb
      clear hd hin hD
      go_simp
      exact hK _ _ ⟨updV xv 6 (.agg #[.int .i64 N, .int .i64 B, .int .i64 Q, .int .i64 (E : Int), .int .i64 (F : Int)]), by simp [updV], hb, hG.any gk.out g6.out _ rfl, hF9.step (fun _ h => h) (by decide) _, hF10.step (fun _ h => h) (by decide) _, hF12.step (fun _ h => h) (by decide) _, hF14.step (fun _ h => h) (by decide) _⟩
    · refine wpOp_step rfl (fun K' hK => ?_)
      clear hd hin hD
      go_simp
      exact hK _ _ ⟨updV xv 7 (Value.int IntKind.u64 ↑u), by simp [updV], hb, hG.any gk.out g7.out _ rfl, hF9.step (fun _ h => h) (by decide) _, hF10.step (fun _ h => h) (by decide) _, hF12.step (fun _ h => h) (by decide) _, hF14.step (fun _ h => h) (by decide) _⟩
    · refine wpOp_step rfl (fun K' hK => ?_)
      simp [Region.binds] at hd
      have e6 : xv 6 = .agg #[.int .i64 N, .int .i64 B, .int .i64 Q, .int .i64 (E : Int), .int .i64 (F : Int)] := hG.get g6.out (by simp [hd])
      have e7 : xv 7 = Value.int IntKind.u64 ↑u := hG.get g7.out (by simp [hd])
      clear hd hin hD
      go_simp
      refine (CD.out W (below_on B3.out hb)).mono ?_
      rintro e w' ⟨v, rfl, hv, hb'⟩
      go_wp2_with fail
      exact ⟨updV xv 8 v, by simp [updV, e6, e7], JS.out _ _ hb' hb, hG.any gk.out g8.out v hv, hF9.on st9.out hb' (by decide) _, hF10.on st10.out hb' (by decide) _, hF12.on st12.out hb' (by decide) _, hF14.on st14.out hb' (by decide) _⟩
    · refine wpOp_step rfl (fun K' hK => ?_)
      simp [Region.binds] at hd
      have e0 : xv 0 = Value.int IntKind.u64 ↑s1 := hG.get g0.out (by simp [hd])
      have e5 : xv 5 = .int .i64 (A : Int) := hG.get g5.out (by simp [hd])
      have e8 : xv 8 = .int .i64 (d : Int) := hG.get g8.out (by simp [hd])
      clear hd hin hD
      go_simp
      refine (CS.out W (below_on B3.out hb)).mono ?_
      rintro e w' ⟨v, rfl, hv, hb'⟩
      go_wp2_with fail
      exact ⟨updV xv 9 v, by simp [updV, e0, e5, e8], JS.out _ _ hb' hb, hG.any gk.out g9.out v trivial, Fe.new (hv), hF10.on st10.out hb' (by decide) _, hF12.on st12.out hb' (by decide) _, hF14.on st14.out hb' (by decide) _⟩
    · refine wpOp_step rfl (fun K' hK => ?_)
      simp [Region.binds] at hd
      have l9 : listed.getD 9 false = true := by simp [hd]
      have m9 := hF9 l9
      clear hd hin hD
      go_simp
      exact hK _ _ ⟨updV xv 10 (xv 9), by simp [updV], hb, hG.any gk.out g10.out _ trivial, hF9.step (fun _ h => h) (by decide) _, Fe.new (m9), hF12.step (fun _ h => h) (by decide) _, hF14.step (fun _ h => h) (by decide) _⟩
    · refine wpOp_step rfl (fun K' hK => ?_)
      simp [Region.binds] at hd
      have l10 : listed.getD 10 false = true := by simp [hd]
      have m10 := hF10 l10
      clear hd hin hD
      obtain ⟨a, c, e10, h10⟩ := m10
      go_simp
      exact hK _ _ ⟨updV xv 11 (.int .u64 (t' : Int)), by simp [updV, e10], hb, hG.any gk.out g11.out _ rfl, hF9.step (fun _ h => h) (by decide) _, hF10.step (fun _ h => h) (by decide) _, hF12.step (fun _ h => h) (by decide) _, hF14.step (fun _ h => h) (by decide) _⟩
    · refine wpOp_step rfl (fun K' hK => ?_)
      simp [Region.binds] at hd
      have l10 : listed.getD 10 false = true := by simp [hd]
      have m10 := hF10 l10
      clear hd hin hD
      obtain ⟨a, c, e10, h10⟩ := m10
      go_simp
      exact hK _ _ ⟨updV xv 12 (.slice a k c), by simp [updV, e10], hb, hG.any gk.out g12.out _ trivial, hF9.step (fun _ h => h) (by decide) _, hF10.step (fun _ h => h) (by decide) _, Fe.new (⟨a, c, rfl, h10⟩), hF14.step (fun _ h => h) (by decide) _⟩
    · refine wpOp_step rfl (fun K' hK => ?_)
      simp [Region.binds] at hd
      have e11 : xv 11 = .int .u64 (t' : Int) := hG.get g11.out (by simp [hd])
      clear hd hin hD
      go_simp
      exact hK _ _ ⟨updV xv 13 (.int .u64 (t' : Int)), by simp [updV, e11], hb, hG.any gk.out g13.out _ rfl, hF9.step (fun _ h => h) (by decide) _, hF10.step (fun _ h => h) (by decide) _, hF12.step (fun _ h => h) (by decide) _, hF14.step (fun _ h => h) (by decide) _⟩
    · refine wpOp_step rfl (fun K' hK => ?_)
      simp [Region.binds] at hd
      have l12 : listed.getD 12 false = true := by simp [hd]
      have m12 := hF12 l12
      clear hd hin hD
      go_simp
      exact hK _ _ ⟨updV xv 14 (xv 12), by simp [updV], hb, hG.any gk.out g14.out _ trivial, hF9.step (fun _ h => h) (by decide) _, hF10.step (fun _ h => h) (by decide) _, hF12.step (fun _ h => h) (by decide) _, Fe.new (m12)⟩
  · rintro listed ac W ⟨xv, rfl, hb, hG, hF9, hF10, hF12, hF14⟩ hall
    have e13 : xv 13 = .int .u64 (t' : Int) := hG.get g13.out (hall 13 (by decide))
    have m14 : Hid ((IsOz w.heap.size k l) (xv 14) W) := hF14 (hall 14 (by decide))
    have XW : Hid ((fun W => Below w2.heap.size w2 W) W) := hb
    clear hall hG hb gk JS g0 g1 g2 g3 g4 g5 g6 g7 g8 g9 g10 g11 g12 g13 g14 hF9 st9 hF10 st10 hF12 st12 hF14 st14
    rw [e13]
    clear e13
    obtain ⟨a, c, e14, ho⟩ := m14.out
    rw [e14]
    clear m14 e14
    have HO : Hid (OwnZ w.heap.size W (.slice a k c) k l) := ho
    clear ho
    go_wp2
    go_ret
    exact ⟨a, c, rfl, HO.out, below_on B3.out XW.out⟩

end Go.Proofs.Ytbnedpjfgadkkaa
