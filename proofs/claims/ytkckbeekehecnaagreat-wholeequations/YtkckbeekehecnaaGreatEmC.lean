/-
  emit: Packet, Frame.
-/
import Derived.Test.YtkckbeekehecnaaGreatEmB
namespace Go.Proofs.YtkckbeekehecnaaGreat
open Go.RowKit
set_option linter.unusedVariables false

/-- A packet in a box. -/
def NineB (W : World) (b : Nat) (S N B Q E F L I : Int) (v : Value) : Prop := W.heap[b]? = some (.cells #[.int .u64 S, .int .i64 N, .int .i64 B, .int .i64 Q, .int .i64 E, .int .i64 F, .int .i64 L, .int .u64 I, v] 53 (0, 0))
theorem NineB.below {W W' : World} {b : Nat} {S N B Q E F L I : Int} {v : Value} (h : NineB W b S N B Q E F L I v) (hb : Below W.heap.size W W') : NineB W' b S N B Q E F L I v := heap_stays hb h
theorem NineB.nine {W : World} {b : Nat} {S N B Q E F L I : Int} {v : Value} (h : NineB W b S N B Q E F L I v) : Nine W b S N B Q E F L I v := by
  unfold NineB at h
  unfold Nine Eight
  refine ⟨⟨?_, ?_, ?_, ?_, ?_, ?_, ?_, ?_⟩, ?_⟩ <;> simp [World.cell?, h]
theorem NineB.fr {W : World} {b : Nat} {S N B Q E F L I : Int} {v : Value} (h : NineB W b S N B Q E F L I v) (i : Nat) : W.frozen? ⟨b, i, none⟩ = false := by
  unfold NineB at h
  simp [World.frozen?, h]
theorem nineB_store {W : World} {b : Nat} {s n o p q r t u : Int} {v : Value} (h : NineB W b s n o p q r t u v) (S N B Q E F L I : Int) (v' : Value) : NineB (((((((((W.setCell ⟨b, 0, none⟩ (.int .u64 S)).setCell ⟨b, 1, none⟩ (.int .i64 N)).setCell ⟨b, 2, none⟩ (.int .i64 B)).setCell ⟨b, 3, none⟩ (.int .i64 Q)).setCell ⟨b, 4, none⟩ (.int .i64 E)).setCell ⟨b, 5, none⟩ (.int .i64 F)).setCell ⟨b, 6, none⟩ (.int .i64 L)).setCell ⟨b, 7, none⟩ (.int .u64 I)).setCell ⟨b, 8, none⟩ v') b S N B Q E F L I v' := by
  have h0 : W.heap[b]? = some (.cells [Value.int .u64 s, .int .i64 n, .int .i64 o, .int .i64 p, .int .i64 q, .int .i64 r, .int .i64 t, .int .u64 u, v].toArray 53 (0, 0)) := h
  exact heap_setCell_at (heap_setCell_at (heap_setCell_at (heap_setCell_at (heap_setCell_at (heap_setCell_at (heap_setCell_at (heap_setCell_at (heap_setCell_at h0 _) _) _) _) _) _) _) _) _

theorem set9_other (W : World) (b : Nat) (v0 v1 v2 v3 v4 v5 v6 v7 v8 : Value) {k : Nat} (hk : k ≠ b) : (((((((((W.setCell ⟨b, 0, none⟩ v0).setCell ⟨b, 1, none⟩ v1).setCell ⟨b, 2, none⟩ v2).setCell ⟨b, 3, none⟩ v3).setCell ⟨b, 4, none⟩ v4).setCell ⟨b, 5, none⟩ v5).setCell ⟨b, 6, none⟩ v6).setCell ⟨b, 7, none⟩ v7).setCell ⟨b, 8, none⟩ v8).heap[k]? = W.heap[k]? := by
  rw [Below.heap_setCell _ ⟨b, 8, none⟩ _ k hk, Below.heap_setCell _ ⟨b, 7, none⟩ _ k hk, Below.heap_setCell _ ⟨b, 6, none⟩ _ k hk, Below.heap_setCell _ ⟨b, 5, none⟩ _ k hk, Below.heap_setCell _ ⟨b, 4, none⟩ _ k hk, Below.heap_setCell _ ⟨b, 3, none⟩ _ k hk, Below.heap_setCell _ ⟨b, 2, none⟩ _ k hk, Below.heap_setCell _ ⟨b, 1, none⟩ _ k hk, Below.heap_setCell _ ⟨b, 0, none⟩ _ k hk]
/-- A packet as it is built, and in its box. -/
def pkVal (S N B Q E F L I : Nat) (v : Value) : Value := .agg #[.int .u64 (S : Int), .int .i64 (N : Int), .int .i64 (B : Int), .int .i64 (Q : Int), .int .i64 (E : Int), .int .i64 (F : Int), .int .i64 (L : Int), .int .u64 (I : Int), v]
def IsPa (B0 S N B Q E F L I : Nat) (x : List UInt8) : Value → World → Prop := fun v W => ∃ q, v = .agg #[.int .u64 (S : Int), .int .i64 (N : Int), .int .i64 (B : Int), .int .i64 (Q : Int), .int .i64 (E : Int), .int .i64 (F : Int), .int .i64 (L : Int), .int .u64 (I : Int), .slice (some ⟨q, 0, none⟩) B B] ∧ B0 ≤ q ∧ Blk W q [] x []
theorem stays_pa (B0 S N B Q E F L I : Nat) (x : List UInt8) : Stays (IsPa B0 S N B Q E F L I x) := fun _ _ _ hb ⟨q, h1, h2, h3⟩ => ⟨q, h1, h2, h3.below hb⟩
def IsPn (B0 b S N B Q E F L I : Nat) (x : List UInt8) : Value → World → Prop := fun _ W => ∃ q, NineB W b S N B Q E F L I (.slice (some ⟨q, 0, none⟩) B B) ∧ B0 ≤ q ∧ Blk W q [] x []
theorem stays_pn (B0 b S N B Q E F L I : Nat) (x : List UInt8) : Stays (IsPn B0 b S N B Q E F L I x) := fun _ _ _ hb ⟨q, h1, h2, h3⟩ => ⟨q, h1.below hb, h2, h3.below hb⟩
theorem blk_ne {W : World} {q b : Nat} {x : List UInt8} {S N B Q E F L I : Int} {v : Value} (h : Blk W q [] x []) (hn : NineB W b S N B Q E F L I v) : q ≠ b := by
  rintro rfl
  have h' : W.heap[q]? = _ := h
  unfold NineB at hn
  rw [hn] at h'
  injection h' with h'
  injection h' with _ h' _
  exact absurd h' (by decide)
/-- An encoder, the header beside it. -/
def JP (w : World) (q5 S N B Q E F L I : Nat) (W : World) : Prop := Below w.heap.size w W ∧ Eight W q5 S N B Q E F L I

set_option maxRecDepth 100000 in
set_option maxHeartbeats 4000000 in
/-- PACKET. -/
theorem epacket_any (B0 p S N B Q E F L K id k : Nat) (D : List (List UInt8)) (of : List Int) (w : World) (h : Enc B0 w p S N B Q E F L K D) (hB : B ≤ 65535) (hc : Chk F E S K id k of) (hm : MayD F E) (hK : K ≤ 16777216) (hS : S < 18446744073709551616) (hid : id < 18446744073709551616) (hok : OkOf B D of) :
    Calls Tryz.prog 12 #[.pointer (some ⟨p, 0, none⟩), .int .u64 id] w fun e w' => ∃ q, e = .returned (.agg #[.int .u64 (S : Int), .int .i64 (N : Int), .int .i64 (B : Int), .int .i64 (Q : Int), .int .i64 (E : Int), .int .i64 (F : Int), .int .i64 (L : Int), .int .u64 (id : Int), .slice (some ⟨q, 0, none⟩) B B]) ∧ w.heap.size ≤ q ∧ Blk w' q [] (chkD B D of) [] ∧ Below w.heap.size w w' := by
  have HE0 : Hid (Enc B0 w p S N B Q E F L K D) := h
  obtain ⟨a, t, co, g, ca, cc, vs, hE⟩ := h
  have HE : Hid (IsEnc B0 w p a t co g S N B Q E F L K ca cc vs D) := hE
  have hpl : p < w.heap.size := (Array.getElem?_eq_some_iff.1 hE.c).1
  obtain ⟨c0, c1, c2, c3, c4, c5, c6, c7, c8, c9, c10⟩ := hE.cells
  clear hE
  obtain ⟨x, hx⟩ : ∃ x, chkD B D of = x := ⟨_, rfl⟩
  have HX : Hid (chkD B D of = x) := hx
  rw [hx]
  clear hx
  go_enter Tryz.func12, Tryz.ntmps12
  go_upto_region 3 with fail
  obtain ⟨w3, hw3⟩ : ∃ w3, (w.alloc (.cells #[.int .u64 0, .int .i64 0, .int .i64 0, .int .i64 0, .int .i64 0, .int .i64 0, .int .i64 0, .int .u64 0, .slice none 0 0] 53)).alloc (.cells #[.int .u64 (S : Int), .int .i64 (N : Int), .int .i64 (B : Int), .int .i64 (Q : Int), .int .i64 (E : Int), .int .i64 (F : Int), .int .i64 (L : Int), .int .u64 (id : Int)] 51) = w3 := ⟨_, rfl⟩
  have X3 : Hid (Below w.heap.size w w3) := by rw [← hw3]; exact on_below (below_alloc _ _) (below_alloc _ _)
  have Z3 : Hid (NineB w3 w.heap.size 0 0 0 0 0 0 0 0 (.slice none 0 0)) := by rw [← hw3]; exact heap_stays (below_alloc _ _) (alloc_at _ _)
  obtain ⟨q5, hq5⟩ : ∃ q5, w.heap.size + 1 = q5 := ⟨_, rfl⟩
  have H3 : Hid (Eight w3 q5 S N B Q E F L id) := by
    rw [← hw3, ← hq5]
    have e : w.heap.size + 1 = (w.alloc (.cells #[.int .u64 0, .int .i64 0, .int .i64 0, .int .i64 0, .int .i64 0, .int .i64 0, .int .i64 0, .int .u64 0, .slice none 0 0] 53)).heap.size := by simp
    rw [e]
    exact eight_new _ _ _ _ _ _ _ _ _ _
  have Q5 : Hid (q5 ≠ w.heap.size) := by unfold Hid; omega
  rw [hw3, hq5]
  clear hw3 hq5 c0 c1 c2 c3 c4 c5 c6 c7 c8 c9 c10
  have BX : Hid (∀ W, JP w q5 S N B Q E F L id W → EncC W p a co S N B Q E F L K ca cc) := fun W hW => (HE.out.below hW.1).cells
  have BY : Hid (∀ W, JP w q5 S N B Q E F L id W → Eight W q5 S N B Q E F L id) := fun W hW => hW.2
  have CI : Hid (∀ W, JP w q5 S N B Q E F L id W → Calls Tryz.prog 32 #[.pointer (some ⟨a, 0, none⟩), .int .u64 id] W fun e w' => ∃ v, e = .returned v ∧ IsOz w.heap.size k of v w' ∧ Below W.heap.size W w') := by
    intro W hW
    refine (iblocks_chk hc a t W (HE.out.below hW.1).src hm hK hS hid).mono ?_
    rintro e w' ⟨b, c, rfl, h1, h2⟩
    exact ⟨_, rfl, ⟨b, c, rfl, h1.mono hW.1.size⟩, h2⟩
  have CM : Hid (∀ W v, JP w q5 S N B Q E F L id W → IsOz w.heap.size k of v W → Calls Tryz.prog 31 #[.pointer (some ⟨p, 0, none⟩), v] W fun e w' => ∃ v, e = .returned v ∧ IsCb w.heap.size B x v w' ∧ Below W.heap.size W w') := by
    intro W v hW hv
    refine (emade_yes B0 p S N B Q E F L K D v of W (HE0.out.below hW.1) hB hv.zs hok).mono ?_
    rintro e w' ⟨q, rfl, h1, h2, h3⟩
    rw [HX.out] at h2
    exact ⟨_, rfl, ⟨q, rfl, Nat.le_trans hW.1.size h1, h2⟩, h3⟩
  clear hok hc hm hS hid HX
  refine wp_region_any (by kernel_rfl) ?_
  obtain ⟨gs, hgs⟩ : ∃ gs : List (Value → World → Prop), gs = [IsV (.agg #[.int .u64 (S : Int), .int .i64 (N : Int), .int .i64 (B : Int), .int .i64 (Q : Int), .int .i64 (E : Int), .int .i64 (F : Int), .int .i64 (L : Int), .int .u64 (id : Int)]), IsV (Value.pointer (some { block := p, off := 0 })), IsV (Value.pointer (some { block := p, off := 0 })), IsV (Value.pointer (some { block := p, off := 0 })), IsV (.pointer (some ⟨p, 0, none⟩)), IsV (.pointer (some ⟨a, 0, none⟩)), IsV (Value.int IntKind.u64 ↑id), IsAnyV, IsAnyV, IsAnyV, IsAnyV] := ⟨_, rfl⟩
  have g0 : Hid (gs[0]? = some (IsV (.agg #[.int .u64 (S : Int), .int .i64 (N : Int), .int .i64 (B : Int), .int .i64 (Q : Int), .int .i64 (E : Int), .int .i64 (F : Int), .int .i64 (L : Int), .int .u64 (id : Int)]))) := by unfold Hid; rw [hgs]; rfl
  have g1 : Hid (gs[1]? = some (IsV (Value.pointer (some { block := p, off := 0 })))) := by unfold Hid; rw [hgs]; rfl
  have g2 : Hid (gs[2]? = some (IsV (Value.pointer (some { block := p, off := 0 })))) := by unfold Hid; rw [hgs]; rfl
  have g3 : Hid (gs[3]? = some (IsV (Value.pointer (some { block := p, off := 0 })))) := by unfold Hid; rw [hgs]; rfl
  have g4 : Hid (gs[4]? = some (IsV (.pointer (some ⟨p, 0, none⟩)))) := by unfold Hid; rw [hgs]; rfl
  have g5 : Hid (gs[5]? = some (IsV (.pointer (some ⟨a, 0, none⟩)))) := by unfold Hid; rw [hgs]; rfl
  have g6 : Hid (gs[6]? = some (IsV (Value.int IntKind.u64 ↑id))) := by unfold Hid; rw [hgs]; rfl
  have g7 : Hid (gs[7]? = some (IsAnyV)) := by unfold Hid; rw [hgs]; rfl
  have g8 : Hid (gs[8]? = some (IsAnyV)) := by unfold Hid; rw [hgs]; rfl
  have g9 : Hid (gs[9]? = some (IsAnyV)) := by unfold Hid; rw [hgs]; rfl
  have g10 : Hid (gs[10]? = some (IsAnyV)) := by unfold Hid; rw [hgs]; rfl
  have gk : Hid (∀ p ∈ gs, ∀ v (U U' : World), p v U → p v U') := by
    unfold Hid
    rw [hgs]
    simp only [List.forall_mem_cons]
    exact ⟨(fun _ _ _ h => h), (fun _ _ _ h => h), (fun _ _ _ h => h), (fun _ _ _ h => h), (fun _ _ _ h => h), (fun _ _ _ h => h), (fun _ _ _ h => h), (fun _ _ _ h => h), (fun _ _ _ h => h), (fun _ _ _ h => h), (fun _ _ _ h => h), by simp⟩
  clear hgs
  have JS : Hid (∀ W W', Below W.heap.size W W' → (fun W => JP w q5 S N B Q E F L id W) W → (fun W => JP w q5 S N B Q E F L id W) W') := fun W W' hb h => ⟨h.1.trans (hb.mono h.1.size), h.2.below hb⟩
  have st7 : Hid (Stays (IsOz w.heap.size k of)) := stays_oz _ _ _
  have st8 : Hid (Stays (IsCb w.heap.size B x)) := stays_cb _ _ _
  have st9 : Hid (Stays (IsPa w.heap.size S N B Q E F L id x)) := stays_pa _ _ _ _ _ _ _ _ _ _
  have st10 : Hid (Stays (IsPn w.heap.size w.heap.size S N B Q E F L id x)) := stays_pn _ _ _ _ _ _ _ _ _ _ _
  have su10 : Hid (∀ W W', Below W.heap.size W W' → (fun W => NineB W w.heap.size 0 0 0 0 0 0 0 0 (.slice none 0 0)) W → (fun W => NineB W w.heap.size 0 0 0 0 0 0 0 0 (.slice none 0 0)) W') := fun W W' hb h => h.below hb
  refine wpAny_inv4 (fun listed ac W => ∃ xv : Nat → Value, ac = ⟨#[Value.pointer (some { block := p, off := 0 }), Value.int IntKind.u64 ↑id, undef, undef, Value.pointer (some { block := w.heap.size, off := 0 }), Value.pointer (some { block := q5, off := 0 }), Value.pointer (some { block := p, off := 0 }), Value.pointer (some { block := p, off := 0 }), Value.pointer (some { block := p, off := 2 }), Value.agg #[Value.int IntKind.u64 ↑S, Value.int IntKind.i64 ↑N, Value.int IntKind.i64 ↑B, Value.int IntKind.i64 ↑Q, Value.int IntKind.i64 ↑E, Value.int IntKind.i64 ↑F, Value.int IntKind.i64 ↑L, Value.int IntKind.u64 (0 : Int)], Value.int IntKind.u64 ↑id, Value.pointer (some { block := q5, off := 7 }), xv 0, xv 1, xv 2, xv 3, xv 4, xv 5, xv 6, xv 7, xv 8, xv 9], []⟩ ∧ (fun W => JP w q5 S N B Q E F L id W) W ∧ Lst gs listed xv W ∧ Fd listed xv W 7 8 (IsOz w.heap.size k of) ∧ Fd listed xv W 8 9 (IsCb w.heap.size B x) ∧ Fd listed xv W 9 10 (IsPa w.heap.size S N B Q E F L id x) ∧ Fe listed xv W 10 (IsPn w.heap.size w.heap.size S N B Q E F L id x) ∧ Fz listed W 10 (fun W => NineB W w.heap.size 0 0 0 0 0 0 0 0 (.slice none 0 0))) (by kernel_rfl) ?_ ?_ _ _ _ _ (by kernel_rfl) (of_decide_eq_true (by kernel_rfl)) (Down.start _) ⟨fun jx => undef, rfl, ⟨on_below X3.out (below0 _), H3.out.below (below0 _)⟩, Lst.start _ _ _ _, Fd.start _ _ _ _ _ _, Fd.start _ _ _ _ _ _, Fd.start _ _ _ _ _ _, Fe.start _ _ _ _ _, Fz.start (Z3.out.below (below0 _))⟩
  · rintro listed ac W ⟨xv, rfl, hb, hG, hF7, hF8, hF9, hF10, hU10⟩ hD i hi hnl hd
    have hin : i < 11 := hi
    clear hi
    have hcase : i = 0 ∨ i = 1 ∨ i = 2 ∨ i = 3 ∨ i = 4 ∨ i = 5 ∨ i = 6 ∨ i = 7 ∨ i = 8 ∨ i = 9 ∨ i = 10 := by omega
    rcases hcase with rfl | rfl | rfl | rfl | rfl | rfl | rfl | rfl | rfl | rfl | rfl
    · refine wpOp_step rfl (fun K' hK => ?_)
      obtain ⟨c0, c1, c2, c3, c4, c5, c6, c7⟩ := BY.out W hb
      clear hd hin hD
      go_simp
      exact hK _ _ ⟨updV xv 0 (.agg #[.int .u64 (S : Int), .int .i64 (N : Int), .int .i64 (B : Int), .int .i64 (Q : Int), .int .i64 (E : Int), .int .i64 (F : Int), .int .i64 (L : Int), .int .u64 (id : Int)]), by simp [updV], hb, hG.any gk.out g0.out _ rfl, hF7.step (fun _ h => h) (by decide) (by decide) _, hF8.step (fun _ h => h) (by decide) (by decide) _, hF9.step (fun _ h => h) (by decide) (by decide) _, hF10.step (fun _ h => h) (by decide) _, hU10.step (fun h => h) (by decide)⟩
    · refine wpOp_step rfl (fun K' hK => ?_)
      clear hd hin hD
      go_simp
      exact hK _ _ ⟨updV xv 1 (Value.pointer (some { block := p, off := 0 })), by simp [updV], hb, hG.any gk.out g1.out _ rfl, hF7.step (fun _ h => h) (by decide) (by decide) _, hF8.step (fun _ h => h) (by decide) (by decide) _, hF9.step (fun _ h => h) (by decide) (by decide) _, hF10.step (fun _ h => h) (by decide) _, hU10.step (fun h => h) (by decide)⟩
    · refine wpOp_step rfl (fun K' hK => ?_)
      clear hd hin hD
      go_simp
      exact hK _ _ ⟨updV xv 2 (Value.pointer (some { block := p, off := 0 })), by simp [updV], hb, hG.any gk.out g2.out _ rfl, hF7.step (fun _ h => h) (by decide) (by decide) _, hF8.step (fun _ h => h) (by decide) (by decide) _, hF9.step (fun _ h => h) (by decide) (by decide) _, hF10.step (fun _ h => h) (by decide) _, hU10.step (fun h => h) (by decide)⟩
    · refine wpOp_step rfl (fun K' hK => ?_)
      simp [Region.binds] at hd
      have e2 : xv 2 = Value.pointer (some { block := p, off := 0 }) := hG.get g2.out (by simp [hd])
      clear hd hin hD
      go_simp
      exact hK _ _ ⟨updV xv 3 (Value.pointer (some { block := p, off := 0 })), by simp [updV, e2], hb, hG.any gk.out g3.out _ rfl, hF7.step (fun _ h => h) (by decide) (by decide) _, hF8.step (fun _ h => h) (by decide) (by decide) _, hF9.step (fun _ h => h) (by decide) (by decide) _, hF10.step (fun _ h => h) (by decide) _, hU10.step (fun h => h) (by decide)⟩
    · refine wpOp_step rfl (fun K' hK => ?_)
      simp [Region.binds] at hd
      have e3 : xv 3 = Value.pointer (some { block := p, off := 0 }) := hG.get g3.out (by simp [hd])
      clear hd hin hD
      go_simp
      exact hK _ _ ⟨updV xv 4 (.pointer (some ⟨p, 0, none⟩)), by simp [updV, e3], hb, hG.any gk.out g4.out _ rfl, hF7.step (fun _ h => h) (by decide) (by decide) _, hF8.step (fun _ h => h) (by decide) (by decide) _, hF9.step (fun _ h => h) (by decide) (by decide) _, hF10.step (fun _ h => h) (by decide) _, hU10.step (fun h => h) (by decide)⟩
    · refine wpOp_step rfl (fun K' hK => ?_)
      simp [Region.binds] at hd
      have e4 : xv 4 = .pointer (some ⟨p, 0, none⟩) := hG.get g4.out (by simp [hd])
      obtain ⟨c0, c1, c2, c3, c4, c5, c6, c7, c8, c9, c10⟩ := BX.out W hb
      clear hd hin hD
      go_simp
      exact hK _ _ ⟨updV xv 5 (.pointer (some ⟨a, 0, none⟩)), by simp [updV, e4], hb, hG.any gk.out g5.out _ rfl, hF7.step (fun _ h => h) (by decide) (by decide) _, hF8.step (fun _ h => h) (by decide) (by decide) _, hF9.step (fun _ h => h) (by decide) (by decide) _, hF10.step (fun _ h => h) (by decide) _, hU10.step (fun h => h) (by decide)⟩
    · refine wpOp_step rfl (fun K' hK => ?_)
      clear hd hin hD
      go_simp
      exact hK _ _ ⟨updV xv 6 (Value.int IntKind.u64 ↑id), by simp [updV], hb, hG.any gk.out g6.out _ rfl, hF7.step (fun _ h => h) (by decide) (by decide) _, hF8.step (fun _ h => h) (by decide) (by decide) _, hF9.step (fun _ h => h) (by decide) (by decide) _, hF10.step (fun _ h => h) (by decide) _, hU10.step (fun h => h) (by decide)⟩
    · refine wpOp_step rfl (fun K' hK => ?_)
      simp [Region.binds] at hd
      have e5 : xv 5 = .pointer (some ⟨a, 0, none⟩) := hG.get g5.out (by simp [hd])
      have e6 : xv 6 = Value.int IntKind.u64 ↑id := hG.get g6.out (by simp [hd])
      clear hd hin hD
      go_simp
      refine (CI.out W hb).mono ?_
      rintro e w' ⟨v, rfl, hv, hb'⟩
      go_wp2_with fail
      exact ⟨updV xv 7 v, by simp [updV, e5, e6], JS.out _ _ hb' hb, hG.any gk.out g7.out v trivial, Fd.new (hv), hF8.on st8.out hb' (by decide) (by decide) _, hF9.on st9.out hb' (by decide) (by decide) _, hF10.on st10.out hb' (by decide) _, hU10.step (su10.out _ _ hb') (by decide)⟩
    · refine wpOp_step rfl (fun K' hK => ?_)
      simp [Region.binds] at hd
      have e1 : xv 1 = Value.pointer (some { block := p, off := 0 }) := hG.get g1.out (by simp [hd])
      have l7 : listed.getD 7 false = true := by simp [hd]
      have m7 := hF7.get l7 hnl
      clear hd hin hD
      go_simp
      refine (CM.out W _ hb m7).mono ?_
      rintro e w' ⟨v, rfl, hv, hb'⟩
      go_wp2_with fail
      exact ⟨updV xv 8 v, by simp [updV, e1], JS.out _ _ hb' hb, hG.any gk.out g8.out v trivial, Fd.off hnl, Fd.new (hv), hF9.on st9.out hb' (by decide) (by decide) _, hF10.on st10.out hb' (by decide) _, hU10.step (su10.out _ _ hb') (by decide)⟩
    · refine wpOp_step rfl (fun K' hK => ?_)
      simp [Region.binds] at hd
      have e0 : xv 0 = .agg #[.int .u64 (S : Int), .int .i64 (N : Int), .int .i64 (B : Int), .int .i64 (Q : Int), .int .i64 (E : Int), .int .i64 (F : Int), .int .i64 (L : Int), .int .u64 (id : Int)] := hG.get g0.out (by simp [hd])
      have l8 : listed.getD 8 false = true := by simp [hd]
      have m8 := hF8.get l8 hnl
      clear hd hin hD
      obtain ⟨q8, e8, hq8, hk8⟩ := m8
      go_simp
      exact hK _ _ ⟨updV xv 9 (.agg #[.int .u64 (S : Int), .int .i64 (N : Int), .int .i64 (B : Int), .int .i64 (Q : Int), .int .i64 (E : Int), .int .i64 (F : Int), .int .i64 (L : Int), .int .u64 (id : Int), .slice (some ⟨q8, 0, none⟩) B B]), by simp [updV, e0, e8], hb, hG.any gk.out g9.out _ trivial, hF7.step (fun _ h => h) (by decide) (by decide) _, Fd.off hnl, Fd.new (⟨q8, rfl, hq8, hk8⟩), hF10.step (fun _ h => h) (by decide) _, hU10.step (fun h => h) (by decide)⟩
    · refine wpOp_step rfl (fun K' hK => ?_)
      simp [Region.binds] at hd
      have l9 : listed.getD 9 false = true := by simp [hd]
      have m9 := hF9.get l9 hnl
      have q7 : listed.getD 7 false = true := by simp [hd]
      have q8 : listed.getD 8 false = true := by simp [hd]
      have u10 := hU10.get hnl
      clear hd hin hD
      obtain ⟨q9, e9, hq9, hk9⟩ := m9
      have f0 := u10.fr 0
      have f1 := u10.fr 1
      have f2 := u10.fr 2
      have f3 := u10.fr 3
      have f4 := u10.fr 4
      have f5 := u10.fr 5
      have f6 := u10.fr 6
      have f7 := u10.fr 7
      have f8 := u10.fr 8
      obtain ⟨⟨n0, n1, n2, n3, n4, n5, n6, n7⟩, n8⟩ := u10.nine
      go_simp
      exact hK _ _ ⟨updV xv 10 undef, by simp [updV, e9], ⟨below9 hb.1 (Nat.le_refl _) _ _ _ _ _ _ _ _ _, hb.2.kept (set9_other _ _ _ _ _ _ _ _ _ _ _ Q5.out)⟩, hG.any gk.out g10.out _ trivial, Fd.gone q8 (by decide), Fd.gone l9 (by decide), Fd.off hnl, Fe.new (⟨q9, nineB_store u10 _ _ _ _ _ _ _ _ _, hq9, hk9.kept (set9_other _ _ _ _ _ _ _ _ _ _ _ (blk_ne hk9 u10))⟩), Fz.off hnl⟩
  · rintro listed ac W ⟨xv, rfl, hb, hG, hF7, hF8, hF9, hF10, hU10⟩ hall
    have m10 : Hid ((IsPn w.heap.size w.heap.size S N B Q E F L id x) (xv 10) W) := hF10 (hall 10 (by decide))
    have XW : Hid ((fun W => JP w q5 S N B Q E F L id W) W) := hb
    clear hall hG hb gk JS g0 g1 g2 g3 g4 g5 g6 g7 g8 g9 g10 hF7 st7 hF8 st8 hF9 st9 hF10 st10 hU10 su10
    obtain ⟨q, hn, hq, hk⟩ := m10.out
    have NN : Hid (NineB W w.heap.size S N B Q E F L id (.slice (some ⟨q, 0, none⟩) B B)) := hn
    have RR : Hid (w.heap.size ≤ q ∧ Blk W q [] x [] ∧ Below w.heap.size w W) := ⟨hq, hk, XW.out.1⟩
    clear m10 hn hq hk XW BX BY CI CM HE HE0 X3 Z3 H3
    go_wp2
    refine bodyPost_ret (ret_cell1 rfl rfl (load9 NN.out.nine)) rfl ?_
    exact ⟨q, rfl, RR.out⟩

def IsFt (B0 n : Nat) (x : List UInt8) : Value → World → Prop := fun v W => ∃ q, v = .tuple #[.slice (some ⟨q, 0, none⟩) n n, .int .i64 0] ∧ B0 ≤ q ∧ Own W q x
theorem stays_ft (B0 n : Nat) (x : List UInt8) : Stays (IsFt B0 n x) := fun _ _ _ hb ⟨q, h1, h2, h3⟩ => ⟨q, h1, h2, h3.kept (hb.block q h3.lt)⟩
def IsFv (B0 n : Nat) (x : List UInt8) : Value → World → Prop := fun v W => ∃ q, v = .slice (some ⟨q, 0, none⟩) n n ∧ B0 ≤ q ∧ Own W q x
theorem stays_fv (B0 n : Nat) (x : List UInt8) : Stays (IsFv B0 n x) := fun _ _ _ hb ⟨q, h1, h2, h3⟩ => ⟨q, h1, h2, h3.kept (hb.block q h3.lt)⟩

end Go.Proofs.YtkckbeekehecnaaGreat
