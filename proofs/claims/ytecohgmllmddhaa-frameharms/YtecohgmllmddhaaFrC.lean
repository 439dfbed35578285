/-
  The walk of package frame: Encode.
-/
import Derived.Test.YtecohgmllmddhaaFrB
import Derived.Test.YtecohgmllmddhaaLOrd
namespace Go.Proofs.Ytecohgmllmddhaa
open Go.RowKit
set_option linter.unusedVariables false

/-- A packet's block, as a box lies. -/
def Nine (W : World) (b : Nat) (S N B Q E F L I : Int) (v : Value) : Prop := Eight W b S N B Q E F L I ∧ W.cell? ⟨b, 8, none⟩ = some v

theorem Nine.below {W W' : World} {b : Nat} {S N B Q E F L I : Int} {v : Value} (h : Nine W b S N B Q E F L I v) (hb : Below W.heap.size W W') : Nine W' b S N B Q E F L I v :=
  ⟨h.1.below hb, (hb.cell (cell_block_lt h.2)).trans h.2⟩

theorem Nine.kept {W W' : World} {b : Nat} {S N B Q E F L I : Int} {v : Value} (h : Nine W b S N B Q E F L I v) (hb : W'.heap[b]? = W.heap[b]?) : Nine W' b S N B Q E F L I v :=
  ⟨h.1.kept hb, (World.cell?_of_block (a := ⟨b, 8, none⟩) hb).trans h.2⟩

theorem Nine.lt {W : World} {b : Nat} {S N B Q E F L I : Int} {v : Value} (h : Nine W b S N B Q E F L I v) : b < W.heap.size := cell_block_lt h.2

theorem nine_new (w : World) (t : TypeId) (S N B Q E F L I : Int) (v : Value) : Nine (w.alloc (.cells #[.int .u64 S, .int .i64 N, .int .i64 B, .int .i64 Q, .int .i64 E, .int .i64 F, .int .i64 L, .int .u64 I, v] t)) w.heap.size S N B Q E F L I v := by
  refine ⟨⟨?_, ?_, ?_, ?_, ?_, ?_, ?_, ?_⟩, ?_⟩ <;> simp

theorem sl_one {W : World} {q : Nat} {v : Value} (h : W.cell? ⟨q, 0, none⟩ = some v) : Sl 1 W (.slice (some ⟨q, 0, none⟩) 1 1) [v].length [v] := by
  refine ⟨rfl, _, _, rfl, Nat.le_refl _, by simp [maxLen], fun h => by simp at h, .inr ⟨_, _, rfl, ?_⟩⟩
  intro j u hj
  have : j = 0 := by have := (List.getElem?_eq_some_iff.1 hj).1; simp at this; omega
  subst this
  simp at hj
  subst hj
  exact h

/-- New bytes at the head of a block, which may be written. -/
def IsOb (base : Nat) (l : List UInt8) : Value → World → Prop := fun v W => ∃ q, v = .slice (some ⟨q, 0, none⟩) l.length l.length ∧ base ≤ q ∧ Own W q l

theorem stays_ob (base : Nat) (l : List UInt8) : Stays (IsOb base l) := fun _ _ _ hb ⟨q, h1, h2, h3⟩ => ⟨q, h1, h2, h3.kept (hb.block q h3.lt)⟩

set_option maxRecDepth 100000 in
set_option maxHeartbeats 1000000 in
/-- ENCODE, where the header may not be. -/
theorem enc_no (c : Nat) (S N B Q E F L I : Int) (v : Value) (w : World) (hm : ¬ MayH N B Q E F L) :
    Calls Try.prog 35 #[.pointer (some ⟨c, 0, none⟩), .agg #[.int .u64 S, .int .i64 N, .int .i64 B, .int .i64 Q, .int .i64 E, .int .i64 F, .int .i64 L, .int .u64 I, v]] w fun e w' => e = .returned (.tuple #[.slice none 0 0, .int .i64 1]) ∧ Below w.heap.size w w' := by
  have HM : Hid (mayHE N B Q E F L = 1) := mayHE_no hm
  clear hm
  go_enter Try.func35, Try.ntmps35
  go_wp2_with fail
  refine (fcheck_any S N B Q E F L I _).mono ?_
  rintro e w1 ⟨rfl, hb1⟩
  rw [HM.out]
  have B1 : Hid (Below w.heap.size w w1) := below_mid (below_alloc _ _) hb1
  clear hb1
  go_wp2
  go_ret2
  exact ⟨rfl, B1.out⟩

set_option maxRecDepth 100000 in
set_option maxHeartbeats 1000000 in
/-- ENCODE, where the payload isn't as long. -/
theorem enc_len (c : Nat) (S N B Q E F L I : Int) (a : Option Addr) (n k : Nat) (w : World) (hm : MayH N B Q E F L) (hn : (n : Int) ≠ B) :
    Calls Try.prog 35 #[.pointer (some ⟨c, 0, none⟩), .agg #[.int .u64 S, .int .i64 N, .int .i64 B, .int .i64 Q, .int .i64 E, .int .i64 F, .int .i64 L, .int .u64 I, .slice a n k]] w fun e w' => e = .returned (.tuple #[.slice none 0 0, .int .i64 7]) ∧ Below w.heap.size w w' := by
  have HM : Hid (mayHE N B Q E F L = 0) := mayHE_yes hm
  clear hm
  go_enter Try.func35, Try.ntmps35
  go_wp2_with fail
  refine (fcheck_any S N B Q E F L I _).mono ?_
  rintro e w1 ⟨rfl, hb1⟩
  rw [HM.out]
  have B1 : Hid (Below w.heap.size w w1) := below_mid (below_alloc _ _) hb1
  have N1 : Hid (Nine w1 w.heap.size S N B Q E F L I (.slice a n k)) := (nine_new w _ S N B Q E F L I _).below hb1
  clear hb1
  obtain ⟨⟨c0, c1, c2, c3, c4, c5, c6, c7⟩, c8⟩ := N1.out
  go_wp2
  go_ret2
  exact ⟨rfl, B1.out⟩

set_option maxRecDepth 100000 in
set_option maxHeartbeats 2000000 in
/-- ENCODE: the frame. -/
theorem enc_yes (c g : Nat) (S N B Q E F L I : Nat) (a : Option Addr) (k : Nat) (p : List UInt8) (w : World) (hco : IsCo w c g) (hm : MayH N B Q E F L) (hS : S < 2 ^ 64) (hI : I < 2 ^ 64) (hp : Bs w (.slice a B k) p) (hpl : p.length = B) (hB10 : B ≤ 10000) :
    Calls Try.prog 35 #[.pointer (some ⟨c, 0, none⟩), .agg #[.int .u64 (S : Nat), .int .i64 (N : Nat), .int .i64 (B : Nat), .int .i64 (Q : Nat), .int .i64 (E : Nat), .int .i64 (F : Nat), .int .i64 (L : Nat), .int .u64 (I : Nat), .slice a B k]] w fun e w' => ∃ q, e = .returned (.tuple #[.slice (some ⟨q, 0, none⟩) (42 + B) (42 + B), .int .i64 0]) ∧ w.heap.size ≤ q ∧ Own w' q (frameB S N B Q E F L I p) ∧ Below w.heap.size w w' := by
  have HM : Hid (mayHE N B Q E F L = 0) := mayHE_yes hm
  obtain ⟨⟨hN, hB, hQ, hE, hF, hEF⟩, hL0, hL⟩ := hm
  have hr := most_range hN hB
  have HB : Hid (S < 2 ^ 64 ∧ N < 2 ^ 32 ∧ B < 2 ^ 16 ∧ Q < 2 ^ 8 ∧ E < 2 ^ 16 ∧ F < 2 ^ 16 ∧ L < 2 ^ 63 ∧ I < 2 ^ 64) := ⟨hS, by omega, by omega, by omega, by omega, by omega, by omega, hI⟩
  have HC : Hid (IsCo w c g) := hco
  have HP : Hid (Bs w (.slice a B k) p) := hp
  have HPL : Hid (p.length = B) := hpl
  have HFL : Hid ((frameB S N B Q E F L I p).length = 42 + B) := by unfold Hid; rw [frameB_length, hpl]
  clear hN hB hQ hE hF hEF hL0 hL hr hS hI hco hp hpl
  go_enter Try.func35, Try.ntmps35
  go_wp2_with fail
  refine (fcheck_any S N B Q E F L I _).mono ?_
  rintro e w1 ⟨rfl, hb1⟩
  rw [HM.out]
  have B1 : Hid (Below w.heap.size w w1) := below_mid (below_alloc _ _) hb1
  have N1 : Hid (Nine w1 w.heap.size S N B Q E F L I (.slice a B k)) := (nine_new w _ S N B Q E F L I _).below hb1
  clear hb1
  obtain ⟨⟨c0, c1, c2, c3, c4, c5, c6, c7⟩, c8⟩ := N1.out
  have hlt := N1.out.lt
  go_wp2_with fail
  obtain ⟨b, hb⟩ : ∃ b, w1.heap.size = b := ⟨_, rfl⟩
  have W2 : Hid (IsWr (w1.alloc (.cells #[.slice none 0 0] 103)) b b none []) := by
    have h := zero_wr w1 w1.heap.size (Nat.le_refl _)
    rw [hb] at h
    exact h
  have X2 : Hid (Below b w1 (w1.alloc (.cells #[.slice none 0 0] 103))) := by
    rw [← hb]
    exact below_alloc _ _
  have S2 : Hid (b ≤ (w1.alloc (.cells #[.slice none 0 0] 103)).heap.size) := by unfold Hid; simp; omega
  rw [hb]
  have HW1 : Hid (w1.heap.size = b) := hb
  have hltb : w.heap.size < b := by omega
  clear hb hlt c0 c1 c2 c3 c4 c5 c6 c7 c8
  refine (whead_any b b none S N B Q E F L I _ W2.out S2.out HB.out.1 HB.out.2.1 HB.out.2.2.1 HB.out.2.2.2.1 HB.out.2.2.2.2.1 HB.out.2.2.2.2.2.1 HB.out.2.2.2.2.2.2.1 HB.out.2.2.2.2.2.2.2).mono ?_
  rintro e w3 ⟨rfl, row, hw3, hf3, hr3⟩
  have X3 : Hid (Below b w1 w3) := X2.out.trans (hf3.below S2.out (Nat.le_refl _) (fun k hk => by cases hk))
  have W3 : Hid (IsWr w3 b b row (headB S N B Q E F L I)) := hw3
  have N3 : Hid (Nine w3 w.heap.size S N B Q E F L I (.slice a B k)) := by
    have h := N1.out
    have hx := X3.out
    rw [← HW1.out] at hx
    exact h.below hx
  have P3 : Hid (Bs w1 (.slice a B k) p) := HP.out.below B1.out
  have HHL : Hid ((headB S N B Q E F L I).length = 38) := headB_length _ _ _ _ _ _ _ _
  clear hw3 hf3 hr3 W2 X2 S2 N1
  obtain ⟨⟨c0, c1, c2, c3, c4, c5, c6, c7⟩, c8⟩ := N3.out
  obtain ⟨hd, hhd⟩ : ∃ hd, headB S N B Q E F L I = hd := ⟨_, rfl⟩
  rw [hhd] at W3 HHL
  have HHD : Hid (headB S N B Q E F L I = hd) := hhd
  clear hhd
  go_wp2_with fail
  have hq4 : w3.heap.size < (w3.alloc (.cells #[.slice a B k] 27)).heap.size := by simp
  have W4 : Hid (IsWr (w3.alloc (.cells #[.slice a B k] 27)) b b row hd) := W3.out.below (below_alloc _ _)
  have X4 : Hid (Below b w1 (w3.alloc (.cells #[.slice a B k] 27))) := X3.out.alloc (by have := X3.out.size; have := HW1.out; omega) _
  have hst : ∀ W, Fr (w3.alloc (.cells #[.slice a B k] 27)) W b row → Sl 1 W (.slice (some ⟨w3.heap.size, 0, none⟩) 1 1) [Value.slice a B k].length [.slice a B k] ∧ Parts W [.slice a B k] [p] := by
    intro W hf
    have hbW := hf.below (B := b) (by have := X4.out.size; have := HW1.out; omega) (Nat.le_refl _) (fun k hk => (W4.out.lt.2 k hk).1)
    constructor
    · refine sl_one ?_
      rw [World.cell?_of_block (a := ⟨w3.heap.size, 0, none⟩) (hf.block w3.heap.size hq4 (by have := W3.out.lt.1; omega) (by intro e; have := (W3.out.lt.2 _ e.symm).2; omega))]
      simp
    · have h1 := X4.out.trans hbW
      rw [← HW1.out] at h1
      exact parts_one (P3.out.below h1)
  have HST : Hid (∀ W, Fr (w3.alloc (.cells #[.slice a B k] 27)) W b row → Sl 1 W (.slice (some ⟨w3.heap.size, 0, none⟩) 1 1) [Value.slice a B k].length [.slice a B k] ∧ Parts W [.slice a B k] [p]) := hst
  clear hst hq4
  refine (append_any b b row hd (.slice (some ⟨w3.heap.size, 0, none⟩) 1 1) [.slice a B k] [p] _ W4.out (by have := X4.out.size; have := HW1.out; omega) HST.out (by rw [HHL.out]; omega) (by simp) (by intro x hx; simp at hx; subst hx; rw [HPL.out]; exact hB10)).mono ?_
  rintro e w5 ⟨rfl, row5, hw5, hf5, hr5⟩
  have X5 : Hid (Below b w1 w5) := X4.out.trans (hf5.below (by have := X4.out.size; have := HW1.out; omega) (Nat.le_refl _) (fun k hk => (W4.out.lt.2 k hk).1))
  have B5 : Hid (Below w.heap.size w w5) := by
    have h := X5.out
    rw [← HW1.out] at h
    exact below_mid B1.out h
  have W5 : Hid (IsWr w5 b b row5 (hd ++ p)) := by
    have h := hw5
    simp only [List.flatten_cons, List.flatten_nil, List.append_nil] at h
    exact h
  have C5 : Hid (IsCo w5 c g) := HC.out.below B5.out
  have HTL : Hid ((hd ++ p).length ≤ 1000000) := by unfold Hid; rw [List.length_append, HHL.out, HPL.out]; omega
  have HFR : Hid (sealB (hd ++ p) = frameB S N B Q E F L I p) := by unfold Hid frameB; rw [HHD.out]
  clear hw5 hf5 hr5 X4 W4 HST c0 c1 c2 c3 c4 c5 c6 c7 c8 N3 X3 W3 P3
  generalize hd ++ p = T at *
  go_wp2
  have CX : Hid (∀ W, Below w5.heap.size w5 W → W.cell? ⟨c, 0, none⟩ = some (.pointer (some ⟨g, 0, none⟩))) := fun W hW => (C5.out.below hW).1
  have CB : Hid (∀ W, Below w5.heap.size w5 W → Calls Try.prog 54 #[.pointer (some ⟨b, 0, none⟩)] W fun e w' => ∃ v, e = .returned v ∧ IsBs T v w' ∧ Below W.heap.size W w') := by
    intro W hW
    refine (bytes_any b b row5 T W (W5.out.below hW) HTL.out).mono ?_
    rintro e w' ⟨q, rfl, hq, ho, hb'⟩
    exact ⟨_, rfl, ho.bs HTL.out, hb'⟩
  have CS : Hid (∀ W v, Below w5.heap.size w5 W → IsBs T v W → Calls Try.prog 53 #[.pointer (some ⟨g, 0, none⟩), v] W fun e w' => ∃ u, e = .returned u ∧ IsOb w.heap.size (sealB T) u w' ∧ Below W.heap.size W w') := by
    intro W v hW hv
    refine (seal_any g v T W (C5.out.below hW).2 hv HTL.out).mono ?_
    rintro e w' ⟨rfl, ho, hb'⟩
    refine ⟨_, rfl, ⟨W.heap.size + 1, by rw [sealB_length], ?_, owned_own (l := T ++ be4 (MathA.sum T)) ho (by simp [be4])⟩, hb'⟩
    have h1 := B5.out.size
    have h2 := hW.size
    omega
  refine wp_region_any (by kernel_rfl) ?_
  obtain ⟨gs, hgs⟩ : ∃ gs : List (Value → World → Prop), gs = [IsV (Value.pointer (some { block := c, off := 0 })), IsV (Value.pointer (some { block := c, off := 0 })), IsV (.pointer (some ⟨c, 0, none⟩)), IsV (.pointer (some ⟨g, 0, none⟩)), IsBs T, IsOb w.heap.size (sealB T), IsOb w.heap.size (sealB T), IsV (Value.int IntKind.i64 (0 : Int))] := ⟨_, rfl⟩
  have g0 : Hid (gs[0]? = some (IsV (Value.pointer (some { block := c, off := 0 })))) := by unfold Hid; rw [hgs]; rfl
  have g1 : Hid (gs[1]? = some (IsV (Value.pointer (some { block := c, off := 0 })))) := by unfold Hid; rw [hgs]; rfl
  have g2 : Hid (gs[2]? = some (IsV (.pointer (some ⟨c, 0, none⟩)))) := by unfold Hid; rw [hgs]; rfl
  have g3 : Hid (gs[3]? = some (IsV (.pointer (some ⟨g, 0, none⟩)))) := by unfold Hid; rw [hgs]; rfl
  have g4 : Hid (gs[4]? = some (IsBs T)) := by unfold Hid; rw [hgs]; rfl
  have g5 : Hid (gs[5]? = some (IsOb w.heap.size (sealB T))) := by unfold Hid; rw [hgs]; rfl
  have g6 : Hid (gs[6]? = some (IsOb w.heap.size (sealB T))) := by unfold Hid; rw [hgs]; rfl
  have g7 : Hid (gs[7]? = some (IsV (Value.int IntKind.i64 (0 : Int)))) := by unfold Hid; rw [hgs]; rfl
  have gk : Hid (∀ p ∈ gs, Stays p) := by
    unfold Hid
    rw [hgs]
    simp only [List.forall_mem_cons]
    exact ⟨stays_v _, stays_v _, stays_v _, stays_v _, stays_bs _, stays_ob _ _, stays_ob _ _, stays_v _, by simp⟩
  clear hgs
  refine wpAny_inv (fun listed ac W => ∃ xv : Nat → Value, ac = ⟨#[Value.pointer (some { block := c, off := 0 }), Value.agg #[Value.int IntKind.u64 ↑S, Value.int IntKind.i64 ↑N, Value.int IntKind.i64 ↑B, Value.int IntKind.i64 ↑Q, Value.int IntKind.i64 ↑E, Value.int IntKind.i64 ↑F, Value.int IntKind.i64 ↑L, Value.int IntKind.u64 ↑I, Value.slice a B k], undef, Value.pointer (some { block := w.heap.size, off := 0 }), xv 6, xv 7, Value.int IntKind.i64 (0 : Int), Value.pointer (some { block := b, off := 0 }), Value.pointer (some { block := w.heap.size, off := 0 }), Value.agg #[Value.int IntKind.u64 ↑S, Value.int IntKind.i64 ↑N, Value.int IntKind.i64 ↑B, Value.int IntKind.i64 ↑Q, Value.int IntKind.i64 ↑E, Value.int IntKind.i64 ↑F, Value.int IntKind.i64 ↑L, Value.int IntKind.u64 ↑I], Value.int IntKind.i64 (0 : Int), Value.int IntKind.i64 (0 : Int), Value.bool false, undef, Value.pointer (some { block := w.heap.size, off := 8 }), Value.slice a B k, Value.int IntKind.i64 ↑B, Value.pointer (some { block := w.heap.size, off := 0 }), Value.pointer (some { block := w.heap.size, off := 1 }), Value.pointer (some { block := w.heap.size, off := 2 }), Value.int IntKind.i64 ↑B, Value.bool false, Value.pointer (some { block := w.heap.size, off := 0 }), Value.agg #[Value.int IntKind.u64 ↑S, Value.int IntKind.i64 ↑N, Value.int IntKind.i64 ↑B, Value.int IntKind.i64 ↑Q, Value.int IntKind.i64 ↑E, Value.int IntKind.i64 ↑F, Value.int IntKind.i64 ↑L, Value.int IntKind.u64 ↑I], Value.tuple #[], Value.pointer (some { block := w.heap.size, off := 8 }), Value.slice a B k, Value.slice (some { block := w3.heap.size, off := 0 }) 1 1, Value.tuple #[], xv 0, xv 1, xv 2, xv 3, xv 4, xv 5], []⟩ ∧ Below w5.heap.size w5 W ∧ Lst gs listed xv W) (by kernel_rfl) ?_ ?_ _ _ _ _ (by kernel_rfl) (of_decide_eq_true (by kernel_rfl)) ⟨fun j => if j = 6 then Value.slice none 0 0 else if j = 7 then Value.int IntKind.i64 (0 : Int) else undef, rfl, below0 _, Lst.start _ _ _ _⟩
  · rintro listed ac W ⟨xv, rfl, hb, hG⟩ i hi hd
    have hin : i < 8 := hi
    clear hi
    have hcase : i = 0 ∨ i = 1 ∨ i = 2 ∨ i = 3 ∨ i = 4 ∨ i = 5 ∨ i = 6 ∨ i = 7 := by omega
    rcases hcase with rfl | rfl | rfl | rfl | rfl | rfl | rfl | rfl
    · refine wpOp_step rfl (fun K' hK => ?_)
      clear hd hin
      go_simp
      exact hK _ _ ⟨updV xv 0 (Value.pointer (some { block := c, off := 0 })), by simp [updV], hb, hG.same gk.out g0.out _ rfl⟩
    · refine wpOp_step rfl (fun K' hK => ?_)
      simp [Region.binds] at hd
      have e0 : xv 0 = Value.pointer (some { block := c, off := 0 }) := hG.get g0.out (by simp [hd])
      clear hd hin
      go_simp
      exact hK _ _ ⟨updV xv 1 (Value.pointer (some { block := c, off := 0 })), by simp [updV, e0], hb, hG.same gk.out g1.out _ rfl⟩
    · refine wpOp_step rfl (fun K' hK => ?_)
      simp [Region.binds] at hd
      have e1 : xv 1 = Value.pointer (some { block := c, off := 0 }) := hG.get g1.out (by simp [hd])
      clear hd hin
      go_simp
      exact hK _ _ ⟨updV xv 2 (.pointer (some ⟨c, 0, none⟩)), by simp [updV, e1], hb, hG.same gk.out g2.out _ rfl⟩
    · refine wpOp_step rfl (fun K' hK => ?_)
      simp [Region.binds] at hd
      have e2 : xv 2 = .pointer (some ⟨c, 0, none⟩) := hG.get g2.out (by simp [hd])
      have c0 := CX.out W hb
      clear hd hin
      go_simp
      exact hK _ _ ⟨updV xv 3 (.pointer (some ⟨g, 0, none⟩)), by simp [updV, e2], hb, hG.same gk.out g3.out _ rfl⟩
    · refine wpOp_step rfl (fun K' hK => ?_)
      clear hd hin
      go_simp
      refine (CB.out W hb).mono ?_
      rintro e w' ⟨v, rfl, hv, hb'⟩
      go_wp2_with fail
      exact ⟨updV xv 4 v, by simp [updV], hb.trans (hb'.mono hb.size), hG.step gk.out hb' g4.out v hv⟩
    · refine wpOp_step rfl (fun K' hK => ?_)
      simp [Region.binds] at hd
      have e3 : xv 3 = .pointer (some ⟨g, 0, none⟩) := hG.get g3.out (by simp [hd])
      have m4 : IsBs T (xv 4) W := hG.get g4.out (by simp [hd])
      clear hd hin
      go_simp
      refine (CS.out W _ hb m4).mono ?_
      rintro e w' ⟨v, rfl, hv, hb'⟩
      go_wp2_with fail
      exact ⟨updV xv 5 v, by simp [updV, e3], hb.trans (hb'.mono hb.size), hG.step gk.out hb' g5.out v hv⟩
    · refine wpOp_step rfl (fun K' hK => ?_)
      simp [Region.binds] at hd
      have m5 : IsOb w.heap.size (sealB T) (xv 5) W := hG.get g5.out (by simp [hd])
      clear hd hin
      go_simp
      exact hK _ _ ⟨updV xv 6 (xv 5), by simp [updV], hb, hG.same gk.out g6.out _ m5⟩
    · refine wpOp_step rfl (fun K' hK => ?_)
      clear hd hin
      go_simp
      exact hK _ _ ⟨updV xv 7 (Value.int IntKind.i64 (0 : Int)), by simp [updV], hb, hG.same gk.out g7.out _ rfl⟩
  · rintro listed ac W ⟨xv, rfl, hb, hG⟩ hall
    have m6 : Hid (IsOb w.heap.size (sealB T) (xv 6) W) := hG.get g6.out (hall 6 (by decide))
    have e7 : xv 7 = Value.int IntKind.i64 (0 : Int) := hG.get g7.out (hall 7 (by decide))
    have XW : Hid (Below w5.heap.size w5 W) := hb
    clear hall hG hb gk g0 g1 g2 g3 g4 g5 g6 g7
    rw [e7]
    clear e7
    obtain ⟨q, hq, hq1, hq2⟩ := m6.out
    rw [HFR.out] at hq hq2
    rw [HFL.out] at hq
    rw [hq]
    clear hq m6
    have Q1 : Hid (w.heap.size ≤ q) := hq1
    have Q2 : Hid (Own W q (frameB S N B Q E F L I p)) := hq2
    clear hq1 hq2
    go_wp2
    go_ret2
    exact ⟨q, rfl, Q1.out, Q2.out, below_mid B5.out XW.out⟩

end Go.Proofs.Ytecohgmllmddhaa
