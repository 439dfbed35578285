/-
  The walk of the document's own Encode.
-/
import Derived.Test.YtijonjiioeahhaaFrJ
import Derived.Test.YtijonjiioeahhaaCRefB
import Derived.Test.YtijonjiioeahhaaLPh
namespace Go.Proofs.Ytijonjiioeahhaa
open Go.RowKit
set_option linter.unusedVariables false

/-- An operation that isn't done has left its slot as it was. -/
def Ini (listed : Array Bool) (xv : Nat → Value) (c : Nat) (v : Value) : Prop := listed.getD c false = false → xv c = v

theorem Ini.skip {listed : Array Bool} {xv : Nat → Value} {c i : Nat} {v u : Value} (h : Ini listed xv c v) (hc : c ≠ i) : Ini (listed.setIfInBounds i true) (updV xv i u) c v := by
  intro hl
  rw [getD_set_other hc] at hl
  unfold updV
  rw [if_neg hc]
  exact h hl

theorem Ini.done {listed : Array Bool} {xv : Nat → Value} {c : Nat} {v u : Value} (h : listed.getD c true = false) : Ini (listed.setIfInBounds c true) (updV xv c u) c v := by
  intro hl
  rw [getD_set_self h] at hl
  cases hl

/-- Bytes that are owned, from base on. -/
def IsOw (base : Nat) (l : List UInt8) : Value → World → Prop := fun v W => ∃ a c, v = .slice a l.length c ∧ W.ownsRow base 5 1 (.slice a l.length c) l.length (l.map bv)

theorem stays_ow (base : Nat) (l : List UInt8) : Stays (IsOw base l) := fun _ _ _ hb ⟨a, c, h1, h2⟩ => ⟨a, c, h1, owns_kept h2 (fun q hq => hb.block q (h2.lt q hq).2)⟩

theorem IsOw.bs {base : Nat} {l : List UInt8} {v : Value} {W : World} (h : IsOw base l v W) : Bs W v l := by
  obtain ⟨a, c, rfl, h⟩ := h
  exact owned_sl h

theorem owns_mono {w : World} {base base' : Nat} {e : TypeId} {size : Nat} {v : Value} {n : Nat} {xs : List Value} (h : w.ownsRow base' e size v n xs) (hb : base ≤ base') : w.ownsRow base e size v n xs := by
  refine ⟨h.1, ?_⟩
  rcases h.2 with h' | ⟨g, cap, cur, hv, hg, hx⟩
  · exact .inl h'
  · exact .inr ⟨g, cap, cur, hv, Nat.le_trans hb hg, hx⟩

/-- The document's Put, as a step. -/
theorem rput_step (base : Nat) (l : List UInt8) (n s : Nat) (v : Value) (W : World) (hb : base ≤ W.heap.size) (hv : Bs W v l) (hl : l.length ≤ 1000) (hn : n < 18446744073709551616) (h1 : 1 ≤ s) (h8 : s ≤ 8) :
    Calls Try.prog 69 #[v, .int .u64 n, .int .i64 s] W fun e w' => ∃ u, e = .returned u ∧ IsOw base (l ++ be n s) u w' ∧ Below W.heap.size W w' := by
  refine (rput_any v l n s W hv (by omega) hn h1 h8).mono ?_
  rintro e w' ⟨a, c, rfl, ho, hb', -, -⟩
  have hlen : (l ++ be n s).length = l.length + s := by rw [List.length_append, be_length]
  refine ⟨_, rfl, ⟨a, c, by rw [hlen], ?_⟩, hb'⟩
  rw [hlen]
  exact owns_mono ho hb

theorem Nine.all {W : World} {b : Nat} {S N B Q E F L I : Int} {v : Value} (h : Nine W b S N B Q E F L I v) : W.cell? ⟨b, 0, none⟩ = some (.int .u64 S) ∧ W.cell? ⟨b, 1, none⟩ = some (.int .i64 N) ∧ W.cell? ⟨b, 2, none⟩ = some (.int .i64 B) ∧ W.cell? ⟨b, 3, none⟩ = some (.int .i64 Q) ∧ W.cell? ⟨b, 4, none⟩ = some (.int .i64 E) ∧ W.cell? ⟨b, 5, none⟩ = some (.int .i64 F) ∧ W.cell? ⟨b, 6, none⟩ = some (.int .i64 L) ∧ W.cell? ⟨b, 7, none⟩ = some (.int .u64 I) ∧ W.cell? ⟨b, 8, none⟩ = some v := by
  obtain ⟨⟨h0, h1, h2, h3, h4, h5, h6, h7⟩, h8⟩ := h
  exact ⟨h0, h1, h2, h3, h4, h5, h6, h7, h8⟩

set_option maxRecDepth 100000 in
set_option maxHeartbeats 1000000 in
/-- The document's Encode, where the header may not be. -/
theorem renc_no (S N B Q E F L I : Int) (v : Value) (w : World) (hm : ¬ MayH N B Q E F L) :
    Calls Try.prog 47 #[.agg #[.int .u64 S, .int .i64 N, .int .i64 B, .int .i64 Q, .int .i64 E, .int .i64 F, .int .i64 L, .int .u64 I, v]] w fun e w' => e = .returned (.tuple #[.slice none 0 0, .int .i64 1]) ∧ Below w.heap.size w w' := by
  go_enter Try.func47, Try.ntmps47
  go_wp2_with fail
  refine (rmayh_any S N B Q E F L I _).mono ?_
  rintro e w1 ⟨rfl, hb1⟩
  rw [@decide_eq_false _ (decMayH _ _ _ _ _ _) hm]
  have B1 : Hid (Below w.heap.size w w1) := below_mid (below_alloc _ _) hb1
  clear hb1 hm
  go_wp2
  go_ret2
  exact ⟨rfl, B1.out⟩

set_option maxRecDepth 100000 in
set_option maxHeartbeats 1000000 in
/-- The document's Encode, where the payload isn't as long. -/
theorem renc_len (S N B Q E F L I : Int) (a : Option Addr) (n k : Nat) (w : World) (hm : MayH N B Q E F L) (hn : (n : Int) ≠ B) :
    Calls Try.prog 47 #[.agg #[.int .u64 S, .int .i64 N, .int .i64 B, .int .i64 Q, .int .i64 E, .int .i64 F, .int .i64 L, .int .u64 I, .slice a n k]] w fun e w' => e = .returned (.tuple #[.slice none 0 0, .int .i64 7]) ∧ Below w.heap.size w w' := by
  go_enter Try.func47, Try.ntmps47
  go_wp2_with fail
  refine (rmayh_any S N B Q E F L I _).mono ?_
  rintro e w1 ⟨rfl, hb1⟩
  rw [@decide_eq_true _ (decMayH _ _ _ _ _ _) hm]
  have B1 : Hid (Below w.heap.size w w1) := below_mid (below_alloc _ _) hb1
  have N1 : Hid (Nine w1 w.heap.size S N B Q E F L I (.slice a n k)) := (nine_new w _ S N B Q E F L I _).below hb1
  clear hb1 hm
  obtain ⟨⟨c0, c1, c2, c3, c4, c5, c6, c7⟩, c8⟩ := N1.out
  go_wp2
  go_ret2
  exact ⟨rfl, B1.out⟩

set_option maxRecDepth 100000 in
set_option maxHeartbeats 4000000 in
/-- The document's Encode: the frame. -/
theorem renc_yes (S N B Q E F L I : Nat) (a : Option Addr) (k : Nat) (p : List UInt8) (w : World) (hm : MayH N B Q E F L) (hS : S < 2 ^ 64) (hI : I < 2 ^ 64) (hp : Bs w (.slice a B k) p) (hpl : p.length = B) (hB10 : B ≤ 10000) :
    Calls Try.prog 47 #[.agg #[.int .u64 (S : Nat), .int .i64 (N : Nat), .int .i64 (B : Nat), .int .i64 (Q : Nat), .int .i64 (E : Nat), .int .i64 (F : Nat), .int .i64 (L : Nat), .int .u64 (I : Nat), .slice a B k]] w fun e w' => ∃ a' c', e = .returned (.tuple #[.slice a' (42 + B) c', .int .i64 0]) ∧ Bs w' (.slice a' (42 + B) c') (frameB S N B Q E F L I p) ∧ Below w.heap.size w w' := by
  obtain ⟨i0, hi, hz0, hz1, hz2⟩ := info_parts Try.infoByte
  have HM : Hid (MayH N B Q E F L) := hm
  obtain ⟨⟨hN, hB, hQ, hE, hF, hEF⟩, hL0, hL⟩ := hm
  have hr := most_range hN hB
  have HU : Hid (S < 18446744073709551616 ∧ N < 18446744073709551616 ∧ B < 18446744073709551616 ∧ Q < 18446744073709551616 ∧ E < 18446744073709551616 ∧ F < 18446744073709551616 ∧ L < 18446744073709551616 ∧ I < 18446744073709551616) := ⟨by omega, by omega, by omega, by omega, by omega, by omega, by omega, by omega⟩
  obtain ⟨k1, k2, k3, k4, k5, k6⟩ : IntKind.u64.wrap (N : Int) = (N : Int) ∧ IntKind.u64.wrap (B : Int) = (B : Int) ∧ IntKind.u64.wrap (Q : Int) = (Q : Int) ∧ IntKind.u64.wrap (E : Int) = (E : Int) ∧ IntKind.u64.wrap (F : Int) = (F : Int) ∧ IntKind.u64.wrap (L : Int) = (L : Int) :=
    ⟨wrapU N (by omega), wrapU B (by omega), wrapU Q (by omega), wrapU E (by omega), wrapU F (by omega), wrapU L (by omega)⟩
  have HP : Hid (Bs w (.slice a B k) p) := hp
  have HPL : Hid (p.length = B) := hpl
  have LE : Hid (∀ n s, (be n s).length = s) := be_length
  clear hN hB hQ hE hF hEF hL0 hL hr hS hI hp hpl
  go_enter Try.func47, Try.ntmps47
  go_wp2_with fail
  refine (rmayh_any S N B Q E F L I _).mono ?_
  rintro e w1 ⟨rfl, hb1⟩
  rw [@decide_eq_true _ (decMayH _ _ _ _ _ _) HM.out]
  have B1 : Hid (Below w.heap.size w w1) := below_mid (below_alloc _ _) hb1
  have N1 : Hid (Nine w1 w.heap.size S N B Q E F L I (.slice a B k)) := (nine_new w _ S N B Q E F L I _).below hb1
  clear hb1
  obtain ⟨⟨c0, c1, c2, c3, c4, c5, c6, c7⟩, c8⟩ := N1.out
  go_wp2_with fail
  refine (rput_step w1.heap.size [] 16716 2 _ w1 (Nat.le_refl _) (bs_nil _) (by simp) (by omega) (by omega) (by omega)).mono ?_
  rintro e w2 ⟨u2, rfl, ho2, hb2⟩
  go_wp2_with fail
  refine (rput_step w1.heap.size ([] ++ be 16716 2) 1 1 _ w2 hb2.size ho2.bs (by simp [LE.out]) (by omega) (by omega) (by omega)).mono ?_
  rintro e w3 ⟨u3, rfl, ho3, hb3⟩
  have X3' := below_mid hb2 hb3
  have B3 : Hid (Below w.heap.size w w3) := below_mid B1.out X3'
  have N3 : Hid (Nine w3 w.heap.size S N B Q E F L I (.slice a B k)) := N1.out.below X3'
  have O3 : Hid (IsOw w1.heap.size ([] ++ be 16716 2 ++ be 1 1) u3 w3) := ho3
  have S3 : Hid (w1.heap.size ≤ w3.heap.size) := X3'.size
  have HBS : Hid (w.heap.size ≤ w1.heap.size) := B1.out.size
  clear ho2 ho3 hb2 hb3 X3' c0 c1 c2 c3 c4 c5 c6 c7 c8 N1 B1
  obtain ⟨q, hq⟩ : ∃ q, w.heap.size = q := ⟨_, rfl⟩
  obtain ⟨bs, hbs⟩ : ∃ b, w1.heap.size = b := ⟨_, rfl⟩
  rw [hq] at N3
  rw [hbs] at O3 S3 HBS
  clear hbs
  go_wp2
  clear hq
  have BX : Hid (∀ W, Below w3.heap.size w3 W → W.cell? ⟨q, 0, none⟩ = some (.int .u64 (S : Int)) ∧ W.cell? ⟨q, 1, none⟩ = some (.int .i64 (N : Int)) ∧ W.cell? ⟨q, 2, none⟩ = some (.int .i64 (B : Int)) ∧ W.cell? ⟨q, 3, none⟩ = some (.int .i64 (Q : Int)) ∧ W.cell? ⟨q, 4, none⟩ = some (.int .i64 (E : Int)) ∧ W.cell? ⟨q, 5, none⟩ = some (.int .i64 (F : Int)) ∧ W.cell? ⟨q, 6, none⟩ = some (.int .i64 (L : Int)) ∧ W.cell? ⟨q, 7, none⟩ = some (.int .u64 (I : Int)) ∧ W.cell? ⟨q, 8, none⟩ = some (.slice a B k)) := fun W hW => (N3.out.below hW).all
  have CA : Hid (∀ W, Below w3.heap.size w3 W → Calls Try.prog 69 #[u3, .int .u64 (S : Int), .int .i64 8] W fun e w' => ∃ v, e = .returned v ∧ IsOw bs ([] ++ be 16716 2 ++ be 1 1 ++ be S 8) v w' ∧ Below W.heap.size W w') := fun W hW => rput_step bs ([] ++ be 16716 2 ++ be 1 1) S 8 u3 W (Nat.le_trans S3.out hW.size) (stays_ow _ _ _ _ _ hW O3.out).bs (by simp [LE.out]) HU.out.1 (by omega) (by omega)
  have CB : Hid (∀ W v, Below w3.heap.size w3 W → IsOw bs ([] ++ be 16716 2 ++ be 1 1 ++ be S 8) v W → Calls Try.prog 69 #[v, .int .u64 (N : Int), .int .i64 4] W fun e w' => ∃ v, e = .returned v ∧ IsOw bs ([] ++ be 16716 2 ++ be 1 1 ++ be S 8 ++ be N 4) v w' ∧ Below W.heap.size W w') := fun W v hW hv => rput_step bs ([] ++ be 16716 2 ++ be 1 1 ++ be S 8) N 4 v W (Nat.le_trans S3.out hW.size) hv.bs (by simp [LE.out]) HU.out.2.1 (by omega) (by omega)
  refine wp_region_any (by kernel_rfl) ?_
  obtain ⟨gs, hgs⟩ : ∃ gs : List (Value → World → Prop), gs = [IsV (u3), IsV (.pointer (some ⟨q, 0, none⟩)), IsV (.pointer (some ⟨q, 0, none⟩)), IsV (.int .u64 (S : Int)), IsOw bs ([] ++ be 16716 2 ++ be 1 1 ++ be S 8), IsV (.pointer (some ⟨q, 0, none⟩)), IsV (.pointer (some ⟨q, 1, none⟩)), IsV (.pointer (some ⟨q, 1, none⟩)), IsV (.int .i64 (N : Int)), IsV (.int .u64 (N : Int)), IsOw bs ([] ++ be 16716 2 ++ be 1 1 ++ be S 8 ++ be N 4), IsOw bs ([] ++ be 16716 2 ++ be 1 1 ++ be S 8 ++ be N 4)] := ⟨_, rfl⟩
  have g0 : Hid (gs[0]? = some (IsV (u3))) := by unfold Hid; rw [hgs]; rfl
  have g1 : Hid (gs[1]? = some (IsV (.pointer (some ⟨q, 0, none⟩)))) := by unfold Hid; rw [hgs]; rfl
  have g2 : Hid (gs[2]? = some (IsV (.pointer (some ⟨q, 0, none⟩)))) := by unfold Hid; rw [hgs]; rfl
  have g3 : Hid (gs[3]? = some (IsV (.int .u64 (S : Int)))) := by unfold Hid; rw [hgs]; rfl
  have g4 : Hid (gs[4]? = some (IsOw bs ([] ++ be 16716 2 ++ be 1 1 ++ be S 8))) := by unfold Hid; rw [hgs]; rfl
  have g5 : Hid (gs[5]? = some (IsV (.pointer (some ⟨q, 0, none⟩)))) := by unfold Hid; rw [hgs]; rfl
  have g6 : Hid (gs[6]? = some (IsV (.pointer (some ⟨q, 1, none⟩)))) := by unfold Hid; rw [hgs]; rfl
  have g7 : Hid (gs[7]? = some (IsV (.pointer (some ⟨q, 1, none⟩)))) := by unfold Hid; rw [hgs]; rfl
  have g8 : Hid (gs[8]? = some (IsV (.int .i64 (N : Int)))) := by unfold Hid; rw [hgs]; rfl
  have g9 : Hid (gs[9]? = some (IsV (.int .u64 (N : Int)))) := by unfold Hid; rw [hgs]; rfl
  have g10 : Hid (gs[10]? = some (IsOw bs ([] ++ be 16716 2 ++ be 1 1 ++ be S 8 ++ be N 4))) := by unfold Hid; rw [hgs]; rfl
  have g11 : Hid (gs[11]? = some (IsOw bs ([] ++ be 16716 2 ++ be 1 1 ++ be S 8 ++ be N 4))) := by unfold Hid; rw [hgs]; rfl
  have gk : Hid (∀ p ∈ gs, Stays p) := by
    unfold Hid
    rw [hgs]
    simp only [List.forall_mem_cons]
    exact ⟨stays_v _, stays_v _, stays_v _, stays_v _, stays_ow _ _, stays_v _, stays_v _, stays_v _, stays_v _, stays_v _, stays_ow _ _, stays_ow _ _, by simp⟩
  clear hgs
  refine wpAny_inv3 (fun listed ac W => ∃ xv : Nat → Value, ac = ⟨#[Value.agg #[Value.int IntKind.u64 ↑S, Value.int IntKind.i64 ↑N, Value.int IntKind.i64 ↑B, Value.int IntKind.i64 ↑Q, Value.int IntKind.i64 ↑E, Value.int IntKind.i64 ↑F, Value.int IntKind.i64 ↑L, Value.int IntKind.u64 ↑I, Value.slice a B k], Value.pointer (some { block := q, off := 0 }), Value.slice none 0 0, Value.int IntKind.i64 (0 : Int), xv 11, Value.pointer (some { block := q, off := 0 }), Value.agg #[Value.int IntKind.u64 ↑S, Value.int IntKind.i64 ↑N, Value.int IntKind.i64 ↑B, Value.int IntKind.i64 ↑Q, Value.int IntKind.i64 ↑E, Value.int IntKind.i64 ↑F, Value.int IntKind.i64 ↑L, Value.int IntKind.u64 ↑I], Value.bool true, Value.bool false, Value.pointer (some { block := q, off := 8 }), Value.slice a B k, Value.int IntKind.i64 ↑B, Value.pointer (some { block := q, off := 0 }), Value.pointer (some { block := q, off := 1 }), Value.pointer (some { block := q, off := 2 }), Value.int IntKind.i64 ↑B, Value.bool false, u2, u3, xv 0, xv 1, xv 2, xv 3, xv 4, xv 5, xv 6, xv 7, xv 8, xv 9, xv 10, undef, undef, undef, undef, undef, undef, undef, undef, undef, undef, undef, undef, undef, undef, undef, undef, undef, undef, undef, undef, undef, undef, undef, undef, undef, undef, undef, undef, undef, undef, undef, undef, undef, undef, undef, undef, undef, undef, undef, undef, undef], []⟩ ∧ Below w3.heap.size w3 W ∧ Lst gs listed xv W ∧ Ini listed xv 11 (u3)) (by kernel_rfl) ?_ ?_ _ _ _ _ (by kernel_rfl) (of_decide_eq_true (by kernel_rfl)) (Down.start _) ⟨fun j => if j = 11 then u3 else undef, rfl, below0 _, Lst.start _ _ _ _, (fun _ => rfl)⟩
  · rintro listed ac W ⟨xv, rfl, hb, hG, hI11⟩ hD i hi hnl hd
    have hin : i < 12 := hi
    clear hi
    have hcase : i = 0 ∨ i = 1 ∨ i = 2 ∨ i = 3 ∨ i = 4 ∨ i = 5 ∨ i = 6 ∨ i = 7 ∨ i = 8 ∨ i = 9 ∨ i = 10 ∨ i = 11 := by omega
    rcases hcase with rfl | rfl | rfl | rfl | rfl | rfl | rfl | rfl | rfl | rfl | rfl | rfl
    · refine wpOp_step rfl (fun K' hK => ?_)
      have f11 : listed.getD 11 false = false := by
        cases hx : listed.getD 11 false with
        | false => rfl
        | true =>
          have r0 : listed.getD 0 false = true := by have h := hD 11 (by decide) hx; simp [Region.binds] at h; simp [h]
          rw [getD_false hnl] at r0; cases r0
      have ei11 : xv 11 = u3 := hI11 f11
      clear f11
      have HNL : Hid (listed.getD 0 true = false) := hnl
      clear hnl hD
      clear hd hin
      go_simp
      exact hK _ _ ⟨updV xv 0 (u3), by simp [updV, ei11], hb, hG.same gk.out g0.out _ rfl, hI11.skip (by decide)⟩
    · refine wpOp_step rfl (fun K' hK => ?_)
      have HNL : Hid (listed.getD 1 true = false) := hnl
      clear hnl hD
      clear hd hin
      go_simp
      exact hK _ _ ⟨updV xv 1 (.pointer (some ⟨q, 0, none⟩)), by simp [updV], hb, hG.same gk.out g1.out _ rfl, hI11.skip (by decide)⟩
    · refine wpOp_step rfl (fun K' hK => ?_)
      simp [Region.binds] at hd
      have e1 : xv 1 = .pointer (some ⟨q, 0, none⟩) := hG.get g1.out (by simp [hd])
      have HNL : Hid (listed.getD 2 true = false) := hnl
      clear hnl hD
      clear hd hin
      go_simp
      exact hK _ _ ⟨updV xv 2 (.pointer (some ⟨q, 0, none⟩)), by simp [updV, e1], hb, hG.same gk.out g2.out _ rfl, hI11.skip (by decide)⟩
    · refine wpOp_step rfl (fun K' hK => ?_)
      simp [Region.binds] at hd
      have e2 : xv 2 = .pointer (some ⟨q, 0, none⟩) := hG.get g2.out (by simp [hd])
      have HNL : Hid (listed.getD 3 true = false) := hnl
      clear hnl hD
      obtain ⟨c0, c1, c2, c3, c4, c5, c6, c7, c8⟩ := BX.out W hb
      clear hd hin
      go_simp
      exact hK _ _ ⟨updV xv 3 (.int .u64 (S : Int)), by simp [updV, e2], hb, hG.same gk.out g3.out _ rfl, hI11.skip (by decide)⟩
    · refine wpOp_step rfl (fun K' hK => ?_)
      simp [Region.binds] at hd
      have e0 : xv 0 = u3 := hG.get g0.out (by simp [hd])
      have e3 : xv 3 = .int .u64 (S : Int) := hG.get g3.out (by simp [hd])
      have HNL : Hid (listed.getD 4 true = false) := hnl
      clear hnl hD
      clear hd hin
      go_simp
      refine (CA.out W hb).mono ?_
      rintro e w' ⟨v, rfl, hv, hb'⟩
      go_wp2_with fail
      exact ⟨updV xv 4 v, by simp [updV, e0, e3], hb.trans (hb'.mono hb.size), hG.step gk.out hb' g4.out v hv, hI11.skip (by decide)⟩
    · refine wpOp_step rfl (fun K' hK => ?_)
      have HNL : Hid (listed.getD 5 true = false) := hnl
      clear hnl hD
      clear hd hin
      go_simp
      exact hK _ _ ⟨updV xv 5 (.pointer (some ⟨q, 0, none⟩)), by simp [updV], hb, hG.same gk.out g5.out _ rfl, hI11.skip (by decide)⟩
    · refine wpOp_step rfl (fun K' hK => ?_)
      simp [Region.binds] at hd
      have e5 : xv 5 = .pointer (some ⟨q, 0, none⟩) := hG.get g5.out (by simp [hd])
      have HNL : Hid (listed.getD 6 true = false) := hnl
      clear hnl hD
      clear hd hin
      go_simp
      exact hK _ _ ⟨updV xv 6 (.pointer (some ⟨q, 1, none⟩)), by simp [updV, e5], hb, hG.same gk.out g6.out _ rfl, hI11.skip (by decide)⟩
    · refine wpOp_step rfl (fun K' hK => ?_)
      simp [Region.binds] at hd
      have e6 : xv 6 = .pointer (some ⟨q, 1, none⟩) := hG.get g6.out (by simp [hd])
      have HNL : Hid (listed.getD 7 true = false) := hnl
      clear hnl hD
      clear hd hin
      go_simp
      exact hK _ _ ⟨updV xv 7 (.pointer (some ⟨q, 1, none⟩)), by simp [updV, e6], hb, hG.same gk.out g7.out _ rfl, hI11.skip (by decide)⟩
    · refine wpOp_step rfl (fun K' hK => ?_)
      simp [Region.binds] at hd
      have e7 : xv 7 = .pointer (some ⟨q, 1, none⟩) := hG.get g7.out (by simp [hd])
      have HNL : Hid (listed.getD 8 true = false) := hnl
      clear hnl hD
      obtain ⟨c0, c1, c2, c3, c4, c5, c6, c7, c8⟩ := BX.out W hb
      clear hd hin
      go_simp
      exact hK _ _ ⟨updV xv 8 (.int .i64 (N : Int)), by simp [updV, e7], hb, hG.same gk.out g8.out _ rfl, hI11.skip (by decide)⟩
    · refine wpOp_step rfl (fun K' hK => ?_)
      simp [Region.binds] at hd
      have e8 : xv 8 = .int .i64 (N : Int) := hG.get g8.out (by simp [hd])
      have HNL : Hid (listed.getD 9 true = false) := hnl
      clear hnl hD
      have wr := k1
      clear hd hin
      go_simp
      exact hK _ _ ⟨updV xv 9 (.int .u64 (N : Int)), by simp [updV, e8], hb, hG.same gk.out g9.out _ rfl, hI11.skip (by decide)⟩
    · refine wpOp_step rfl (fun K' hK => ?_)
      simp [Region.binds] at hd
      have m4 : IsOw bs ([] ++ be 16716 2 ++ be 1 1 ++ be S 8) (xv 4) W := hG.get g4.out (by simp [hd])
      have e9 : xv 9 = .int .u64 (N : Int) := hG.get g9.out (by simp [hd])
      have HNL : Hid (listed.getD 10 true = false) := hnl
      clear hnl hD
      clear hd hin
      go_simp
      refine (CB.out W _ hb m4).mono ?_
      rintro e w' ⟨v, rfl, hv, hb'⟩
      go_wp2_with fail
      exact ⟨updV xv 10 v, by simp [updV, e9], hb.trans (hb'.mono hb.size), hG.step gk.out hb' g10.out v hv, hI11.skip (by decide)⟩
    · refine wpOp_step rfl (fun K' hK => ?_)
      simp [Region.binds] at hd
      have m10 : IsOw bs ([] ++ be 16716 2 ++ be 1 1 ++ be S 8 ++ be N 4) (xv 10) W := hG.get g10.out (by simp [hd])
      have HNL : Hid (listed.getD 11 true = false) := hnl
      clear hnl hD
      clear hd hin
      go_simp
      exact hK _ _ ⟨updV xv 11 (xv 10), by simp [updV], hb, hG.same gk.out g11.out _ m10, Ini.done HNL.out⟩
  · rintro listed ac W ⟨xv, rfl, hb, hG, hI11⟩ hall
    have m11 : Hid (IsOw bs ([] ++ be 16716 2 ++ be 1 1 ++ be S 8 ++ be N 4) (xv 11) W) := hG.get g11.out (hall 11 (by decide))
    have XW : Hid (Below w3.heap.size w3 W) := hb
    clear hall hG hb hI11 gk g0 g1 g2 g3 g4 g5 g6 g7 g8 g9 g10 g11
    have N0' : Hid (Nine W q S N B Q E F L I (.slice a B k)) := N3.out.below XW.out
    have B0' : Hid (Below w.heap.size w W) := below_mid B3.out XW.out
    have S0' : Hid (bs ≤ W.heap.size) := Nat.le_trans S3.out XW.out.size
    have O0' : Hid (IsOw bs ([] ++ be 16716 2 ++ be 1 1 ++ be S 8 ++ be N 4) (xv 11) W) := m11.out
    clear BX CA CB XW m11 N3 B3 O3 S3
    generalize xv 11 = t0 at *
    generalize W = y0 at *
    go_wp2
    have BX : Hid (∀ W, Below y0.heap.size y0 W → W.cell? ⟨q, 0, none⟩ = some (.int .u64 (S : Int)) ∧ W.cell? ⟨q, 1, none⟩ = some (.int .i64 (N : Int)) ∧ W.cell? ⟨q, 2, none⟩ = some (.int .i64 (B : Int)) ∧ W.cell? ⟨q, 3, none⟩ = some (.int .i64 (Q : Int)) ∧ W.cell? ⟨q, 4, none⟩ = some (.int .i64 (E : Int)) ∧ W.cell? ⟨q, 5, none⟩ = some (.int .i64 (F : Int)) ∧ W.cell? ⟨q, 6, none⟩ = some (.int .i64 (L : Int)) ∧ W.cell? ⟨q, 7, none⟩ = some (.int .u64 (I : Int)) ∧ W.cell? ⟨q, 8, none⟩ = some (.slice a B k)) := fun W hW => (N0'.out.below hW).all
    have CA : Hid (∀ W, Below y0.heap.size y0 W → Calls Try.prog 69 #[t0, .int .u64 (B : Int), .int .i64 2] W fun e w' => ∃ v, e = .returned v ∧ IsOw bs ([] ++ be 16716 2 ++ be 1 1 ++ be S 8 ++ be N 4 ++ be B 2) v w' ∧ Below W.heap.size W w') := fun W hW => rput_step bs ([] ++ be 16716 2 ++ be 1 1 ++ be S 8 ++ be N 4) B 2 t0 W (Nat.le_trans S0'.out hW.size) (stays_ow _ _ _ _ _ hW O0'.out).bs (by simp [LE.out]) HU.out.2.2.1 (by omega) (by omega)
    have CB : Hid (∀ W v, Below y0.heap.size y0 W → IsOw bs ([] ++ be 16716 2 ++ be 1 1 ++ be S 8 ++ be N 4 ++ be B 2) v W → Calls Try.prog 69 #[v, .int .u64 (Q : Int), .int .i64 1] W fun e w' => ∃ v, e = .returned v ∧ IsOw bs ([] ++ be 16716 2 ++ be 1 1 ++ be S 8 ++ be N 4 ++ be B 2 ++ be Q 1) v w' ∧ Below W.heap.size W w') := fun W v hW hv => rput_step bs ([] ++ be 16716 2 ++ be 1 1 ++ be S 8 ++ be N 4 ++ be B 2) Q 1 v W (Nat.le_trans S0'.out hW.size) hv.bs (by simp [LE.out]) HU.out.2.2.2.1 (by omega) (by omega)
    refine wp_region_any (by kernel_rfl) ?_
    obtain ⟨gs, hgs⟩ : ∃ gs : List (Value → World → Prop), gs = [IsV (t0), IsV (.pointer (some ⟨q, 0, none⟩)), IsV (.pointer (some ⟨q, 1, none⟩)), IsV (.pointer (some ⟨q, 2, none⟩)), IsV (.int .i64 (B : Int)), IsV (.int .u64 (B : Int)), IsOw bs ([] ++ be 16716 2 ++ be 1 1 ++ be S 8 ++ be N 4 ++ be B 2), IsV (.pointer (some ⟨q, 0, none⟩)), IsV (.pointer (some ⟨q, 1, none⟩)), IsV (.pointer (some ⟨q, 3, none⟩)), IsV (.int .i64 (Q : Int)), IsV (.int .u64 (Q : Int)), IsOw bs ([] ++ be 16716 2 ++ be 1 1 ++ be S 8 ++ be N 4 ++ be B 2 ++ be Q 1), IsOw bs ([] ++ be 16716 2 ++ be 1 1 ++ be S 8 ++ be N 4 ++ be B 2 ++ be Q 1)] := ⟨_, rfl⟩
    have g0 : Hid (gs[0]? = some (IsV (t0))) := by unfold Hid; rw [hgs]; rfl
    have g1 : Hid (gs[1]? = some (IsV (.pointer (some ⟨q, 0, none⟩)))) := by unfold Hid; rw [hgs]; rfl
    have g2 : Hid (gs[2]? = some (IsV (.pointer (some ⟨q, 1, none⟩)))) := by unfold Hid; rw [hgs]; rfl
    have g3 : Hid (gs[3]? = some (IsV (.pointer (some ⟨q, 2, none⟩)))) := by unfold Hid; rw [hgs]; rfl
    have g4 : Hid (gs[4]? = some (IsV (.int .i64 (B : Int)))) := by unfold Hid; rw [hgs]; rfl
    have g5 : Hid (gs[5]? = some (IsV (.int .u64 (B : Int)))) := by unfold Hid; rw [hgs]; rfl
    have g6 : Hid (gs[6]? = some (IsOw bs ([] ++ be 16716 2 ++ be 1 1 ++ be S 8 ++ be N 4 ++ be B 2))) := by unfold Hid; rw [hgs]; rfl
    have g7 : Hid (gs[7]? = some (IsV (.pointer (some ⟨q, 0, none⟩)))) := by unfold Hid; rw [hgs]; rfl
    have g8 : Hid (gs[8]? = some (IsV (.pointer (some ⟨q, 1, none⟩)))) := by unfold Hid; rw [hgs]; rfl
    have g9 : Hid (gs[9]? = some (IsV (.pointer (some ⟨q, 3, none⟩)))) := by unfold Hid; rw [hgs]; rfl
    have g10 : Hid (gs[10]? = some (IsV (.int .i64 (Q : Int)))) := by unfold Hid; rw [hgs]; rfl
    have g11 : Hid (gs[11]? = some (IsV (.int .u64 (Q : Int)))) := by unfold Hid; rw [hgs]; rfl
    have g12 : Hid (gs[12]? = some (IsOw bs ([] ++ be 16716 2 ++ be 1 1 ++ be S 8 ++ be N 4 ++ be B 2 ++ be Q 1))) := by unfold Hid; rw [hgs]; rfl
    have g13 : Hid (gs[13]? = some (IsOw bs ([] ++ be 16716 2 ++ be 1 1 ++ be S 8 ++ be N 4 ++ be B 2 ++ be Q 1))) := by unfold Hid; rw [hgs]; rfl
    have gk : Hid (∀ p ∈ gs, Stays p) := by
      unfold Hid
      rw [hgs]
      simp only [List.forall_mem_cons]
      exact ⟨stays_v _, stays_v _, stays_v _, stays_v _, stays_v _, stays_v _, stays_ow _ _, stays_v _, stays_v _, stays_v _, stays_v _, stays_v _, stays_ow _ _, stays_ow _ _, by simp⟩
    clear hgs
    refine wpAny_inv3 (fun listed ac Wx => ∃ xvx : Nat → Value, ac = ⟨#[Value.agg #[Value.int IntKind.u64 ↑S, Value.int IntKind.i64 ↑N, Value.int IntKind.i64 ↑B, Value.int IntKind.i64 ↑Q, Value.int IntKind.i64 ↑E, Value.int IntKind.i64 ↑F, Value.int IntKind.i64 ↑L, Value.int IntKind.u64 ↑I, Value.slice a B k], Value.pointer (some { block := q, off := 0 }), Value.slice none 0 0, Value.int IntKind.i64 (0 : Int), xvx 13, Value.pointer (some { block := q, off := 0 }), Value.agg #[Value.int IntKind.u64 ↑S, Value.int IntKind.i64 ↑N, Value.int IntKind.i64 ↑B, Value.int IntKind.i64 ↑Q, Value.int IntKind.i64 ↑E, Value.int IntKind.i64 ↑F, Value.int IntKind.i64 ↑L, Value.int IntKind.u64 ↑I], Value.bool true, Value.bool false, Value.pointer (some { block := q, off := 8 }), Value.slice a B k, Value.int IntKind.i64 ↑B, Value.pointer (some { block := q, off := 0 }), Value.pointer (some { block := q, off := 1 }), Value.pointer (some { block := q, off := 2 }), Value.int IntKind.i64 ↑B, Value.bool false, u2, u3, xv 0, xv 1, xv 2, xv 3, xv 4, xv 5, xv 6, xv 7, xv 8, xv 9, xv 10, xvx 0, xvx 1, xvx 2, xvx 3, xvx 4, xvx 5, xvx 6, xvx 7, xvx 8, xvx 9, xvx 10, xvx 11, xvx 12, undef, undef, undef, undef, undef, undef, undef, undef, undef, undef, undef, undef, undef, undef, undef, undef, undef, undef, undef, undef, undef, undef, undef, undef, undef, undef, undef, undef], []⟩ ∧ Below y0.heap.size y0 Wx ∧ Lst gs listed xvx Wx ∧ Ini listed xvx 13 (t0)) (by kernel_rfl) ?_ ?_ _ _ _ _ (by kernel_rfl) (of_decide_eq_true (by kernel_rfl)) (Down.start _) ⟨fun j => if j = 13 then t0 else undef, rfl, below0 _, Lst.start _ _ _ _, (fun _ => rfl)⟩
    · rintro listed ac Wx ⟨xvx, rfl, hb, hG, hI13⟩ hD i hi hnl hd
      have hin : i < 14 := hi
      clear hi
      have hcase : i = 0 ∨ i = 1 ∨ i = 2 ∨ i = 3 ∨ i = 4 ∨ i = 5 ∨ i = 6 ∨ i = 7 ∨ i = 8 ∨ i = 9 ∨ i = 10 ∨ i = 11 ∨ i = 12 ∨ i = 13 := by omega
      rcases hcase with rfl | rfl | rfl | rfl | rfl | rfl | rfl | rfl | rfl | rfl | rfl | rfl | rfl | rfl
      · refine wpOp_step rfl (fun K' hK => ?_)
        have f13 : listed.getD 13 false = false := by
          cases hx : listed.getD 13 false with
          | false => rfl
          | true =>
            have r0 : listed.getD 0 false = true := by have h := hD 13 (by decide) hx; simp [Region.binds] at h; simp [h]
            rw [getD_false hnl] at r0; cases r0
        have ei13 : xvx 13 = t0 := hI13 f13
        clear f13
        have HNL : Hid (listed.getD 0 true = false) := hnl
        clear hnl hD
        clear hd hin
        go_simp
        exact hK _ _ ⟨updV xvx 0 (t0), by simp [updV, ei13], hb, hG.same gk.out g0.out _ rfl, hI13.skip (by decide)⟩
      · refine wpOp_step rfl (fun K' hK => ?_)
        have HNL : Hid (listed.getD 1 true = false) := hnl
        clear hnl hD
        clear hd hin
        go_simp
        exact hK _ _ ⟨updV xvx 1 (.pointer (some ⟨q, 0, none⟩)), by simp [updV], hb, hG.same gk.out g1.out _ rfl, hI13.skip (by decide)⟩
      · refine wpOp_step rfl (fun K' hK => ?_)
        simp [Region.binds] at hd
        have e1 : xvx 1 = .pointer (some ⟨q, 0, none⟩) := hG.get g1.out (by simp [hd])
        have HNL : Hid (listed.getD 2 true = false) := hnl
        clear hnl hD
        clear hd hin
        go_simp
        exact hK _ _ ⟨updV xvx 2 (.pointer (some ⟨q, 1, none⟩)), by simp [updV, e1], hb, hG.same gk.out g2.out _ rfl, hI13.skip (by decide)⟩
      · refine wpOp_step rfl (fun K' hK => ?_)
        simp [Region.binds] at hd
        have e2 : xvx 2 = .pointer (some ⟨q, 1, none⟩) := hG.get g2.out (by simp [hd])
        have HNL : Hid (listed.getD 3 true = false) := hnl
        clear hnl hD
        clear hd hin
        go_simp
        exact hK _ _ ⟨updV xvx 3 (.pointer (some ⟨q, 2, none⟩)), by simp [updV, e2], hb, hG.same gk.out g3.out _ rfl, hI13.skip (by decide)⟩
      · refine wpOp_step rfl (fun K' hK => ?_)
        simp [Region.binds] at hd
        have e3 : xvx 3 = .pointer (some ⟨q, 2, none⟩) := hG.get g3.out (by simp [hd])
        have HNL : Hid (listed.getD 4 true = false) := hnl
        clear hnl hD
        obtain ⟨c0, c1, c2, c3, c4, c5, c6, c7, c8⟩ := BX.out Wx hb
        clear hd hin
        go_simp
        exact hK _ _ ⟨updV xvx 4 (.int .i64 (B : Int)), by simp [updV, e3], hb, hG.same gk.out g4.out _ rfl, hI13.skip (by decide)⟩
      · refine wpOp_step rfl (fun K' hK => ?_)
        simp [Region.binds] at hd
        have e4 : xvx 4 = .int .i64 (B : Int) := hG.get g4.out (by simp [hd])
        have HNL : Hid (listed.getD 5 true = false) := hnl
        clear hnl hD
        have wr := k2
        clear hd hin
        go_simp
        exact hK _ _ ⟨updV xvx 5 (.int .u64 (B : Int)), by simp [updV, e4], hb, hG.same gk.out g5.out _ rfl, hI13.skip (by decide)⟩
      · refine wpOp_step rfl (fun K' hK => ?_)
        simp [Region.binds] at hd
        have e0 : xvx 0 = t0 := hG.get g0.out (by simp [hd])
        have e5 : xvx 5 = .int .u64 (B : Int) := hG.get g5.out (by simp [hd])
        have HNL : Hid (listed.getD 6 true = false) := hnl
        clear hnl hD
        clear hd hin
        go_simp
        refine (CA.out Wx hb).mono ?_
        rintro e w' ⟨v, rfl, hv, hb'⟩
        go_wp2_with fail
        exact ⟨updV xvx 6 v, by simp [updV, e0, e5], hb.trans (hb'.mono hb.size), hG.step gk.out hb' g6.out v hv, hI13.skip (by decide)⟩
      · refine wpOp_step rfl (fun K' hK => ?_)
        have HNL : Hid (listed.getD 7 true = false) := hnl
        clear hnl hD
        clear hd hin
        go_simp
        exact hK _ _ ⟨updV xvx 7 (.pointer (some ⟨q, 0, none⟩)), by simp [updV], hb, hG.same gk.out g7.out _ rfl, hI13.skip (by decide)⟩
      · refine wpOp_step rfl (fun K' hK => ?_)
        simp [Region.binds] at hd
        have e7 : xvx 7 = .pointer (some ⟨q, 0, none⟩) := hG.get g7.out (by simp [hd])
        have HNL : Hid (listed.getD 8 true = false) := hnl
        clear hnl hD
        clear hd hin
        go_simp
        exact hK _ _ ⟨updV xvx 8 (.pointer (some ⟨q, 1, none⟩)), by simp [updV, e7], hb, hG.same gk.out g8.out _ rfl, hI13.skip (by decide)⟩
      · refine wpOp_step rfl (fun K' hK => ?_)
        simp [Region.binds] at hd
        have e8 : xvx 8 = .pointer (some ⟨q, 1, none⟩) := hG.get g8.out (by simp [hd])
        have HNL : Hid (listed.getD 9 true = false) := hnl
        clear hnl hD
        clear hd hin
        go_simp
        exact hK _ _ ⟨updV xvx 9 (.pointer (some ⟨q, 3, none⟩)), by simp [updV, e8], hb, hG.same gk.out g9.out _ rfl, hI13.skip (by decide)⟩
      · refine wpOp_step rfl (fun K' hK => ?_)
        simp [Region.binds] at hd
        have e9 : xvx 9 = .pointer (some ⟨q, 3, none⟩) := hG.get g9.out (by simp [hd])
        have HNL : Hid (listed.getD 10 true = false) := hnl
        clear hnl hD
        obtain ⟨c0, c1, c2, c3, c4, c5, c6, c7, c8⟩ := BX.out Wx hb
        clear hd hin
        go_simp
        exact hK _ _ ⟨updV xvx 10 (.int .i64 (Q : Int)), by simp [updV, e9], hb, hG.same gk.out g10.out _ rfl, hI13.skip (by decide)⟩
      · refine wpOp_step rfl (fun K' hK => ?_)
        simp [Region.binds] at hd
        have e10 : xvx 10 = .int .i64 (Q : Int) := hG.get g10.out (by simp [hd])
        have HNL : Hid (listed.getD 11 true = false) := hnl
        clear hnl hD
        have wr := k3
        clear hd hin
        go_simp
        exact hK _ _ ⟨updV xvx 11 (.int .u64 (Q : Int)), by simp [updV, e10], hb, hG.same gk.out g11.out _ rfl, hI13.skip (by decide)⟩
      · refine wpOp_step rfl (fun K' hK => ?_)
        simp [Region.binds] at hd
        have m6 : IsOw bs ([] ++ be 16716 2 ++ be 1 1 ++ be S 8 ++ be N 4 ++ be B 2) (xvx 6) Wx := hG.get g6.out (by simp [hd])
        have e11 : xvx 11 = .int .u64 (Q : Int) := hG.get g11.out (by simp [hd])
        have HNL : Hid (listed.getD 12 true = false) := hnl
        clear hnl hD
        clear hd hin
        go_simp
        refine (CB.out Wx _ hb m6).mono ?_
        rintro e w' ⟨v, rfl, hv, hb'⟩
        go_wp2_with fail
        exact ⟨updV xvx 12 v, by simp [updV, e11], hb.trans (hb'.mono hb.size), hG.step gk.out hb' g12.out v hv, hI13.skip (by decide)⟩
      · refine wpOp_step rfl (fun K' hK => ?_)
        simp [Region.binds] at hd
        have m12 : IsOw bs ([] ++ be 16716 2 ++ be 1 1 ++ be S 8 ++ be N 4 ++ be B 2 ++ be Q 1) (xvx 12) Wx := hG.get g12.out (by simp [hd])
        have HNL : Hid (listed.getD 13 true = false) := hnl
        clear hnl hD
        clear hd hin
        go_simp
        exact hK _ _ ⟨updV xvx 13 (xvx 12), by simp [updV], hb, hG.same gk.out g13.out _ m12, Ini.done HNL.out⟩
    · rintro listed ac Wx ⟨xvx, rfl, hb, hG, hI13⟩ hall
      have m13 : Hid (IsOw bs ([] ++ be 16716 2 ++ be 1 1 ++ be S 8 ++ be N 4 ++ be B 2 ++ be Q 1) (xvx 13) Wx) := hG.get g13.out (hall 13 (by decide))
      have XW : Hid (Below y0.heap.size y0 Wx) := hb
      clear hall hG hb hI13 gk g0 g1 g2 g3 g4 g5 g6 g7 g8 g9 g10 g11 g12 g13
      have N1' : Hid (Nine Wx q S N B Q E F L I (.slice a B k)) := N0'.out.below XW.out
      have B1' : Hid (Below w.heap.size w Wx) := below_mid B0'.out XW.out
      have S1' : Hid (bs ≤ Wx.heap.size) := Nat.le_trans S0'.out XW.out.size
      have O1' : Hid (IsOw bs ([] ++ be 16716 2 ++ be 1 1 ++ be S 8 ++ be N 4 ++ be B 2 ++ be Q 1) (xvx 13) Wx) := m13.out
      clear BX CA CB XW m13 N0' B0' O0' S0'
      generalize xvx 13 = t1 at *
      generalize Wx = y1 at *
      go_wp2
      have BX : Hid (∀ W, Below y1.heap.size y1 W → W.cell? ⟨q, 0, none⟩ = some (.int .u64 (S : Int)) ∧ W.cell? ⟨q, 1, none⟩ = some (.int .i64 (N : Int)) ∧ W.cell? ⟨q, 2, none⟩ = some (.int .i64 (B : Int)) ∧ W.cell? ⟨q, 3, none⟩ = some (.int .i64 (Q : Int)) ∧ W.cell? ⟨q, 4, none⟩ = some (.int .i64 (E : Int)) ∧ W.cell? ⟨q, 5, none⟩ = some (.int .i64 (F : Int)) ∧ W.cell? ⟨q, 6, none⟩ = some (.int .i64 (L : Int)) ∧ W.cell? ⟨q, 7, none⟩ = some (.int .u64 (I : Int)) ∧ W.cell? ⟨q, 8, none⟩ = some (.slice a B k)) := fun W hW => (N1'.out.below hW).all
      have CA : Hid (∀ W, Below y1.heap.size y1 W → Calls Try.prog 69 #[t1, .int .u64 (E : Int), .int .i64 2] W fun e w' => ∃ v, e = .returned v ∧ IsOw bs ([] ++ be 16716 2 ++ be 1 1 ++ be S 8 ++ be N 4 ++ be B 2 ++ be Q 1 ++ be E 2) v w' ∧ Below W.heap.size W w') := fun W hW => rput_step bs ([] ++ be 16716 2 ++ be 1 1 ++ be S 8 ++ be N 4 ++ be B 2 ++ be Q 1) E 2 t1 W (Nat.le_trans S1'.out hW.size) (stays_ow _ _ _ _ _ hW O1'.out).bs (by simp [LE.out]) HU.out.2.2.2.2.1 (by omega) (by omega)
      have CB : Hid (∀ W v, Below y1.heap.size y1 W → IsOw bs ([] ++ be 16716 2 ++ be 1 1 ++ be S 8 ++ be N 4 ++ be B 2 ++ be Q 1 ++ be E 2) v W → Calls Try.prog 69 #[v, .int .u64 (F : Int), .int .i64 2] W fun e w' => ∃ v, e = .returned v ∧ IsOw bs ([] ++ be 16716 2 ++ be 1 1 ++ be S 8 ++ be N 4 ++ be B 2 ++ be Q 1 ++ be E 2 ++ be F 2) v w' ∧ Below W.heap.size W w') := fun W v hW hv => rput_step bs ([] ++ be 16716 2 ++ be 1 1 ++ be S 8 ++ be N 4 ++ be B 2 ++ be Q 1 ++ be E 2) F 2 v W (Nat.le_trans S1'.out hW.size) hv.bs (by simp [LE.out]) HU.out.2.2.2.2.2.1 (by omega) (by omega)
      refine wp_region_any (by kernel_rfl) ?_
      obtain ⟨gs, hgs⟩ : ∃ gs : List (Value → World → Prop), gs = [IsV (t1), IsV (.pointer (some ⟨q, 0, none⟩)), IsV (.pointer (some ⟨q, 1, none⟩)), IsV (.pointer (some ⟨q, 4, none⟩)), IsV (.int .i64 (E : Int)), IsV (.int .u64 (E : Int)), IsOw bs ([] ++ be 16716 2 ++ be 1 1 ++ be S 8 ++ be N 4 ++ be B 2 ++ be Q 1 ++ be E 2), IsV (.pointer (some ⟨q, 0, none⟩)), IsV (.pointer (some ⟨q, 1, none⟩)), IsV (.pointer (some ⟨q, 5, none⟩)), IsV (.int .i64 (F : Int)), IsV (.int .u64 (F : Int)), IsOw bs ([] ++ be 16716 2 ++ be 1 1 ++ be S 8 ++ be N 4 ++ be B 2 ++ be Q 1 ++ be E 2 ++ be F 2), IsOw bs ([] ++ be 16716 2 ++ be 1 1 ++ be S 8 ++ be N 4 ++ be B 2 ++ be Q 1 ++ be E 2 ++ be F 2)] := ⟨_, rfl⟩
      have g0 : Hid (gs[0]? = some (IsV (t1))) := by unfold Hid; rw [hgs]; rfl
      have g1 : Hid (gs[1]? = some (IsV (.pointer (some ⟨q, 0, none⟩)))) := by unfold Hid; rw [hgs]; rfl
      have g2 : Hid (gs[2]? = some (IsV (.pointer (some ⟨q, 1, none⟩)))) := by unfold Hid; rw [hgs]; rfl
      have g3 : Hid (gs[3]? = some (IsV (.pointer (some ⟨q, 4, none⟩)))) := by unfold Hid; rw [hgs]; rfl
      have g4 : Hid (gs[4]? = some (IsV (.int .i64 (E : Int)))) := by unfold Hid; rw [hgs]; rfl
      have g5 : Hid (gs[5]? = some (IsV (.int .u64 (E : Int)))) := by unfold Hid; rw [hgs]; rfl
      have g6 : Hid (gs[6]? = some (IsOw bs ([] ++ be 16716 2 ++ be 1 1 ++ be S 8 ++ be N 4 ++ be B 2 ++ be Q 1 ++ be E 2))) := by unfold Hid; rw [hgs]; rfl
      have g7 : Hid (gs[7]? = some (IsV (.pointer (some ⟨q, 0, none⟩)))) := by unfold Hid; rw [hgs]; rfl
      have g8 : Hid (gs[8]? = some (IsV (.pointer (some ⟨q, 1, none⟩)))) := by unfold Hid; rw [hgs]; rfl
      have g9 : Hid (gs[9]? = some (IsV (.pointer (some ⟨q, 5, none⟩)))) := by unfold Hid; rw [hgs]; rfl
      have g10 : Hid (gs[10]? = some (IsV (.int .i64 (F : Int)))) := by unfold Hid; rw [hgs]; rfl
      have g11 : Hid (gs[11]? = some (IsV (.int .u64 (F : Int)))) := by unfold Hid; rw [hgs]; rfl
      have g12 : Hid (gs[12]? = some (IsOw bs ([] ++ be 16716 2 ++ be 1 1 ++ be S 8 ++ be N 4 ++ be B 2 ++ be Q 1 ++ be E 2 ++ be F 2))) := by unfold Hid; rw [hgs]; rfl
      have g13 : Hid (gs[13]? = some (IsOw bs ([] ++ be 16716 2 ++ be 1 1 ++ be S 8 ++ be N 4 ++ be B 2 ++ be Q 1 ++ be E 2 ++ be F 2))) := by unfold Hid; rw [hgs]; rfl
      have gk : Hid (∀ p ∈ gs, Stays p) := by
        unfold Hid
        rw [hgs]
        simp only [List.forall_mem_cons]
        exact ⟨stays_v _, stays_v _, stays_v _, stays_v _, stays_v _, stays_v _, stays_ow _ _, stays_v _, stays_v _, stays_v _, stays_v _, stays_v _, stays_ow _ _, stays_ow _ _, by simp⟩
      clear hgs
      refine wpAny_inv3 (fun listed ac Wy => ∃ xvy : Nat → Value, ac = ⟨#[Value.agg #[Value.int IntKind.u64 ↑S, Value.int IntKind.i64 ↑N, Value.int IntKind.i64 ↑B, Value.int IntKind.i64 ↑Q, Value.int IntKind.i64 ↑E, Value.int IntKind.i64 ↑F, Value.int IntKind.i64 ↑L, Value.int IntKind.u64 ↑I, Value.slice a B k], Value.pointer (some { block := q, off := 0 }), Value.slice none 0 0, Value.int IntKind.i64 (0 : Int), xvy 13, Value.pointer (some { block := q, off := 0 }), Value.agg #[Value.int IntKind.u64 ↑S, Value.int IntKind.i64 ↑N, Value.int IntKind.i64 ↑B, Value.int IntKind.i64 ↑Q, Value.int IntKind.i64 ↑E, Value.int IntKind.i64 ↑F, Value.int IntKind.i64 ↑L, Value.int IntKind.u64 ↑I], Value.bool true, Value.bool false, Value.pointer (some { block := q, off := 8 }), Value.slice a B k, Value.int IntKind.i64 ↑B, Value.pointer (some { block := q, off := 0 }), Value.pointer (some { block := q, off := 1 }), Value.pointer (some { block := q, off := 2 }), Value.int IntKind.i64 ↑B, Value.bool false, u2, u3, xv 0, xv 1, xv 2, xv 3, xv 4, xv 5, xv 6, xv 7, xv 8, xv 9, xv 10, xvx 0, xvx 1, xvx 2, xvx 3, xvx 4, xvx 5, xvx 6, xvx 7, xvx 8, xvx 9, xvx 10, xvx 11, xvx 12, xvy 0, xvy 1, xvy 2, xvy 3, xvy 4, xvy 5, xvy 6, xvy 7, xvy 8, xvy 9, xvy 10, xvy 11, xvy 12, undef, undef, undef, undef, undef, undef, undef, undef, undef, undef, undef, undef, undef, undef, undef], []⟩ ∧ Below y1.heap.size y1 Wy ∧ Lst gs listed xvy Wy ∧ Ini listed xvy 13 (t1)) (by kernel_rfl) ?_ ?_ _ _ _ _ (by kernel_rfl) (of_decide_eq_true (by kernel_rfl)) (Down.start _) ⟨fun j => if j = 13 then t1 else undef, rfl, below0 _, Lst.start _ _ _ _, (fun _ => rfl)⟩
      · rintro listed ac Wy ⟨xvy, rfl, hb, hG, hI13⟩ hD i hi hnl hd
        have hin : i < 14 := hi
        clear hi
        have hcase : i = 0 ∨ i = 1 ∨ i = 2 ∨ i = 3 ∨ i = 4 ∨ i = 5 ∨ i = 6 ∨ i = 7 ∨ i = 8 ∨ i = 9 ∨ i = 10 ∨ i = 11 ∨ i = 12 ∨ i = 13 := by omega
        rcases hcase with rfl | rfl | rfl | rfl | rfl | rfl | rfl | rfl | rfl | rfl | rfl | rfl | rfl | rfl
        · refine wpOp_step rfl (fun K' hK => ?_)
          have f13 : listed.getD 13 false = false := by
            cases hx : listed.getD 13 false with
            | false => rfl
            | true =>
              have r0 : listed.getD 0 false = true := by have h := hD 13 (by decide) hx; simp [Region.binds] at h; simp [h]
              rw [getD_false hnl] at r0; cases r0
          have ei13 : xvy 13 = t1 := hI13 f13
          clear f13
          have HNL : Hid (listed.getD 0 true = false) := hnl
          clear hnl hD
          clear hd hin
          go_simp
          exact hK _ _ ⟨updV xvy 0 (t1), by simp [updV, ei13], hb, hG.same gk.out g0.out _ rfl, hI13.skip (by decide)⟩
        · refine wpOp_step rfl (fun K' hK => ?_)
          have HNL : Hid (listed.getD 1 true = false) := hnl
          clear hnl hD
          clear hd hin
          go_simp
          exact hK _ _ ⟨updV xvy 1 (.pointer (some ⟨q, 0, none⟩)), by simp [updV], hb, hG.same gk.out g1.out _ rfl, hI13.skip (by decide)⟩
        · refine wpOp_step rfl (fun K' hK => ?_)
          simp [Region.binds] at hd
          have e1 : xvy 1 = .pointer (some ⟨q, 0, none⟩) := hG.get g1.out (by simp [hd])
          have HNL : Hid (listed.getD 2 true = false) := hnl
          clear hnl hD
          clear hd hin
          go_simp
          exact hK _ _ ⟨updV xvy 2 (.pointer (some ⟨q, 1, none⟩)), by simp [updV, e1], hb, hG.same gk.out g2.out _ rfl, hI13.skip (by decide)⟩
        · refine wpOp_step rfl (fun K' hK => ?_)
          simp [Region.binds] at hd
          have e2 : xvy 2 = .pointer (some ⟨q, 1, none⟩) := hG.get g2.out (by simp [hd])
          have HNL : Hid (listed.getD 3 true = false) := hnl
          clear hnl hD
          clear hd hin
          go_simp
          exact hK _ _ ⟨updV xvy 3 (.pointer (some ⟨q, 4, none⟩)), by simp [updV, e2], hb, hG.same gk.out g3.out _ rfl, hI13.skip (by decide)⟩
        · refine wpOp_step rfl (fun K' hK => ?_)
          simp [Region.binds] at hd
          have e3 : xvy 3 = .pointer (some ⟨q, 4, none⟩) := hG.get g3.out (by simp [hd])
          have HNL : Hid (listed.getD 4 true = false) := hnl
          clear hnl hD
          obtain ⟨c0, c1, c2, c3, c4, c5, c6, c7, c8⟩ := BX.out Wy hb
          clear hd hin
          go_simp
          exact hK _ _ ⟨updV xvy 4 (.int .i64 (E : Int)), by simp [updV, e3], hb, hG.same gk.out g4.out _ rfl, hI13.skip (by decide)⟩
        · refine wpOp_step rfl (fun K' hK => ?_)
          simp [Region.binds] at hd
          have e4 : xvy 4 = .int .i64 (E : Int) := hG.get g4.out (by simp [hd])
          have HNL : Hid (listed.getD 5 true = false) := hnl
          clear hnl hD
          have wr := k4
          clear hd hin
          go_simp
          exact hK _ _ ⟨updV xvy 5 (.int .u64 (E : Int)), by simp [updV, e4], hb, hG.same gk.out g5.out _ rfl, hI13.skip (by decide)⟩
        · refine wpOp_step rfl (fun K' hK => ?_)
          simp [Region.binds] at hd
          have e0 : xvy 0 = t1 := hG.get g0.out (by simp [hd])
          have e5 : xvy 5 = .int .u64 (E : Int) := hG.get g5.out (by simp [hd])
          have HNL : Hid (listed.getD 6 true = false) := hnl
          clear hnl hD
          clear hd hin
          go_simp
          refine (CA.out Wy hb).mono ?_
          rintro e w' ⟨v, rfl, hv, hb'⟩
          go_wp2_with fail
          exact ⟨updV xvy 6 v, by simp [updV, e0, e5], hb.trans (hb'.mono hb.size), hG.step gk.out hb' g6.out v hv, hI13.skip (by decide)⟩
        · refine wpOp_step rfl (fun K' hK => ?_)
          have HNL : Hid (listed.getD 7 true = false) := hnl
          clear hnl hD
          clear hd hin
          go_simp
          exact hK _ _ ⟨updV xvy 7 (.pointer (some ⟨q, 0, none⟩)), by simp [updV], hb, hG.same gk.out g7.out _ rfl, hI13.skip (by decide)⟩
        · refine wpOp_step rfl (fun K' hK => ?_)
          simp [Region.binds] at hd
          have e7 : xvy 7 = .pointer (some ⟨q, 0, none⟩) := hG.get g7.out (by simp [hd])
          have HNL : Hid (listed.getD 8 true = false) := hnl
          clear hnl hD
          clear hd hin
          go_simp
          exact hK _ _ ⟨updV xvy 8 (.pointer (some ⟨q, 1, none⟩)), by simp [updV, e7], hb, hG.same gk.out g8.out _ rfl, hI13.skip (by decide)⟩
        · refine wpOp_step rfl (fun K' hK => ?_)
          simp [Region.binds] at hd
          have e8 : xvy 8 = .pointer (some ⟨q, 1, none⟩) := hG.get g8.out (by simp [hd])
          have HNL : Hid (listed.getD 9 true = false) := hnl
          clear hnl hD
          clear hd hin
          go_simp
          exact hK _ _ ⟨updV xvy 9 (.pointer (some ⟨q, 5, none⟩)), by simp [updV, e8], hb, hG.same gk.out g9.out _ rfl, hI13.skip (by decide)⟩
        · refine wpOp_step rfl (fun K' hK => ?_)
          simp [Region.binds] at hd
          have e9 : xvy 9 = .pointer (some ⟨q, 5, none⟩) := hG.get g9.out (by simp [hd])
          have HNL : Hid (listed.getD 10 true = false) := hnl
          clear hnl hD
          obtain ⟨c0, c1, c2, c3, c4, c5, c6, c7, c8⟩ := BX.out Wy hb
          clear hd hin
          go_simp
          exact hK _ _ ⟨updV xvy 10 (.int .i64 (F : Int)), by simp [updV, e9], hb, hG.same gk.out g10.out _ rfl, hI13.skip (by decide)⟩
        · refine wpOp_step rfl (fun K' hK => ?_)
          simp [Region.binds] at hd
          have e10 : xvy 10 = .int .i64 (F : Int) := hG.get g10.out (by simp [hd])
          have HNL : Hid (listed.getD 11 true = false) := hnl
          clear hnl hD
          have wr := k5
          clear hd hin
          go_simp
          exact hK _ _ ⟨updV xvy 11 (.int .u64 (F : Int)), by simp [updV, e10], hb, hG.same gk.out g11.out _ rfl, hI13.skip (by decide)⟩
        · refine wpOp_step rfl (fun K' hK => ?_)
          simp [Region.binds] at hd
          have m6 : IsOw bs ([] ++ be 16716 2 ++ be 1 1 ++ be S 8 ++ be N 4 ++ be B 2 ++ be Q 1 ++ be E 2) (xvy 6) Wy := hG.get g6.out (by simp [hd])
          have e11 : xvy 11 = .int .u64 (F : Int) := hG.get g11.out (by simp [hd])
          have HNL : Hid (listed.getD 12 true = false) := hnl
          clear hnl hD
          clear hd hin
          go_simp
          refine (CB.out Wy _ hb m6).mono ?_
          rintro e w' ⟨v, rfl, hv, hb'⟩
          go_wp2_with fail
          exact ⟨updV xvy 12 v, by simp [updV, e11], hb.trans (hb'.mono hb.size), hG.step gk.out hb' g12.out v hv, hI13.skip (by decide)⟩
        · refine wpOp_step rfl (fun K' hK => ?_)
          simp [Region.binds] at hd
          have m12 : IsOw bs ([] ++ be 16716 2 ++ be 1 1 ++ be S 8 ++ be N 4 ++ be B 2 ++ be Q 1 ++ be E 2 ++ be F 2) (xvy 12) Wy := hG.get g12.out (by simp [hd])
          have HNL : Hid (listed.getD 13 true = false) := hnl
          clear hnl hD
          clear hd hin
          go_simp
          exact hK _ _ ⟨updV xvy 13 (xvy 12), by simp [updV], hb, hG.same gk.out g13.out _ m12, Ini.done HNL.out⟩
      · rintro listed ac Wy ⟨xvy, rfl, hb, hG, hI13⟩ hall
        have m13 : Hid (IsOw bs ([] ++ be 16716 2 ++ be 1 1 ++ be S 8 ++ be N 4 ++ be B 2 ++ be Q 1 ++ be E 2 ++ be F 2) (xvy 13) Wy) := hG.get g13.out (hall 13 (by decide))
        have XW : Hid (Below y1.heap.size y1 Wy) := hb
        clear hall hG hb hI13 gk g0 g1 g2 g3 g4 g5 g6 g7 g8 g9 g10 g11 g12 g13
        have N2' : Hid (Nine Wy q S N B Q E F L I (.slice a B k)) := N1'.out.below XW.out
        have B2' : Hid (Below w.heap.size w Wy) := below_mid B1'.out XW.out
        have S2' : Hid (bs ≤ Wy.heap.size) := Nat.le_trans S1'.out XW.out.size
        have O2' : Hid (IsOw bs ([] ++ be 16716 2 ++ be 1 1 ++ be S 8 ++ be N 4 ++ be B 2 ++ be Q 1 ++ be E 2 ++ be F 2) (xvy 13) Wy) := m13.out
        clear BX CA CB XW m13 N1' B1' O1' S1'
        generalize xvy 13 = t2 at *
        generalize Wy = y2 at *
        go_wp2
        have BX : Hid (∀ W, Below y2.heap.size y2 W → W.cell? ⟨q, 0, none⟩ = some (.int .u64 (S : Int)) ∧ W.cell? ⟨q, 1, none⟩ = some (.int .i64 (N : Int)) ∧ W.cell? ⟨q, 2, none⟩ = some (.int .i64 (B : Int)) ∧ W.cell? ⟨q, 3, none⟩ = some (.int .i64 (Q : Int)) ∧ W.cell? ⟨q, 4, none⟩ = some (.int .i64 (E : Int)) ∧ W.cell? ⟨q, 5, none⟩ = some (.int .i64 (F : Int)) ∧ W.cell? ⟨q, 6, none⟩ = some (.int .i64 (L : Int)) ∧ W.cell? ⟨q, 7, none⟩ = some (.int .u64 (I : Int)) ∧ W.cell? ⟨q, 8, none⟩ = some (.slice a B k)) := fun W hW => (N2'.out.below hW).all
        have CA : Hid (∀ W, Below y2.heap.size y2 W → Calls Try.prog 69 #[t2, .int .u64 (L : Int), .int .i64 8] W fun e w' => ∃ v, e = .returned v ∧ IsOw bs ([] ++ be 16716 2 ++ be 1 1 ++ be S 8 ++ be N 4 ++ be B 2 ++ be Q 1 ++ be E 2 ++ be F 2 ++ be L 8) v w' ∧ Below W.heap.size W w') := fun W hW => rput_step bs ([] ++ be 16716 2 ++ be 1 1 ++ be S 8 ++ be N 4 ++ be B 2 ++ be Q 1 ++ be E 2 ++ be F 2) L 8 t2 W (Nat.le_trans S2'.out hW.size) (stays_ow _ _ _ _ _ hW O2'.out).bs (by simp [LE.out]) HU.out.2.2.2.2.2.2.1 (by omega) (by omega)
        have CB : Hid (∀ W v, Below y2.heap.size y2 W → IsOw bs ([] ++ be 16716 2 ++ be 1 1 ++ be S 8 ++ be N 4 ++ be B 2 ++ be Q 1 ++ be E 2 ++ be F 2 ++ be L 8) v W → Calls Try.prog 69 #[v, .int .u64 (I : Int), .int .i64 8] W fun e w' => ∃ v, e = .returned v ∧ IsOw bs ([] ++ be 16716 2 ++ be 1 1 ++ be S 8 ++ be N 4 ++ be B 2 ++ be Q 1 ++ be E 2 ++ be F 2 ++ be L 8 ++ be I 8) v w' ∧ Below W.heap.size W w') := fun W v hW hv => rput_step bs ([] ++ be 16716 2 ++ be 1 1 ++ be S 8 ++ be N 4 ++ be B 2 ++ be Q 1 ++ be E 2 ++ be F 2 ++ be L 8) I 8 v W (Nat.le_trans S2'.out hW.size) hv.bs (by simp [LE.out]) HU.out.2.2.2.2.2.2.2 (by omega) (by omega)
        refine wp_region_any (by kernel_rfl) ?_
        obtain ⟨gs, hgs⟩ : ∃ gs : List (Value → World → Prop), gs = [IsV (t2), IsV (.pointer (some ⟨q, 0, none⟩)), IsV (.pointer (some ⟨q, 6, none⟩)), IsV (.int .i64 (L : Int)), IsV (.int .u64 (L : Int)), IsOw bs ([] ++ be 16716 2 ++ be 1 1 ++ be S 8 ++ be N 4 ++ be B 2 ++ be Q 1 ++ be E 2 ++ be F 2 ++ be L 8), IsV (.pointer (some ⟨q, 0, none⟩)), IsV (.pointer (some ⟨q, 7, none⟩)), IsV (.int .u64 (I : Int)), IsOw bs ([] ++ be 16716 2 ++ be 1 1 ++ be S 8 ++ be N 4 ++ be B 2 ++ be Q 1 ++ be E 2 ++ be F 2 ++ be L 8 ++ be I 8), IsOw bs ([] ++ be 16716 2 ++ be 1 1 ++ be S 8 ++ be N 4 ++ be B 2 ++ be Q 1 ++ be E 2 ++ be F 2 ++ be L 8 ++ be I 8)] := ⟨_, rfl⟩
        have g0 : Hid (gs[0]? = some (IsV (t2))) := by unfold Hid; rw [hgs]; rfl
        have g1 : Hid (gs[1]? = some (IsV (.pointer (some ⟨q, 0, none⟩)))) := by unfold Hid; rw [hgs]; rfl
        have g2 : Hid (gs[2]? = some (IsV (.pointer (some ⟨q, 6, none⟩)))) := by unfold Hid; rw [hgs]; rfl
        have g3 : Hid (gs[3]? = some (IsV (.int .i64 (L : Int)))) := by unfold Hid; rw [hgs]; rfl
        have g4 : Hid (gs[4]? = some (IsV (.int .u64 (L : Int)))) := by unfold Hid; rw [hgs]; rfl
        have g5 : Hid (gs[5]? = some (IsOw bs ([] ++ be 16716 2 ++ be 1 1 ++ be S 8 ++ be N 4 ++ be B 2 ++ be Q 1 ++ be E 2 ++ be F 2 ++ be L 8))) := by unfold Hid; rw [hgs]; rfl
        have g6 : Hid (gs[6]? = some (IsV (.pointer (some ⟨q, 0, none⟩)))) := by unfold Hid; rw [hgs]; rfl
        have g7 : Hid (gs[7]? = some (IsV (.pointer (some ⟨q, 7, none⟩)))) := by unfold Hid; rw [hgs]; rfl
        have g8 : Hid (gs[8]? = some (IsV (.int .u64 (I : Int)))) := by unfold Hid; rw [hgs]; rfl
        have g9 : Hid (gs[9]? = some (IsOw bs ([] ++ be 16716 2 ++ be 1 1 ++ be S 8 ++ be N 4 ++ be B 2 ++ be Q 1 ++ be E 2 ++ be F 2 ++ be L 8 ++ be I 8))) := by unfold Hid; rw [hgs]; rfl
        have g10 : Hid (gs[10]? = some (IsOw bs ([] ++ be 16716 2 ++ be 1 1 ++ be S 8 ++ be N 4 ++ be B 2 ++ be Q 1 ++ be E 2 ++ be F 2 ++ be L 8 ++ be I 8))) := by unfold Hid; rw [hgs]; rfl
        have gk : Hid (∀ p ∈ gs, Stays p) := by
          unfold Hid
          rw [hgs]
          simp only [List.forall_mem_cons]
          exact ⟨stays_v _, stays_v _, stays_v _, stays_v _, stays_v _, stays_ow _ _, stays_v _, stays_v _, stays_v _, stays_ow _ _, stays_ow _ _, by simp⟩
        clear hgs
        refine wpAny_inv3 (fun listed ac Wz => ∃ xvz : Nat → Value, ac = ⟨#[Value.agg #[Value.int IntKind.u64 ↑S, Value.int IntKind.i64 ↑N, Value.int IntKind.i64 ↑B, Value.int IntKind.i64 ↑Q, Value.int IntKind.i64 ↑E, Value.int IntKind.i64 ↑F, Value.int IntKind.i64 ↑L, Value.int IntKind.u64 ↑I, Value.slice a B k], Value.pointer (some { block := q, off := 0 }), Value.slice none 0 0, Value.int IntKind.i64 (0 : Int), xvz 10, Value.pointer (some { block := q, off := 0 }), Value.agg #[Value.int IntKind.u64 ↑S, Value.int IntKind.i64 ↑N, Value.int IntKind.i64 ↑B, Value.int IntKind.i64 ↑Q, Value.int IntKind.i64 ↑E, Value.int IntKind.i64 ↑F, Value.int IntKind.i64 ↑L, Value.int IntKind.u64 ↑I], Value.bool true, Value.bool false, Value.pointer (some { block := q, off := 8 }), Value.slice a B k, Value.int IntKind.i64 ↑B, Value.pointer (some { block := q, off := 0 }), Value.pointer (some { block := q, off := 1 }), Value.pointer (some { block := q, off := 2 }), Value.int IntKind.i64 ↑B, Value.bool false, u2, u3, xv 0, xv 1, xv 2, xv 3, xv 4, xv 5, xv 6, xv 7, xv 8, xv 9, xv 10, xvx 0, xvx 1, xvx 2, xvx 3, xvx 4, xvx 5, xvx 6, xvx 7, xvx 8, xvx 9, xvx 10, xvx 11, xvx 12, xvy 0, xvy 1, xvy 2, xvy 3, xvy 4, xvy 5, xvy 6, xvy 7, xvy 8, xvy 9, xvy 10, xvy 11, xvy 12, xvz 0, xvz 1, xvz 2, xvz 3, xvz 4, xvz 5, xvz 6, xvz 7, xvz 8, xvz 9, undef, undef, undef, undef, undef], []⟩ ∧ Below y2.heap.size y2 Wz ∧ Lst gs listed xvz Wz ∧ Ini listed xvz 10 (t2)) (by kernel_rfl) ?_ ?_ _ _ _ _ (by kernel_rfl) (of_decide_eq_true (by kernel_rfl)) (Down.start _) ⟨fun j => if j = 10 then t2 else undef, rfl, below0 _, Lst.start _ _ _ _, (fun _ => rfl)⟩
        · rintro listed ac Wz ⟨xvz, rfl, hb, hG, hI10⟩ hD i hi hnl hd
          have hin : i < 11 := hi
          clear hi
          have hcase : i = 0 ∨ i = 1 ∨ i = 2 ∨ i = 3 ∨ i = 4 ∨ i = 5 ∨ i = 6 ∨ i = 7 ∨ i = 8 ∨ i = 9 ∨ i = 10 := by omega
          rcases hcase with rfl | rfl | rfl | rfl | rfl | rfl | rfl | rfl | rfl | rfl | rfl
          · refine wpOp_step rfl (fun K' hK => ?_)
            have f10 : listed.getD 10 false = false := by
              cases hx : listed.getD 10 false with
              | false => rfl
              | true =>
                have r0 : listed.getD 0 false = true := by have h := hD 10 (by decide) hx; simp [Region.binds] at h; simp [h]
                rw [getD_false hnl] at r0; cases r0
            have ei10 : xvz 10 = t2 := hI10 f10
            clear f10
            have HNL : Hid (listed.getD 0 true = false) := hnl
            clear hnl hD
            clear hd hin
            go_simp
            exact hK _ _ ⟨updV xvz 0 (t2), by simp [updV, ei10], hb, hG.same gk.out g0.out _ rfl, hI10.skip (by decide)⟩
          · refine wpOp_step rfl (fun K' hK => ?_)
            have HNL : Hid (listed.getD 1 true = false) := hnl
            clear hnl hD
            clear hd hin
            go_simp
            exact hK _ _ ⟨updV xvz 1 (.pointer (some ⟨q, 0, none⟩)), by simp [updV], hb, hG.same gk.out g1.out _ rfl, hI10.skip (by decide)⟩
          · refine wpOp_step rfl (fun K' hK => ?_)
            simp [Region.binds] at hd
            have e1 : xvz 1 = .pointer (some ⟨q, 0, none⟩) := hG.get g1.out (by simp [hd])
            have HNL : Hid (listed.getD 2 true = false) := hnl
            clear hnl hD
            clear hd hin
            go_simp
            exact hK _ _ ⟨updV xvz 2 (.pointer (some ⟨q, 6, none⟩)), by simp [updV, e1], hb, hG.same gk.out g2.out _ rfl, hI10.skip (by decide)⟩
          · refine wpOp_step rfl (fun K' hK => ?_)
            simp [Region.binds] at hd
            have e2 : xvz 2 = .pointer (some ⟨q, 6, none⟩) := hG.get g2.out (by simp [hd])
            have HNL : Hid (listed.getD 3 true = false) := hnl
            clear hnl hD
            obtain ⟨c0, c1, c2, c3, c4, c5, c6, c7, c8⟩ := BX.out Wz hb
            clear hd hin
            go_simp
            exact hK _ _ ⟨updV xvz 3 (.int .i64 (L : Int)), by simp [updV, e2], hb, hG.same gk.out g3.out _ rfl, hI10.skip (by decide)⟩
          · refine wpOp_step rfl (fun K' hK => ?_)
            simp [Region.binds] at hd
            have e3 : xvz 3 = .int .i64 (L : Int) := hG.get g3.out (by simp [hd])
            have HNL : Hid (listed.getD 4 true = false) := hnl
            clear hnl hD
            have wr := k6
            clear hd hin
            go_simp
            exact hK _ _ ⟨updV xvz 4 (.int .u64 (L : Int)), by simp [updV, e3], hb, hG.same gk.out g4.out _ rfl, hI10.skip (by decide)⟩
          · refine wpOp_step rfl (fun K' hK => ?_)
            simp [Region.binds] at hd
            have e0 : xvz 0 = t2 := hG.get g0.out (by simp [hd])
            have e4 : xvz 4 = .int .u64 (L : Int) := hG.get g4.out (by simp [hd])
            have HNL : Hid (listed.getD 5 true = false) := hnl
            clear hnl hD
            clear hd hin
            go_simp
            refine (CA.out Wz hb).mono ?_
            rintro e w' ⟨v, rfl, hv, hb'⟩
            go_wp2_with fail
            exact ⟨updV xvz 5 v, by simp [updV, e0, e4], hb.trans (hb'.mono hb.size), hG.step gk.out hb' g5.out v hv, hI10.skip (by decide)⟩
          · refine wpOp_step rfl (fun K' hK => ?_)
            have HNL : Hid (listed.getD 6 true = false) := hnl
            clear hnl hD
            clear hd hin
            go_simp
            exact hK _ _ ⟨updV xvz 6 (.pointer (some ⟨q, 0, none⟩)), by simp [updV], hb, hG.same gk.out g6.out _ rfl, hI10.skip (by decide)⟩
          · refine wpOp_step rfl (fun K' hK => ?_)
            simp [Region.binds] at hd
            have e6 : xvz 6 = .pointer (some ⟨q, 0, none⟩) := hG.get g6.out (by simp [hd])
            have HNL : Hid (listed.getD 7 true = false) := hnl
            clear hnl hD
            clear hd hin
            go_simp
            exact hK _ _ ⟨updV xvz 7 (.pointer (some ⟨q, 7, none⟩)), by simp [updV, e6], hb, hG.same gk.out g7.out _ rfl, hI10.skip (by decide)⟩
          · refine wpOp_step rfl (fun K' hK => ?_)
            simp [Region.binds] at hd
            have e7 : xvz 7 = .pointer (some ⟨q, 7, none⟩) := hG.get g7.out (by simp [hd])
            have HNL : Hid (listed.getD 8 true = false) := hnl
            clear hnl hD
            obtain ⟨c0, c1, c2, c3, c4, c5, c6, c7, c8⟩ := BX.out Wz hb
            clear hd hin
            go_simp
            exact hK _ _ ⟨updV xvz 8 (.int .u64 (I : Int)), by simp [updV, e7], hb, hG.same gk.out g8.out _ rfl, hI10.skip (by decide)⟩
          · refine wpOp_step rfl (fun K' hK => ?_)
            simp [Region.binds] at hd
            have m5 : IsOw bs ([] ++ be 16716 2 ++ be 1 1 ++ be S 8 ++ be N 4 ++ be B 2 ++ be Q 1 ++ be E 2 ++ be F 2 ++ be L 8) (xvz 5) Wz := hG.get g5.out (by simp [hd])
            have e8 : xvz 8 = .int .u64 (I : Int) := hG.get g8.out (by simp [hd])
            have HNL : Hid (listed.getD 9 true = false) := hnl
            clear hnl hD
            clear hd hin
            go_simp
            refine (CB.out Wz _ hb m5).mono ?_
            rintro e w' ⟨v, rfl, hv, hb'⟩
            go_wp2_with fail
            exact ⟨updV xvz 9 v, by simp [updV, e8], hb.trans (hb'.mono hb.size), hG.step gk.out hb' g9.out v hv, hI10.skip (by decide)⟩
          · refine wpOp_step rfl (fun K' hK => ?_)
            simp [Region.binds] at hd
            have m9 : IsOw bs ([] ++ be 16716 2 ++ be 1 1 ++ be S 8 ++ be N 4 ++ be B 2 ++ be Q 1 ++ be E 2 ++ be F 2 ++ be L 8 ++ be I 8) (xvz 9) Wz := hG.get g9.out (by simp [hd])
            have HNL : Hid (listed.getD 10 true = false) := hnl
            clear hnl hD
            clear hd hin
            go_simp
            exact hK _ _ ⟨updV xvz 10 (xvz 9), by simp [updV], hb, hG.same gk.out g10.out _ m9, Ini.done HNL.out⟩
        · rintro listed ac Wz ⟨xvz, rfl, hb, hG, hI10⟩ hall
          have m10 : Hid (IsOw bs ([] ++ be 16716 2 ++ be 1 1 ++ be S 8 ++ be N 4 ++ be B 2 ++ be Q 1 ++ be E 2 ++ be F 2 ++ be L 8 ++ be I 8) (xvz 10) Wz) := hG.get g10.out (hall 10 (by decide))
          have XW : Hid (Below y2.heap.size y2 Wz) := hb
          clear hall hG hb hI10 gk g0 g1 g2 g3 g4 g5 g6 g7 g8 g9 g10
          have N3' : Hid (Nine Wz q S N B Q E F L I (.slice a B k)) := N2'.out.below XW.out
          have B3' : Hid (Below w.heap.size w Wz) := below_mid B2'.out XW.out
          have S3' : Hid (bs ≤ Wz.heap.size) := Nat.le_trans S2'.out XW.out.size
          have O3' : Hid (IsOw bs ([] ++ be 16716 2 ++ be 1 1 ++ be S 8 ++ be N 4 ++ be B 2 ++ be Q 1 ++ be E 2 ++ be F 2 ++ be L 8 ++ be I 8) (xvz 10) Wz) := m10.out
          clear BX CA CB XW m10 N2' B2' O2' S2'
          generalize xvz 10 = t3 at *
          generalize Wz = y3 at *
          have HTE : Hid (([] ++ be 16716 2 ++ be 1 1 ++ be S 8 ++ be N 4 ++ be B 2 ++ be Q 1 ++ be E 2 ++ be F 2 ++ be L 8 ++ be I 8 : List UInt8) = headB S N B Q E F L I) := by unfold Hid headB; rw [List.nil_append]
          have HHL : Hid ((headB S N B Q E F L I).length = 38) := headB_length _ _ _ _ _ _ _ _
          obtain ⟨hd, hhd⟩ : ∃ hd, headB S N B Q E F L I = hd := ⟨_, rfl⟩
          have HFR : Hid (frameB S N B Q E F L I p = sealB (hd ++ p)) := by unfold Hid frameB; rw [hhd]
          rw [hhd] at HTE HHL
          rw [HTE.out] at O3'
          clear hhd HTE
          obtain ⟨ao, co, hto, hoo⟩ := O3'.out
          rw [HHL.out] at hto hoo
          subst hto
          have OO : Hid (y3.ownsRow bs 5 1 (.slice ao 38 co) 38 (hd.map bv)) := hoo
          have PB : Hid (Sl 1 y3 (.slice a B k) B (p.map bv)) := by
            have h := HP.out.below B3'.out
            unfold Bs at h
            rw [HPL.out] at h
            exact h
          obtain ⟨-, -, c8⟩ : True ∧ True ∧ y3.cell? ⟨q, 8, none⟩ = some (.slice a B k) := ⟨trivial, trivial, N3'.out.2⟩
          clear hoo O3'
          go_wp2_with (at_builtin; refine wpList_app _ rfl (.tmp 66) (.tmp 68) 28 rfl bs 5 i0 (.int .u8 0) 1 1 Try.underlying28 hi hz0 hz1 hz2 rfl (by decide) (.slice ao 38 co) 38 (hd.map bv) rfl OO.out (.slice a B k) B (p.map bv) rfl PB.out (bv_oneCell _) (by unfold maxLen; omega) (by omega) S3'.out ?_; intro a1 c1 w5 ho hgrow hat hne hnc hcm)
          have X5 : Hid (Below w.heap.size w w5) := B3'.out.grown hgrow B3'.out.size (fun k hk => Nat.le_trans HBS.out (OO.out.lt k hk).1)
          have T5 : Hid (Bs w5 (.slice a1 (38 + B) c1) (hd ++ p)) := by
            rw [← List.map_append] at ho
            have h := owned_sl ho
            unfold Hid Bs
            rw [List.length_append, HHL.out, HPL.out]
            exact h
          have HTL : Hid ((hd ++ p).length = 38 + B) := by unfold Hid; rw [List.length_append, HHL.out, HPL.out]
          clear ho hgrow hat hne hnc hcm
          refine (rseal_any _ (hd ++ p) w5 T5.out (by rw [HTL.out]; omega)).mono ?_
          rintro e w6 ⟨a6, c6, rfl, hb6, hx6⟩
          have hL6 : (hd ++ p).length + 4 = 42 + B := by have := HTL.out; omega
          rw [hL6] at hb6 ⊢
          have R6 : Hid (Bs w6 (.slice a6 (42 + B) c6) (frameB S N B Q E F L I p) ∧ Below w.heap.size w w6) := ⟨by rw [HFR.out]; exact hb6, below_mid X5.out hx6⟩
          clear hb6 hx6 hL6 X5 T5
          go_wp2
          go_ret2
          exact ⟨a6, c6, rfl, R6.out⟩

end Go.Proofs.Ytijonjiioeahhaa
