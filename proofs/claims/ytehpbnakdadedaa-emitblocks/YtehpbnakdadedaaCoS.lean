/-
  compose: what the statements' speaks says.
-/
import Derived.Test.YtehpbnakdadedaaCoE
import Derived.Test.YtehpbnakdadedaaZOut
namespace Go.Proofs.Ytehpbnakdadedaa
open Go.RowKit
set_option linter.unusedVariables false

theorem may_small {N B Q E F : Int} {n q A : Nat} (h : PrOk N B Q E F n q A) (hN : N ≤ 61) : A ≤ 1000000 := by
  obtain ⟨h1, h2, h3, h4, h5, h6⟩ := h.may
  have r := share_range (N := N) (Q := Q) (E := E) ⟨h1.1, h1.2⟩ h3 h4
  have k1 : 55 * Q * E * N ≤ 440000 * 61 := Int.mul_le_mul r.1.2 hN (by omega) (by omega)
  have e := h.ea
  unfold aux at e
  omega

theorem pr_two : PrOk ((2 : Nat) : Int) 1 ((1 : Nat) : Int) 900 2 2 1 1 := ⟨by unfold May; decide, rfl, rfl, by decide⟩
theorem has_two (S : Nat) : hasR S 1 1 2 = [[0, 1]] := by
  show addAll (hasR S 1 1 1) (ofD S 1 1 1) _ = _
  rw [of_one, has_one]
  rfl
theorem comp_two (S : Nat) : compD 2 1 (hasR S 1 1 2) [6, 3] = [[6], [3], [5]] := by
  rw [has_two]
  decide

/-- A row of three blocks, and what each is. -/
def Three (W : World) (b : Nat) (v0 v1 v2 : Value) (x0 x1 x2 : List UInt8) : Prop := Sl 1 W (.slice (some ⟨b, 0, none⟩) 3 3) [v0, v1, v2].length [v0, v1, v2] ∧ Parts W [v0, v1, v2] [x0, x1, x2]
theorem parts_three {w : World} {v0 v1 v2 : Value} {x0 x1 x2 : List UInt8} (h0 : Bs w v0 x0) (h1 : Bs w v1 x1) (h2 : Bs w v2 x2) : Parts w [v0, v1, v2] [x0, x1, x2] := by
  refine ⟨rfl, fun i u p hu hp => ?_⟩
  have hi : i < 3 := by have := (List.getElem?_eq_some_iff.1 hu).1; simpa using this
  match i, hi with
  | 0, _ => simp at hu hp; subst hu; subst hp; exact h0
  | 1, _ => simp at hu hp; subst hu; subst hp; exact h1
  | 2, _ => simp at hu hp; subst hu; subst hp; exact h2
theorem ok_02 : OkOf 1 [[6], [3], [5]] [0, 2] := by
  intro i hi
  simp at hi
  rcases hi with rfl | rfl
  · exact ⟨0, [6], rfl, rfl, rfl⟩
  · exact ⟨2, [5], rfl, rfl, rfl⟩

set_option maxRecDepth 100000 in
set_option maxHeartbeats 4000000 in
theorem speaks13_any (w : World) : Calls Try.prog 12 #[] w fun e w' => e = .returned (.bool true) ∧ Below w.heap.size w w' := by
  have CB : Hid (∀ W v, Bs W v [6, 3] → Calls Try.prog 14 #[.agg #[.int .i64 2, .int .i64 1, .int .i64 1, .int .i64 900, .int .i64 2], .int .u64 5, v] W fun e w' => ∃ b c v0 v1 v2, e = .returned (.tuple #[.slice (some ⟨b, 0, none⟩) 3 c, .int .i64 0]) ∧ Sl 1 w' (.slice (some ⟨b, 0, none⟩) 3 c) 3 [v0, v1, v2] ∧ Parts w' [v0, v1, v2] [[6], [3], [5]] ∧ Below W.heap.size W w') := by
    intro W v hv
    refine (cblocks_yes 2 1 1 1 5 900 2 v [6, 3] W pr_two (by decide) hv (by decide)).mono ?_
    rintro e w' ⟨a, c, vs, rfl, ho, hr, hb⟩
    rw [comp_two] at hr
    have hl : vs.length = 3 := hr.1
    obtain ⟨v0, v1, v2, rfl⟩ := list3 hl
    obtain ⟨q, cap, hq, -⟩ := owned_shape ho (by decide)
    injection hq with e1 e2 e3
    subst e1
    exact ⟨q, c, v0, v1, v2, rfl, owned_sl ho, hr.parts, hb⟩
  go_enter Try.func12, Try.ntmps12
  go_upto_region 2 with fail
  obtain ⟨w0, hw0⟩ : ∃ w0, (w.alloc (.cells #[.int .i64 2, .int .i64 1, .int .i64 1, .int .i64 900, .int .i64 2] 23)) = w0 := ⟨_, rfl⟩
  have B0 : Hid (Below w.heap.size w w0) := by rw [← hw0]; exact below_alloc _ _
  have P0 : Hid (Five w0 w.heap.size 2 1 1 900 2) := by rw [← hw0]; exact five_new w _ _ _ _ _ _
  rw [hw0]
  clear hw0
  obtain ⟨c0, c1, c2, c3, c4⟩ := P0.out
  go_wp2_with fail
  refine (CB.out _ _ (Bs.lit w0 _ _ _ [6, 3] _ _ rfl rfl rfl (by decide))).mono ?_
  rintro e w1 ⟨b, c, v0, v1, v2, rfl, hs, hp, hb⟩
  obtain ⟨a0, d0, rfl⟩ : ∃ a d, v0 = .slice a 1 d := by obtain ⟨-, a, d, h, -⟩ := hp.2 0 _ _ rfl rfl; exact ⟨a, d, h⟩
  obtain ⟨a1, d1, rfl⟩ : ∃ a d, v1 = .slice a 1 d := by obtain ⟨-, a, d, h, -⟩ := hp.2 1 _ _ rfl rfl; exact ⟨a, d, h⟩
  obtain ⟨a2, d2, rfl⟩ : ∃ a d, v2 = .slice a 1 d := by obtain ⟨-, a, d, h, -⟩ := hp.2 2 _ _ rfl rfl; exact ⟨a, d, h⟩
  have B1 : Hid (Below w0.heap.size w0 w1) := on_below (below_alloc _ _) hb
  have SL : Hid (Sl 1 w1 (.slice (some ⟨b, 0, none⟩) 3 c) 3 [(Value.slice a0 1 d0), (Value.slice a1 1 d1), (Value.slice a2 1 d2)]) := hs
  have SP : Hid (Parts w1 [(Value.slice a0 1 d0), (Value.slice a1 1 d1), (Value.slice a2 1 d2)] [[6], [3], [5]]) := hp
  have P1 : Hid (Five w1 w.heap.size 2 1 1 900 2) := P0.out.below B1.out
  have XC : Hid (∀ W, Below w1.heap.size w1 W → W.cell? ⟨b, 0, none⟩ = some (Value.slice a0 1 d0) ∧ W.cell? ⟨b, 1, none⟩ = some (Value.slice a1 1 d1) ∧ W.cell? ⟨b, 2, none⟩ = some (Value.slice a2 1 d2)) := by
    intro W hW
    obtain ⟨-, a', c', hv, -, -, -, h5⟩ := hs.below hW
    injection hv with e1 e2 e3
    rcases h5 with h0 | ⟨b2, off, e, hc⟩
    · cases h0
    · rw [← e1] at e
      obtain ⟨rfl, rfl⟩ : b = b2 ∧ 0 = off := by have := Option.some.inj e; injection this with e1 e2 _; exact ⟨e1, e2⟩
      exact ⟨hc 0 _ rfl, hc 1 _ rfl, hc 2 _ rfl⟩
  have hcm : 3 ≤ c ∧ c ≤ 9223372036854775807 := by
    obtain ⟨-, a', c', hv, h2, h3, -, -⟩ := hs
    injection hv with e1 e2 e3
    unfold maxLen at h3
    omega
  obtain ⟨hc3, hc63⟩ := hcm
  have x2 := (XC.out w1 (Below.refl _ _)).2.2
  have kr : (convert 25 9 (Value.slice a2 1 d2)).run Try.prog w1 = .ok (.string { data := #[5] }) w1 := conv_bytes (l := [5]) (hp.2 2 _ _ rfl rfl)
  have CK : Hid (∀ W v, Below w1.heap.size w1 W → Zs W v [0, 2] → Calls Try.prog 21 #[.int .i64 1, .slice (some ⟨b, 0, none⟩) 3 c, v] W fun e w' => ∃ p, e = .returned (.tuple #[.slice (some ⟨p, 0, none⟩) 1 1, .bool true]) ∧ Blk w' p [] [3] [] ∧ Below W.heap.size W w') := by
    intro W v hW hv
    refine (check_yes 1 _ v [(Value.slice a0 1 d0), (Value.slice a1 1 d1), (Value.slice a2 1 d2)] [[6], [3], [5]] [0, 2] W (by decide) (SL.out.below hW) (SP.out.below hW) hv ok_02).mono ?_
    rintro e w' ⟨rfl, h1, h2⟩
    exact ⟨_, rfl, h1, h2⟩
  have R1 : Hid (∀ W, Below w1.heap.size w1 W → Calls Try.prog 18 #[.agg #[.int .i64 2, .int .i64 1, .int .i64 1, .int .i64 900, .int .i64 2], .int .u64 5, .int .i64 2, .slice (some ⟨b, 0, none⟩) 3 c] W fun e w' => ∃ v, e = .returned v ∧ IsV (.bool true) v w' ∧ Below W.heap.size W w') := by
    intro W hW
    refine (cright_any 2 1 1 1 5 900 2 2 _ [(Value.slice a0 1 d0), (Value.slice a1 1 d1), (Value.slice a2 1 d2)] [[6], [3], [5]] W pr_two (by decide) (by decide) (by decide) (SL.out.below hW) (SP.out.below hW)).mono ?_
    rintro e w' ⟨⟨x, rfl, hx⟩, hb⟩
    refine ⟨_, rfl, ?_, hb⟩
    have := right_comp (l := [6, 3]) (B := 1) (hasR_rw 5 1 1 2) (by decide)
    rw [comp_two] at this
    rw [hx.2 this]
    rfl
  have R2 : Hid (∀ W v, Below w1.heap.size w1 W → IsRow [(Value.slice a0 1 d0), (Value.slice a1 1 d1), (Value.slice a1 1 d1)] v W → Calls Try.prog 18 #[.agg #[.int .i64 2, .int .i64 1, .int .i64 1, .int .i64 900, .int .i64 2], .int .u64 5, .int .i64 2, v] W fun e w' => ∃ v, e = .returned v ∧ IsV (.bool false) v w' ∧ Below W.heap.size W w') := by
    intro W v hW hv
    obtain ⟨p, rfl, hc⟩ := hv
    have hsl : Sl 1 W (.slice (some ⟨p, 0, none⟩) [(Value.slice a0 1 d0), (Value.slice a1 1 d1), (Value.slice a1 1 d1)].length [(Value.slice a0 1 d0), (Value.slice a1 1 d1), (Value.slice a1 1 d1)].length) [(Value.slice a0 1 d0), (Value.slice a1 1 d1), (Value.slice a1 1 d1)].length [(Value.slice a0 1 d0), (Value.slice a1 1 d1), (Value.slice a1 1 d1)] := ⟨rfl, _, _, rfl, Nat.le_refl _, by simp [maxLen], fun h => by simp at h, .inr ⟨p, 0, rfl, fun j u hj => by rw [Nat.zero_add]; exact hc j u hj⟩⟩
    refine (cright_any 2 1 1 1 5 900 2 2 _ [(Value.slice a0 1 d0), (Value.slice a1 1 d1), (Value.slice a1 1 d1)] [[6], [3], [3]] W pr_two (by decide) (by decide) (by decide) hsl (parts_three ((SP.out.below hW).2 0 _ _ rfl rfl) ((SP.out.below hW).2 1 _ _ rfl rfl) ((SP.out.below hW).2 1 _ _ rfl rfl))).mono ?_
    rintro e w' ⟨⟨x, rfl, hx⟩, hb⟩
    refine ⟨_, rfl, ?_, hb⟩
    cases x with
    | false => rfl
    | true =>
      exfalso
      have h1 := (hx.1 rfl).2.2 0 (by decide)
      rw [has_two] at h1
      have h2 := h1.2
      revert h2
      decide
  clear hs hp hb CB P0 c0 c1 c2 c3 c4
  go_upto_region 6 with fail
  refine (CK.out _ _ (below_alloc _ _) (zs_lit2 _ _ _ _ _ rfl)).mono ?_
  rintro e w2 ⟨p, rfl, hk, hb2⟩
  have B2 : Hid (Below w1.heap.size w1 w2) := on_below (below_alloc _ _) hb2
  have KP : Hid (Bs w2 (.slice (some ⟨p, 0, none⟩) 1 1) [3]) := hk.bs0 1 1 rfl (Nat.le_refl _) (by decide)
  have K1 : Hid (∀ W, Below w2.heap.size w2 W → (convert 25 9 (.slice (some ⟨p, 0, none⟩) 1 1)).run Try.prog W = .ok (.string { data := #[3] }) W) := fun W hW => conv_bytes (l := [3]) (KP.out.below hW)
  have BX : Hid (∀ W, Below w2.heap.size w2 W → Five W w.heap.size 2 1 1 900 2) := fun W hW => P1.out.below (on_below B2.out hW)
  have CX : Hid (∀ W, Below w2.heap.size w2 W → W.cell? ⟨b, 0, none⟩ = some (Value.slice a0 1 d0) ∧ W.cell? ⟨b, 1, none⟩ = some (Value.slice a1 1 d1) ∧ W.cell? ⟨b, 2, none⟩ = some (Value.slice a2 1 d2)) := fun W hW => XC.out W (on_below B2.out hW)
  have C1 : Hid (∀ W, Below w2.heap.size w2 W → Calls Try.prog 18 #[.agg #[.int .i64 2, .int .i64 1, .int .i64 1, .int .i64 900, .int .i64 2], .int .u64 5, .int .i64 2, .slice (some ⟨b, 0, none⟩) 3 c] W fun e w' => ∃ v, e = .returned v ∧ IsV (.bool true) v w' ∧ Below W.heap.size W w') := fun W hW => R1.out W (on_below B2.out hW)
  have C2 : Hid (∀ W v, Below w2.heap.size w2 W → IsRow [(Value.slice a0 1 d0), (Value.slice a1 1 d1), (Value.slice a1 1 d1)] v W → Calls Try.prog 18 #[.agg #[.int .i64 2, .int .i64 1, .int .i64 1, .int .i64 900, .int .i64 2], .int .u64 5, .int .i64 2, v] W fun e w' => ∃ v, e = .returned v ∧ IsV (.bool false) v w' ∧ Below W.heap.size W w') := fun W v hW hv => R2.out W v (on_below B2.out hW) hv
  have BE : Hid (Below w.heap.size w w2) := on_below (on_below B0.out B1.out) B2.out
  clear hk hb2 KP P1 R1 R2 CK XC SL SP B0 B1 B2 x2 kr
  go_upto_region 6 with fail
  refine wp_region_any (by kernel_rfl) ?_
  obtain ⟨gs, hgs⟩ : ∃ gs : List (Value → World → Prop), gs = [IsV (Value.bool true), IsV (Value.bool true), IsV (Value.slice (some { block := p, off := 0 }) 1 1), IsV (.string { data := #[3] }), IsV (.bool true), IsV (.bool true), IsV (.bool true), IsV (.agg #[.int .i64 2, .int .i64 1, .int .i64 1, .int .i64 900, .int .i64 2]), IsV (Value.slice (some { block := b, off := 0 }) 3 c), IsV (.bool true), IsV (.bool true), IsV (.bool true), IsV (.agg #[.int .i64 2, .int .i64 1, .int .i64 1, .int .i64 900, .int .i64 2]), IsV (Value.slice (some { block := b, off := 0 }) 3 c), IsV (.pointer (some ⟨b, 0, none⟩)), IsV (.slice a0 1 d0), IsV (Value.slice (some { block := b, off := 0 }) 3 c), IsV (.pointer (some ⟨b, 1, none⟩)), IsV (.slice a1 1 d1), IsV (Value.slice (some { block := b, off := 0 }) 3 c), IsV (.pointer (some ⟨b, 1, none⟩)), IsV (.slice a1 1 d1), IsRow [(Value.slice a0 1 d0), (Value.slice a1 1 d1), (Value.slice a1 1 d1)], IsV (.bool false), IsV (.bool true), IsV (.bool true), IsV (.bool true)] := ⟨_, rfl⟩
  have g0 : Hid (gs[0]? = some (IsV (Value.bool true))) := by unfold Hid; rw [hgs]; rfl
  have g1 : Hid (gs[1]? = some (IsV (Value.bool true))) := by unfold Hid; rw [hgs]; rfl
  have g2 : Hid (gs[2]? = some (IsV (Value.slice (some { block := p, off := 0 }) 1 1))) := by unfold Hid; rw [hgs]; rfl
  have g3 : Hid (gs[3]? = some (IsV (.string { data := #[3] }))) := by unfold Hid; rw [hgs]; rfl
  have g4 : Hid (gs[4]? = some (IsV (.bool true))) := by unfold Hid; rw [hgs]; rfl
  have g5 : Hid (gs[5]? = some (IsV (.bool true))) := by unfold Hid; rw [hgs]; rfl
  have g6 : Hid (gs[6]? = some (IsV (.bool true))) := by unfold Hid; rw [hgs]; rfl
  have g7 : Hid (gs[7]? = some (IsV (.agg #[.int .i64 2, .int .i64 1, .int .i64 1, .int .i64 900, .int .i64 2]))) := by unfold Hid; rw [hgs]; rfl
  have g8 : Hid (gs[8]? = some (IsV (Value.slice (some { block := b, off := 0 }) 3 c))) := by unfold Hid; rw [hgs]; rfl
  have g9 : Hid (gs[9]? = some (IsV (.bool true))) := by unfold Hid; rw [hgs]; rfl
  have g10 : Hid (gs[10]? = some (IsV (.bool true))) := by unfold Hid; rw [hgs]; rfl
  have g11 : Hid (gs[11]? = some (IsV (.bool true))) := by unfold Hid; rw [hgs]; rfl
  have g12 : Hid (gs[12]? = some (IsV (.agg #[.int .i64 2, .int .i64 1, .int .i64 1, .int .i64 900, .int .i64 2]))) := by unfold Hid; rw [hgs]; rfl
  have g13 : Hid (gs[13]? = some (IsV (Value.slice (some { block := b, off := 0 }) 3 c))) := by unfold Hid; rw [hgs]; rfl
  have g14 : Hid (gs[14]? = some (IsV (.pointer (some ⟨b, 0, none⟩)))) := by unfold Hid; rw [hgs]; rfl
  have g15 : Hid (gs[15]? = some (IsV (.slice a0 1 d0))) := by unfold Hid; rw [hgs]; rfl
  have g16 : Hid (gs[16]? = some (IsV (Value.slice (some { block := b, off := 0 }) 3 c))) := by unfold Hid; rw [hgs]; rfl
  have g17 : Hid (gs[17]? = some (IsV (.pointer (some ⟨b, 1, none⟩)))) := by unfold Hid; rw [hgs]; rfl
  have g18 : Hid (gs[18]? = some (IsV (.slice a1 1 d1))) := by unfold Hid; rw [hgs]; rfl
  have g19 : Hid (gs[19]? = some (IsV (Value.slice (some { block := b, off := 0 }) 3 c))) := by unfold Hid; rw [hgs]; rfl
  have g20 : Hid (gs[20]? = some (IsV (.pointer (some ⟨b, 1, none⟩)))) := by unfold Hid; rw [hgs]; rfl
  have g21 : Hid (gs[21]? = some (IsV (.slice a1 1 d1))) := by unfold Hid; rw [hgs]; rfl
  have g22 : Hid (gs[22]? = some (IsRow [(Value.slice a0 1 d0), (Value.slice a1 1 d1), (Value.slice a1 1 d1)])) := by unfold Hid; rw [hgs]; rfl
  have g23 : Hid (gs[23]? = some (IsV (.bool false))) := by unfold Hid; rw [hgs]; rfl
  have g24 : Hid (gs[24]? = some (IsV (.bool true))) := by unfold Hid; rw [hgs]; rfl
  have g25 : Hid (gs[25]? = some (IsV (.bool true))) := by unfold Hid; rw [hgs]; rfl
  have g26 : Hid (gs[26]? = some (IsV (.bool true))) := by unfold Hid; rw [hgs]; rfl
  have gk : Hid (∀ p ∈ gs, Stays p) := by
    unfold Hid
    rw [hgs]
    simp only [List.forall_mem_cons]
    exact ⟨stays_v _, stays_v _, stays_v _, stays_v _, stays_v _, stays_v _, stays_v _, stays_v _, stays_v _, stays_v _, stays_v _, stays_v _, stays_v _, stays_v _, stays_v _, stays_v _, stays_v _, stays_v _, stays_v _, stays_v _, stays_v _, stays_v _, stays_row _, stays_v _, stays_v _, stays_v _, stays_v _, by simp⟩
  clear hgs
  refine wpAny_inv (fun listed ac W => ∃ xv : Nat → Value, ac = ⟨#[xv 26, Value.pointer (some { block := w.heap.size, off := 0 }), Value.slice (some { block := b, off := 0 }) 3 c, Value.int IntKind.i64 (0 : Int), Value.slice (some { block := p, off := 0 }) 1 1, Value.bool true, Value.agg #[Value.int IntKind.i64 (2 : Int), Value.int IntKind.i64 (1 : Int), Value.int IntKind.i64 (1 : Int), Value.int IntKind.i64 (900 : Int), Value.int IntKind.i64 (2 : Int)], Value.tuple #[Value.slice (some { block := b, off := 0 }) 3 c, Value.int IntKind.i64 (0 : Int)], Value.agg #[Value.int IntKind.i64 (2 : Int), Value.int IntKind.i64 (1 : Int), Value.int IntKind.i64 (1 : Int), Value.int IntKind.i64 (900 : Int), Value.int IntKind.i64 (2 : Int)], Value.slice (some { block := w0.heap.size, off := 0 }) 2 2, Value.tuple #[Value.slice (some { block := b, off := 0 }) 3 c, Value.int IntKind.i64 (0 : Int)], Value.slice (some { block := b, off := 0 }) 3 c, Value.int IntKind.i64 (0 : Int), Value.int IntKind.i64 (0 : Int), Value.bool false, Value.bool false, Value.slice (some { block := b, off := 0 }) 3 c, Value.int IntKind.i64 (3 : Int), Value.bool false, Value.bool false, Value.bool false, Value.slice (some { block := b, off := 0 }) 3 c, Value.pointer (some { block := b, off := 2 }), Value.slice a2 1 d2, Value.string { data := #[(5 : UInt8)] }, Value.bool false, Value.bool false, Value.tuple #[Value.slice (some { block := p, off := 0 }) 1 1, Value.bool true], Value.slice (some { block := b, off := 0 }) 3 c, Value.slice (some { block := w1.heap.size, off := 0 }) 2 2, Value.tuple #[Value.slice (some { block := p, off := 0 }) 1 1, Value.bool true], Value.slice (some { block := p, off := 0 }) 1 1, Value.bool true, xv 0, xv 1, xv 2, xv 3, xv 4, xv 5, xv 6, xv 7, xv 8, xv 9, xv 10, xv 11, xv 12, xv 13, xv 14, xv 15, xv 16, xv 17, xv 18, xv 19, xv 20, xv 21, xv 22, xv 23, xv 24, xv 25], []⟩ ∧ Below w2.heap.size w2 W ∧ Lst gs listed xv W) (by kernel_rfl) ?_ ?_ _ _ _ _ (by kernel_rfl) (of_decide_eq_true (by kernel_rfl)) ⟨fun j => if j = 26 then Value.bool false else undef, rfl, below0 _, Lst.start _ _ _ _⟩
  · rintro listed ac W ⟨xv, rfl, hb, hG⟩ i hi hd
    have hin : i < 27 := hi
    clear hi
    have hcase : i = 0 ∨ i = 1 ∨ i = 2 ∨ i = 3 ∨ i = 4 ∨ i = 5 ∨ i = 6 ∨ i = 7 ∨ i = 8 ∨ i = 9 ∨ i = 10 ∨ i = 11 ∨ i = 12 ∨ i = 13 ∨ i = 14 ∨ i = 15 ∨ i = 16 ∨ i = 17 ∨ i = 18 ∨ i = 19 ∨ i = 20 ∨ i = 21 ∨ i = 22 ∨ i = 23 ∨ i = 24 ∨ i = 25 ∨ i = 26 := by omega
    rcases hcase with rfl | rfl | rfl | rfl | rfl | rfl | rfl | rfl | rfl | rfl | rfl | rfl | rfl | rfl | rfl | rfl | rfl | rfl | rfl | rfl | rfl | rfl | rfl | rfl | rfl | rfl | rfl
    · refine wpOp_step rfl (fun K' hK => ?_)
      clear hd hin
      go_simp
      exact hK _ _ ⟨updV xv 0 (Value.bool true), by simp [updV], hb, hG.same gk.out g0.out _ rfl⟩
    · refine wpOp_step rfl (fun K' hK => ?_)
      simp [Region.binds] at hd
      have e0 : xv 0 = Value.bool true := hG.get g0.out (by simp [hd])
      clear hd hin
      go_simp
      exact hK _ _ ⟨updV xv 1 (Value.bool true), by simp [updV, e0], hb, hG.same gk.out g1.out _ rfl⟩
    · refine wpOp_step rfl (fun K' hK => ?_)
      simp [Region.binds] at hd
      have e1 : xv 1 = Value.bool true := hG.get g1.out (by simp [hd])
      clear hd hin
      go_simp
      exact hK _ _ ⟨updV xv 2 (Value.slice (some { block := p, off := 0 }) 1 1), by simp [updV, e1], hb, hG.same gk.out g2.out _ rfl⟩
    · refine wpOp_step rfl (fun K' hK => ?_)
      simp [Region.binds] at hd
      have e2 : xv 2 = Value.slice (some { block := p, off := 0 }) 1 1 := hG.get g2.out (by simp [hd])
      have e1 : xv 1 = Value.bool true := hG.get g1.out (by simp [hd])
      have kr := K1.out W hb
      clear hd hin
      go_simp
      exact hK _ _ ⟨updV xv 3 (.string { data := #[3] }), by simp [updV, e2, e1], hb, hG.same gk.out g3.out _ rfl⟩
    · refine wpOp_step rfl (fun K' hK => ?_)
      simp [Region.binds] at hd
      have e3 : xv 3 = .string { data := #[3] } := hG.get g3.out (by simp [hd])
      have e1 : xv 1 = Value.bool true := hG.get g1.out (by simp [hd])
      clear hd hin
      go_simp
      exact hK _ _ ⟨updV xv 4 (.bool true), by simp [updV, e3, e1], hb, hG.same gk.out g4.out _ rfl⟩
    · refine wpOp_step rfl (fun K' hK => ?_)
      simp [Region.binds] at hd
      have e1 : xv 1 = Value.bool true := hG.get g1.out (by simp [hd])
      have e4 : xv 4 = .bool true := hG.get g4.out (by simp [hd])
      clear hd hin
      go_simp
      exact hK _ _ ⟨updV xv 5 (.bool true), by simp [updV, e1, e4], hb, hG.same gk.out g5.out _ rfl⟩
    · refine wpOp_step rfl (fun K' hK => ?_)
      simp [Region.binds] at hd
      have e5 : xv 5 = .bool true := hG.get g5.out (by simp [hd])
      clear hd hin
      go_simp
      exact hK _ _ ⟨updV xv 6 (.bool true), by simp [updV, e5], hb, hG.same gk.out g6.out _ rfl⟩
    · refine wpOp_step rfl (fun K' hK => ?_)
      simp [Region.binds] at hd
      have e6 : xv 6 = .bool true := hG.get g6.out (by simp [hd])
      obtain ⟨c0, c1, c2, c3, c4⟩ := BX.out W hb
      clear hd hin
      go_simp
      exact hK _ _ ⟨updV xv 7 (.agg #[.int .i64 2, .int .i64 1, .int .i64 1, .int .i64 900, .int .i64 2]), by simp [updV, e6], hb, hG.same gk.out g7.out _ rfl⟩
    · refine wpOp_step rfl (fun K' hK => ?_)
      simp [Region.binds] at hd
      have e6 : xv 6 = .bool true := hG.get g6.out (by simp [hd])
      clear hd hin
      go_simp
      exact hK _ _ ⟨updV xv 8 (Value.slice (some { block := b, off := 0 }) 3 c), by simp [updV, e6], hb, hG.same gk.out g8.out _ rfl⟩
    · refine wpOp_step rfl (fun K' hK => ?_)
      simp [Region.binds] at hd
      have e7 : xv 7 = .agg #[.int .i64 2, .int .i64 1, .int .i64 1, .int .i64 900, .int .i64 2] := hG.get g7.out (by simp [hd])
      have e8 : xv 8 = Value.slice (some { block := b, off := 0 }) 3 c := hG.get g8.out (by simp [hd])
      have e6 : xv 6 = .bool true := hG.get g6.out (by simp [hd])
      clear hd hin
      go_simp
      refine (C1.out W hb).mono ?_
      rintro e w' ⟨v, rfl, hv, hb'⟩
      go_wp2_with fail
      exact ⟨updV xv 9 v, by simp [updV, e7, e8, e6], hb.trans (hb'.mono hb.size), hG.step gk.out hb' g9.out v hv⟩
    · refine wpOp_step rfl (fun K' hK => ?_)
      simp [Region.binds] at hd
      have e6 : xv 6 = .bool true := hG.get g6.out (by simp [hd])
      have e9 : xv 9 = .bool true := hG.get g9.out (by simp [hd])
      clear hd hin
      go_simp
      exact hK _ _ ⟨updV xv 10 (.bool true), by simp [updV, e6, e9], hb, hG.same gk.out g10.out _ rfl⟩
    · refine wpOp_step rfl (fun K' hK => ?_)
      simp [Region.binds] at hd
      have e10 : xv 10 = .bool true := hG.get g10.out (by simp [hd])
      clear hd hin
      go_simp
      exact hK _ _ ⟨updV xv 11 (.bool true), by simp [updV, e10], hb, hG.same gk.out g11.out _ rfl⟩
    · refine wpOp_step rfl (fun K' hK => ?_)
      simp [Region.binds] at hd
      have e11 : xv 11 = .bool true := hG.get g11.out (by simp [hd])
      obtain ⟨c0, c1, c2, c3, c4⟩ := BX.out W hb
      clear hd hin
      go_simp
      exact hK _ _ ⟨updV xv 12 (.agg #[.int .i64 2, .int .i64 1, .int .i64 1, .int .i64 900, .int .i64 2]), by simp [updV, e11], hb, hG.same gk.out g12.out _ rfl⟩
    · refine wpOp_step rfl (fun K' hK => ?_)
      simp [Region.binds] at hd
      have e11 : xv 11 = .bool true := hG.get g11.out (by simp [hd])
      clear hd hin
      go_simp
      exact hK _ _ ⟨updV xv 13 (Value.slice (some { block := b, off := 0 }) 3 c), by simp [updV, e11], hb, hG.same gk.out g13.out _ rfl⟩
    · refine wpOp_step rfl (fun K' hK => ?_)
      simp [Region.binds] at hd
      have e13 : xv 13 = Value.slice (some { block := b, off := 0 }) 3 c := hG.get g13.out (by simp [hd])
      have e11 : xv 11 = .bool true := hG.get g11.out (by simp [hd])
      clear hd hin
      go_simp
      exact hK _ _ ⟨updV xv 14 (.pointer (some ⟨b, 0, none⟩)), by simp [updV, e13, e11], hb, hG.same gk.out g14.out _ rfl⟩
    · refine wpOp_step rfl (fun K' hK => ?_)
      simp [Region.binds] at hd
      have e14 : xv 14 = .pointer (some ⟨b, 0, none⟩) := hG.get g14.out (by simp [hd])
      have e11 : xv 11 = .bool true := hG.get g11.out (by simp [hd])
      have hc := (CX.out W hb).1
      clear hd hin
      go_simp
      exact hK _ _ ⟨updV xv 15 (.slice a0 1 d0), by simp [updV, e14, e11], hb, hG.same gk.out g15.out _ rfl⟩
    · refine wpOp_step rfl (fun K' hK => ?_)
      simp [Region.binds] at hd
      have e11 : xv 11 = .bool true := hG.get g11.out (by simp [hd])
      clear hd hin
      go_simp
      exact hK _ _ ⟨updV xv 16 (Value.slice (some { block := b, off := 0 }) 3 c), by simp [updV, e11], hb, hG.same gk.out g16.out _ rfl⟩
    · refine wpOp_step rfl (fun K' hK => ?_)
      simp [Region.binds] at hd
      have e16 : xv 16 = Value.slice (some { block := b, off := 0 }) 3 c := hG.get g16.out (by simp [hd])
      have e11 : xv 11 = .bool true := hG.get g11.out (by simp [hd])
      clear hd hin
      go_simp
      exact hK _ _ ⟨updV xv 17 (.pointer (some ⟨b, 1, none⟩)), by simp [updV, e16, e11], hb, hG.same gk.out g17.out _ rfl⟩
    · refine wpOp_step rfl (fun K' hK => ?_)
      simp [Region.binds] at hd
      have e17 : xv 17 = .pointer (some ⟨b, 1, none⟩) := hG.get g17.out (by simp [hd])
      have e11 : xv 11 = .bool true := hG.get g11.out (by simp [hd])
      have hc := (CX.out W hb).2.1
      clear hd hin
      go_simp
      exact hK _ _ ⟨updV xv 18 (.slice a1 1 d1), by simp [updV, e17, e11], hb, hG.same gk.out g18.out _ rfl⟩
    · refine wpOp_step rfl (fun K' hK => ?_)
      simp [Region.binds] at hd
      have e11 : xv 11 = .bool true := hG.get g11.out (by simp [hd])
      clear hd hin
      go_simp
      exact hK _ _ ⟨updV xv 19 (Value.slice (some { block := b, off := 0 }) 3 c), by simp [updV, e11], hb, hG.same gk.out g19.out _ rfl⟩
    · refine wpOp_step rfl (fun K' hK => ?_)
      simp [Region.binds] at hd
      have e19 : xv 19 = Value.slice (some { block := b, off := 0 }) 3 c := hG.get g19.out (by simp [hd])
      have e11 : xv 11 = .bool true := hG.get g11.out (by simp [hd])
      clear hd hin
      go_simp
      exact hK _ _ ⟨updV xv 20 (.pointer (some ⟨b, 1, none⟩)), by simp [updV, e19, e11], hb, hG.same gk.out g20.out _ rfl⟩
    · refine wpOp_step rfl (fun K' hK => ?_)
      simp [Region.binds] at hd
      have e20 : xv 20 = .pointer (some ⟨b, 1, none⟩) := hG.get g20.out (by simp [hd])
      have e11 : xv 11 = .bool true := hG.get g11.out (by simp [hd])
      have hc := (CX.out W hb).2.1
      clear hd hin
      go_simp
      exact hK _ _ ⟨updV xv 21 (.slice a1 1 d1), by simp [updV, e20, e11], hb, hG.same gk.out g21.out _ rfl⟩
    · refine wpOp_step rfl (fun K' hK => ?_)
      simp [Region.binds] at hd
      have e15 : xv 15 = .slice a0 1 d0 := hG.get g15.out (by simp [hd])
      have e18 : xv 18 = .slice a1 1 d1 := hG.get g18.out (by simp [hd])
      have e21 : xv 21 = .slice a1 1 d1 := hG.get g21.out (by simp [hd])
      have e11 : xv 11 = .bool true := hG.get g11.out (by simp [hd])
      clear hd hin
      go_simp
      exact hK _ _ ⟨updV xv 22 (.slice (some ⟨W.heap.size, 0, none⟩) 3 3), by simp [updV, e15, e18, e21, e11], hb.trans ((below_alloc _ _).mono hb.size), hG.step gk.out (below_alloc _ _) g22.out _ ⟨_, rfl, fun j u hj => by rw [World.cell?_alloc_new]; simpa using hj⟩⟩
    · refine wpOp_step rfl (fun K' hK => ?_)
      simp [Region.binds] at hd
      have e12 : xv 12 = .agg #[.int .i64 2, .int .i64 1, .int .i64 1, .int .i64 900, .int .i64 2] := hG.get g12.out (by simp [hd])
      have m22 : IsRow [(Value.slice a0 1 d0), (Value.slice a1 1 d1), (Value.slice a1 1 d1)] (xv 22) W := hG.get g22.out (by simp [hd])
      have e11 : xv 11 = .bool true := hG.get g11.out (by simp [hd])
      clear hd hin
      go_simp
      refine (C2.out W _ hb m22).mono ?_
      rintro e w' ⟨v, rfl, hv, hb'⟩
      go_wp2_with fail
      exact ⟨updV xv 23 v, by simp [updV, e12, e11], hb.trans (hb'.mono hb.size), hG.step gk.out hb' g23.out v hv⟩
    · refine wpOp_step rfl (fun K' hK => ?_)
      simp [Region.binds] at hd
      have e23 : xv 23 = .bool false := hG.get g23.out (by simp [hd])
      have e11 : xv 11 = .bool true := hG.get g11.out (by simp [hd])
      clear hd hin
      go_simp
      exact hK _ _ ⟨updV xv 24 (.bool true), by simp [updV, e23, e11], hb, hG.same gk.out g24.out _ rfl⟩
    · refine wpOp_step rfl (fun K' hK => ?_)
      simp [Region.binds] at hd
      have e11 : xv 11 = .bool true := hG.get g11.out (by simp [hd])
      have e24 : xv 24 = .bool true := hG.get g24.out (by simp [hd])
      clear hd hin
      go_simp
      exact hK _ _ ⟨updV xv 25 (.bool true), by simp [updV, e11, e24], hb, hG.same gk.out g25.out _ rfl⟩
    · refine wpOp_step rfl (fun K' hK => ?_)
      simp [Region.binds] at hd
      have e25 : xv 25 = .bool true := hG.get g25.out (by simp [hd])
      clear hd hin
      go_simp
      exact hK _ _ ⟨updV xv 26 (.bool true), by simp [updV, e25], hb, hG.same gk.out g26.out _ rfl⟩
  · rintro listed ac W ⟨xv, rfl, hb, hG⟩ hall
    have e26 : xv 26 = .bool true := hG.get g26.out (hall 26 (by decide))
    have XW : Hid (Below w2.heap.size w2 W) := hb
    clear hall hG hb gk g0 g1 g2 g3 g4 g5 g6 g7 g8 g9 g10 g11 g12 g13 g14 g15 g16 g17 g18 g19 g20 g21 g22 g23 g24 g25 g26
    rw [e26]
    clear e26
    have B3 : Hid (Below w.heap.size w W) := on_below BE.out XW.out
    clear BE XW C1 C2 CX BX K1
    go_wp2
    go_ret
    exact ⟨rfl, B3.out⟩

end Go.Proofs.Ytehpbnakdadedaa
