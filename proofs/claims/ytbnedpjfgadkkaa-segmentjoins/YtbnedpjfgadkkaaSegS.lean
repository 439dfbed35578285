/-
  segment: same; what the statements' speaks says.
-/
import Derived.Test.YtbnedpjfgadkkaaSegD
namespace Go.Proofs.Ytbnedpjfgadkkaa
open Go.RowKit
set_option linter.unusedVariables false

set_option maxRecDepth 100000 in
set_option maxHeartbeats 1000000 in
/-- SAME: of rows that are one. -/
theorem same12_yes (v1 v2 : Value) (vs1 vs2 : List Value) (ls : List (List UInt8)) (w : World) (h1 : Sl 1 w v1 vs1.length vs1) (p1 : Parts w vs1 ls) (h2 : Sl 1 w v2 vs2.length vs2) (p2 : Parts w vs2 ls) :
    Calls Try.prog 20 #[v1, v2] w fun e w' => e = .returned (.bool true) ∧ Below w.heap.size w w' := by
  obtain ⟨N, hN⟩ : ∃ N, ls.length = N := ⟨_, rfl⟩
  have e1 : vs1.length = N := by rw [p1.1]; exact hN
  have e2 : vs2.length = N := by rw [p2.1]; exact hN
  rw [e1] at h1
  rw [e2] at h2
  have HL : Hid (ls.length = N) := hN
  have V1 : Hid (vs1.length = N) := e1
  have V2 : Hid (vs2.length = N) := e2
  have P1 : Hid (Parts w vs1 ls) := p1
  have P2 : Hid (Parts w vs2 ls) := p2
  obtain ⟨-, a1, k1, rfl, g1, g2, -, g3⟩ := h1
  obtain ⟨-, a2, k2, rfl, f1, f2, -, f3⟩ := h2
  unfold maxLen at g2 f2
  have C1 : Hid (N = 0 ∨ ∃ b off, a1 = some ⟨b, off, none⟩ ∧ ∀ j u, vs1[j]? = some u → w.cell? ⟨b, off + j, none⟩ = some u) := g3
  have C2 : Hid (N = 0 ∨ ∃ b off, a2 = some ⟨b, off, none⟩ ∧ ∀ j u, vs2[j]? = some u → w.cell? ⟨b, off + j, none⟩ = some u) := f3
  clear p1 p2 g3 f3 hN e1 e2
  have hne : ((N : Int) != (N : Int)) = false := by simp
  go_enter Try.func20, Try.ntmps20
  go_wp2
  go_loopw [13] (fun iv wr => ∃ i : Nat, i ≤ N ∧ iv = .int .i64 i ∧ Hid (Below w.heap.size w wr)) (fun iv _ => N - (intOf iv).toNat)
  case atStart => exact ⟨0, by omega, rfl, Below.refl _ _⟩
  case round =>
    obtain ⟨i, hi, rfl, BB⟩ := hrel
    by_cases hlt : i < N
    · have i0 : i < ls.length := by rw [HL.out]; exact hlt
      have i1 : i < vs1.length := by rw [V1.out]; exact hlt
      have i2 : i < vs2.length := by rw [V2.out]; exact hlt
      obtain ⟨b1, o1, rfl, hc1⟩ : ∃ b off, a1 = some ⟨b, off, none⟩ ∧ ∀ j u, vs1[j]? = some u → w.cell? ⟨b, off + j, none⟩ = some u := by
        rcases C1.out with h | h
        · omega
        · exact h
      obtain ⟨b2, o2, rfl, hc2⟩ : ∃ b off, a2 = some ⟨b, off, none⟩ ∧ ∀ j u, vs2[j]? = some u → w.cell? ⟨b, off + j, none⟩ = some u := by
        rcases C2.out with h | h
        · omega
        · exact h
      have x1 := hc1 i vs1[i] (List.getElem?_eq_getElem i1)
      have x2 := hc2 i vs2[i] (List.getElem?_eq_getElem i2)
      have S1 : Hid (Bs w vs1[i] ls[i]) := P1.out.2 i _ _ (List.getElem?_eq_getElem i1) (List.getElem?_eq_getElem i0)
      have S2 : Hid (Bs w vs2[i] ls[i]) := P2.out.2 i _ _ (List.getElem?_eq_getElem i2) (List.getElem?_eq_getElem i0)
      generalize vs1[i] = u1 at *
      generalize vs2[i] = u2 at *
      generalize ls[i] = y at *
      obtain ⟨-, q1, d1, rfl, -, -, -, -⟩ := S1.out
      obtain ⟨-, q2, d2, rfl, -, -, -, -⟩ := S2.out
      generalize hyn : y.length = n at *
      have X1 : Hid (∀ W, Below wr.heap.size wr W → W.cell? ⟨b1, o1 + i, none⟩ = some (.slice q1 n d1)) := fun W hW => ((on_below BB.out hW).cell (cell_block_lt x1)).trans x1
      have X2 : Hid (∀ W, Below wr.heap.size wr W → W.cell? ⟨b2, o2 + i, none⟩ = some (.slice q2 n d2)) := fun W hW => ((on_below BB.out hW).cell (cell_block_lt x2)).trans x2
      have K1 : Hid (∀ W, Below wr.heap.size wr W → (convert 40 9 (.slice q1 n d1)).run Try.prog W = .ok (.string (str y)) W) := fun W hW => conv_bytes (S1.out.below (on_below BB.out hW))
      have K2 : Hid (∀ W, Below wr.heap.size wr W → (convert 40 9 (.slice q2 n d2)).run Try.prog W = .ok (.string (str y)) W) := fun W hW => conv_bytes (S2.out.below (on_below BB.out hW))
      clear hc1 hc2 x1 x2 S1 S2 hyn
      go_upto_region 6 with fail
      refine wp_region_any (by kernel_rfl) ?_
      obtain ⟨gs, hgs⟩ : ∃ gs : List (Value → World → Prop), gs = [IsV (Value.slice (some { block := b1, off := o1 }) N k1), IsV (Value.int IntKind.i64 ↑i), IsV (.pointer (some ⟨b1, o1 + i, none⟩)), IsV (.slice q1 n d1), IsV (.string (str y)), IsV (Value.slice (some { block := b2, off := o2 }) N k2), IsV (Value.int IntKind.i64 ↑i), IsV (.pointer (some ⟨b2, o2 + i, none⟩)), IsV (.slice q2 n d2), IsV (.string (str y)), IsV (.bool false)] := ⟨_, rfl⟩
      have g0 : Hid (gs[0]? = some (IsV (Value.slice (some { block := b1, off := o1 }) N k1))) := by unfold Hid; rw [hgs]; rfl
      have g1 : Hid (gs[1]? = some (IsV (Value.int IntKind.i64 ↑i))) := by unfold Hid; rw [hgs]; rfl
      have g2 : Hid (gs[2]? = some (IsV (.pointer (some ⟨b1, o1 + i, none⟩)))) := by unfold Hid; rw [hgs]; rfl
      have g3 : Hid (gs[3]? = some (IsV (.slice q1 n d1))) := by unfold Hid; rw [hgs]; rfl
      have g4 : Hid (gs[4]? = some (IsV (.string (str y)))) := by unfold Hid; rw [hgs]; rfl
      have g5 : Hid (gs[5]? = some (IsV (Value.slice (some { block := b2, off := o2 }) N k2))) := by unfold Hid; rw [hgs]; rfl
      have g6 : Hid (gs[6]? = some (IsV (Value.int IntKind.i64 ↑i))) := by unfold Hid; rw [hgs]; rfl
      have g7 : Hid (gs[7]? = some (IsV (.pointer (some ⟨b2, o2 + i, none⟩)))) := by unfold Hid; rw [hgs]; rfl
      have g8 : Hid (gs[8]? = some (IsV (.slice q2 n d2))) := by unfold Hid; rw [hgs]; rfl
      have g9 : Hid (gs[9]? = some (IsV (.string (str y)))) := by unfold Hid; rw [hgs]; rfl
      have g10 : Hid (gs[10]? = some (IsV (.bool false))) := by unfold Hid; rw [hgs]; rfl
      have gk : Hid (∀ p ∈ gs, Stays p) := by
        unfold Hid
        rw [hgs]
        simp only [List.forall_mem_cons]
        exact ⟨stays_v _, stays_v _, stays_v _, stays_v _, stays_v _, stays_v _, stays_v _, stays_v _, stays_v _, stays_v _, stays_v _, by simp⟩
      clear hgs
      refine wpAny_inv (fun listed ac W => ∃ xv : Nat → Value, ac = ⟨#[Value.slice (some { block := b1, off := o1 }) N k1, Value.slice (some { block := b2, off := o2 }) N k2, undef, undef, u4, Value.int IntKind.i64 ↑i, Value.slice (some { block := b1, off := o1 }) N k1, Value.int IntKind.i64 ↑N, Value.slice (some { block := b2, off := o2 }) N k2, Value.int IntKind.i64 ↑N, Value.bool false, Value.slice (some { block := b1, off := o1 }) N k1, Value.int IntKind.i64 ↑N, Value.int IntKind.i64 ↑i, Value.bool true, Value.int IntKind.i64 ↑i, xv 0, xv 1, xv 2, xv 3, xv 4, xv 5, xv 6, xv 7, xv 8, xv 9, xv 10, u27], []⟩ ∧ Below wr.heap.size wr W ∧ Lst gs listed xv W) (by kernel_rfl) ?_ ?_ _ _ _ _ (by kernel_rfl) (of_decide_eq_true (by kernel_rfl)) ⟨fun j => if j = 0 then u16 else if j = 1 then u17 else if j = 2 then u18 else if j = 3 then u19 else if j = 4 then u20 else if j = 5 then u21 else if j = 6 then u22 else if j = 7 then u23 else if j = 8 then u24 else if j = 9 then u25 else if j = 10 then u26 else undef, rfl, below0 _, Lst.start _ _ _ _⟩
      · rintro listed ac W ⟨xv, rfl, hb, hG⟩ i hi hd
        have hin : i < 11 := hi
        clear hi
        have hcase : i = 0 ∨ i = 1 ∨ i = 2 ∨ i = 3 ∨ i = 4 ∨ i = 5 ∨ i = 6 ∨ i = 7 ∨ i = 8 ∨ i = 9 ∨ i = 10 := by omega
        rcases hcase with rfl | rfl | rfl | rfl | rfl | rfl | rfl | rfl | rfl | rfl | rfl
        · refine wpOp_step rfl (fun K' hK => ?_)
          clear hd hin
          go_simp
          exact hK _ _ ⟨updV xv 0 (Value.slice (some { block := b1, off := o1 }) N k1), by simp [updV], hb, hG.same gk.out g0.out _ rfl⟩
        · refine wpOp_step rfl (fun K' hK => ?_)
          clear hd hin
          go_simp
          exact hK _ _ ⟨updV xv 1 (Value.int IntKind.i64 ↑i), by simp [updV], hb, hG.same gk.out g1.out _ rfl⟩
        · refine wpOp_step rfl (fun K' hK => ?_)
          simp [Region.binds] at hd
          have e0 : xv 0 = Value.slice (some { block := b1, off := o1 }) N k1 := hG.get g0.out (by simp [hd])
          have e1 : xv 1 = Value.int IntKind.i64 ↑i := hG.get g1.out (by simp [hd])
          clear hd hin
          go_simp
          exact hK _ _ ⟨updV xv 2 (.pointer (some ⟨b1, o1 + i, none⟩)), by simp [updV, e0, e1], hb, hG.same gk.out g2.out _ rfl⟩
        · refine wpOp_step rfl (fun K' hK => ?_)
          simp [Region.binds] at hd
          have e2 : xv 2 = .pointer (some ⟨b1, o1 + i, none⟩) := hG.get g2.out (by simp [hd])
          have hc := X1.out W hb
          clear hd hin
          go_simp
          exact hK _ _ ⟨updV xv 3 (.slice q1 n d1), by simp [updV, e2], hb, hG.same gk.out g3.out _ rfl⟩
        · refine wpOp_step rfl (fun K' hK => ?_)
          simp [Region.binds] at hd
          have e3 : xv 3 = .slice q1 n d1 := hG.get g3.out (by simp [hd])
          have kr := K1.out W hb
          clear hd hin
          go_simp
          exact hK _ _ ⟨updV xv 4 (.string (str y)), by simp [updV, e3], hb, hG.same gk.out g4.out _ rfl⟩
        · refine wpOp_step rfl (fun K' hK => ?_)
          clear hd hin
          go_simp
          exact hK _ _ ⟨updV xv 5 (Value.slice (some { block := b2, off := o2 }) N k2), by simp [updV], hb, hG.same gk.out g5.out _ rfl⟩
        · refine wpOp_step rfl (fun K' hK => ?_)
          clear hd hin
          go_simp
          exact hK _ _ ⟨updV xv 6 (Value.int IntKind.i64 ↑i), by simp [updV], hb, hG.same gk.out g6.out _ rfl⟩
        · refine wpOp_step rfl (fun K' hK => ?_)
          simp [Region.binds] at hd
          have e5 : xv 5 = Value.slice (some { block := b2, off := o2 }) N k2 := hG.get g5.out (by simp [hd])
          have e6 : xv 6 = Value.int IntKind.i64 ↑i := hG.get g6.out (by simp [hd])
          clear hd hin
          go_simp
          exact hK _ _ ⟨updV xv 7 (.pointer (some ⟨b2, o2 + i, none⟩)), by simp [updV, e5, e6], hb, hG.same gk.out g7.out _ rfl⟩
        · refine wpOp_step rfl (fun K' hK => ?_)
          simp [Region.binds] at hd
          have e7 : xv 7 = .pointer (some ⟨b2, o2 + i, none⟩) := hG.get g7.out (by simp [hd])
          have hc := X2.out W hb
          clear hd hin
          go_simp
          exact hK _ _ ⟨updV xv 8 (.slice q2 n d2), by simp [updV, e7], hb, hG.same gk.out g8.out _ rfl⟩
        · refine wpOp_step rfl (fun K' hK => ?_)
          simp [Region.binds] at hd
          have e8 : xv 8 = .slice q2 n d2 := hG.get g8.out (by simp [hd])
          have kr := K2.out W hb
          clear hd hin
          go_simp
          exact hK _ _ ⟨updV xv 9 (.string (str y)), by simp [updV, e8], hb, hG.same gk.out g9.out _ rfl⟩
        · refine wpOp_step rfl (fun K' hK => ?_)
          simp [Region.binds] at hd
          have e4 : xv 4 = .string (str y) := hG.get g4.out (by simp [hd])
          have e9 : xv 9 = .string (str y) := hG.get g9.out (by simp [hd])
          clear hd hin
          go_simp
          exact hK _ _ ⟨updV xv 10 (.bool false), by simp [updV, e4, e9], hb, hG.same gk.out g10.out _ rfl⟩
      · rintro listed ac W ⟨xv, rfl, hb, hG⟩ hall
        have e10 : xv 10 = .bool false := hG.get g10.out (hall 10 (by decide))
        have XW : Hid (Below wr.heap.size wr W) := hb
        clear hall hG hb gk g0 g1 g2 g3 g4 g5 g6 g7 g8 g9 g10
        rw [e10]
        clear e10
        have B2 : Hid (Below w.heap.size w W) := on_below BB.out XW.out
        clear X1 X2 K1 K2 BB XW
        go_wp2
        go_roundw
        case rel => exact ⟨i + 1, by omega, by go_num, B2⟩
        case measure => simp [intOf]; omega
    · go_wp2
      go_ret
      exact ⟨rfl, BB.out⟩

theorem may_22 : May ((2 : Nat) : Int) ((2 : Nat) : Int) 1 1000 2 := ⟨by omega, by omega, by omega, by omega, by omega, by decide⟩

set_option maxRecDepth 100000 in
set_option maxHeartbeats 2000000 in
theorem speaks12_any (w : World) : Calls Try.prog 18 #[] w fun e w' => e = .returned (.bool true) ∧ Below w.heap.size w w' := by
  have CS : Hid (∀ W v, Bs W v [1, 2, 3] → Calls Try.prog 19 #[.agg #[.int .i64 2, .int .i64 2, .int .i64 1, .int .i64 1000, .int .i64 2], v] W fun e w' => ∃ q qs, e = .returned (.tuple #[.slice (some ⟨q, 0, none⟩) 2 2, .int .i64 0]) ∧ Cut W.heap.size w' q 2 qs (splitD 2 2 [1, 2, 3]) [] ∧ Below W.heap.size W w') := fun W v hv => split_yes 2 2 1 1000 2 v [1, 2, 3] W may_22 hv (by decide)
  go_enter Try.func18, Try.ntmps18
  go_upto_region 2 with fail
  obtain ⟨w0, hw0⟩ : ∃ w0, (w.alloc (.cells #[.int .i64 2, .int .i64 2, .int .i64 1, .int .i64 1000, .int .i64 2] 23)) = w0 := ⟨_, rfl⟩
  have B0 : Hid (Below w.heap.size w w0) := by rw [← hw0]; exact below_alloc _ _
  have P0 : Hid (Five w0 w.heap.size 2 2 1 1000 2) := by rw [← hw0]; exact five_new w _ _ _ _ _ _
  rw [hw0]
  clear hw0
  obtain ⟨c0, c1, c2, c3, c4⟩ := P0.out
  go_wp2_with fail
  refine (CS.out _ _ (Bs.lit w0 _ _ _ [1, 2, 3] _ _ rfl rfl rfl (by decide))).mono ?_
  rintro e w1 ⟨q, qs, rfl, hc, hb⟩
  have B1 : Hid (Below w0.heap.size w0 w1) := on_below (below_alloc _ _) hb
  have hl := hc.len
  rw [splitD_length] at hl
  obtain ⟨x, y, rfl⟩ : ∃ x y, qs = [x, y] := by
    match qs, hl with
    | [x, y], _ => exact ⟨x, y, rfl⟩
  have X1 : Hid (Cut (w0.alloc (.cells #[.int .u8 1, .int .u8 2, .int .u8 3] 5)).heap.size w1 q 2 [x, y] (splitD 2 2 [1, 2, 3]) []) := hc
  have k1 : w1.cell? ⟨q, 1, none⟩ = some (.slice (some ⟨y, 0, none⟩) 2 2) := hc.cell rfl
  have kr : (convert 40 9 (.slice (some ⟨y, 0, none⟩) 2 2)).run Try.prog w1 = .ok (.string { data := #[3, 0] }) w1 := conv_bytes (l := [3, 0]) ((hc.at_ 1 y [3, 0] rfl (by decide)).1.bs0 2 2 rfl (Nat.le_refl _) (by decide))
  have P1 : Hid (Five w1 w.heap.size 2 2 1 1000 2) := P0.out.below B1.out
  have SL : Hid (Sl 1 w1 (.slice (some ⟨q, 0, none⟩) 2 2) ([x, y].map (slv 2)).length ([x, y].map (slv 2))) := hc.sl 2 rfl (by decide)
  have SP : Hid (Parts w1 ([x, y].map (slv 2)) (splitD 2 2 [1, 2, 3])) := hc.parts (by decide)
  clear hc hb hl CS P0 c0 c1 c2 c3 c4 X1
  obtain ⟨c0, c1, c2, c3, c4⟩ := P1.out
  have CJ : Hid (Calls Try.prog 22 #[.agg #[.int .i64 2, .int .i64 2, .int .i64 1, .int .i64 1000, .int .i64 2], .int .i64 3, .slice (some ⟨q, 0, none⟩) 2 2] w1 fun e w' => ∃ q, e = .returned (.tuple #[.slice (some ⟨q, 0, none⟩) 3 3, .int .i64 0]) ∧ w1.heap.size ≤ q ∧ Blk w' q [] (joinD 3 (splitD 2 2 [1, 2, 3])) [] ∧ Below w1.heap.size w1 w') := join_yes 2 2 1 1000 2 3 _ _ _ w1 may_22 SL.out SP.out (by unfold fitJ; decide)
  go_wp2_with fail
  refine CJ.out.mono ?_
  rintro e w2 ⟨q2, rfl, -, hk, hb⟩
  have kr2 : (convert 40 9 (.slice (some ⟨q2, 0, none⟩) 3 3)).run Try.prog w2 = .ok (.string { data := #[1, 2, 3] }) w2 := by
    have e : joinD 3 (splitD 2 2 [1, 2, 3]) = [1, 2, 3] := by decide
    rw [e] at hk
    exact conv_bytes (l := [1, 2, 3]) (hk.bs0 3 3 rfl (Nat.le_refl _) (by decide))
  have B2 : Hid (Below w.heap.size w w2) := on_below (on_below B0.out B1.out) hb
  clear hk hb CJ SL SP P1 c0 c1 c2 c3 c4 k1 kr
  go_wp2
  go_ret
  exact ⟨rfl, B2.out⟩

end Go.Proofs.Ytbnedpjfgadkkaa
