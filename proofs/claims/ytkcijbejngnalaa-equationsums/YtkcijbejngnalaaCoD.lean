/-
  compose: the statements' same and big; the document's Pick and Blocks.
-/
import Derived.Test.YtkcijbejngnalaaCoC
import Derived.Test.YtkcijbejngnalaaCoB
import Derived.Test.YtkcijbejngnalaaZOut
namespace Go.Proofs.Ytkcijbejngnalaa
open Go.RowKit
set_option linter.unusedVariables false

set_option maxRecDepth 100000 in
set_option maxHeartbeats 1000000 in
/-- SAME: are two rows of blocks one? -/
theorem same13_any (v1 v2 : Value) (vs1 vs2 : List Value) (ls1 ls2 : List (List UInt8)) (w : World) (h1 : Sl 1 w v1 vs1.length vs1) (p1 : Parts w vs1 ls1) (h2 : Sl 1 w v2 vs2.length vs2) (p2 : Parts w vs2 ls2) :
    Calls Try.prog 16 #[v1, v2] w fun e w' => TellsP (ls1 = ls2) e ∧ Below w.heap.size w w' := by
  obtain ⟨N, hN⟩ : ∃ N, vs1.length = N := ⟨_, rfl⟩
  obtain ⟨M, hM⟩ : ∃ M, vs2.length = M := ⟨_, rfl⟩
  have L1 : Hid (ls1.length = N) := by have := p1.1; unfold Hid; omega
  have L2 : Hid (ls2.length = M) := by have := p2.1; unfold Hid; omega
  rw [hN] at h1
  rw [hM] at h2
  have V1 : Hid (vs1.length = N) := hN
  have V2 : Hid (vs2.length = M) := hM
  have P1 : Hid (Parts w vs1 ls1) := p1
  have P2 : Hid (Parts w vs2 ls2) := p2
  obtain ⟨-, a1, k1, rfl, g1, g2, -, g3⟩ := h1
  obtain ⟨-, a2, k2, rfl, f1, f2, -, f3⟩ := h2
  unfold maxLen at g2 f2
  have C1 : Hid (N = 0 ∨ ∃ b off, a1 = some ⟨b, off, none⟩ ∧ ∀ j u, vs1[j]? = some u → w.cell? ⟨b, off + j, none⟩ = some u) := g3
  have C2 : Hid (M = 0 ∨ ∃ b off, a2 = some ⟨b, off, none⟩ ∧ ∀ j u, vs2[j]? = some u → w.cell? ⟨b, off + j, none⟩ = some u) := f3
  clear p1 p2 g3 f3 hN hM
  by_cases hNM : N = M
  case neg =>
    have hne : ((N : Int) != (M : Int)) = true := by simp; omega
    have R : Hid (¬ ls1 = ls2) := by
      rintro rfl
      exact hNM (L1.out.symm.trans L2.out)
    clear hNM
    go_enter Try.func16, Try.ntmps16
    go_wp2
    go_ret
    exact ⟨tells_no rfl R.out, Below.refl _ _⟩
  subst hNM
  have hne : ((N : Int) != (N : Int)) = false := by simp
  go_enter Try.func16, Try.ntmps16
  go_wp2
  go_loopw [13] (fun iv wr => ∃ i : Nat, i ≤ N ∧ iv = .int .i64 i ∧ Hid (ls1.take i = ls2.take i) ∧ Hid (Below w.heap.size w wr)) (fun iv _ => N - (intOf iv).toNat)
  case atStart => exact ⟨0, by omega, rfl, rfl, Below.refl _ _⟩
  case round =>
    obtain ⟨i, hi, rfl, EQ, BB⟩ := hrel
    by_cases hlt : i < N
    · have i0 : i < ls1.length := by rw [L1.out]; exact hlt
      have j0 : i < ls2.length := by rw [L2.out]; exact hlt
      have i1 : i < vs1.length := by rw [V1.out]; exact hlt
      have i2 : i < vs2.length := by rw [V2.out]; exact hlt
      obtain ⟨b1, o1, rfl, hc1⟩ : ∃ b off, a1 = some ⟨b, off, none⟩ ∧ ∀ j u, vs1[j]? = some u → w.cell? ⟨b, off + j, none⟩ = some u := by
        rcases C1.out with h | h
        · omega
        · exact h
      obtain ⟨b2, o2, rfl, hc2⟩ : ∃ b off, a2 = some ⟨b, off, none⟩ ∧ ∀ j u, vs2[j]? = some u → w.cell? ⟨b, off + j, none⟩ = some u := by
        rcases C2.out with h | h
        · omega
        · exact h
      have x1 := hc1 i vs1[i] (List.getElem?_eq_getElem i1)
      have x2 := hc2 i vs2[i] (List.getElem?_eq_getElem i2)
      have S1 : Hid (Bs w vs1[i] ls1[i]) := P1.out.2 i _ _ (List.getElem?_eq_getElem i1) (List.getElem?_eq_getElem i0)
      have S2 : Hid (Bs w vs2[i] ls2[i]) := P2.out.2 i _ _ (List.getElem?_eq_getElem i2) (List.getElem?_eq_getElem j0)
      have Y1 : Hid (ls1[i]? = some ls1[i]) := List.getElem?_eq_getElem i0
      have Y2 : Hid (ls2[i]? = some ls2[i]) := List.getElem?_eq_getElem j0
      generalize vs1[i] = u1 at *
      generalize vs2[i] = u2 at *
      generalize ls1[i] = y at *
      generalize ls2[i] = z at *
      obtain ⟨-, q1, d1, rfl, -, -, -, -⟩ := S1.out
      obtain ⟨-, q2, d2, rfl, -, -, -, -⟩ := S2.out
      generalize hyn : y.length = n at *
      generalize hzn : z.length = m at *
      have X1 : Hid (∀ W, Below wr.heap.size wr W → W.cell? ⟨b1, o1 + i, none⟩ = some (.slice q1 n d1)) := fun W hW => ((on_below BB.out hW).cell (cell_block_lt x1)).trans x1
      have X2 : Hid (∀ W, Below wr.heap.size wr W → W.cell? ⟨b2, o2 + i, none⟩ = some (.slice q2 m d2)) := fun W hW => ((on_below BB.out hW).cell (cell_block_lt x2)).trans x2
      have K1 : Hid (∀ W, Below wr.heap.size wr W → (convert 25 9 (.slice q1 n d1)).run Try.prog W = .ok (.string (str y)) W) := fun W hW => conv_bytes (S1.out.below (on_below BB.out hW))
      have K2 : Hid (∀ W, Below wr.heap.size wr W → (convert 25 9 (.slice q2 m d2)).run Try.prog W = .ok (.string (str z)) W) := fun W hW => conv_bytes (S2.out.below (on_below BB.out hW))
      clear hc1 hc2 x1 x2 S1 S2 hyn hzn i0 j0 i1 i2
      by_cases hyz : y = z
      · subst hyz
        have EQ2 : Hid (ls1.take (i + 1) = ls2.take (i + 1)) := by
          unfold Hid
          rw [List.take_add_one, List.take_add_one, EQ.out, Y1.out, Y2.out]
        clear EQ Y1 Y2
        go_upto_region 6 with fail
        refine wp_region_any (by kernel_rfl) ?_
        obtain ⟨gs, hgs⟩ : ∃ gs : List (Value → World → Prop), gs = [IsV (Value.slice (some { block := b1, off := o1 }) N k1), IsV (Value.int IntKind.i64 ↑i), IsV (.pointer (some ⟨b1, o1 + i, none⟩)), IsV (.slice q1 n d1), IsV (.string (str y)), IsV (Value.slice (some { block := b2, off := o2 }) N k2), IsV (Value.int IntKind.i64 ↑i), IsV (.pointer (some ⟨b2, o2 + i, none⟩)), IsV (.slice q2 m d2), IsV (.string (str y)), IsV (.bool false)] := ⟨_, rfl⟩
        have g0 : Hid (gs[0]? = some (IsV (Value.slice (some { block := b1, off := o1 }) N k1))) := by unfold Hid; rw [hgs]; rfl
        have g1 : Hid (gs[1]? = some (IsV (Value.int IntKind.i64 ↑i))) := by unfold Hid; rw [hgs]; rfl
        have g2 : Hid (gs[2]? = some (IsV (.pointer (some ⟨b1, o1 + i, none⟩)))) := by unfold Hid; rw [hgs]; rfl
        have g3 : Hid (gs[3]? = some (IsV (.slice q1 n d1))) := by unfold Hid; rw [hgs]; rfl
        have g4 : Hid (gs[4]? = some (IsV (.string (str y)))) := by unfold Hid; rw [hgs]; rfl
        have g5 : Hid (gs[5]? = some (IsV (Value.slice (some { block := b2, off := o2 }) N k2))) := by unfold Hid; rw [hgs]; rfl
        have g6 : Hid (gs[6]? = some (IsV (Value.int IntKind.i64 ↑i))) := by unfold Hid; rw [hgs]; rfl
        have g7 : Hid (gs[7]? = some (IsV (.pointer (some ⟨b2, o2 + i, none⟩)))) := by unfold Hid; rw [hgs]; rfl
        have g8 : Hid (gs[8]? = some (IsV (.slice q2 m d2))) := by unfold Hid; rw [hgs]; rfl
        have g9 : Hid (gs[9]? = some (IsV (.string (str y)))) := by unfold Hid; rw [hgs]; rfl
        have g10 : Hid (gs[10]? = some (IsV (.bool false))) := by unfold Hid; rw [hgs]; rfl
        have gk : Hid (∀ p ∈ gs, Stays p) := by
          unfold Hid
          rw [hgs]
          simp only [List.forall_mem_cons]
          exact ⟨stays_v _, stays_v _, stays_v _, stays_v _, stays_v _, stays_v _, stays_v _, stays_v _, stays_v _, stays_v _, stays_v _, by simp⟩
        clear hgs
        refine wpAny_inv (fun listed ac W => ∃ xv : Nat → Value, ac = ⟨#[Value.slice (some { block := b1, off := o1 }) N k1, Value.slice (some { block := b2, off := o2 }) N k2, undef, undef, u4, Value.int IntKind.i64 ↑i, Value.slice (some { block := b1, off := o1 }) N k1, Value.int IntKind.i64 ↑N, Value.slice (some { block := b2, off := o2 }) N k2, Value.int IntKind.i64 ↑N, Value.bool false, Value.slice (some { block := b1, off := o1 }) N k1, Value.int IntKind.i64 ↑N, Value.int IntKind.i64 ↑i, Value.bool true, Value.int IntKind.i64 ↑i, xv 0, xv 1, xv 2, xv 3, xv 4, xv 5, xv 6, xv 7, xv 8, xv 9, xv 10, u27], []⟩ ∧ Below wr.heap.size wr W ∧ Lst gs listed xv W) (by kernel_rfl) ?_ ?_ _ _ _ _ (by kernel_rfl) (of_decide_eq_true (by kernel_rfl)) ⟨fun j => if j = 0 then u16 else if j = 1 then u17 else if j = 2 then u18 else if j = 3 then u19 else if j = 4 then u20 else if j = 5 then u21 else if j = 6 then u22 else if j = 7 then u23 else if j = 8 then u24 else if j = 9 then u25 else if j = 10 then u26 else undef, rfl, below0 _, Lst.start _ _ _ _⟩
        · rintro listed ac W ⟨xv, rfl, hb, hG⟩ i hi hd
          have hin : i < 11 := hi
          clear hi
          have hcase : i = 0 ∨ i = 1 ∨ i = 2 ∨ i = 3 ∨ i = 4 ∨ i = 5 ∨ i = 6 ∨ i = 7 ∨ i = 8 ∨ i = 9 ∨ i = 10 := by omega
          rcases hcase with rfl | rfl | rfl | rfl | rfl | rfl | rfl | rfl | rfl | rfl | rfl
          · refine wpOp_step rfl (fun K' hK => ?_)
            clear hd hin
            go_simp
            exact hK _ _ ⟨updV xv 0 (Value.slice (some { block := b1, off := o1 }) N k1), by simp [updV], hb, hG.same gk.out g0.out _ rfl⟩
          · refine wpOp_step rfl (fun K' hK => ?_)
            clear hd hin
            go_simp
            exact hK _ _ ⟨updV xv 1 (Value.int IntKind.i64 ↑i), by simp [updV], hb, hG.same gk.out g1.out _ rfl⟩
          · refine wpOp_step rfl (fun K' hK => ?_)
            simp [Region.binds] at hd
            have e0 : xv 0 = Value.slice (some { block := b1, off := o1 }) N k1 := hG.get g0.out (by simp [hd])
            have e1 : xv 1 = Value.int IntKind.i64 ↑i := hG.get g1.out (by simp [hd])
            clear hd hin
            go_simp
            exact hK _ _ ⟨updV xv 2 (.pointer (some ⟨b1, o1 + i, none⟩)), by simp [updV, e0, e1], hb, hG.same gk.out g2.out _ rfl⟩
          · refine wpOp_step rfl (fun K' hK => ?_)
            simp [Region.binds] at hd
            have e2 : xv 2 = .pointer (some ⟨b1, o1 + i, none⟩) := hG.get g2.out (by simp [hd])
            have hc := X1.out W hb
            clear hd hin
            go_simp
            exact hK _ _ ⟨updV xv 3 (.slice q1 n d1), by simp [updV, e2], hb, hG.same gk.out g3.out _ rfl⟩
          · refine wpOp_step rfl (fun K' hK => ?_)
            simp [Region.binds] at hd
            have e3 : xv 3 = .slice q1 n d1 := hG.get g3.out (by simp [hd])
            have kr := K1.out W hb
            clear hd hin
            go_simp
            exact hK _ _ ⟨updV xv 4 (.string (str y)), by simp [updV, e3], hb, hG.same gk.out g4.out _ rfl⟩
          · refine wpOp_step rfl (fun K' hK => ?_)
            clear hd hin
            go_simp
            exact hK _ _ ⟨updV xv 5 (Value.slice (some { block := b2, off := o2 }) N k2), by simp [updV], hb, hG.same gk.out g5.out _ rfl⟩
          · refine wpOp_step rfl (fun K' hK => ?_)
            clear hd hin
            go_simp
            exact hK _ _ ⟨updV xv 6 (Value.int IntKind.i64 ↑i), by simp [updV], hb, hG.same gk.out g6.out _ rfl⟩
          · refine wpOp_step rfl (fun K' hK => ?_)
            simp [Region.binds] at hd
            have e5 : xv 5 = Value.slice (some { block := b2, off := o2 }) N k2 := hG.get g5.out (by simp [hd])
            have e6 : xv 6 = Value.int IntKind.i64 ↑i := hG.get g6.out (by simp [hd])
            clear hd hin
            go_simp
            exact hK _ _ ⟨updV xv 7 (.pointer (some ⟨b2, o2 + i, none⟩)), by simp [updV, e5, e6], hb, hG.same gk.out g7.out _ rfl⟩
          · refine wpOp_step rfl (fun K' hK => ?_)
            simp [Region.binds] at hd
            have e7 : xv 7 = .pointer (some ⟨b2, o2 + i, none⟩) := hG.get g7.out (by simp [hd])
            have hc := X2.out W hb
            clear hd hin
            go_simp
            exact hK _ _ ⟨updV xv 8 (.slice q2 m d2), by simp [updV, e7], hb, hG.same gk.out g8.out _ rfl⟩
          · refine wpOp_step rfl (fun K' hK => ?_)
            simp [Region.binds] at hd
            have e8 : xv 8 = .slice q2 m d2 := hG.get g8.out (by simp [hd])
            have kr := K2.out W hb
            clear hd hin
            go_simp
            exact hK _ _ ⟨updV xv 9 (.string (str y)), by simp [updV, e8], hb, hG.same gk.out g9.out _ rfl⟩
          · refine wpOp_step rfl (fun K' hK => ?_)
            simp [Region.binds] at hd
            have e4 : xv 4 = .string (str y) := hG.get g4.out (by simp [hd])
            have e9 : xv 9 = .string (str y) := hG.get g9.out (by simp [hd])
            clear hd hin
            go_simp
            exact hK _ _ ⟨updV xv 10 (.bool false), by simp [updV, e4, e9], hb, hG.same gk.out g10.out _ rfl⟩
        · rintro listed ac W ⟨xv, rfl, hb, hG⟩ hall
          have e10 : xv 10 = .bool false := hG.get g10.out (hall 10 (by decide))
          have XW : Hid (Below wr.heap.size wr W) := hb
          clear hall hG hb gk g0 g1 g2 g3 g4 g5 g6 g7 g8 g9 g10
          rw [e10]
          clear e10
          have B2 : Hid (Below w.heap.size w W) := on_below BB.out XW.out
          clear X1 X2 K1 K2 BB XW
          go_wp2
          go_roundw
          case rel => exact ⟨i + 1, by omega, by go_num, EQ2, B2⟩
          case measure => simp [intOf]; omega
      · have R : Hid (¬ ls1 = ls2) := by
          intro e
          have := Y1.out
          rw [e, Y2.out] at this
          exact hyz (Option.some.inj this).symm
        have SN : Hid (((str y).toList == (str z).toList) = false ∧ ((str y).toList != (str z).toList) = true) := by
          unfold Hid
          rw [str_toList, str_toList]
          simp [hyz]
        clear EQ Y1 Y2 hyz
        go_upto_region 6 with fail
        refine wp_region_any (by kernel_rfl) ?_
        obtain ⟨gs, hgs⟩ : ∃ gs : List (Value → World → Prop), gs = [IsV (Value.slice (some { block := b1, off := o1 }) N k1), IsV (Value.int IntKind.i64 ↑i), IsV (.pointer (some ⟨b1, o1 + i, none⟩)), IsV (.slice q1 n d1), IsV (.string (str y)), IsV (Value.slice (some { block := b2, off := o2 }) N k2), IsV (Value.int IntKind.i64 ↑i), IsV (.pointer (some ⟨b2, o2 + i, none⟩)), IsV (.slice q2 m d2), IsV (.string (str z)), IsV (.bool true)] := ⟨_, rfl⟩
        have g0 : Hid (gs[0]? = some (IsV (Value.slice (some { block := b1, off := o1 }) N k1))) := by unfold Hid; rw [hgs]; rfl
        have g1 : Hid (gs[1]? = some (IsV (Value.int IntKind.i64 ↑i))) := by unfold Hid; rw [hgs]; rfl
        have g2 : Hid (gs[2]? = some (IsV (.pointer (some ⟨b1, o1 + i, none⟩)))) := by unfold Hid; rw [hgs]; rfl
        have g3 : Hid (gs[3]? = some (IsV (.slice q1 n d1))) := by unfold Hid; rw [hgs]; rfl
        have g4 : Hid (gs[4]? = some (IsV (.string (str y)))) := by unfold Hid; rw [hgs]; rfl
        have g5 : Hid (gs[5]? = some (IsV (Value.slice (some { block := b2, off := o2 }) N k2))) := by unfold Hid; rw [hgs]; rfl
        have g6 : Hid (gs[6]? = some (IsV (Value.int IntKind.i64 ↑i))) := by unfold Hid; rw [hgs]; rfl
        have g7 : Hid (gs[7]? = some (IsV (.pointer (some ⟨b2, o2 + i, none⟩)))) := by unfold Hid; rw [hgs]; rfl
        have g8 : Hid (gs[8]? = some (IsV (.slice q2 m d2))) := by unfold Hid; rw [hgs]; rfl
        have g9 : Hid (gs[9]? = some (IsV (.string (str z)))) := by unfold Hid; rw [hgs]; rfl
        have g10 : Hid (gs[10]? = some (IsV (.bool true))) := by unfold Hid; rw [hgs]; rfl
        have gk : Hid (∀ p ∈ gs, Stays p) := by
          unfold Hid
          rw [hgs]
          simp only [List.forall_mem_cons]
          exact ⟨stays_v _, stays_v _, stays_v _, stays_v _, stays_v _, stays_v _, stays_v _, stays_v _, stays_v _, stays_v _, stays_v _, by simp⟩
        clear hgs
        refine wpAny_inv (fun listed ac Wb => ∃ xvb : Nat → Value, ac = ⟨#[Value.slice (some { block := b1, off := o1 }) N k1, Value.slice (some { block := b2, off := o2 }) N k2, undef, undef, u4, Value.int IntKind.i64 ↑i, Value.slice (some { block := b1, off := o1 }) N k1, Value.int IntKind.i64 ↑N, Value.slice (some { block := b2, off := o2 }) N k2, Value.int IntKind.i64 ↑N, Value.bool false, Value.slice (some { block := b1, off := o1 }) N k1, Value.int IntKind.i64 ↑N, Value.int IntKind.i64 ↑i, Value.bool true, Value.int IntKind.i64 ↑i, xvb 0, xvb 1, xvb 2, xvb 3, xvb 4, xvb 5, xvb 6, xvb 7, xvb 8, xvb 9, xvb 10, u27], []⟩ ∧ Below wr.heap.size wr Wb ∧ Lst gs listed xvb Wb) (by kernel_rfl) ?_ ?_ _ _ _ _ (by kernel_rfl) (of_decide_eq_true (by kernel_rfl)) ⟨fun j => if j = 0 then u16 else if j = 1 then u17 else if j = 2 then u18 else if j = 3 then u19 else if j = 4 then u20 else if j = 5 then u21 else if j = 6 then u22 else if j = 7 then u23 else if j = 8 then u24 else if j = 9 then u25 else if j = 10 then u26 else undef, rfl, below0 _, Lst.start _ _ _ _⟩
        · rintro listed ac Wb ⟨xvb, rfl, hb, hG⟩ i hi hd
          have hin : i < 11 := hi
          clear hi
          have hcase : i = 0 ∨ i = 1 ∨ i = 2 ∨ i = 3 ∨ i = 4 ∨ i = 5 ∨ i = 6 ∨ i = 7 ∨ i = 8 ∨ i = 9 ∨ i = 10 := by omega
          rcases hcase with rfl | rfl | rfl | rfl | rfl | rfl | rfl | rfl | rfl | rfl | rfl
          · refine wpOp_step rfl (fun K' hK => ?_)
            clear hd hin
            go_simp
            exact hK _ _ ⟨updV xvb 0 (Value.slice (some { block := b1, off := o1 }) N k1), by simp [updV], hb, hG.same gk.out g0.out _ rfl⟩
          · refine wpOp_step rfl (fun K' hK => ?_)
            clear hd hin
            go_simp
            exact hK _ _ ⟨updV xvb 1 (Value.int IntKind.i64 ↑i), by simp [updV], hb, hG.same gk.out g1.out _ rfl⟩
          · refine wpOp_step rfl (fun K' hK => ?_)
            simp [Region.binds] at hd
            have e0 : xvb 0 = Value.slice (some { block := b1, off := o1 }) N k1 := hG.get g0.out (by simp [hd])
            have e1 : xvb 1 = Value.int IntKind.i64 ↑i := hG.get g1.out (by simp [hd])
            clear hd hin
            go_simp
            exact hK _ _ ⟨updV xvb 2 (.pointer (some ⟨b1, o1 + i, none⟩)), by simp [updV, e0, e1], hb, hG.same gk.out g2.out _ rfl⟩
          · refine wpOp_step rfl (fun K' hK => ?_)
            simp [Region.binds] at hd
            have e2 : xvb 2 = .pointer (some ⟨b1, o1 + i, none⟩) := hG.get g2.out (by simp [hd])
            have hc := X1.out Wb hb
            clear hd hin
            go_simp
            exact hK _ _ ⟨updV xvb 3 (.slice q1 n d1), by simp [updV, e2], hb, hG.same gk.out g3.out _ rfl⟩
          · refine wpOp_step rfl (fun K' hK => ?_)
            simp [Region.binds] at hd
            have e3 : xvb 3 = .slice q1 n d1 := hG.get g3.out (by simp [hd])
            have kr := K1.out Wb hb
            clear hd hin
            go_simp
            exact hK _ _ ⟨updV xvb 4 (.string (str y)), by simp [updV, e3], hb, hG.same gk.out g4.out _ rfl⟩
          · refine wpOp_step rfl (fun K' hK => ?_)
            clear hd hin
            go_simp
            exact hK _ _ ⟨updV xvb 5 (Value.slice (some { block := b2, off := o2 }) N k2), by simp [updV], hb, hG.same gk.out g5.out _ rfl⟩
          · refine wpOp_step rfl (fun K' hK => ?_)
            clear hd hin
            go_simp
            exact hK _ _ ⟨updV xvb 6 (Value.int IntKind.i64 ↑i), by simp [updV], hb, hG.same gk.out g6.out _ rfl⟩
          · refine wpOp_step rfl (fun K' hK => ?_)
            simp [Region.binds] at hd
            have e5 : xvb 5 = Value.slice (some { block := b2, off := o2 }) N k2 := hG.get g5.out (by simp [hd])
            have e6 : xvb 6 = Value.int IntKind.i64 ↑i := hG.get g6.out (by simp [hd])
            clear hd hin
            go_simp
            exact hK _ _ ⟨updV xvb 7 (.pointer (some ⟨b2, o2 + i, none⟩)), by simp [updV, e5, e6], hb, hG.same gk.out g7.out _ rfl⟩
          · refine wpOp_step rfl (fun K' hK => ?_)
            simp [Region.binds] at hd
            have e7 : xvb 7 = .pointer (some ⟨b2, o2 + i, none⟩) := hG.get g7.out (by simp [hd])
            have hc := X2.out Wb hb
            clear hd hin
            go_simp
            exact hK _ _ ⟨updV xvb 8 (.slice q2 m d2), by simp [updV, e7], hb, hG.same gk.out g8.out _ rfl⟩
          · refine wpOp_step rfl (fun K' hK => ?_)
            simp [Region.binds] at hd
            have e8 : xvb 8 = .slice q2 m d2 := hG.get g8.out (by simp [hd])
            have kr := K2.out Wb hb
            clear hd hin
            go_simp
            exact hK _ _ ⟨updV xvb 9 (.string (str z)), by simp [updV, e8], hb, hG.same gk.out g9.out _ rfl⟩
          · refine wpOp_step rfl (fun K' hK => ?_)
            simp [Region.binds] at hd
            have e4 : xvb 4 = .string (str y) := hG.get g4.out (by simp [hd])
            have e9 : xvb 9 = .string (str z) := hG.get g9.out (by simp [hd])
            have hs := SN.out.1
            have hs2 := SN.out.2
            clear hd hin
            go_simp
            exact hK _ _ ⟨updV xvb 10 (.bool true), by simp [updV, e4, e9], hb, hG.same gk.out g10.out _ rfl⟩
        · rintro listed ac Wb ⟨xvb, rfl, hb, hG⟩ hall
          have e10 : xvb 10 = .bool true := hG.get g10.out (hall 10 (by decide))
          have XW : Hid (Below wr.heap.size wr Wb) := hb
          clear hall hG hb gk g0 g1 g2 g3 g4 g5 g6 g7 g8 g9 g10
          rw [e10]
          clear e10
          have B2 : Hid (Below w.heap.size w Wb) := on_below BB.out XW.out
          clear X1 X2 K1 K2 BB XW
          go_wp2
          go_ret
          exact ⟨tells_no rfl R.out, B2.out⟩
    · have R : Hid (ls1 = ls2) := by
        have := EQ.out
        rw [List.take_of_length_le (by rw [L1.out]; omega), List.take_of_length_le (by rw [L2.out]; omega)] at this
        exact this
      clear EQ
      go_wp2
      go_ret
      exact ⟨tells_yes rfl R.out, BB.out⟩

def bigP (N B : Int) : Prop := N > 60 ∨ B > 60 ∨ N < -60

set_option maxRecDepth 100000 in
set_option maxHeartbeats 1000000 in
theorem big13_any (N B Q E F : Int) (w : World) :
    Calls Try.prog 13 #[.agg #[.int .i64 N, .int .i64 B, .int .i64 Q, .int .i64 E, .int .i64 F]] w fun e w' => TellsP (bigP N B) e ∧ Below w.heap.size w w' := by
  by_cases h1 : N > 60
  · go_enter Try.func13, Try.ntmps13
    go_wp2
    go_ret
    exact ⟨tells_yes rfl (.inl h1), below_alloc _ _⟩
  by_cases h2 : B > 60
  · go_enter Try.func13, Try.ntmps13
    go_wp2
    go_ret
    exact ⟨tells_yes rfl (.inr (.inl h2)), below_alloc _ _⟩
  by_cases h3 : N < -60
  · go_enter Try.func13, Try.ntmps13
    go_wp2
    go_ret
    exact ⟨tells_yes rfl (.inr (.inr h3)), below_alloc _ _⟩
  · have R : Hid (¬ bigP N B) := by unfold Hid bigP; omega
    go_enter Try.func13, Try.ntmps13
    go_wp2
    go_ret
    exact ⟨tells_no rfl R.out, below_alloc _ _⟩

/-- Blocks by their numbers, as they lie. -/
def pkV (vs : List Value) (of : List Int) : List Value := of.map fun i => vs.getD i.toNat (.slice none 0 0)
theorem pkV_length (vs : List Value) (of : List Int) : (pkV vs of).length = of.length := by simp [pkV]
theorem pkV_next {vs : List Value} {of : List Int} {i k : Nat} {v : Value} (hi : i < of.length) (hk : of[i] = (k : Int)) (hv : vs[k]? = some v) : (pkV vs of).take (i + 1) = (pkV vs of).take i ++ [v] := by
  rw [List.take_succ_eq_append_getElem (by rw [pkV_length]; exact hi)]
  congr 2
  simp [pkV, hk, List.getD, hv]
theorem pkV_parts {w : World} {vs : List Value} {ls : List (List UInt8)} {of : List Int} (h : Parts w vs ls) (hok : ∀ i ∈ of, 0 ≤ i ∧ i < (ls.length : Int)) : Parts w (pkV vs of) (pkD ls of) := by
  refine ⟨by rw [pkV_length, pkD_length], fun i v p hv hp => ?_⟩
  unfold pkV at hv
  unfold pkD at hp
  rw [List.getElem?_map] at hv hp
  cases ho : of[i]? with
  | none => rw [ho] at hv; cases hv
  | some z =>
    rw [ho] at hv hp
    have hz := hok z (List.mem_of_getElem? ho)
    have k1 : z.toNat < ls.length := by omega
    have k2 : z.toNat < vs.length := by rw [h.1]; exact k1
    have e1 := Option.some.inj hv
    have e2 := Option.some.inj hp
    simp only [List.getD, List.getElem?_eq_getElem k1, List.getElem?_eq_getElem k2, Option.getD_some] at e1 e2
    rw [← e1, ← e2]
    exact h.2 _ _ _ (List.getElem?_eq_getElem k2) (List.getElem?_eq_getElem k1)
theorem Bs.oneCell {w : World} {v : Value} {l : List UInt8} (h : Bs w v l) : v.oneCell' = true := by
  obtain ⟨-, a, c, rfl, -⟩ := h
  rfl
theorem Parts.oneCell {w : World} {vs : List Value} {ls : List (List UInt8)} (h : Parts w vs ls) : ∀ u ∈ vs, u.oneCell' = true := by
  intro u hu
  obtain ⟨i, hi⟩ := List.mem_iff_getElem?.1 hu
  have k1 : i < ls.length := by have := (List.getElem?_eq_some_iff.1 hi).1; rw [← h.1]; exact this
  exact (h.2 i u _ hi (List.getElem?_eq_getElem k1)).oneCell

set_option maxRecDepth 100000 in
set_option maxHeartbeats 1000000 in
/-- The document's Pick. -/
theorem pick_any (pv ov : Value) (vs : List Value) (ls : List (List UInt8)) (of : List Int) (n : Nat) (w : World) (hp : Sl 1 w pv vs.length vs) (hps : Parts w vs ls) (ho : Zs w ov of) (hok : ∀ i ∈ of, 0 ≤ i ∧ i < (ls.length : Int)) (hn : of.length = n) (hn2 : n ≤ 100000000) :
    Calls Try.prog 48 #[pv, ov] w fun e w' => ∃ a c, e = .returned (.slice a n c) ∧ Sl 1 w' (.slice a n c) (pkV vs of).length (pkV vs of) ∧ Parts w' (pkV vs of) (pkD ls of) ∧ Below w.heap.size w w' := by
  have HP : Hid (Sl 1 w pv vs.length vs) := hp
  obtain ⟨-, ao, pc, rfl, hp2, hp3, -, -⟩ := hp
  have HO : Hid (Zs w ov of) := ho
  obtain ⟨-, bo, oc, rfl, ho2, ho3, -, -⟩ := ho
  unfold maxLen at hp3 ho3
  have HPS : Hid (Parts w vs ls) := hps
  have HK : Hid (∀ i ∈ of, 0 ≤ i ∧ i < (ls.length : Int)) := hok
  obtain ⟨M, hM⟩ : ∃ M, vs.length = M := ⟨_, rfl⟩
  have HM : Hid (vs.length = M) := hM
  have Hm : Hid (of.length = n) := hn
  have HL : Hid (ls.length = M) := by have := hps.1; unfold Hid; omega
  rw [hM] at HP hp2 ⊢
  rw [hn] at ho2 ⊢
  clear hM hn hps hok
  go_enter Try.func48, Try.ntmps48
  go_wp2
  go_loopw [5, 6] (fun rv iv wr => ∃ (i c : Nat) (a : Option Addr), i ≤ n ∧ rv = .slice a i c ∧ iv = .int .i64 i ∧ Hid (wr.ownsRow w.heap.size 25 1 (.slice a i c) i ((pkV vs of).take i)) ∧ Hid (Below w.heap.size w wr)) (fun _ iv _ => n - (intOf iv).toNat)
  case atStart => exact ⟨0, 0, _, by omega, rfl, rfl, World.ownsRow_lit w #[] 0 (Nat.le_refl _) (by simp [maxLen]) rfl, below_alloc _ _⟩
  case round =>
    obtain ⟨i, c, a, hi, rfl, rfl, O, BB⟩ := hrel
    by_cases hlt : i < n
    · have hio : i < of.length := by rw [Hm.out]; exact hlt
      have hz := HK.out of[i] (List.getElem_mem hio)
      rw [HL.out] at hz
      obtain ⟨k, hk⟩ : ∃ k : Nat, of[i] = (k : Int) := ⟨of[i].toNat, by omega⟩
      have hkM : k < M := by omega
      have hkv : k < vs.length := by rw [HM.out]; exact hkM
      have NX : Hid ((pkV vs of).take (i + 1) = (pkV vs of).take i ++ [vs[k]]) := pkV_next hio hk (List.getElem?_eq_getElem hkv)
      have HO2 : Zs wr (.slice bo n oc) of := by have := HO.out.below BB.out; rw [Hm.out] at this; exact this
      have ci : ∃ b off, bo = some ⟨b, off, none⟩ ∧ wr.cell? ⟨b, off + i, none⟩ = some (.int .i64 (k : Int)) := by
        obtain ⟨_, a', c', hv, _, _, _, h5⟩ := HO2
        injection hv with e1 e2 e3
        subst e1
        rcases h5 with h0 | ⟨b, off, e, hc⟩
        · omega
        · refine ⟨b, off, e, hc i _ ?_⟩
          rw [map_z_at of i hio, hk]
      have ck : ∃ b off, ao = some ⟨b, off, none⟩ ∧ wr.cell? ⟨b, off + k, none⟩ = some vs[k] := by
        have hpw : Sl 1 wr (.slice ao M pc) M vs := HP.out.below BB.out
        obtain ⟨_, a', c', hv, _, _, _, h5⟩ := hpw
        injection hv with e1 e2 e3
        subst e1
        rcases h5 with h0 | ⟨b, off, e, hc⟩
        · omega
        · exact ⟨b, off, e, hc k _ (List.getElem?_eq_getElem hkv)⟩
      obtain ⟨b, off, rfl, ci⟩ := ci
      obtain ⟨b2, off2, rfl, ck⟩ := ck
      have V1 : ∃ va vn vc, vs[k] = .slice va vn vc := by
        obtain ⟨-, va, vc, hv, -⟩ := HPS.out.2 k _ _ (List.getElem?_eq_getElem hkv) (List.getElem?_eq_getElem (show k < ls.length by rw [HL.out]; exact hkM))
        exact ⟨va, _, vc, hv⟩
      generalize vs[k] = v at *
      obtain ⟨va, vn, vc, rfl⟩ := V1
      clear hk HO2 hio hz hkv
      go_wp2_with (at_builtin; refine wpList_addS _ rfl (.tmp 14) (.tmp 22) rfl w.heap.size (.slice a i c) i _ rfl (owns_below O.out (below_alloc _ _)) _ (.slice va vn vc) rfl rfl (alloc_one _ _) (by omega) (by have := BB.out.size; simp; omega) ?_; intro a4 c4 w4 ho4 hg4 hnc4 hcm4)
      have OA : w.heap.size ≤ (wr.alloc (.cells #[.slice va vn vc] 25)).heap.size := by have := BB.out.size; simp; omega
      have B4 : Hid (Below w.heap.size w w4) := below_ownR (BB.out.alloc BB.out.size _) (owns_below O.out (below_alloc _ _)) (Nat.le_refl _) OA hg4
      have O4 : Hid (w4.ownsRow w.heap.size 25 1 (.slice a4 (i + 1) c4) (i + 1) ((pkV vs of).take (i + 1))) := by unfold Hid; rw [NX.out]; exact ho4
      clear ho4 hg4 hnc4 hcm4 OA O BB NX ci ck
      go_roundw
      case rel => exact ⟨i + 1, c4, a4, by omega, rfl, by go_num, O4, B4⟩
      case measure => simp [intOf]; omega
    · obtain rfl : i = n := by omega
      have R : Hid (Sl 1 wr (.slice a i c) (pkV vs of).length (pkV vs of) ∧ Parts wr (pkV vs of) (pkD ls of) ∧ Below w.heap.size w wr) := by
        have h1 := owned_sl O.out
        rw [List.take_of_length_le (by rw [pkV_length, Hm.out]; exact Nat.le_refl _)] at h1
        exact ⟨by rw [pkV_length, Hm.out]; exact h1, pkV_parts (HPS.out.below BB.out) HK.out, BB.out⟩
      clear O BB
      go_wp2
      go_ret
      exact ⟨a, c, rfl, R.out⟩

end Go.Proofs.Ytkcijbejngnalaa
