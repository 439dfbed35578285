/-
  The walk of the statement ArenaOwn.
-/
import Derived.Test.YtpnjednghpbccaaArS
namespace Go.Proofs.Ytpnjednghpbccaa
open Go.RowKit
set_option linter.unusedVariables false

theorem inc_byte (x : UInt8) : Value.int .u8 (((x.toNat : Int) + 1) % 256) = bv (x + 1) := by
  have := x.toNat_lt
  unfold bv
  rw [UInt8.toNat_add]
  simp

set_option maxRecDepth 100000 in
set_option maxHeartbeats 4000000 in
theorem arenaOwn_walk (v0 : Value) (l0 : List UInt8) (w : World) (h0 : Bs w v0 l0) :
    Calls Try.prog 9 #[v0] w fun e w' => e = .returned (.bool true) ∧ Below w.heap.size w w' := by
  have H0 : Hid (Bs w v0 l0) := h0
  obtain ⟨-, a0, c0, rfl, hc0, hm0, -, -⟩ := h0
  unfold maxLen at hm0
  by_cases hA : 200 < l0.length
  · go_enter Try.func9, Try.ntmps9
    go_wp2_with fail
    refine (speaks4_any w).mono ?_
    rintro e w1 ⟨rfl, hb1⟩
    have X1 : Hid (Below w.heap.size w w1) := hb1
    clear hb1
    go_wp2
    go_ret
    exact ⟨rfl, X1.out⟩
  have hA' : l0.length ≤ 200 := by omega
  clear hA
  go_enter Try.func9, Try.ntmps9
  go_wp2_with fail
  refine (speaks4_any w).mono ?_
  rintro e w1 ⟨rfl, hb1⟩
  have X1 : Hid (Below w.heap.size w w1) := hb1
  clear hb1
  go_wp2_with fail
  refine (anew_any (l0.length : Int) 2 w1 (by omega)).mono ?_
  rintro e w2 ⟨rfl, hA2, hb2⟩
  have eS : (max (l0.length : Int) 0).toNat = l0.length := by omega
  rw [eS] at hA2
  have A2 : Hid (IsAr w2 w1.heap.size w1.heap.size ⟨l0.length, 2, .slice none 0 0, .slice none 0 0, [], []⟩) := hA2
  have X2 : Hid (Below w1.heap.size w1 w2) := hb2
  clear hA2 hb2 eS
  obtain ⟨a, ha⟩ : ∃ a, w1.heap.size = a := ⟨_, rfl⟩
  rw [ha] at A2 X2 ⊢
  have Ha : Hid (w1.heap.size = a) := ha
  clear ha
  go_wp2_with fail
  refine (alloc_yes a a _ w2 A2.out (by simp [Ar.live]) (by simp)).mono ?_
  rintro e w3 ⟨k, s1, rfl, hA3, hk3, -, hS⟩
  have A3 : Hid (IsAr w3 a a s1) := hA3
  have X3 : Hid (Below a w1 w3) := A2.out.step X2.out hk3 A2.out.B_le
  obtain ⟨q, hq⟩ : ∃ q, s1.bl[k]? = some ⟨q, zeros l0.length, true⟩ := hS.there
  have P1 : Hid (s1.size = l0.length ∧ s1.bl[k]? = some ⟨q, zeros l0.length, true⟩) := ⟨hS.size, hq⟩
  have BS0 : Hid (Bs w3 (.slice a0 l0.length c0) l0) := (H0.out.below X1.out).below (by have := X3.out; rw [← Ha.out] at this; exact this)
  clear hA3 hk3 hS hq A2 X2
  go_wp2_with (at_builtin; refine wpList_copy w3 rfl (.tmp 23) (.tmp 24) rfl l0 _ _ rfl rfl rfl BS0.out (by omega) ?_; intro q3 c3 w4 hown hbel; obtain ⟨qo, co, po, e3, hqo, hbo, hlo, hcm, hco⟩ := hown; subst hco; rw [e3]; clear e3)
  have A4 : Hid (IsAr w4 a a s1) := A3.out.below hbel
  have X4 : Hid (Below a w1 w4) := X3.out.trans (hbel.mono A3.out.B_le)
  have N4 : Hid (∀ j, s1.own a j → j < qo) := fun j hj => by have := A3.out.own_lt j hj; omega
  have O4 : Hid (Blk w4 qo [] l0 po) := hbo
  have C4 : Hid (l0.length + po.length ≤ maxLen) := hcm
  have hcm' := hcm
  unfold maxLen at hcm'
  clear hbel hqo hbo hlo hcm BS0
  refine (aput_top a a s1 k ⟨q, zeros l0.length, true⟩ _ l0 _ A4.out P1.out.2 rfl (O4.out.bs0 _ _ rfl (by omega) C4.out) (off_at (by have := N4.out q (.inr (.inr (.inr ⟨_, List.mem_of_getElem? P1.out.2, rfl⟩))); simp; omega)) P1.out.1.symm _ rfl).mono ?_
  rintro e w5 ⟨rfl, hA5, hg5, hs5⟩
  have e5 : xorL (zeros l0.length) l0 = l0 := xorL_zeros l0
  have A5 : Hid (IsAr w5 a a (s1.setB k l0)) := by
    have h := hA5
    simp only [e5] at h
    exact h
  have X5 : Hid (Below a w1 w5) := below_grown X4.out hg5 A4.out.B_le (A4.out.blk k _ P1.out.2).1
  have O5 : Hid (Blk w5 qo [] l0 po) := O4.out.kept (hg5.block qo O4.out.lt (fun e => by have := N4.out q (.inr (.inr (.inr ⟨_, List.mem_of_getElem? P1.out.2, rfl⟩))); injection e with e; simp at e; omega))
  have N5 : Hid (∀ j, (s1.setB k l0).own a j → j < qo) := by
    intro j hj
    rcases hj with rfl | hj | hj | ⟨x, hx, rfl⟩
    · exact N4.out _ (.inl rfl)
    · exact N4.out _ (.inr (.inl hj))
    · exact N4.out _ (.inr (.inr (.inl hj)))
    · obtain ⟨i, hi, rfl⟩ := List.mem_iff_getElem.1 hx
      have hi2 := List.getElem?_eq_getElem hi
      rw [setB_at] at hi2
      by_cases e : k = i
      · subst e
        rw [if_pos rfl, P1.out.2] at hi2
        simp only [Option.map_some, Option.some.injEq] at hi2
        rw [← hi2]
        exact N4.out q (.inr (.inr (.inr ⟨_, List.mem_of_getElem? P1.out.2, rfl⟩)))
      · rw [if_neg e] at hi2
        exact N4.out _ (.inr (.inr (.inr ⟨_, List.mem_of_getElem? hi2, rfl⟩)))
  have P5 : Hid ((s1.setB k l0).bl[k]? = some ⟨q, l0, true⟩ ∧ (s1.setB k l0).size = l0.length) := by
    refine ⟨?_, P1.out.1⟩
    rw [setB_at, if_pos rfl, P1.out.2]
    rfl
  clear hA5 hg5 hs5 e5 A4 X4 O4 N4 A3 X3
  generalize s1.setB k l0 = s2 at *
  go_wp2
  go_loopw [38] (fun i wr => ∃ (j : Nat) (l : List UInt8), j ≤ l0.length ∧ i = .int .i64 j ∧ l.length = l0.length ∧ Blk wr qo [] l po ∧ IsAr wr a a s2 ∧ Below a w1 wr) (fun i _ => l0.length - (intOf i).toNat)
  case atStart => exact ⟨0, l0, by omega, rfl, rfl, O5.out, A5.out, X5.out⟩
  case round =>
    obtain ⟨j, l, hj, rfl, hll, hbl, hA, hX⟩ := hrel
    have HB : Hid (Blk wr qo [] l po) := hbl
    have HL : Hid (l.length = l0.length) := hll
    have HA : Hid (IsAr wr a a s2) := hA
    have HX : Hid (Below a w1 wr) := hX
    clear hbl hA hX hll
    by_cases hlt : j < l0.length
    · have hjl : j < l.length := by rw [HL.out]; exact hlt
      have hc1 : wr.cell? ⟨qo, j, none⟩ = some (.int .u8 (l[j].toNat : Int)) := by
        have h := HB.out.cell j _ (map_bv_at l j hjl)
        simpa using h
      have hf1 : wr.frozen? ⟨qo, j, none⟩ = false := HB.out.frozen _
      have HS : Hid (Blk (wr.setCell ⟨qo, j, none⟩ (bv (l[j] + 1))) qo [] (l.set j (l[j] + 1)) po) := by
        unfold Hid
        have h := HB.out.set j hjl (l[j] + 1)
        simpa using h
      have HI : Hid (Value.int .u8 (((l[j].toNat : Int) + 1) % 256) = bv (l[j] + 1)) := inc_byte _
      have HS2 : Hid ((l.set j (l[j] + 1)).length = l0.length) := by unfold Hid; rw [List.length_set]; exact HL.out
      have HA2 : Hid (IsAr (wr.setCell ⟨qo, j, none⟩ (bv (l[j] + 1))) a a s2 ∧ Below a w1 (wr.setCell ⟨qo, j, none⟩ (bv (l[j] + 1)))) := by
        have hg := grown_setCell wr qo j (bv (l[j] + 1))
        refine ⟨HA.out.kept (fun i hi => hg.block i (HA.out.own_lt i hi) (fun e => ?_)), HX.out.setCell (by have := N5.out a (.inl rfl); show a ≤ qo; omega) _⟩
        have := N5.out i hi
        injection e with e
        omega
      generalize l[j] = x at *
      have hx := x.toNat_lt
      go_wp2
      go_roundw
      case rel => exact ⟨j + 1, l.set j (x + 1), by omega, by go_num, HS2.out, by rw [HI.out]; exact HS.out, by rw [HI.out]; exact HA2.out.1, by rw [HI.out]; exact HA2.out.2⟩
      case measure => simp [intOf]; omega
    · clear HB HL
      go_wp2_with fail
      refine (get_yes a a s2 k _ wr HA.out P5.out.1 rfl).mono ?_
      rintro e w6 ⟨rfl, hb6, hx6⟩
      rw [P5.out.2]
      have A6 : Hid (IsAr w6 a a s2) := HA.out.below hx6
      have X6 : Hid (Below a w1 w6) := HX.out.trans (hx6.mono HA.out.B_le)
      have O6 : Hid (Blk w6 wr.heap.size [] l0 []) := hb6
      have N6 : Hid (∀ j, s2.own a j → j < wr.heap.size) := HA.out.own_lt
      clear hb6 hx6 HA HX A5 X5 O5 N5
      generalize wr.heap.size = qx at *
      go_wp2
      go_loopw [53] (fun i wr => ∃ (jx : Nat) (lx : List UInt8), jx ≤ l0.length ∧ i = .int .i64 jx ∧ lx.length = l0.length ∧ Blk wr qx [] lx [] ∧ IsAr wr a a s2 ∧ Below a w1 wr) (fun i _ => l0.length - (intOf i).toNat)
      case atStart => exact ⟨0, l0, by omega, rfl, rfl, O6.out, A6.out, X6.out⟩
      case round =>
        obtain ⟨jx, lx, hj, rfl, hll, hbl, hA, hX⟩ := hrel
        have HB : Hid (Blk wr qx [] lx []) := hbl
        have HL : Hid (lx.length = l0.length) := hll
        have HA : Hid (IsAr wr a a s2) := hA
        have HX : Hid (Below a w1 wr) := hX
        clear hbl hA hX hll
        by_cases hlt : jx < l0.length
        · have hjl : jx < lx.length := by rw [HL.out]; exact hlt
          have hc1 : wr.cell? ⟨qx, jx, none⟩ = some (.int .u8 (lx[jx].toNat : Int)) := by
            have h := HB.out.cell jx _ (map_bv_at lx jx hjl)
            simpa using h
          have hf1 : wr.frozen? ⟨qx, jx, none⟩ = false := HB.out.frozen _
          have HS : Hid (Blk (wr.setCell ⟨qx, jx, none⟩ (bv (lx[jx] + 1))) qx [] (lx.set jx (lx[jx] + 1)) []) := by
            unfold Hid
            have h := HB.out.set jx hjl (lx[jx] + 1)
            simpa using h
          have HI : Hid (Value.int .u8 (((lx[jx].toNat : Int) + 1) % 256) = bv (lx[jx] + 1)) := inc_byte _
          have HS2 : Hid ((lx.set jx (lx[jx] + 1)).length = l0.length) := by unfold Hid; rw [List.length_set]; exact HL.out
          have HA2 : Hid (IsAr (wr.setCell ⟨qx, jx, none⟩ (bv (lx[jx] + 1))) a a s2 ∧ Below a w1 (wr.setCell ⟨qx, jx, none⟩ (bv (lx[jx] + 1)))) := by
            have hg := grown_setCell wr qx jx (bv (lx[jx] + 1))
            refine ⟨HA.out.kept (fun i hi => hg.block i (HA.out.own_lt i hi) (fun e => ?_)), HX.out.setCell (by have := N6.out a (.inl rfl); show a ≤ qx; omega) _⟩
            have := N6.out i hi
            injection e with e
            omega
          generalize lx[jx] = x at *
          have hx := x.toNat_lt
          go_wp2
          go_roundw
          case rel => exact ⟨jx + 1, lx.set jx (x + 1), by omega, by go_num, HS2.out, by rw [HI.out]; exact HS.out, by rw [HI.out]; exact HA2.out.1, by rw [HI.out]; exact HA2.out.2⟩
          case measure => simp [intOf]; omega
        · clear HB HL
          have GC : Hid (∀ V, Below wr.heap.size wr V → Calls Try.prog 37 #[.pointer (some ⟨a, 0, none⟩), .int .i64 k] V fun e w' => ∃ v, e = .returned v ∧ IsBs l0 v w' ∧ Below V.heap.size V w') := by
            intro V hV
            refine (get_yes a a s2 k _ V (HA.out.below hV) P5.out.1 rfl).mono ?_
            rintro e w' ⟨rfl, h1, h2⟩
            exact ⟨_, rfl, h1.bs0 _ _ P5.out.2 (Nat.le_refl _) (by rw [P5.out.2]; unfold maxLen; omega), h2⟩
          have KC : Hid (∀ V, Below wr.heap.size wr V → (convert 25 9 (.slice a0 l0.length c0)).run Try.prog V = .ok (.string (str l0)) V) := by
            intro V hV
            have hb : Below w1.heap.size w1 wr := by rw [Ha.out]; exact HX.out
            exact conv_bytes (((H0.out.below X1.out).below hb).below hV)
          go_wp2
          refine wp_region_any (by kernel_rfl) ?_
          obtain ⟨gs, hgs⟩ : ∃ gs : List (Value → World → Prop), gs = [IsV (Value.pointer (some { block := a, off := 0 })), IsV (Value.int IntKind.i64 ↑k), IsBs l0, IsV (.string (str l0)), IsV (Value.slice a0 l0.length c0), IsV (.string (str l0)), IsV (.bool true), IsV (.bool true)] := ⟨_, rfl⟩
          have g0 : Hid (gs[0]? = some (IsV (Value.pointer (some { block := a, off := 0 })))) := by unfold Hid; rw [hgs]; rfl
          have g1 : Hid (gs[1]? = some (IsV (Value.int IntKind.i64 ↑k))) := by unfold Hid; rw [hgs]; rfl
          have g2 : Hid (gs[2]? = some (IsBs l0)) := by unfold Hid; rw [hgs]; rfl
          have g3 : Hid (gs[3]? = some (IsV (.string (str l0)))) := by unfold Hid; rw [hgs]; rfl
          have g4 : Hid (gs[4]? = some (IsV (Value.slice a0 l0.length c0))) := by unfold Hid; rw [hgs]; rfl
          have g5 : Hid (gs[5]? = some (IsV (.string (str l0)))) := by unfold Hid; rw [hgs]; rfl
          have g6 : Hid (gs[6]? = some (IsV (.bool true))) := by unfold Hid; rw [hgs]; rfl
          have g7 : Hid (gs[7]? = some (IsV (.bool true))) := by unfold Hid; rw [hgs]; rfl
          have gk : Hid (∀ p ∈ gs, Stays p) := by
            unfold Hid
            rw [hgs]
            simp only [List.forall_mem_cons]
            exact ⟨stays_v _, stays_v _, stays_bs _, stays_v _, stays_v _, stays_v _, stays_v _, stays_v _, by simp⟩
          clear hgs
          refine wpAny_inv (fun listed ac W => ∃ xv : Nat → Value, ac = ⟨#[Value.slice a0 l0.length c0, undef, xv 7, Value.pointer (some { block := a, off := 0 }), Value.int IntKind.i64 ↑k, Value.bool true, Value.slice (some { block := qo, off := 0 }) l0.length (l0.length + po.length), u7, Value.slice (some { block := qx, off := 0 }) l0.length l0.length, u9, Value.bool true, Value.bool false, Value.slice a0 l0.length c0, Value.int IntKind.i64 ↑l0.length, Value.bool (decide ((200 : Int) < ↑l0.length)), Value.slice a0 l0.length c0, Value.int IntKind.i64 ↑l0.length, Value.pointer (some { block := a, off := 0 }), Value.tuple #[Value.int IntKind.i64 ↑k, Value.bool true], Value.pointer (some { block := a, off := 0 }), Value.tuple #[Value.int IntKind.i64 ↑k, Value.bool true], Value.int IntKind.i64 ↑k, Value.bool true, Value.slice (some { block := w3.heap.size, off := 0 }) 0 0, Value.slice a0 l0.length c0, Value.slice (some { block := qo, off := 0 }) l0.length (l0.length + po.length), Value.bool true, Value.bool false, Value.bool false, Value.pointer (some { block := a, off := 0 }), Value.int IntKind.i64 ↑k, Value.slice (some { block := qo, off := 0 }) l0.length (l0.length + po.length), Value.slice (some { block := w4.heap.size, off := 0 }) 1 1, Value.bool true, Value.bool false, Value.bool false, Value.slice (some { block := qo, off := 0 }) l0.length (l0.length + po.length), Value.int IntKind.i64 ↑l0.length, Value.int IntKind.i64 ↑j, Value.bool false, u40, u41, u42, u43, u44, u45, u46, u47, Value.pointer (some { block := a, off := 0 }), Value.int IntKind.i64 ↑k, Value.slice (some { block := qx, off := 0 }) l0.length l0.length, Value.slice (some { block := qx, off := 0 }) l0.length l0.length, Value.int IntKind.i64 ↑l0.length, Value.int IntKind.i64 ↑jx, Value.bool false, u55, u56, u57, u58, u59, u60, u61, u62, xv 0, xv 1, xv 2, xv 3, xv 4, xv 5, xv 6], []⟩ ∧ Below wr.heap.size wr W ∧ Lst gs listed xv W) (by kernel_rfl) ?_ ?_ _ _ _ _ (by kernel_rfl) (of_decide_eq_true (by kernel_rfl)) ⟨fun j => if j = 7 then Value.bool false else undef, rfl, below0 _, Lst.start _ _ _ _⟩
          · rintro listed ac W ⟨xv, rfl, hb, hG⟩ i hi hd
            have hin : i < 8 := hi
            clear hi
            have hcase : i = 0 ∨ i = 1 ∨ i = 2 ∨ i = 3 ∨ i = 4 ∨ i = 5 ∨ i = 6 ∨ i = 7 := by omega
            rcases hcase with rfl | rfl | rfl | rfl | rfl | rfl | rfl | rfl
            · refine wpOp_step rfl (fun K' hK => ?_)
              clear hd hin
              go_simp
              exact hK _ _ ⟨updV xv 0 (Value.pointer (some { block := a, off := 0 })), by simp [updV], hb, hG.same gk.out g0.out _ rfl⟩
            · refine wpOp_step rfl (fun K' hK => ?_)
              clear hd hin
              go_simp
              exact hK _ _ ⟨updV xv 1 (Value.int IntKind.i64 ↑k), by simp [updV], hb, hG.same gk.out g1.out _ rfl⟩
            · refine wpOp_step rfl (fun K' hK => ?_)
              simp [Region.binds] at hd
              have e0 : xv 0 = Value.pointer (some { block := a, off := 0 }) := hG.get g0.out (by simp [hd])
              have e1 : xv 1 = Value.int IntKind.i64 ↑k := hG.get g1.out (by simp [hd])
              clear hd hin
              go_simp
              refine (GC.out W hb).mono ?_
              rintro e w' ⟨v, rfl, hv, hb'⟩
              go_wp2_with fail
              exact ⟨updV xv 2 v, by simp [updV, e0, e1], hb.trans (hb'.mono hb.size), hG.step gk.out hb' g2.out v hv⟩
            · refine wpOp_step rfl (fun K' hK => ?_)
              simp [Region.binds] at hd
              have m2 : IsBs l0 (xv 2) W := hG.get g2.out (by simp [hd])
              have kr := conv_bytes m2
              clear hd hin
              go_simp
              exact hK _ _ ⟨updV xv 3 (.string (str l0)), by simp [updV], hb, hG.same gk.out g3.out _ rfl⟩
            · refine wpOp_step rfl (fun K' hK => ?_)
              clear hd hin
              go_simp
              exact hK _ _ ⟨updV xv 4 (Value.slice a0 l0.length c0), by simp [updV], hb, hG.same gk.out g4.out _ rfl⟩
            · refine wpOp_step rfl (fun K' hK => ?_)
              simp [Region.binds] at hd
              have e4 : xv 4 = Value.slice a0 l0.length c0 := hG.get g4.out (by simp [hd])
              have kr := KC.out W hb
              clear hd hin
              go_simp
              exact hK _ _ ⟨updV xv 5 (.string (str l0)), by simp [updV, e4], hb, hG.same gk.out g5.out _ rfl⟩
            · refine wpOp_step rfl (fun K' hK => ?_)
              simp [Region.binds] at hd
              have e3 : xv 3 = .string (str l0) := hG.get g3.out (by simp [hd])
              have e5 : xv 5 = .string (str l0) := hG.get g5.out (by simp [hd])
              clear hd hin
              go_simp
              exact hK _ _ ⟨updV xv 6 (.bool true), by simp [updV, e3, e5], hb, hG.same gk.out g6.out _ rfl⟩
            · refine wpOp_step rfl (fun K' hK => ?_)
              simp [Region.binds] at hd
              have e6 : xv 6 = .bool true := hG.get g6.out (by simp [hd])
              clear hd hin
              go_simp
              exact hK _ _ ⟨updV xv 7 (.bool true), by simp [updV, e6], hb, hG.same gk.out g7.out _ rfl⟩
          · rintro listed ac W ⟨xv, rfl, hb, hG⟩ hall
            have e7 : xv 7 = .bool true := hG.get g7.out (hall 7 (by decide))
            have XW : Hid (Below wr.heap.size wr W) := hb
            clear hall hG hb gk g0 g1 g2 g3 g4 g5 g6 g7
            rw [e7]
            clear e7
            have hb : Below w1.heap.size w1 wr := by rw [Ha.out]; exact HX.out
            have XZ : Hid (Below w.heap.size w W) := X1.out.trans ((hb.trans (XW.out.mono hb.size)).mono X1.out.size)
            clear hb
            go_wp2
            go_ret
            exact ⟨rfl, XZ.out⟩

end Go.Proofs.Ytpnjednghpbccaa
