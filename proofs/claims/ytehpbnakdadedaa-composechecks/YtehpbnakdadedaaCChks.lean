/-
  ComposeChecks.
-/
import Derived.Test.YtehpbnakdadedaaCBlks
namespace Go.Proofs.Ytehpbnakdadedaa
open Go.RowKit
set_option linter.unusedVariables false

/-- Is all right, as far as it was looked at? -/
def ChkR (s : Int) (ls : List (List UInt8)) (of : List Int) (i : Nat) : Prop := 0 ≤ s ∧ OkOf s.toNat ls (of.take i)
theorem chkR_next {s : Int} {ls : List (List UInt8)} {of : List Int} {i : Nat} (hi : i < of.length) : ChkR s ls of (i + 1) ↔ ChkR s ls of i ∧ OkAt s.toNat ls of[i] := by
  unfold ChkR OkOf
  rw [List.take_succ_eq_append_getElem hi]
  constructor
  · rintro ⟨h0, h⟩
    exact ⟨⟨h0, fun j hj => h j (List.mem_append_left _ hj)⟩, h _ (List.mem_append_right _ (by simp))⟩
  · rintro ⟨⟨h0, h⟩, h2⟩
    refine ⟨h0, fun j hj => ?_⟩
    rcases List.mem_append.1 hj with hj | hj
    · exact h j hj
    · simp at hj
      rw [hj]
      exact h2

set_option maxRecDepth 100000 in
set_option maxHeartbeats 4000000 in
theorem composeChecks_walk (s : Int) (pv ov : Value) (vs : List Value) (ls : List (List UInt8)) (of : List Int) (w : World) (hp : Sl 1 w pv vs.length vs) (hps : Parts w vs ls) (ho : Zs w ov of) :
    Calls Try.prog 5 #[.int .i64 s, pv, ov] w fun e w' => e = .returned (.bool true) ∧ Below w.heap.size w w' := by
  have HP : Hid (Sl 1 w pv vs.length vs) := hp
  obtain ⟨-, ao, pc, rfl, hp2, hp3, -, -⟩ := hp
  have HO : Hid (Zs w ov of) := ho
  obtain ⟨-, bo, oc, rfl, ho2, ho3, -, -⟩ := ho
  unfold maxLen at hp3 ho3
  have HPS : Hid (Parts w vs ls) := hps
  obtain ⟨M, hM⟩ : ∃ M, vs.length = M := ⟨_, rfl⟩
  obtain ⟨m, hm⟩ : ∃ m, of.length = m := ⟨_, rfl⟩
  have HM : Hid (vs.length = M) := hM
  have Hm : Hid (of.length = m) := hm
  have HL : Hid (ls.length = M) := by have := hps.1; unfold Hid; omega
  rw [hM] at HP hp2 ⊢
  rw [hm] at ho2 ⊢
  clear hM hm hps
  go_enter Try.func5, Try.ntmps5
  go_wp2_with fail
  refine (speaks13_any _).mono ?_
  rintro e w1 ⟨rfl, hb⟩
  have B1 : Hid (Below w.heap.size w w1) := hb
  clear hb
  by_cases hs : s > 100
  · go_wp2
    go_ret
    exact ⟨rfl, B1.out⟩
  by_cases hM60 : 60 < M
  · go_wp2
    go_ret
    exact ⟨rfl, B1.out⟩
  by_cases hm100 : 100 < m
  · go_wp2
    go_ret
    exact ⟨rfl, B1.out⟩
  have hm1 : m ≤ 100 := by omega
  go_wp2
  go_loopw [7, 30] (fun rv iv wr => ∃ (i : Nat) (b : Bool), i ≤ m ∧ rv = .bool b ∧ iv = .int .i64 i ∧ Hid (b = true ↔ ChkR s ls of i) ∧ Hid (Below w.heap.size w wr)) (fun _ iv _ => m - (intOf iv).toNat)
  case atStart => exact ⟨0, _, by omega, rfl, rfl, by unfold Hid ChkR OkOf; simp, B1⟩
  case round =>
    obtain ⟨i, b, hi, rfl, rfl, IR, BB⟩ := hrel
    clear B1
    by_cases hlt : i < m
    · have hio : i < of.length := by rw [Hm.out]; exact hlt
      have NX : Hid (ChkR s ls of (i + 1) ↔ ChkR s ls of i ∧ OkAt s.toNat ls of[i]) := chkR_next hio
      have HO2 : Zs wr (.slice bo m oc) of := by have := HO.out.below BB.out; rw [Hm.out] at this; exact this
      have ci : ∃ b off, bo = some ⟨b, off, none⟩ ∧ wr.cell? ⟨b, off + i, none⟩ = some (.int .i64 of[i]) := by
        obtain ⟨_, a', c', hv, _, _, _, h5⟩ := HO2
        injection hv with e1 e2 e3
        subst e1
        rcases h5 with h0 | ⟨b, off, e, hc⟩
        · omega
        · exact ⟨b, off, e, hc i _ (map_z_at of i hio)⟩
      obtain ⟨bb, off, rfl, ci⟩ := ci
      generalize of[i] = y at *
      clear HO2 hio
      cases b with
      | false =>
        have IR2 : Hid (false = true ↔ ChkR s ls of (i + 1)) := ⟨fun h => (by cases h), fun h => IR.out.2 (NX.out.1 h).1⟩
        clear IR NX
        go_wp2
        go_roundw
        case rel => exact ⟨i + 1, false, by omega, rfl, by go_num, IR2, BB⟩
        case measure => simp [intOf]; omega
      | true =>
        have I1 : Hid (ChkR s ls of i) := IR.out.1 rfl
        clear IR
        by_cases hy0 : y < 0
        · have IR2 : Hid (false = true ↔ ChkR s ls of (i + 1)) := by
            refine ⟨fun h => (by cases h), fun h => ?_⟩
            obtain ⟨k, x, hk, -⟩ := (NX.out.1 h).2
            omega
          clear I1 NX
          have hy0' : ¬ y ≥ 0 := by omega
          go_wp2
          go_roundw
          case rel => exact ⟨i + 1, false, by omega, rfl, by go_num, IR2, BB⟩
          case measure => simp [intOf]; omega
        have hy0' : y ≥ 0 := by omega
        obtain ⟨k, rfl⟩ := Int.eq_ofNat_of_zero_le (show 0 ≤ y by omega)
        by_cases hkM : k < M
        · have hkv : k < vs.length := by rw [HM.out]; exact hkM
          have hkl : k < ls.length := by rw [HL.out]; exact hkM
          have ck : ∃ b off, ao = some ⟨b, off, none⟩ ∧ wr.cell? ⟨b, off + k, none⟩ = some vs[k] := by
            have hpw : Sl 1 wr (.slice ao M pc) M vs := HP.out.below BB.out
            obtain ⟨_, a', c', hv, _, _, _, h5⟩ := hpw
            injection hv with e1 e2 e3
            subst e1
            rcases h5 with h0 | ⟨b, off, e, hc⟩
            · omega
            · exact ⟨b, off, e, hc k _ (List.getElem?_eq_getElem hkv)⟩
          obtain ⟨b2, off2, rfl, ck⟩ := ck
          obtain ⟨X, hX⟩ : ∃ X, (ls[k]).length = X := ⟨_, rfl⟩
          obtain ⟨va, vc, hv⟩ : ∃ va vc, vs[k] = .slice va X vc := by
            obtain ⟨-, va, vc, hv, -, -, -, -⟩ := HPS.out.2 k _ _ (List.getElem?_eq_getElem hkv) (List.getElem?_eq_getElem hkl)
            exact ⟨va, vc, by rw [hv, hX]⟩
          rw [hv] at ck
          have hkM' : (k : Int) < (M : Int) := by omega
          have OX : Hid (OkAt s.toNat ls (k : Int) ↔ X = s.toNat) := by
            unfold Hid
            constructor
            · rintro ⟨k', x, hk', hx, hl⟩
              obtain rfl : k = k' := by omega
              rw [List.getElem?_eq_getElem hkl] at hx
              rw [← hX, Option.some.inj hx, hl]
            · intro h
              exact ⟨k, _, rfl, List.getElem?_eq_getElem hkl, by rw [hX, h]⟩
          have I0 : 0 ≤ s := I1.out.1
          by_cases hXs : (X : Int) = s
          · have hq : ((X : Int) == s) = true := by simp [hXs]
            have IR2 : Hid (true = true ↔ ChkR s ls of (i + 1)) := ⟨fun _ => NX.out.2 ⟨I1.out, OX.out.2 (by omega)⟩, fun _ => rfl⟩
            clear I1 NX OX hXs hX hv hkl hkv I0
            go_wp2
            go_roundw
            case rel => exact ⟨i + 1, true, by omega, rfl, by go_num, IR2, BB⟩
            case measure => simp [intOf]; omega
          · have hq : ((X : Int) == s) = false := by simp [hXs]
            have IR2 : Hid (false = true ↔ ChkR s ls of (i + 1)) := ⟨fun h => (by cases h), fun h => by have := OX.out.1 (NX.out.1 h).2; omega⟩
            clear I1 NX OX hXs hX hv hkl hkv I0
            go_wp2
            go_roundw
            case rel => exact ⟨i + 1, false, by omega, rfl, by go_num, IR2, BB⟩
            case measure => simp [intOf]; omega
        · have IR2 : Hid (false = true ↔ ChkR s ls of (i + 1)) := by
            refine ⟨fun h => (by cases h), fun h => ?_⟩
            obtain ⟨k', x, hk, hx, -⟩ := (NX.out.1 h).2
            have := (List.getElem?_eq_some_iff.1 hx).1
            rw [HL.out] at this
            omega
          have hkM' : ¬ (k : Int) < (M : Int) := by omega
          clear I1 NX
          go_wp2
          go_roundw
          case rel => exact ⟨i + 1, false, by omega, rfl, by go_num, IR2, BB⟩
          case measure => simp [intOf]; omega
    · obtain rfl : i = m := by omega
      have IR2 : Hid (b = true ↔ 0 ≤ s ∧ OkOf s.toNat ls of) := by
        have := IR.out
        unfold ChkR at this
        rw [List.take_of_length_le (by rw [Hm.out]; omega)] at this
        exact this
      clear IR
      cases b with
      | false =>
        have CK : Hid (Calls Try.prog 21 #[.int .i64 s, .slice ao M pc, .slice bo i oc] wr fun e w' => e = .returned (.tuple #[.slice none 0 0, .bool false]) ∧ Below wr.heap.size wr w') := by
          by_cases h0 : s < 0
          · exact check_size s _ _ M i ao bo pc oc wr rfl rfl h0
          · obtain ⟨n, rfl⟩ := Int.eq_ofNat_of_zero_le (show 0 ≤ s by omega)
            have h1 : ¬ OkOf n ls of := fun h => by have := IR2.out.2 ⟨by omega, h⟩; cases this
            exact check_bad n _ _ vs ls of wr (by omega) (by rw [HM.out]; exact HP.out.below BB.out) (HPS.out.below BB.out) (by have := HO.out.below BB.out; rw [Hm.out] at this; exact this) h1
        clear IR2
        go_wp2_with fail
        refine CK.out.mono ?_
        rintro e w2 ⟨rfl, hb2⟩
        have B2 : Hid (Below w.heap.size w w2) := on_below BB.out hb2
        clear hb2 CK BB
        go_wp2
        go_ret
        exact ⟨rfl, B2.out⟩
      | true =>
        have h0 := (IR2.out.1 rfl).1
        have h1 := (IR2.out.1 rfl).2
        obtain ⟨n, rfl⟩ := Int.eq_ofNat_of_zero_le h0
        rw [Int.toNat_natCast] at h1
        have hn : n ≤ 100 := by omega
        obtain ⟨x, hx⟩ : ∃ x, chkD n ls of = x := ⟨_, rfl⟩
        have XL : Hid (x.length = n) := by unfold Hid; rw [← hx]; exact chkD_length h1
        have CK : Hid (Calls Try.prog 21 #[.int .i64 n, .slice ao M pc, .slice bo i oc] wr fun e w' => e = .returned (.tuple #[.slice (some ⟨wr.heap.size, 0, none⟩) n n, .bool true]) ∧ Blk w' wr.heap.size [] x [] ∧ Below wr.heap.size wr w') := by
          have := check_yes n _ _ vs ls of wr (by omega) (by rw [HM.out]; exact HP.out.below BB.out) (HPS.out.below BB.out) (HO.out.below BB.out) h1
          rw [Hm.out, hx] at this
          exact this
        have HB1 : Hid (∀ z ∈ of, 0 ≤ z ∧ z < (ls.length : Int)) := by
          intro z hz
          obtain ⟨k, y, rfl, hy, -⟩ := h1 z hz
          have := (List.getElem?_eq_some_iff.1 hy).1
          omega
        have FX : Hid (fitB n (pkD ls of) = true) := pkD_fitB h1
        have EX : Hid (xorAll (zeros n) (pkD ls of) = x) := hx
        clear IR2 h0 h1 hx
        go_wp2_with fail
        refine CK.out.mono ?_
        rintro e w2 ⟨rfl, hk2, hb2⟩
        have B2 : Hid (Below w.heap.size w w2) := on_below BB.out hb2
        obtain ⟨p, hp⟩ : ∃ p, wr.heap.size = p := ⟨_, rfl⟩
        rw [hp] at hk2 ⊢
        have K2 : Hid (Bs w2 (.slice (some ⟨p, 0, none⟩) n n) x) := hk2.bs0 n n XL.out.symm (Nat.le_refl _) (by unfold maxLen; omega)
        clear hk2 hb2 CK BB hp
        have K1 : Hid (∀ W, Below w2.heap.size w2 W → (convert 25 9 (.slice (some ⟨p, 0, none⟩) n n)).run Try.prog W = .ok (.string (str x)) W) := fun W hW => conv_bytes (K2.out.below hW)
        have CP : Hid (∀ W, Below w2.heap.size w2 W → Calls Try.prog 24 #[.slice ao M pc, .slice bo i oc] W fun e w' => ∃ v, e = .returned v ∧ IsPk i (pkV vs of) (pkD ls of) v w' ∧ Below W.heap.size W w') := by
          intro W hW
          have h2 := on_below B2.out hW
          refine (pick_any (.slice ao M pc) (.slice bo i oc) vs ls of i W (by rw [HM.out]; exact HP.out.below h2) (HPS.out.below h2) (by have := HO.out.below h2; rw [Hm.out] at this; exact this) HB1.out Hm.out (by omega)).mono ?_
          rintro e w' ⟨a5, c5, rfl, h5, h6, h7⟩
          exact ⟨_, rfl, ⟨⟨_, _, rfl⟩, h5, h6⟩, h7⟩
        have CS : Hid (∀ W v, Below w2.heap.size w2 W → IsPk i (pkV vs of) (pkD ls of) v W → Calls Try.prog 23 #[.int .i64 n, v] W fun e w' => ∃ v, e = .returned v ∧ IsBs x v w' ∧ Below W.heap.size W w') := by
          intro W v hW hv
          refine (rsum_any n v _ _ W (by omega) hv.2.1 hv.2.2 FX.out).mono ?_
          rintro e w' ⟨rfl, h5, h6⟩
          rw [EX.out] at h5
          exact ⟨_, rfl, h5.bs0 n n XL.out.symm (Nat.le_refl _) (by unfold maxLen; omega), h6⟩
        clear HB1 FX EX K2
        go_upto_region 14 with fail
        refine wp_region_any (by kernel_rfl) ?_
        obtain ⟨gs, hgs⟩ : ∃ gs : List (Value → World → Prop), gs = [IsV (Value.bool true), IsV (Value.bool true), IsV (Value.slice (some { block := p, off := 0 }) n n), IsV (.string (str x)), IsV (Value.int IntKind.i64 ↑n), IsV (Value.slice ao M pc), IsV (Value.slice bo i oc), IsPk i (pkV vs of) (pkD ls of), IsBs x, IsV (.string (str x)), IsV (.bool true), IsV (.bool true), IsV (.bool true)] := ⟨_, rfl⟩
        have g0 : Hid (gs[0]? = some (IsV (Value.bool true))) := by unfold Hid; rw [hgs]; rfl
        have g1 : Hid (gs[1]? = some (IsV (Value.bool true))) := by unfold Hid; rw [hgs]; rfl
        have g2 : Hid (gs[2]? = some (IsV (Value.slice (some { block := p, off := 0 }) n n))) := by unfold Hid; rw [hgs]; rfl
        have g3 : Hid (gs[3]? = some (IsV (.string (str x)))) := by unfold Hid; rw [hgs]; rfl
        have g4 : Hid (gs[4]? = some (IsV (Value.int IntKind.i64 ↑n))) := by unfold Hid; rw [hgs]; rfl
        have g5 : Hid (gs[5]? = some (IsV (Value.slice ao M pc))) := by unfold Hid; rw [hgs]; rfl
        have g6 : Hid (gs[6]? = some (IsV (Value.slice bo i oc))) := by unfold Hid; rw [hgs]; rfl
        have g7 : Hid (gs[7]? = some (IsPk i (pkV vs of) (pkD ls of))) := by unfold Hid; rw [hgs]; rfl
        have g8 : Hid (gs[8]? = some (IsBs x)) := by unfold Hid; rw [hgs]; rfl
        have g9 : Hid (gs[9]? = some (IsV (.string (str x)))) := by unfold Hid; rw [hgs]; rfl
        have g10 : Hid (gs[10]? = some (IsV (.bool true))) := by unfold Hid; rw [hgs]; rfl
        have g11 : Hid (gs[11]? = some (IsV (.bool true))) := by unfold Hid; rw [hgs]; rfl
        have g12 : Hid (gs[12]? = some (IsV (.bool true))) := by unfold Hid; rw [hgs]; rfl
        have gk : Hid (∀ p ∈ gs, Stays p) := by
          unfold Hid
          rw [hgs]
          simp only [List.forall_mem_cons]
          exact ⟨stays_v _, stays_v _, stays_v _, stays_v _, stays_v _, stays_v _, stays_v _, stays_pk _ _ _, stays_bs _, stays_v _, stays_v _, stays_v _, stays_v _, by simp⟩
        clear hgs
        refine wpAny_inv (fun listed ac W => ∃ xv : Nat → Value, ac = ⟨#[Value.int IntKind.i64 ↑n, Value.slice ao M pc, Value.slice bo i oc, undef, undef, undef, xv 12, Value.bool true, undef, u9, Value.slice (some { block := p, off := 0 }) n n, Value.bool true, Value.bool true, Value.bool false, Value.int IntKind.i64 ↑n, Value.bool (decide ((100 : Int) < ↑n)), Value.bool (decide ((100 : Int) < ↑n)), Value.slice ao M pc, Value.int IntKind.i64 ↑M, Value.bool (decide ((60 : Int) < ↑M)), Value.bool (decide ((100 : Int) < ↑n) || decide ((60 : Int) < ↑M)), Value.bool (decide ((100 : Int) < ↑n) || decide ((60 : Int) < ↑M)), Value.slice bo i oc, Value.int IntKind.i64 ↑i, Value.bool (decide ((100 : Int) < ↑i)), Value.bool (decide ((100 : Int) < ↑n) || decide ((60 : Int) < ↑M) || decide ((100 : Int) < ↑i)), Value.int IntKind.i64 ↑n, Value.bool true, Value.slice bo i oc, Value.int IntKind.i64 ↑i, Value.int IntKind.i64 ↑i, Value.bool false, u32, u33, u34, u35, u36, u37, u38, u39, u40, u41, u42, u43, u44, u45, u46, u47, u48, u49, u50, u51, u52, u53, u54, Value.tuple #[Value.slice (some { block := p, off := 0 }) n n, Value.bool true], Value.int IntKind.i64 ↑n, Value.slice ao M pc, Value.slice bo i oc, Value.tuple #[Value.slice (some { block := p, off := 0 }) n n, Value.bool true], Value.slice (some { block := p, off := 0 }) n n, Value.bool true, Value.bool true, Value.bool false, undef, undef, undef, undef, undef, undef, undef, xv 0, xv 1, xv 2, xv 3, xv 4, xv 5, xv 6, xv 7, xv 8, xv 9, xv 10, xv 11], []⟩ ∧ Below w2.heap.size w2 W ∧ Lst gs listed xv W) (by kernel_rfl) ?_ ?_ _ _ _ _ (by kernel_rfl) (of_decide_eq_true (by kernel_rfl)) ⟨fun j => if j = 12 then Value.bool false else undef, rfl, below0 _, Lst.start _ _ _ _⟩
        · rintro listed ac W ⟨xv, rfl, hb, hG⟩ i hi hd
          have hin : i < 13 := hi
          clear hi
          have hcase : i = 0 ∨ i = 1 ∨ i = 2 ∨ i = 3 ∨ i = 4 ∨ i = 5 ∨ i = 6 ∨ i = 7 ∨ i = 8 ∨ i = 9 ∨ i = 10 ∨ i = 11 ∨ i = 12 := by omega
          rcases hcase with rfl | rfl | rfl | rfl | rfl | rfl | rfl | rfl | rfl | rfl | rfl | rfl | rfl
          · refine wpOp_step rfl (fun K' hK => ?_)
            clear hd hin
            go_simp
            exact hK _ _ ⟨updV xv 0 (Value.bool true), by simp [updV], hb, hG.same gk.out g0.out _ rfl⟩
          · refine wpOp_step rfl (fun K' hK => ?_)
            simp [Region.binds] at hd
            have e0 : xv 0 = Value.bool true := hG.get g0.out (by simp [hd])
            clear hd hin
            go_simp
            exact hK _ _ ⟨updV xv 1 (Value.bool true), by simp [updV, e0], hb, hG.same gk.out g1.out _ rfl⟩
          · refine wpOp_step rfl (fun K' hK => ?_)
            simp [Region.binds] at hd
            have e1 : xv 1 = Value.bool true := hG.get g1.out (by simp [hd])
            clear hd hin
            go_simp
            exact hK _ _ ⟨updV xv 2 (Value.slice (some { block := p, off := 0 }) n n), by simp [updV, e1], hb, hG.same gk.out g2.out _ rfl⟩
          · refine wpOp_step rfl (fun K' hK => ?_)
            simp [Region.binds] at hd
            have e2 : xv 2 = Value.slice (some { block := p, off := 0 }) n n := hG.get g2.out (by simp [hd])
            have e1 : xv 1 = Value.bool true := hG.get g1.out (by simp [hd])
            have kr := K1.out W hb
            clear hd hin
            go_simp
            exact hK _ _ ⟨updV xv 3 (.string (str x)), by simp [updV, e2, e1], hb, hG.same gk.out g3.out _ rfl⟩
          · refine wpOp_step rfl (fun K' hK => ?_)
            simp [Region.binds] at hd
            have e1 : xv 1 = Value.bool true := hG.get g1.out (by simp [hd])
            clear hd hin
            go_simp
            exact hK _ _ ⟨updV xv 4 (Value.int IntKind.i64 ↑n), by simp [updV, e1], hb, hG.same gk.out g4.out _ rfl⟩
          · refine wpOp_step rfl (fun K' hK => ?_)
            simp [Region.binds] at hd
            have e1 : xv 1 = Value.bool true := hG.get g1.out (by simp [hd])
            clear hd hin
            go_simp
            exact hK _ _ ⟨updV xv 5 (Value.slice ao M pc), by simp [updV, e1], hb, hG.same gk.out g5.out _ rfl⟩
          · refine wpOp_step rfl (fun K' hK => ?_)
            simp [Region.binds] at hd
            have e1 : xv 1 = Value.bool true := hG.get g1.out (by simp [hd])
            clear hd hin
            go_simp
            exact hK _ _ ⟨updV xv 6 (Value.slice bo i oc), by simp [updV, e1], hb, hG.same gk.out g6.out _ rfl⟩
          · refine wpOp_step rfl (fun K' hK => ?_)
            simp [Region.binds] at hd
            have e5 : xv 5 = Value.slice ao M pc := hG.get g5.out (by simp [hd])
            have e6 : xv 6 = Value.slice bo i oc := hG.get g6.out (by simp [hd])
            have e1 : xv 1 = Value.bool true := hG.get g1.out (by simp [hd])
            clear hd hin
            go_simp
            refine (CP.out W hb).mono ?_
            rintro e w' ⟨v, rfl, hv, hb'⟩
            go_wp2_with fail
            exact ⟨updV xv 7 v, by simp [updV, e5, e6, e1], hb.trans (hb'.mono hb.size), hG.step gk.out hb' g7.out v hv⟩
          · refine wpOp_step rfl (fun K' hK => ?_)
            simp [Region.binds] at hd
            have e4 : xv 4 = Value.int IntKind.i64 ↑n := hG.get g4.out (by simp [hd])
            have m7 : IsPk i (pkV vs of) (pkD ls of) (xv 7) W := hG.get g7.out (by simp [hd])
            have e1 : xv 1 = Value.bool true := hG.get g1.out (by simp [hd])
            clear hd hin
            go_simp
            refine (CS.out W _ hb m7).mono ?_
            rintro e w' ⟨v, rfl, hv, hb'⟩
            go_wp2_with fail
            exact ⟨updV xv 8 v, by simp [updV, e4, e1], hb.trans (hb'.mono hb.size), hG.step gk.out hb' g8.out v hv⟩
          · refine wpOp_step rfl (fun K' hK => ?_)
            simp [Region.binds] at hd
            have m8 : IsBs x (xv 8) W := hG.get g8.out (by simp [hd])
            have e1 : xv 1 = Value.bool true := hG.get g1.out (by simp [hd])
            have kr := conv_bytes m8
            clear hd hin
            go_simp
            exact hK _ _ ⟨updV xv 9 (.string (str x)), by simp [updV, e1], hb, hG.same gk.out g9.out _ rfl⟩
          · refine wpOp_step rfl (fun K' hK => ?_)
            simp [Region.binds] at hd
            have e3 : xv 3 = .string (str x) := hG.get g3.out (by simp [hd])
            have e9 : xv 9 = .string (str x) := hG.get g9.out (by simp [hd])
            have e1 : xv 1 = Value.bool true := hG.get g1.out (by simp [hd])
            clear hd hin
            go_simp
            exact hK _ _ ⟨updV xv 10 (.bool true), by simp [updV, e3, e9, e1], hb, hG.same gk.out g10.out _ rfl⟩
          · refine wpOp_step rfl (fun K' hK => ?_)
            simp [Region.binds] at hd
            have e1 : xv 1 = Value.bool true := hG.get g1.out (by simp [hd])
            have e10 : xv 10 = .bool true := hG.get g10.out (by simp [hd])
            clear hd hin
            go_simp
            exact hK _ _ ⟨updV xv 11 (.bool true), by simp [updV, e1, e10], hb, hG.same gk.out g11.out _ rfl⟩
          · refine wpOp_step rfl (fun K' hK => ?_)
            simp [Region.binds] at hd
            have e11 : xv 11 = .bool true := hG.get g11.out (by simp [hd])
            clear hd hin
            go_simp
            exact hK _ _ ⟨updV xv 12 (.bool true), by simp [updV, e11], hb, hG.same gk.out g12.out _ rfl⟩
        · rintro listed ac W ⟨xv, rfl, hb, hG⟩ hall
          have e12 : xv 12 = .bool true := hG.get g12.out (hall 12 (by decide))
          have XW : Hid (Below w2.heap.size w2 W) := hb
          clear hall hG hb gk g0 g1 g2 g3 g4 g5 g6 g7 g8 g9 g10 g11 g12
          rw [e12]
          clear e12
          have B3 : Hid (Below w.heap.size w W) := on_below B2.out XW.out
          clear B2 XW K1 CP CS
          go_wp2
          go_ret
          exact ⟨rfl, B3.out⟩

theorem composeChecks_law (s : Int) (pv : Value) (vs : List Value) (ls : List (List UInt8)) (ov : Value) (of : List Int) (w : World) (hs : (Lit.int .i64 s).wf = true) (hp : Sl 1 w pv vs.length vs) (hps : Parts w vs ls) (ho : Sl 1 w ov of.length (of.map (Value.int .i64))) (hk : ∀ z ∈ of, (Lit.int .i64 z).wf = true) :
    Calls Try.prog 5 #[.int .i64 s, pv, ov] w fun e w' => e = .returned (.bool true) ∧ Below w.heap.size w w' := composeChecks_walk s pv ov vs ls of w hp hps ho

end Go.Proofs.Ytehpbnakdadedaa
