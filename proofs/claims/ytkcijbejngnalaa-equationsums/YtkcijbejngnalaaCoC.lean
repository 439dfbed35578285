/-
  compose: endsAt, agree, Right.
-/
import Derived.Test.YtkcijbejngnalaaCoR
import Derived.Test.YtkcijbejngnalaaCoA
namespace Go.Proofs.Ytkcijbejngnalaa
open Go.RowKit
set_option linter.unusedVariables false

/-- Whether something is so, as it is told. -/
def TellsP (P : Prop) (e : Ending) : Prop := ∃ b : Bool, e = .returned (.bool b) ∧ (b = true ↔ P)
theorem tells_no {P : Prop} {e : Ending} (h : e = .returned (.bool false)) (hp : ¬ P) : TellsP P e := ⟨false, h, ⟨fun h => by simp at h, fun h => absurd h hp⟩⟩
theorem tells_yes {P : Prop} {e : Ending} (h : e = .returned (.bool true)) (hp : P) : TellsP P e := ⟨true, h, ⟨fun _ => hp, fun _ => rfl⟩⟩

theorem elemParts : Try.prog.underlying 32 = some (.slice (Try.prog.elem 32)) := by kernel_rfl
theorem sizeParts (W : World) : (sizeOf (Try.prog.elem 32)).run Try.prog W = .ok 1 W := by
  have he : Try.prog.elem 32 = 25 := by kernel_rfl
  obtain ⟨i0, hi, hz0, hz1, hz2⟩ := infoBs_parts
  rw [he]
  simp [sizeOf, typeInfo, hi, hz1]

/-- The first of some slices. -/
theorem Sl.take {w : World} {ao : Option Addr} {n c N : Nat} {cs : List Value} (h : Sl 1 w (.slice ao n c) n cs) (hN : N ≤ n) : Sl 1 w (.slice ao N c) N (cs.take N) := by
  obtain ⟨h1, a, c', hv, h2, h3, h4, h5⟩ := h
  injection hv with e1 e2 e3
  subst e1; subst e3
  refine ⟨by simp; omega, ao, c, rfl, by omega, h3, h4, ?_⟩
  rcases h5 with h0 | ⟨b, off, hao, hc⟩
  · exact .inl (by omega)
  · refine .inr ⟨b, off, hao, fun j u hj => hc j u ?_⟩
    rw [List.getElem?_take] at hj
    split at hj
    · exact hj
    · cases hj
theorem Parts.take {w : World} {vs : List Value} {ls : List (List UInt8)} (h : Parts w vs ls) (N : Nat) : Parts w (vs.take N) (ls.take N) := by
  refine ⟨by rw [List.length_take, List.length_take, h.1], fun i v p hv hp => ?_⟩
  rw [List.getElem?_take] at hv hp
  split at hv
  · rw [if_pos (by assumption)] at hp
    exact h.2 i v p hv hp
  · cases hv

set_option maxRecDepth 100000 in
set_option maxHeartbeats 1000000 in
/-- Do blocks end at so many bytes? -/
theorem endsAt_any (n : Int) (pv : Value) (vs : List Value) (ls : List (List UInt8)) (w : World) (hn63 : n ≤ 9223372036854775807) (hp : Sl 1 w pv vs.length vs) (hps : Parts w vs ls) :
    Calls Try.prog 49 #[.int .i64 n, pv] w fun e w' => TellsP (EndP n ls) e ∧ Below w.heap.size w w' := by
  have HP : Hid (Sl 1 w pv vs.length vs) := hp
  obtain ⟨-, ao, pc, rfl, hp2, hp3, -, -⟩ := hp
  unfold maxLen at hp3
  have HPS : Hid (Parts w vs ls) := hps
  obtain ⟨M, hM⟩ : ∃ M, vs.length = M := ⟨_, rfl⟩
  have HM : Hid (vs.length = M) := hM
  have HL : Hid (ls.length = M) := by have := hps.1; unfold Hid; omega
  rw [hM] at HP hp2 ⊢
  clear hM hps
  by_cases h0 : n < 0
  · go_enter Try.func49, Try.ntmps49
    go_wp2
    go_ret
    exact ⟨tells_no rfl (by unfold EndP; omega), Below.refl _ _⟩
  obtain ⟨k, rfl⟩ := Int.eq_ofNat_of_zero_le (show 0 ≤ n by omega)
  have L0 : Hid (leftE k ls 0 = k) := leftE_zero k ls
  have hk63 : (k : Int) ≤ 9223372036854775807 := by omega
  go_enter Try.func49, Try.ntmps49
  go_wp2
  go_loopw [0, 12] (fun lv iv wr => ∃ i L : Nat, i ≤ M ∧ L ≤ 9223372036854775807 ∧ lv = .int .i64 L ∧ iv = .int .i64 i ∧ Hid (leftE k ls i = L) ∧ Hid (zeroB ((ls.take i).flatten.drop k) = true) ∧ Hid (Below w.heap.size w wr)) (fun _ iv _ => M - (intOf iv).toNat)
  case atStart => exact ⟨0, k, by omega, by omega, rfl, rfl, L0, by simp [Hid, zeroB], Below.refl _ _⟩
  case round =>
    obtain ⟨i, L, hi, hL, rfl, rfl, EL, ZL, BL⟩ := hrel
    clear L0
    by_cases hlt : i < M
    · have hiv : i < vs.length := by rw [HM.out]; exact hlt
      have hil : i < ls.length := by rw [HL.out]; exact hlt
      obtain ⟨x, hx⟩ : ∃ x, ls[i]? = some x := ⟨_, List.getElem?_eq_getElem hil⟩
      have BW : Hid (Bs wr vs[i] x) := (HPS.out.2 i _ _ (List.getElem?_eq_getElem hiv) hx).below BL.out
      obtain ⟨X, hX⟩ : ∃ X, x.length = X := ⟨_, rfl⟩
      have NX : Hid (leftE k ls (i + 1) = L - min L X) := by unfold Hid; rw [leftE_next hx, EL.out, hX]
      obtain ⟨H, hH⟩ : ∃ H, min L X = H := ⟨_, rfl⟩
      have ZN : Hid (zeroB ((ls.take (i + 1)).flatten.drop k) = zeroB (x.drop H)) := by unfold Hid; rw [end_next hx, ZL.out, EL.out, hX, hH, Bool.true_and]
      have ck : ∃ b off, ao = some ⟨b, off, none⟩ ∧ wr.cell? ⟨b, off + i, none⟩ = some vs[i] := by
        have hpw : Sl 1 wr (.slice ao M pc) M vs := HP.out.below BL.out
        obtain ⟨_, a', c', hv, _, _, _, h5⟩ := hpw
        injection hv with e1 e2 e3
        subst e1
        rcases h5 with h0 | ⟨b, off, e, hc⟩
        · omega
        · exact ⟨b, off, e, hc i _ (List.getElem?_eq_getElem hiv)⟩
      obtain ⟨b, off, rfl, ck⟩ := ck
      obtain ⟨va, vc, hv, hvc, hvm⟩ : ∃ va vc, vs[i] = .slice va X vc ∧ X ≤ vc ∧ vc ≤ 9223372036854775807 := by
        obtain ⟨-, va, vc, hv, h2, h3, -, -⟩ := BW.out
        unfold maxLen at h3
        exact ⟨va, vc, by rw [hv, hX], by omega, h3⟩
      rw [hv] at ck BW
      have hmin := min2 L X (X : Int) rfl
      rw [hH] at hmin NX
      have hHX : H ≤ X := by omega
      have hHL : H ≤ L := by omega
      clear hv hX hH
      have sf := fun W => slice_from W va X vc H hHX
      have BD : Hid (Bs wr (.slice (if vc = H then va else va.map (·.add (H * 1))) (X - H) (vc - H)) (x.drop H)) := BW.out.drop H hHX
      generalize (if vc = H then va else va.map (·.add (H * 1))) = da at *
      obtain ⟨z, hz⟩ : ∃ z, zeroB (x.drop H) = z := ⟨_, rfl⟩
      have CZ : Hid (∀ W, Below wr.heap.size wr W → Calls Try.prog 61 #[.slice da (X - H) (vc - H)] W fun e w' => e = .returned (.bool z) ∧ w' = W) := by
        intro W hW
        have := zero_any _ _ W (BD.out.below hW)
        rw [hz] at this
        exact this
      rw [hz] at ZN
      have HX : Hid (ls[i]? = some x) := hx
      clear hz hx BD BW EL ZL hiv hil
      go_wp2_with fail
      refine (CZ.out _ (by first | exact Below.refl _ _ | exact below0 _)).mono ?_
      rintro e w2 ⟨rfl, rfl⟩
      clear CZ sf hmin ck
      cases z with
      | false =>
        have R : Hid (¬ EndP (k : Int) ls) := by
          unfold Hid EndP
          rintro ⟨_, _, h⟩
          have h2 := end_take (n := k) (by simpa using h) (i + 1)
          rw [ZN.out] at h2
          cases h2
        go_wp2
        go_ret
        exact ⟨tells_no rfl R.out, BL.out⟩
      | true =>
        have wr1 : IntKind.i64.wrap ((L : Int) - (H : Int)) = ((L - H : Nat) : Int) := by rw [IntKind.wrap_i64]; omega
        have NX2 : Hid (leftE k ls (i + 1) = L - H) := NX
        clear NX
        go_wp2
        go_roundw
        case rel => exact ⟨i + 1, L - H, by omega, by omega, rfl, by go_num, NX2, ZN, BL⟩
        case measure => simp [intOf]; omega
    · obtain rfl : i = M := by omega
      have R : Hid (((L : Int) == 0) = true ↔ EndP (k : Int) ls) := by
        have h1 := end_all (n := k) (ls := ls) (i := i) (by rw [HL.out]; exact Nat.le_refl _)
        have h2 := ZL.out
        rw [List.take_of_length_le (by rw [HL.out]; exact Nat.le_refl _)] at h2
        rw [EL.out] at h1
        unfold Hid EndP
        rw [Int.toNat_natCast, beq_iff_eq]
        exact ⟨fun h => ⟨by omega, by have := h1.1 (by omega); omega, h2⟩, fun ⟨_, h, _⟩ => by have := h1.2 (by omega); omega⟩
      have X2 : Hid (Below w.heap.size w wr) := BL
      clear EL ZL BL
      go_wp2
      go_ret
      exact ⟨⟨_, rfl, R.out⟩, X2.out⟩

theorem RwOk.at {N A j : Nat} {rows : List (List Int)} (h : RwOk N A rows) (hj : j < A) : ∃ r, rows[j]? = some r ∧ r.length ≤ N ∧ (∀ i ∈ r, 0 ≤ i ∧ i < (N : Int)) ∧ eqOf N rows j = r ++ [(N : Int) + (j : Int)] := by
  obtain ⟨r, hr⟩ : ∃ r, rows[j]? = some r := ⟨_, List.getElem?_eq_getElem (by rw [h.1]; exact hj)⟩
  exact ⟨r, hr, (h.2 j r hr).1, (h.2 j r hr).2, by unfold eqOf; simp [List.getD, hr]⟩
theorem agree_next {N B j : Nat} {rows : List (List Int)} {ls : List (List UInt8)} (h : ∀ i, i < j → EqAt N B rows ls i) (hj : EqAt N B rows ls j) : ∀ i, i < j + 1 → EqAt N B rows ls i := by
  intro i hi
  by_cases e : i = j
  · rw [e]; exact hj
  · exact h i (by omega)

set_option maxRecDepth 100000 in
set_option maxHeartbeats 2000000 in
/-- Is each auxiliary block made of its message blocks? -/
theorem agree_any (g ro S N Q A B : Nat) (gv : List Value) (rows : List (List Int)) (pv : Value) (vs : List Value) (ls : List (List UInt8)) (w : World) (hg : IsGr w g ro S N Q A gv rows) (hrw : RwOk N A rows) (hN : N ≤ 1000000) (hA : A ≤ 16777216) (hB : B ≤ 16777216) (hp : Sl 1 w pv vs.length vs) (hps : Parts w vs ls) :
    Calls Try.prog 53 #[.pointer (some ⟨g, 0, none⟩), .int .i64 B, pv] w fun e w' => TellsP (AgreeP N B A rows ls) e ∧ Below w.heap.size w w' := by
  have HP : Hid (Sl 1 w pv vs.length vs) := hp
  have HPS : Hid (Parts w vs ls) := hps
  have HG : Hid (IsGr w g ro S N Q A gv rows) := hg
  have HR : Hid (RwOk N A rows) := hrw
  have CA : Hid (Calls Try.prog 52 #[.pointer (some ⟨g, 0, none⟩)] w fun e w' => e = .returned (.int .i64 (A : Int)) ∧ w' = w) := oaux_any g ro S N Q A gv rows w hg
  clear hp hps hg hrw
  go_enter Try.func53, Try.ntmps53
  go_wp2_with fail
  refine CA.out.mono ?_
  rintro e w1 ⟨rfl, rfl⟩
  clear CA
  go_wp2
  go_loopw [12] (fun jv wr => ∃ j : Nat, j ≤ A ∧ jv = .int .i64 j ∧ Hid (∀ i, i < j → EqAt N B rows ls i) ∧ Hid (Below w1.heap.size w1 wr)) (fun jv _ => A - (intOf jv).toNat)
  case atStart => exact ⟨0, by omega, rfl, fun i hi => by omega, Below.refl _ _⟩
  case round =>
    obtain ⟨j, hj, rfl, AG, BL⟩ := hrel
    by_cases hlt : j < A
    · obtain ⟨r, hr, hrN, hrm, hre⟩ := HR.out.at hlt
      obtain ⟨m, hm⟩ : ∃ m, r.length = m := ⟨_, rfl⟩
      obtain ⟨oe, hoe⟩ : ∃ oe, r ++ [(N : Int) + (j : Int)] = oe := ⟨_, rfl⟩
      have hmN : m ≤ N := by omega
      have EO : Hid (eqOf N rows j = oe) := by unfold Hid; rw [hre, hoe]
      have CE : Hid (Calls Try.prog 80 #[.pointer (some ⟨g, 0, none⟩), .int .i64 j] wr fun e w' => ∃ a c, e = .returned (.slice a (m + 1) c) ∧ OwnZ wr.heap.size w' (.slice a (m + 1) c) (m + 1) oe ∧ Below wr.heap.size wr w') := by
        have := oeq_yes g ro S N Q A j m gv rows r wr (HG.out.below BL.out) (by omega) hA hr hm (by omega)
        rw [hoe] at this
        exact this
      clear hr hrN hrm hre hm hoe
      go_wp2_with fail
      refine CE.out.mono ?_
      rintro e w2 ⟨ea, ec, rfl, hoz, hb2⟩
      have B2 : Hid (Below w1.heap.size w1 w2) := on_below BL.out hb2
      have OZ : Hid (Zs w2 (.slice ea (m + 1) ec) oe) := hoz.zs
      clear hoz hb2 CE BL
      by_cases hok : OkOf B ls oe
      · obtain ⟨x, hx⟩ : ∃ x, chkD B ls oe = x := ⟨_, rfl⟩
        have XL : Hid (x.length = B) := by unfold Hid; rw [← hx]; exact chkD_length hok
        have CK : Hid (Calls Try.prog 45 #[.int .i64 B, pv, .slice ea (m + 1) ec] w2 fun e w' => e = .returned (.tuple #[.slice (some ⟨w2.heap.size, 0, none⟩) B B, .bool true]) ∧ Blk w' w2.heap.size [] x [] ∧ Below w2.heap.size w2 w') := by
          have := check_yes B pv _ vs ls oe w2 hB (HP.out.below B2.out) (HPS.out.below B2.out) OZ.out hok
          rw [hx] at this
          exact this
        have EI : Hid (EqAt N B rows ls j ↔ zeroB x = true) := by
          unfold Hid EqAt
          rw [EO.out, hx]
          exact ⟨fun h => h.2, fun h => ⟨hok, h⟩⟩
        clear hok hx EO
        go_wp2_with fail
        refine CK.out.mono ?_
        rintro e w3 ⟨rfl, hk3, hb3⟩
        have B3 : Hid (Below w1.heap.size w1 w3) := on_below B2.out hb3
        obtain ⟨p, hp⟩ : ∃ p, w2.heap.size = p := ⟨_, rfl⟩
        rw [hp] at hk3 ⊢
        obtain ⟨z, hz⟩ : ∃ z, zeroB x = z := ⟨_, rfl⟩
        have CZ : Hid (Calls Try.prog 61 #[.slice (some ⟨p, 0, none⟩) B B] w3 fun e w' => e = .returned (.bool z) ∧ w' = w3) := by
          have := zero_any _ x w3 (hk3.bs0 B B XL.out.symm (Nat.le_refl _) (by unfold maxLen; omega))
          rw [hz] at this
          exact this
        rw [hz] at EI
        clear hk3 hb3 hp hz CK B2 OZ
        go_wp2_with fail
        refine CZ.out.mono ?_
        rintro e w4 ⟨rfl, rfl⟩
        clear CZ XL
        cases z with
        | false =>
          have R : Hid (¬ AgreeP N B A rows ls) := fun h => by have := EI.out.1 (h j hlt); cases this
          clear AG EI
          go_wp2
          go_ret
          exact ⟨tells_no rfl R.out, B3.out⟩
        | true =>
          have AG2 : Hid (∀ i, i < j + 1 → EqAt N B rows ls i) := agree_next AG.out (EI.out.2 rfl)
          clear AG EI
          go_wp2
          go_roundw
          case rel => exact ⟨j + 1, by omega, by go_num, AG2, B3⟩
          case measure => simp [intOf]; omega
      · have R : Hid (¬ AgreeP N B A rows ls) := by
          intro h
          have := (h j hlt).1
          rw [EO.out] at this
          exact absurd this hok
        have CK : Hid (Calls Try.prog 45 #[.int .i64 B, pv, .slice ea (m + 1) ec] w2 fun e w' => e = .returned (.tuple #[.slice none 0 0, .bool false]) ∧ Below w2.heap.size w2 w') := check_bad B pv _ vs ls oe w2 hB (HP.out.below B2.out) (HPS.out.below B2.out) OZ.out hok
        clear hok EO AG
        go_wp2_with fail
        refine CK.out.mono ?_
        rintro e w3 ⟨rfl, hb3⟩
        have B3 : Hid (Below w1.heap.size w1 w3) := on_below B2.out hb3
        clear hb3 CK B2 OZ
        go_wp2
        go_ret
        exact ⟨tells_no rfl R.out, B3.out⟩
    · obtain rfl : j = A := by omega
      have R : Hid (AgreeP N B j rows ls ∧ Below w1.heap.size w1 wr) := ⟨AG.out, BL.out⟩
      clear AG BL
      go_wp2
      go_ret
      exact ⟨tells_yes rfl R.out.1, R.out.2⟩

set_option maxRecDepth 100000 in
set_option maxHeartbeats 2000000 in
/-- RIGHT. -/
theorem cright_any (N B Q A S : Nat) (E F n : Int) (pv : Value) (vs : List Value) (ls : List (List UInt8)) (w : World) (h : PrOk N B Q E F N Q A) (hS : S < 18446744073709551616) (hN : N ≤ 1000000) (hn63 : n ≤ 9223372036854775807) (hp : Sl 1 w pv vs.length vs) (hps : Parts w vs ls) :
    Calls Try.prog 17 #[.agg #[.int .i64 (N : Int), .int .i64 (B : Int), .int .i64 (Q : Int), .int .i64 E, .int .i64 F], .int .u64 (S : Int), .int .i64 n, pv] w fun e w' => TellsP (RightP N B A (hasR S A Q N) n ls) e ∧ Below w.heap.size w w' := by
  have hok := h.ok hS
  have hA := hok.a
  have hA1 := hok.a1
  have hB : B ≤ 16777216 := by have := h.may.2.1; omega
  have CN : Hid (∀ W, Calls Try.prog 50 #[.agg #[.int .i64 (N : Int), .int .i64 (B : Int), .int .i64 (Q : Int), .int .i64 E, .int .i64 F], .int .u64 (S : Int)] W fun e w' => ∃ g ro vs, e = .returned (.tuple #[.pointer (some ⟨g, 0, none⟩), .int .i64 0]) ∧ GrB W w' g ro S N Q A vs vs (hasR S A Q N)) := fun W => onew_own B E F N Q A S W h hS
  have HR : Hid (RwOk N A (hasR S A Q N)) := hasR_rw S A Q N
  have HP : Hid (Sl 1 w pv vs.length vs) := hp
  obtain ⟨-, ao, pc, rfl, hp2, hp3, -, -⟩ := hp
  unfold maxLen at hp3
  have HPS : Hid (Parts w vs ls) := hps
  obtain ⟨M, hM⟩ : ∃ M, vs.length = M := ⟨_, rfl⟩
  have HM : Hid (vs.length = M) := hM
  have HL : Hid (ls.length = M) := by have := hps.1; unfold Hid; omega
  rw [hM] at HP hp2 ⊢
  clear hM hps h hS hok
  generalize hasR S A Q N = rows at *
  have h0 : ¬ (N : Int) < 0 := by omega
  by_cases hMN : M ≤ N
  · have R : Hid (¬ RightP N B A rows n ls) := by
      intro h
      have := h.1
      rw [HL.out] at this
      omega
    have hle : (M : Int) ≤ (N : Int) := by omega
    go_enter Try.func17, Try.ntmps17
    go_wp2
    go_ret
    exact ⟨tells_no rfl R.out, below_alloc _ _⟩
  have hnle : ¬ (M : Int) ≤ (N : Int) := by omega
  have P0 : Hid (∀ W, Below (w.alloc (.cells #[.int .i64 N, .int .i64 B, .int .i64 Q, .int .i64 E, .int .i64 F] 23)).heap.size (w.alloc (.cells #[.int .i64 N, .int .i64 B, .int .i64 Q, .int .i64 E, .int .i64 F] 23)) W → Five W w.heap.size N B Q E F) := fun W hW => (five_new w _ N B Q E F).below hW
  have CE : Hid (∀ W, Below w.heap.size w W → Calls Try.prog 49 #[.int .i64 n, .slice ao N pc] W fun e w' => TellsP (EndP n (ls.take N)) e ∧ Below W.heap.size W w') := by
    intro W hW
    refine endsAt_any n _ (vs.take N) (ls.take N) W hn63 ?_ ((HPS.out.below hW).take N)
    have := ((HP.out.below hW).take (N := N) (by omega))
    rw [List.length_take, HM.out, Nat.min_eq_left (by omega)]
    exact this
  have sl := fun W => slice_to_g (P := Try.prog) 32 elemParts 1 sizeParts W ao M pc N (by omega)
  go_enter Try.func17, Try.ntmps17
  go_wp2_with fail
  refine (CE.out _ (below_alloc _ _)).mono ?_
  rintro e w1 ⟨⟨b1, rfl, hb1⟩, hx1⟩
  have P1 : Hid (Five w1 w.heap.size N B Q E F) := P0.out _ hx1
  have B1 : Hid (Below w.heap.size w w1) := on_below (below_alloc _ _) hx1
  have E1 : Hid (b1 = true ↔ EndP n (ls.take N)) := hb1
  clear hx1 hb1 CE P0 sl
  cases b1 with
  | false =>
    have R : Hid (¬ RightP N B A rows n ls) := fun h => by have := E1.out.2 h.2.1; cases this
    clear P1 E1
    go_wp2
    go_ret
    exact ⟨tells_no rfl R.out, B1.out⟩
  | true =>
    obtain ⟨c0, c1, c2, c3, c4⟩ := P1.out
    go_wp2_with fail
    refine (CN.out _).mono ?_
    rintro e w2 ⟨g, ro, gv, rfl, hg2⟩
    have B2 : Hid (Below w.heap.size w w2) := on_below B1.out hg2.bel
    have P2 : Hid (Five w2 w.heap.size N B Q E F) := P1.out.below hg2.bel
    have G2 : Hid (IsGr w2 g ro S N Q A gv rows) := hg2.isGr
    clear hg2 CN P1 B1 c0 c1 c2 c3 c4
    have CA : Hid (Calls Try.prog 52 #[.pointer (some ⟨g, 0, none⟩)] w2 fun e w' => e = .returned (.int .i64 (A : Int)) ∧ w' = w2) := oaux_any g ro S N Q A gv rows w2 G2.out
    have CM : Hid (Calls Try.prog 51 #[.pointer (some ⟨g, 0, none⟩)] w2 fun e w' => e = .returned (.int .i64 (N : Int)) ∧ w' = w2) := omsg_any g ro S N Q A gv rows w2 G2.out
    have wr1 : IntKind.i64.wrap ((N : Int) + (A : Int)) = (N : Int) + (A : Int) := by rw [IntKind.wrap_i64]; omega
    by_cases hMA : M = N + A
    · have hne : ((M : Int) != (N : Int) + (A : Int)) = false := by simp; omega
      have ML : Hid (ls.length = N + A) := by unfold Hid; rw [HL.out, hMA]
      clear hMA
      obtain ⟨c0, c1, c2, c3, c4⟩ := P2.out
      go_wp2_with fail
      refine CM.out.mono ?_
      rintro e w3 ⟨rfl, rfl⟩
      go_wp2_with fail
      refine CA.out.mono ?_
      rintro e w4 ⟨rfl, rfl⟩
      have CG : Hid (Calls Try.prog 53 #[.pointer (some ⟨g, 0, none⟩), .int .i64 B, .slice ao M pc] w4 fun e w' => TellsP (AgreeP N B A rows ls) e ∧ Below w4.heap.size w4 w') := agree_any g ro S N Q A B gv rows _ vs ls w4 G2.out HR.out hN hA hB (by have := HP.out.below B2.out; rw [HM.out]; exact this) (HPS.out.below B2.out)
      clear CA CM G2
      go_wp2_with fail
      refine CG.out.mono ?_
      rintro e w5 ⟨⟨b2, rfl, hb2⟩, hx2⟩
      have R : Hid ((b2 = true ↔ RightP N B A rows n ls) ∧ Below w.heap.size w w5) := by
        refine ⟨⟨fun h => ⟨ML.out, E1.out.1 (by first | rfl | trivial), hb2.1 h⟩, fun h => hb2.2 h.2.2⟩, on_below B2.out hx2⟩
      clear hb2 hx2 B2 P2 E1 c0 c1 c2 c3 c4 CG
      go_wp2
      go_ret
      exact ⟨⟨b2, rfl, R.out.1⟩, R.out.2⟩
    · have hne : ((M : Int) != (N : Int) + (A : Int)) = true := by simp; omega
      have HMA : Hid (¬ M = N + A) := hMA
      clear hMA
      go_wp2_with fail
      refine CM.out.mono ?_
      rintro e w3 ⟨rfl, rfl⟩
      go_wp2_with fail
      refine CA.out.mono ?_
      rintro e w4 ⟨rfl, rfl⟩
      have R : Hid (¬ RightP N B A rows n ls ∧ Below w.heap.size w w4) := by
        refine ⟨fun h => ?_, B2.out⟩
        have := h.1
        rw [HL.out] at this
        exact absurd this HMA.out
      clear B2 P2 E1 CA CM G2 HMA
      go_wp2
      go_ret
      exact ⟨tells_no rfl R.out.1, R.out.2⟩

end Go.Proofs.Ytkcijbejngnalaa
