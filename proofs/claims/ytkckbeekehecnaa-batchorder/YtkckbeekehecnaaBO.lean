/-
  BatchOrder: its walk.
-/
import Derived.Test.YtkckbeekehecnaaBN
import Derived.Maps.Own
import Derived.Maps.OwnOps
import Derived.Maps.OwnSet
import Derived.Maps.Views
import Derived.Carry
import Derived.OpenShut
import Derived.RegionTactic
import Derived.Deep.Light
import Derived.BigQuiet
namespace Go.Proofs.Ytkckbeekehecnaa
open Go.RowKit Go.Maps
set_option linter.unusedVariables false
set_option maxRecDepth 100000


set_option maxHeartbeats 4000000 in
theorem batchOrder_walk (A S : Int) (pv : Value) (vs : List Value) (ls : List (List Int)) (qv : Value) (us : List Value) (xs : List (List UInt8)) (T : Int) (w : World) (h : (Lit.int .u8 A).wf = true ∧ (Lit.int .u8 S).wf = true ∧ Sl 1 w pv vs.length vs ∧ LsZ w vs ls ∧ LzW ls ∧ Sl 1 w qv us.length us ∧ Parts w us xs) (ht : (Lit.int .u8 T).wf = true) :
    Calls Try.prog 5 #[.agg #[.int .u8 A, .int .u8 S, pv, qv], .int .u8 T] w fun e w' => e = .returned (.bool true) ∧ Below w.heap.size w w' := by
  obtain ⟨ha, hs, hp, hz, hw, hq, hx⟩ := h
  obtain ⟨hal, hau⟩ := bounds_u8 ha
  obtain ⟨hsl, hsu⟩ := bounds_u8 hs
  obtain ⟨A, rfl⟩ := Int.eq_ofNat_of_zero_le hal
  obtain ⟨S, rfl⟩ := Int.eq_ofNat_of_zero_le hsl
  obtain ⟨a, ea, ha40⟩ : ∃ a : Nat, ((A : Int) % 40 = (a : Int)) ∧ a < 40 := ⟨A % 40, by omega, by omega⟩
  obtain ⟨n, eS, hn6⟩ : ∃ n : Nat, ((S : Int) % 6 = (n : Int)) ∧ n < 6 := ⟨S % 6, by omega, by omega⟩
  have HZ : Hid (LsZ w vs ls) := hz
  have HW : Hid (LzW ls) := hw
  have HX : Hid (Parts w us xs) := hx
  have HP : Hid (Sl 1 w pv vs.length vs) := hp
  have HQ : Hid (Sl 1 w qv us.length us) := hq
  obtain ⟨htl, htu⟩ := bounds_u8 ht
  obtain ⟨T, rfl⟩ := Int.eq_ofNat_of_zero_le htl
  clear hp hz hw hq hx ha hs hal hsl ht htl
  go_enter Try.func5, Try.ntmps5
  go_wp2_with fail
  have B1 : Hid (XBox w.heap.size A S pv qv (w.alloc (.cells #[.int .u8 (A : Int), .int .u8 (S : Int), pv, qv] 25))) := XBox.new _ _ _ _ _
  have X1 : Hid (Below w.heap.size w (w.alloc (.cells #[.int .u8 (A : Int), .int .u8 (S : Int), pv, qv] 25))) := below_alloc _ _
  refine (speaks17_any _).mono ?_
  rintro e w2 ⟨rfl, hb⟩
  have X2 : Hid (Below w.heap.size w w2) := on_below X1.out hb
  have B2 : Hid (XBox w.heap.size A S pv qv w2) := XBox.below B1.out hb
  clear hb B1 X1
  obtain ⟨x0, x1, x2, x3⟩ := B2.out.cells
  go_wp2_with fail
  refine (big17_any pv vs ls w2 (HP.out.below X2.out) (HZ.out.below X2.out) HW.out).mono ?_
  rintro e w3 ⟨⟨b, rfl, hsm⟩, hw3⟩
  obtain rfl : w2 = w3 := hw3.symm
  clear hw3
  cases b with
  | true =>
    clear hsm
    go_wp2
    go_ret
    exact ⟨rfl, X2.out⟩
  | false =>
    have SM : Hid (Small17 ls) := hsm rfl
    have SM1 : Hid (ls.length + ls.flatten.length ≤ 300) := SM.out
    have VL : Hid (vs.length = ls.length) := HZ.out.1
    clear hsm
    go_upto_region 5 with fail
    go_quiet (fail)
    rw [ea, eS]
    have Y2 : Hid (Below w.heap.size w (w2.drewN nq)) := below_drewN X2.out nq
    have Z2 : Hid (XBox w.heap.size A S pv qv (w2.drewN nq)) := XBox.below B2.out (below_drewN (Below.refl _ _) nq)
    obtain ⟨w3, hw3⟩ : ∃ x, w2.drewN nq = x := ⟨_, rfl⟩
    rw [hw3] at Y2 Z2 ⊢
    clear hw3 x0 x1 x2 x3 X2 B2
    obtain ⟨x0, x1, x2, x3⟩ := Z2.out.cells
    go_wp2_with fail
    refine (kequations_any A S pv qv vs us ls xs n w3 (by omega) (by omega) (HP.out.below Y2.out) (HZ.out.below Y2.out) (HQ.out.below Y2.out) (HX.out.below Y2.out) (by have h1 := SM1.out; have h2 := VL.out; omega)).mono ?_
    rintro e w4 ⟨lv, uv, es, es2, rfl, hoe, hor, hq1, hq2, heq, hb4⟩
    have X4 : Hid (Below w.heap.size w w4) := on_below Y2.out hb4
    have B4 : Hid (XBox w.heap.size A S pv qv w4) := XBox.below Z2.out hb4
    have PR : Hid (es.map pairQ = es2.map pairQ) := heq.pr
    have OF : Hid (es.map Qe.of = ls) := by
      have h1 := heq.of
      rw [VL.out, List.take_length] at h1
      exact h1
    have OF2 : Hid (es2.map Qe.of = ls) := by unfold Hid; rw [← of_of_pair PR.out]; exact OF.out
    have OV2 : Hid (es2.map Qe.ov = vs) := by
      have h1 := heq.ov
      rw [List.take_length] at h1
      exact h1
    have L1 : Hid (es.length = vs.length) := heq.l1
    have L2 : Hid (es2.length = vs.length) := heq.l2
    have VA : Hid (∀ e ∈ es, e.va.length = n) := heq.va
    have QE : Hid (Qs w4 lv es) := OwnE.qs hoe (fun e he => (hq1 e he).qep hb4)
    have Q2 : Hid (∀ e ∈ es2, QeP w4 e) := fun e he => (hq2 e he).qep hb4
    have SU : Hid (Sl 1 w4 uv es2.length (es2.map Qe.vv)) := owned_sl hor
    have OE4 : Hid (OwnE w3.heap.size w4 lv es.length es) := hoe
    have QK4 : Hid (∀ e ∈ es, QeK w3.heap.size w3 w4 e) := hq1
    have B34 : Hid (Below w3.heap.size w3 w4) := hb4
    have OR4 : Hid (w4.ownsRow w3.heap.size 38 1 uv es2.length (es2.map Qe.vv)) := hor
    have QK24 : Hid (∀ e ∈ es2, QeK w3.heap.size w3 w4 e) := hq2
    have Y3 : Hid (Below w.heap.size w w3) := Y2.out
    have VE4 : Hid (vs.length = es.length) := heq.l1.symm
    have SP : Hid (Sl 1 w4 pv es2.length (es2.map Qe.ov)) := by unfold Hid; rw [L2.out, OV2.out]; exact HP.out.below X4.out
    have M4 : Hid (es2.length ≤ 300 ∧ es.length ≤ 300) := by have h1 := SM1.out; have h2 := VL.out; have h3 := L1.out; have h4 := L2.out; exact ⟨by omega, by omega⟩
    have F4 : Hid ((es2.map Qe.of).flatten.length ≤ 300 ∧ (es.map Qe.of).flatten.length ≤ 300) := by
      unfold Hid
      rw [OF2.out, OF.out]
      have h1 := SM1.out
      exact ⟨by omega, by omega⟩
    clear hoe hor hq1 hq2 heq hb4 x0 x1 x2 x3 Z2
    clear SU SP Q2 OR4 QK24
    clear OE4 QK4 B34 Y3 B4 VE4 PR OF OF2 OV2 L1 L2 VA HX HP HQ HZ HW SM SM1 VL Y2 hau hsu ea eS
    obtain ⟨m, hm⟩ : ∃ m, es.length = m := ⟨_, rfl⟩
    have HM : Hid (es.length = m) := hm
    have HMm : m ≤ 300 := by have h1 := M4.out.2; omega
    have HF : Hid ((es.map Qe.of).flatten.length ≤ 10000) := by have h1 := F4.out.2; unfold Hid; omega
    obtain ⟨la, lc, rfl, hl2, hl3⟩ : ∃ a c, lv = .slice a m c ∧ m ≤ c ∧ c ≤ 9223372036854775807 := by
      obtain ⟨a', c', h1, h2, h3⟩ := QE.out.shape
      rw [hm] at h1 h2
      exact ⟨a', c', h1, h2, h3⟩
    clear hm M4 F4
    obtain ⟨c, hc⟩ : ∃ c, 2 * T + 1 = c := ⟨_, rfl⟩
    have hcb : c ≤ 511 := by omega
    have wa : IntKind.i64.wrap (2 * (T : Int)) = 2 * (T : Int) := by rw [IntKind.wrap_i64]; omega
    have wb : IntKind.i64.wrap (2 * (T : Int) + 1) = (c : Int) := by rw [IntKind.wrap_i64]; omega
    have ARI : Hid (∀ i, i < m → ∃ p r j : Nat, IntKind.i64.wrap ((i : Int) * (c : Int)) = (p : Int) ∧ IntKind.i64.wrap ((p : Int) + (T : Int)) = (r : Int) ∧ Int.tmod (r : Int) (m : Int) = (j : Int) ∧ (r : Int) % (m : Int) = (j : Int) ∧ ((m : Int) = 0) = False ∧ j < m ∧ j = fI T m i) := fun i hi => by
      have h1 : i * c ≤ 300 * 511 := Nat.mul_le_mul (by omega) hcb
      have h2 : (i : Int) * (c : Int) = ((i * c : Nat) : Int) := (Int.natCast_mul i c).symm
      refine ⟨i * c, i * c + T, (i * c + T) % m, ?_, ?_, rfl, rfl, by simp; omega, Nat.mod_lt _ (by omega), by unfold fI; rw [hc]⟩
      · rw [h2, IntKind.wrap_i64]; omega
      · rw [IntKind.wrap_i64]; omega
    go_wp2
    go_loopw [9, 38] (fun tv iv wr => ∃ (i : Nat) (a' : Option Addr) (c' : Nat), i ≤ m ∧ iv = .int .i64 i ∧ tv = .slice a' i c' ∧ Hid (OwnE w4.heap.size wr (.slice a' i c') i (turnL es T i)) ∧ Hid (Below w4.heap.size w4 wr)) (fun _ iv _ => m - (intOf iv).toNat)
    case atStart => exact ⟨0, none, 0, by omega, rfl, rfl, OwnE.nil _ _, Below.refl _ _⟩
    case round =>
      obtain ⟨i, a', c', hi, rfl, rfl, OO, BB⟩ := hrel
      by_cases hlt : i < m
      · obtain ⟨p, r, j, f1, f2, f3, f4, f5, hj, hjf⟩ := ARI.out i hlt
        obtain ⟨e, he⟩ : ∃ e, es[j]? = some e := ⟨_, List.getElem?_eq_getElem (by rw [HM.out]; exact hj)⟩
        have hjI : (j : Int) < (m : Int) := by omega
        obtain ⟨b0, off, rfl, c0, c1⟩ := Qs.at QE.out BB.out he
        have EP : Hid (QeP wr e) := Qs.get QE.out BB.out he
        have NX : Hid (turnL es T (i + 1) = turnL es T i ++ [e]) := turnL_next (by rw [HM.out, ← hjf]; exact he)
        have OA : Hid (OwnE w4.heap.size (wr.alloc (.cells #[e.ov, e.vv] 43)) (.slice a' i c') i (turnL es T i)) := OO.out.below (below_alloc _ _)
        have BA : Hid (Below w4.heap.size w4 (wr.alloc (.cells #[e.ov, e.vv] 43))) := BB.out.alloc BB.out.size _
        have ON : Hid (∀ u ∈ [e].flatMap Qe.cells, u.oneCell' = true) := e_oneCell (w := wr) (fun x hx => by rw [List.mem_singleton.1 hx]; exact EP.out)
        clear he OO BB EP hjf
        go_wp2_with (at_builtin; refine wpList_addE _ rfl (.tmp 41) (.tmp 57) rfl w4.heap.size (.slice a' i c') i _ rfl OA.out _ 1 [e] rfl one_src ON.out (by omega) BA.out.size ?_; intro a5 k5 w5 ho5 hg5)
        have O5 : Hid (OwnE w4.heap.size w5 (.slice a5 (i + 1) k5) (i + 1) (turnL es T (i + 1))) := by rw [NX.out]; exact ho5
        have B5 : Hid (Below w4.heap.size w4 w5) := BA.out.grown hg5 BA.out.size (fun k hk => (OA.out.lt k hk).1)
        clear ho5 hg5 OA BA NX ON f1 f2 f3 f4 f5
        go_roundw
        case rel => exact ⟨i + 1, a5, k5, by omega, by go_num, rfl, O5, B5⟩
        case measure => simp [intOf]; omega
      · obtain rfl : m = i := by omega
        obtain ⟨w5, hw5⟩ : ∃ x, x = wr := ⟨_, rfl⟩
        rw [← hw5] at OO BB ⊢
        have O5 : Hid (OwnE w4.heap.size w5 (.slice a' m c') m (turnL es T m)) := OO.out
        have B5 : Hid (Below w4.heap.size w4 w5) := BB.out
        clear hw5 OO BB
        have hmm := @run_makeMap Try.prog
        go_upto_region 14 with fail
        clear hmm
        have M6 : Hid (SeenV (w5.alloc (.map #[] 0)) w5.heap.size 0 (.map []) []) := seenV_start w5
        have Y56 : Hid (Below w5.heap.size w5 (w5.alloc (.map #[] 0))) := below_alloc _ _
        obtain ⟨mb, hmb⟩ : ∃ x, w5.heap.size = x := ⟨_, rfl⟩
        obtain ⟨w6, hw6⟩ : ∃ x, w5.alloc (.map #[] 0) = x := ⟨_, rfl⟩
        rw [hmb] at M6 Y56 ⊢
        rw [hw6] at M6 Y56 ⊢
        have S5 : Hid (w5.heap.size = mb) := hmb
        clear hmb hw6
        go_wp2
        go_loopw [63] (fun iv wr => ∃ (i : Nat) (D : DataW Unit) (L : List Int), i ≤ m ∧ iv = .int .i64 i ∧ Hid (SeenV wr mb i D L) ∧ Hid (KeepsBut (fun x => x = mb) w6 wr) ∧ Hid (L.length ≤ i ∧ (L.length = i → L = (List.range i).map fun t => ((fI T m t : Nat) : Int)))) (fun iv _ => m - (intOf iv).toNat)
        case atStart => exact ⟨0, _, [], by omega, rfl, M6, KeepsBut.refl _ _, by simp [Hid]⟩
        case round =>
          clear M6
          obtain ⟨i, D, L, hi, rfl, MM, KK, LL⟩ := hrel
          by_cases hlt : i < m
          · obtain ⟨p, r, j, f1, f2, f3, f4, f5, hj, hjf⟩ := ARI.out i hlt
            have hkey : keyOf Try.prog 3 (.int .i64 (j : Int)) = some (.int .i64 (j : Int)) := keyOf_int_mk Try.underlying3 (by simp [Lit.wf, IntKind.min, IntKind.max, IntKind.bits, IntKind.signed]; omega)
            have hown := MM.out.own
            have hm8 : i < maxLen := by unfold maxLen; omega
            have HPut : Hid (∀ w' d, w'.ownsMap Try.prog 3 (plainElem Try.prog 3) mb (i + 1) (D.put (.int .i64 (j : Int)) d) → SeenV w' mb (i + 1) (D.put (.int .i64 (j : Int)) d) (addV L (j : Int))) := fun w' d h => MM.out.put h
            have SN : Hid ((addV L (j : Int)).length ≤ i + 1 ∧ ((addV L (j : Int)).length = i + 1 → addV L (j : Int) = (List.range (i + 1)).map fun t => ((fI T m t : Nat) : Int))) := by rw [hjf]; exact seen_next LL.out.1 LL.out.2
            clear hjf LL
            go_wp2_with (first
              | (at_lookup; refine wpList_lookup_own_int _ rfl _ _ 46 rfl 3 3 .i64 KeyV Try.underlying46 Try.underlying3 (noughtV _) mb i D rfl hown _ _ rfl hkey ?_; intro z hat hwz; obtain ⟨z1, hz1⟩ : ∃ z1, IntKind.i64.wrap (z + 1) = z1 := ⟨_, rfl⟩; have wfz : (Lit.int .i64 z1).wf = true := by { rw [← hz1]; exact wf_wrap _ _ }; clear hat hwz)
              | (at_mapUpdate; refine wpList_mapUpdate_own _ rfl _ _ _ 46 rfl 3 3 KeyV Try.underlying46 _ mb i D rfl hown hm8 _ _ _ rfl rfl hkey _ [] (plainElem_int Try.underlying3 wfz) ?_; intro w9 hown9 hgrow9))
            have M9 : Hid (∃ D9, SeenV w9 mb (i + 1) D9 (addV L (j : Int))) := ⟨_, HPut.out w9 _ hown9⟩
            have K9 : Hid (KeepsBut (fun x => x = mb) w6 w9) := KK.out.trans (KeepsBut.ofGrown hgrow9 rfl)
            obtain ⟨D9, M10⟩ := M9.out
            have M11 : Hid (SeenV w9 mb (i + 1) D9 (addV L (j : Int))) := M10
            clear hown hown9 hgrow9 MM KK HPut M9 M10 wfz hz1 f1 f2 f3 f4 f5
            go_roundw
            case rel => exact ⟨i + 1, D9, _, by omega, by go_num, M11, K9, SN⟩
            case measure => simp [intOf]; omega
          · obtain rfl : m = i := by omega
            have B5w : Hid (Below w5.heap.size w5 wr) := by
              unfold Hid
              rw [S5.out]
              exact Y56.out.trans (KK.out.below (Nat.le_trans (Nat.le_of_eq S5.out.symm) Y56.out.size) (fun k hk => by rw [hk]; exact Nat.le_refl _))
            have XT : Hid (Below w4.heap.size w4 wr) := on_below B5.out B5w.out
            obtain ⟨ln, hln⟩ : ∃ x, L.length = x := ⟨_, rfl⟩
            have LN : ∀ W, (W = wr) → ∀ ty, (Builtin.len_ #[46] ty #[.map (some mb)]).run Try.prog W = .ok (.int .i64 (ln : Int)) W := by
              intro W hW ty
              subst hW
              have h1 := (MM.out.own).len Try.underlying46 ty
              rw [MM.out.size, hln] at h1
              exact h1
            by_cases hLm : ln = m
            · have hLm' : m = ln := hLm.symm
              subst hLm'
              have PM0 : Hid ((turnL es T m).Perm es) := by
                have h1 := HM.out
                subst h1
                exact turnL_perm MM.out.nodup hln LL.out.2
              have O6 : Hid (OwnE w4.heap.size wr (.slice a' m c') m (turnL es T m)) := O5.out.below B5w.out
              have QT0 : Hid (Qs wr (.slice a' m c') (turnL es T m)) := OwnE.qs O6.out (fun e he => (QE.out.2 e (PM0.out.mem_iff.1 he)).below XT.out)
              have LN2 := LN wr rfl
              obtain ⟨TL, hTL⟩ : ∃ x, turnL es T m = x := ⟨_, rfl⟩
              have PM : Hid (TL.Perm es) := by rw [← hTL]; exact PM0.out
              obtain ⟨ta, hta⟩ : ∃ x, x = a' := ⟨_, rfl⟩
              obtain ⟨tc, htc⟩ : ∃ x, x = c' := ⟨_, rfl⟩
              subst hta
              subst htc
              have QT : Hid (Qs wr (.slice ta m tc) TL) := by rw [← hTL]; exact QT0.out
              clear hTL PM0 QT0 O6 O5 B5w B5 MM KK LL LN ARI hLm hln Y56 S5
              have LT : Hid (TL.length = m) := by unfold Hid; rw [PM.out.length_eq, HM.out]
              have FT : Hid ((TL.map Qe.of).flatten.length ≤ 10000) := by unfold Hid; rw [((PM.out.map Qe.of).flatten).length_eq]; exact HF.out
              go_wp2_with fail
              refine (solve_any a n _ es wr (QE.out.below XT.out) (by have := HM.out; omega) HF.out (by omega) (by omega)).mono ?_
              rintro e w7 ⟨ka, km, kc, bx, vb, vus, K, V, cf, rfl, hko, hvs, hfd, hcf, hb7⟩
              have HFD : Hid (Found a n es K V) := hfd
              have HCF : Hid (cf = true ↔ ∃ e ∈ useQ a n es, FailP a K V e) := hcf
              have KO7 : Hid (OwnZ wr.heap.size w7 (.slice ka km kc) km (kRise K a)) := hko
              have V7 : Hid (Vs w7 bx vb a n vus K V) := hvs
              have X47 : Hid (Below w4.heap.size w4 w7) := on_below XT.out hb7
              have QT7 : Hid (Qs w7 (.slice ta m tc) TL) := QT.out.below hb7
              clear hko hvs hfd hcf hb7 QT XT
              go_wp2_with fail
              refine (solve_any a n _ TL w7 QT7.out (by have := LT.out; omega) FT.out (by omega) (by omega)).mono ?_
              rintro e w8 ⟨ka2, km2, kc2, bx2, vb2, vus2, K2, V2, cf2, rfl, hko, hvs, hfd, hcf, hb8⟩
              obtain ⟨ekr, ecf, ekk, evv⟩ := order_math PM.out HFD.out hfd
              rw [ekr] at hko
              have ekm : km2 = km := by have h1 := hko.len; have h2 := KO7.out.len; omega
              subst ekm
              have ecf2 : cf2 = cf := by rw [Bool.eq_iff_iff, hcf, HCF.out]; exact ecf
              subst ecf2
              have TV : Hid (cf2 = false → ∀ x ∈ K, V2 x = V x) := fun h => evv fun hex => by have h1 := HCF.out.2 hex; rw [h] at h1; cases h1
              have TKK : Hid (∀ x, x ∈ K2 ↔ x ∈ K) := ekk
              have KO8 : Hid (OwnZ wr.heap.size w8 (.slice ka km2 kc) km2 (kRise K a)) := KO7.out.below hb8
              have KP8 : Hid (OwnZ w7.heap.size w8 (.slice ka2 km2 kc2) km2 (kRise K a)) := hko
              have V8 : Hid (Vs w8 bx vb a n vus K V) := V7.out.below hb8
              have U8 : Hid (Vs w8 bx2 vb2 a n vus2 K2 V2) := hvs
              have X48 : Hid (Below w4.heap.size w4 w8) := on_below X47.out hb8
              clear hko hvs hfd hcf hb8 HFD HCF KO7 V7 X47 QT7 ekr ecf ekk evv
              go_upto_region 26 with fail
              obtain ⟨w9, hw9⟩ : ∃ x, w8.alloc (.cells #[.slice ka km2 kc, .slice (some ⟨vb, 0, none⟩) a a, .bool cf2] 33) = x := ⟨_, rfl⟩
              have Y89 : Below w8.heap.size w8 w9 := by rw [← hw9]; exact below_alloc _ _
              have R9 : Hid (RsB w9 w8.heap.size (.slice ka km2 kc) (.slice (some ⟨vb, 0, none⟩) a a) cf2) := by rw [← hw9]; exact RsB.new _ _ _ _
              have S9 : w9.heap.size = w8.heap.size + 1 := by rw [← hw9]; simp
              rw [hw9]
              obtain ⟨w10, hw10⟩ : ∃ x, w9.alloc (.cells #[.slice ka2 km2 kc2, .slice (some ⟨vb2, 0, none⟩) a a, .bool cf2] 33) = x := ⟨_, rfl⟩
              have Y90 : Below w9.heap.size w9 w10 := by rw [← hw10]; exact below_alloc _ _
              have P10 : Hid (RsB w10 (w8.heap.size + 1) (.slice ka2 km2 kc2) (.slice (some ⟨vb2, 0, none⟩) a a) cf2) := by rw [← hw10, ← S9]; exact RsB.new _ _ _ _
              have R10 : Hid (RsB w10 w8.heap.size (.slice ka km2 kc) (.slice (some ⟨vb, 0, none⟩) a a) cf2) := R9.out.below Y90
              have Y80 : Below w8.heap.size w8 w10 := on_below Y89 Y90
              rw [hw10]
              obtain ⟨rb2, hrb2⟩ : ∃ x, w8.heap.size + 1 = x := ⟨_, rfl⟩
              rw [hrb2] at P10 ⊢
              obtain ⟨rb, hrb⟩ : ∃ x, w8.heap.size = x := ⟨_, rfl⟩
              rw [hrb] at R10 ⊢
              have ZK : Hid (Zs w10 (.slice ka km2 kc) (kRise K a)) := (KO8.out.below Y80).zs
              have ZP : Hid (Zs w10 (.slice ka2 km2 kc2) (kRise K a)) := (KP8.out.below Y80).zs
              have V10 : Hid (Vs w10 bx vb a n vus K V) := V8.out.below Y80
              have U10 : Hid (Vs w10 bx2 vb2 a n vus2 K2 V2) := U8.out.below Y80
              have X10 : Hid (Below w.heap.size w w10) := on_below X4.out (on_below X48.out Y80)
              clear hw9 Y89 R9 S9 hw10 Y90 Y80 hrb hrb2 KO8 KP8 V8 U8 X48
              obtain ⟨r0, r1, r2⟩ := R10.out.cells
              obtain ⟨s0, s1, s2⟩ := P10.out.cells
              go_wp2_with fail
              refine (same9_any _ _ (kRise K a) (kRise K a) w10 ZK.out ZP.out).mono ?_
              rintro e w11 ⟨rfl, hb⟩
              rw [sameI_self]
              have R11 : Hid (RsB w11 rb (.slice ka km2 kc) (.slice (some ⟨vb, 0, none⟩) a a) cf2) := R10.out.below hb
              have P11 : Hid (RsB w11 rb2 (.slice ka2 km2 kc2) (.slice (some ⟨vb2, 0, none⟩) a a) cf2) := P10.out.below hb
              have V11 : Hid (Vs w11 bx vb a n vus K V) := V10.out.below hb
              have U11 : Hid (Vs w11 bx2 vb2 a n vus2 K2 V2) := U10.out.below hb
              have X11 : Hid (Below w.heap.size w w11) := on_below X10.out hb
              clear hb r0 r1 r2 s0 s1 s2 R10 P10 V10 U10 X10 ZK ZP
              obtain ⟨r0, r1, r2⟩ := R11.out.cells
              obtain ⟨s0, s1, s2⟩ := P11.out.cells
              cases cf2 with
              | true =>
                go_wp2
                clear r0 r1 r2 s0 s1 s2
                go_loopw [138] (fun iv wr => ∃ (i : Nat), i ≤ a ∧ iv = .int .i64 i ∧ Hid (Below w11.heap.size w11 wr)) (fun iv _ => a - (intOf iv).toNat)
                case atStart => exact ⟨0, by omega, rfl, Below.refl _ _⟩
                case round =>
                  obtain ⟨i, hi, rfl, BB⟩ := hrel
                  obtain ⟨r0, r1, r2⟩ := (R11.out.below BB.out).cells
                  obtain ⟨s0, s1, s2⟩ := (P11.out.below BB.out).cells
                  by_cases hlt2 : i < a
                  · have hltI : (i : Int) < (a : Int) := by omega
                    go_upto_region 31 with fail
                    go_quiet (fail)
                    have HN : Hid (Below w11.heap.size w11 (wr.drewN nq)) := below_drewN BB.out nq
                    clear r0 r1 r2 s0 s1 s2
                    go_wp2
                    go_roundw
                    case rel => exact ⟨i + 1, by omega, by go_num, HN⟩
                    case measure => simp [intOf]; omega
                  · obtain rfl : a = i := by omega
                    have XE := on_below X11.out BB.out
                    go_wp2
                    go_ret
                    exact ⟨rfl, XE⟩
              | false =>
                have TV2 : Hid (∀ x ∈ K, V2 x = V x) := TV.out rfl
                go_wp2
                clear r0 r1 r2 s0 s1 s2
                go_loopw [138] (fun iv wr => ∃ (i : Nat), i ≤ a ∧ iv = .int .i64 i ∧ Hid (Below w11.heap.size w11 wr)) (fun iv _ => a - (intOf iv).toNat)
                case atStart => exact ⟨0, by omega, rfl, Below.refl _ _⟩
                case round =>
                  obtain ⟨i, hi, rfl, BB⟩ := hrel
                  obtain ⟨r0, r1, r2⟩ := (R11.out.below BB.out).cells
                  obtain ⟨s0, s1, s2⟩ := (P11.out.below BB.out).cells
                  by_cases hlt2 : i < a
                  · have hltI : (i : Int) < (a : Int) := by omega
                    obtain ⟨u1, hu1, cu1⟩ := (V11.out.below BB.out).at hlt2
                    obtain ⟨u2, hu2, cu2⟩ := (U11.out.below BB.out).at hlt2
                    obtain ⟨X, hB1, hB2⟩ : ∃ X, Bs w11 u1 X ∧ Bs w11 u2 X := by
                      refine ⟨if (i : Int) ∈ K then V i else [], V11.out.parts.2 i u1 _ hu1 (xsV_at hlt2), ?_⟩
                      have h1 := U11.out.parts.2 i u2 _ hu2 (xsV_at hlt2)
                      by_cases hk : (i : Int) ∈ K
                      · rw [if_pos ((TKK.out i).2 hk), TV2.out i hk] at h1
                        rw [if_pos hk]
                        exact h1
                      · rw [if_neg (fun h => hk ((TKK.out i).1 h))] at h1
                        rw [if_neg hk]
                        exact h1
                    obtain ⟨a1, c1, rfl, -, -⟩ := bs_shape hB1
                    obtain ⟨a2, c2, rfl, -, -⟩ := bs_shape hB2
                    have k1 := fun n => conv_bytes (hB1.below (below_drewN BB.out n))
                    have k2 := fun n => conv_bytes (hB2.below (below_drewN BB.out n))
                    have k1' := conv_bytes (hB1.below BB.out)
                    have k2' := conv_bytes (hB2.below BB.out)
                    have hst := str_toList
                    clear hB1 hB2 hu1 hu2
                    go_upto_region 31 with fail
                    go_quiet (fail)
                    have HN : Hid (Below w11.heap.size w11 (wr.drewN nq)) := below_drewN BB.out nq
                    clear r0 r1 r2 s0 s1 s2 cu1 cu2
                    go_wp2
                    go_roundw
                    case rel => exact ⟨i + 1, by omega, by go_num, HN⟩
                    case measure => simp [intOf]; omega
                  · obtain rfl : a = i := by omega
                    have XE := on_below X11.out BB.out
                    go_wp2
                    go_ret
                    exact ⟨rfl, XE⟩
            · have hne : ((ln : Int) == (m : Int)) = false := by simp; omega
              have LN2 := LN wr rfl
              have d3 : decide ((ln : Int) = (m : Int)) = false := decide_eq_false (by omega)
              have OZ : Hid (OwnE w4.heap.size (wr.alloc (.cells #[] 43)) (.slice (some ⟨wr.heap.size, 0, none⟩) 0 0) 0 []) := OwnE.zero wr XT.out.size
              have XZ : Hid (Below w4.heap.size w4 (wr.alloc (.cells #[] 43))) := on_below XT.out (below_alloc _ _)
              have SRC : Hid (Sl 2 (wr.alloc (.cells #[] 43)) (.slice la m lc) m (es.flatMap Qe.cells)) := by
                have h1 := (QE.out.below XZ.out).1
                rw [HM.out] at h1
                exact h1
              have ON : Hid (∀ u ∈ es.flatMap Qe.cells, u.oneCell' = true) := e_oneCell (w := w4) QE.out.2
              clear MM KK LL hln Y56 S5 O5 B5 B5w LN ARI XT
              go_wp2_with (at_builtin; refine wpList_addE _ rfl (.tmp 87) (.tmp 88) rfl w4.heap.size (.slice (some ⟨wr.heap.size, 0, none⟩) 0 0) 0 _ rfl OZ.out _ m es rfl SRC.out ON.out (by omega) XZ.out.size ?_; intro a9 k9 w9 ho9 hg9)
              rw [Nat.zero_add, List.nil_append] at ho9
              have X9 : Hid (Below w4.heap.size w4 w9) := XZ.out.grown hg9 XZ.out.size (fun k hk => (OZ.out.lt k hk).1)
              have O9 : Hid (OwnE w4.heap.size w9 (.slice a9 m k9) m es) := ho9
              clear ho9 hg9 OZ XZ SRC ON LN2
              obtain ⟨zb, hzb⟩ : ∃ x, wr.heap.size = x := ⟨_, rfl⟩
              rw [hzb]
              clear hzb
              go_wp2
              go_loopw [13, 14] (fun iv kv wr => ∃ (i : Nat) (kI : Int) (TL : List Qe), i ≤ m ∧ kI = (m : Int) - 1 - (i : Int) ∧ iv = .int .i64 i ∧ kv = .int .i64 kI ∧ Hid (OwnE w4.heap.size wr (.slice a9 m k9) m TL) ∧ Hid (TL.Perm es) ∧ Hid (Below w4.heap.size w4 wr)) (fun iv _ _ => m - (intOf iv).toNat)
              case atStart => exact ⟨0, (m : Int) - 1, es, by omega, by omega, rfl, rfl, O9.out, List.Perm.refl _, X9.out⟩
              case round =>
                clear O9 X9
                obtain ⟨i, kI, TL, hi, hkI, rfl, rfl, OO, PM, XT⟩ := hrel
                by_cases hlt : (i : Int) < kI
                · obtain ⟨k, rfl⟩ : ∃ k : Nat, kI = (k : Int) := ⟨kI.toNat, by omega⟩
                  have hk : k < m := by omega
                  have hltN : i < m := by omega
                  have LT : TL.length = m := OO.out.len
                  obtain ⟨⟨ao, av, af, ax⟩, ha⟩ : ∃ e, TL[i]? = some e := ⟨_, List.getElem?_eq_getElem (by rw [LT]; exact hltN)⟩
                  obtain ⟨⟨bo, bv, bf, bx⟩, hb⟩ : ∃ e, TL[k]? = some e := ⟨_, List.getElem?_eq_getElem (by rw [LT]; exact hk)⟩
                  have EA : QeP wr ⟨ao, av, af, ax⟩ := (QE.out.2 _ (PM.out.mem_iff.1 (List.mem_of_getElem? ha))).below XT.out
                  have EB : QeP wr ⟨bo, bv, bf, bx⟩ := (QE.out.2 _ (PM.out.mem_iff.1 (List.mem_of_getElem? hb))).below XT.out
                  obtain ⟨a1, a3, rfl, -, -⟩ := zs_shape (show Zs wr ao af from EA.1)
                  obtain ⟨a4, a6, rfl, -, -⟩ := bs_shape (show Bs wr av ax from EA.2)
                  obtain ⟨b1, b3, rfl, -, -⟩ := zs_shape (show Zs wr bo bf from EB.1)
                  obtain ⟨b4, b6, rfl, -, -⟩ := bs_shape (show Bs wr bv bx from EB.2)
                  obtain ⟨a2, ha2⟩ : ∃ x, af.length = x := ⟨_, rfl⟩
                  obtain ⟨a5, ha5⟩ : ∃ x, ax.length = x := ⟨_, rfl⟩
                  obtain ⟨b2, hb2⟩ : ∃ x, bf.length = x := ⟨_, rfl⟩
                  obtain ⟨b5, hb5⟩ : ∃ x, bx.length = x := ⟨_, rfl⟩
                  simp only [ha2, ha5] at ha
                  simp only [hb2, hb5] at hb
                  have HA : Hid (TL[i]? = some ⟨.slice a1 a2 a3, .slice a4 a5 a6, af, ax⟩) := ha
                  have HB : Hid (TL[k]? = some ⟨.slice b1 b2 b3, .slice b4 b5 b6, bf, bx⟩) := hb
                  clear EA EB ha2 ha5 hb2 hb5
                  obtain ⟨g, rfl⟩ : ∃ g, a9 = some ⟨g, 0, none⟩ := by
                    rcases OO.out.2 with ⟨-, h0⟩ | ⟨g, c, cur, h1, -⟩
                    · omega
                    · injection h1 with h1
                      exact ⟨g, h1⟩
                  have hgB : w4.heap.size ≤ g := (OO.out.lt g rfl).1
                  have hkI2 : (k : Int) < (m : Int) := by omega
                  have hiI2 : (i : Int) < (m : Int) := by omega
                  have HKI : Hid ((k : Int) = (m : Int) - 1 - (i : Int)) := hkI
                  clear ha hb LT hkI
                  go_upto_region 24 with fail
                  have HB1 : Hid ((TL.set i (⟨.slice b1 b2 b3, .slice b4 b5 b6, bf, bx⟩ : Qe))[k]? = some (⟨.slice b1 b2 b3, .slice b4 b5 b6, bf, bx⟩ : Qe)) := by unfold Hid; rw [List.getElem?_set_ne (by omega)]; exact HB.out
                  refine wp_region_any (by kernel_rfl) ?_
                  obtain ⟨gs, hgs⟩ : ∃ gs : List (Value → World → Prop), gs = [IsV (Value.slice (some { block := g, off := 0 }) m k9), IsV (Value.int IntKind.i64 ↑i), IsV (Value.slice (some { block := g, off := 0 }) m k9), IsV (Value.int IntKind.i64 ↑k), IsV (Value.slice (some { block := g, off := 0 }) m k9), IsV (Value.int IntKind.i64 ↑k), IsV (.pointer (some ⟨g, k * 2, none⟩)), IsV (.agg #[.slice b1 b2 b3, .slice b4 b5 b6]), IsV (Value.slice (some { block := g, off := 0 }) m k9), IsV (Value.int IntKind.i64 ↑i), IsV (.pointer (some ⟨g, i * 2, none⟩)), IsV (.agg #[.slice a1 a2 a3, .slice a4 a5 a6]), IsV (.pointer (some ⟨g, i * 2, none⟩)), IsAnyV, IsV (.pointer (some ⟨g, k * 2, none⟩)), IsAnyV] := ⟨_, rfl⟩
                  have g0 : Hid (gs[0]? = some (IsV (Value.slice (some { block := g, off := 0 }) m k9))) := by unfold Hid; rw [hgs]; rfl
                  have g1 : Hid (gs[1]? = some (IsV (Value.int IntKind.i64 ↑i))) := by unfold Hid; rw [hgs]; rfl
                  have g2 : Hid (gs[2]? = some (IsV (Value.slice (some { block := g, off := 0 }) m k9))) := by unfold Hid; rw [hgs]; rfl
                  have g3 : Hid (gs[3]? = some (IsV (Value.int IntKind.i64 ↑k))) := by unfold Hid; rw [hgs]; rfl
                  have g4 : Hid (gs[4]? = some (IsV (Value.slice (some { block := g, off := 0 }) m k9))) := by unfold Hid; rw [hgs]; rfl
                  have g5 : Hid (gs[5]? = some (IsV (Value.int IntKind.i64 ↑k))) := by unfold Hid; rw [hgs]; rfl
                  have g6 : Hid (gs[6]? = some (IsV (.pointer (some ⟨g, k * 2, none⟩)))) := by unfold Hid; rw [hgs]; rfl
                  have g7 : Hid (gs[7]? = some (IsV (.agg #[.slice b1 b2 b3, .slice b4 b5 b6]))) := by unfold Hid; rw [hgs]; rfl
                  have g8 : Hid (gs[8]? = some (IsV (Value.slice (some { block := g, off := 0 }) m k9))) := by unfold Hid; rw [hgs]; rfl
                  have g9 : Hid (gs[9]? = some (IsV (Value.int IntKind.i64 ↑i))) := by unfold Hid; rw [hgs]; rfl
                  have g10 : Hid (gs[10]? = some (IsV (.pointer (some ⟨g, i * 2, none⟩)))) := by unfold Hid; rw [hgs]; rfl
                  have g11 : Hid (gs[11]? = some (IsV (.agg #[.slice a1 a2 a3, .slice a4 a5 a6]))) := by unfold Hid; rw [hgs]; rfl
                  have g12 : Hid (gs[12]? = some (IsV (.pointer (some ⟨g, i * 2, none⟩)))) := by unfold Hid; rw [hgs]; rfl
                  have g13 : Hid (gs[13]? = some (IsAnyV)) := by unfold Hid; rw [hgs]; rfl
                  have g14 : Hid (gs[14]? = some (IsV (.pointer (some ⟨g, k * 2, none⟩)))) := by unfold Hid; rw [hgs]; rfl
                  have g15 : Hid (gs[15]? = some (IsAnyV)) := by unfold Hid; rw [hgs]; rfl
                  have gk : Hid (∀ p ∈ gs, ∀ v (U U' : World), p v U → p v U') := by
                    unfold Hid
                    rw [hgs]
                    simp only [List.forall_mem_cons]
                    exact ⟨(fun _ _ _ h => h), (fun _ _ _ h => h), (fun _ _ _ h => h), (fun _ _ _ h => h), (fun _ _ _ h => h), (fun _ _ _ h => h), (fun _ _ _ h => h), (fun _ _ _ h => h), (fun _ _ _ h => h), (fun _ _ _ h => h), (fun _ _ _ h => h), (fun _ _ _ h => h), (fun _ _ _ h => h), (fun _ _ _ h => h), (fun _ _ _ h => h), (fun _ _ _ h => h), by simp⟩
                  clear hgs
                  have JS : Hid (∀ W W', Below W.heap.size W W' → (fun W => KeepsBut (fun z => z = g) wr W) W → (fun W => KeepsBut (fun z => z = g) wr W) W') := fun W W' hb h => h.trans (KeepsBut.ofBelow hb)
                  have st13 : Hid (Stays (IsRowX w4.heap.size g m k9 (TL.set i (⟨.slice b1 b2 b3, .slice b4 b5 b6, bf, bx⟩ : Qe)))) := stays_rowX _ _ _ _ _
                  have st15 : Hid (Stays (IsRowX w4.heap.size g m k9 ((TL.set i (⟨.slice b1 b2 b3, .slice b4 b5 b6, bf, bx⟩ : Qe)).set k (⟨.slice a1 a2 a3, .slice a4 a5 a6, af, ax⟩ : Qe)))) := stays_rowX _ _ _ _ _
                  have su13 : Hid (∀ W W', Below W.heap.size W W' → (fun W => OwnE w4.heap.size W (.slice (some ⟨g, 0, none⟩) m k9) m TL) W → (fun W => OwnE w4.heap.size W (.slice (some ⟨g, 0, none⟩) m k9) m TL) W') := fun W W' hb h => OwnE.below h hb
                  refine wpAny_inv4 (fun listed ac W => ∃ xv : Nat → Value, ac = ⟨#[Value.agg #[Value.int IntKind.u8 ↑A, Value.int IntKind.u8 ↑S, pv, qv], Value.int IntKind.u8 ↑T, Value.pointer (some { block := w.heap.size, off := 0 }), undef, Value.bool false, Value.int IntKind.i64 ↑a, Value.int IntKind.i64 ↑n, Value.slice la m lc, uv, Value.slice (some { block := g, off := 0 }) m k9, u10, Value.map (some mb), u12, Value.int IntKind.i64 ↑i, Value.int IntKind.i64 ↑k, undef, undef, undef, Value.bool true, Value.bool false, Value.pointer (some { block := w.heap.size, off := 2 }), pv, Value.bool false, Value.pointer (some { block := w.heap.size, off := 0 }), Value.int IntKind.u8 ↑A, Value.int IntKind.i64 ↑A, Value.int IntKind.i64 ↑a, Value.pointer (some { block := w.heap.size, off := 1 }), Value.int IntKind.u8 ↑S, Value.int IntKind.i64 ↑S, Value.int IntKind.i64 ↑n, Value.tuple #[Value.slice la m lc, uv], Value.agg #[Value.int IntKind.u8 ↑A, Value.int IntKind.u8 ↑S, pv, qv], Value.tuple #[Value.slice la m lc, uv], Value.slice la m lc, uv, Value.slice la m lc, Value.int IntKind.i64 ↑m, Value.int IntKind.i64 ↑m, Value.bool false, u40, u41, u42, u43, u44, u45, u46, u47, u48, u49, u50, u51, u52, u53, u54, u55, u56, u57, u58, u59, Value.map (some mb), Value.slice la m lc, Value.int IntKind.i64 ↑m, Value.int IntKind.i64 ↑m, Value.bool false, u65, u66, u67, u68, u69, u70, u71, u72, u73, u74, u75, u76, u77, u78, u79, u80, u81, Value.map (some mb), Value.int IntKind.i64 ↑ln, Value.slice la m lc, Value.int IntKind.i64 ↑m, Value.bool true, Value.slice (some { block := zb, off := 0 }) 0 0, Value.slice la m lc, Value.slice (some { block := g, off := 0 }) m k9, Value.slice la m lc, Value.int IntKind.i64 ↑m, Value.int IntKind.i64 (↑m - (1 : Int)), Value.int IntKind.i64 ↑i, Value.int IntKind.i64 ↑k, Value.bool true, u96, u97, u98, u99, xv 0, xv 1, xv 2, xv 3, xv 4, xv 5, xv 6, xv 7, xv 8, xv 9, xv 10, xv 11, xv 12, xv 14, undef, undef, undef, undef, undef, undef, undef, undef, undef, undef, undef, undef, undef, undef, undef, undef, undef, undef, undef, undef, undef, undef, undef, undef, undef, undef, undef, undef, undef, undef, undef, undef, undef, undef, undef, undef, undef, undef, undef, undef, undef, undef, undef, undef, undef, undef, undef, undef, undef, undef, undef, undef, undef], []⟩ ∧ (fun W => KeepsBut (fun z => z = g) wr W) W ∧ Lst gs listed xv W ∧ Fd listed xv W 13 15 (IsRowX w4.heap.size g m k9 (TL.set i (⟨.slice b1 b2 b3, .slice b4 b5 b6, bf, bx⟩ : Qe))) ∧ Fe listed xv W 15 (IsRowX w4.heap.size g m k9 ((TL.set i (⟨.slice b1 b2 b3, .slice b4 b5 b6, bf, bx⟩ : Qe)).set k (⟨.slice a1 a2 a3, .slice a4 a5 a6, af, ax⟩ : Qe))) ∧ Fz listed W 13 (fun W => OwnE w4.heap.size W (.slice (some ⟨g, 0, none⟩) m k9) m TL)) (by kernel_rfl) ?_ ?_ _ _ _ _ (by kernel_rfl) (of_decide_eq_true (by kernel_rfl)) (Down.start _) ⟨fun jx => if jx = 0 then u100 else if jx = 1 then u101 else if jx = 2 then u102 else if jx = 3 then u103 else if jx = 4 then u104 else if jx = 5 then u105 else if jx = 6 then u106 else if jx = 7 then u107 else if jx = 8 then u108 else if jx = 9 then u109 else if jx = 10 then u110 else if jx = 11 then u111 else if jx = 12 then u112 else if jx = 14 then u113 else undef, rfl, KeepsBut.drew _ _, Lst.start _ _ _ _, Fd.start _ _ _ _ _ _, Fe.start _ _ _ _ _, Fz.start (OwnE.below OO.out (below0 _))⟩
                  · go_light
                    rintro listed ac W ⟨xv, rfl, hb, hG, hF13, hF15, hU13⟩ hD i hi hnl hd
                    have hin : i < 16 := hi
                    clear hi
                    have hcase : i = 0 ∨ i = 1 ∨ i = 2 ∨ i = 3 ∨ i = 4 ∨ i = 5 ∨ i = 6 ∨ i = 7 ∨ i = 8 ∨ i = 9 ∨ i = 10 ∨ i = 11 ∨ i = 12 ∨ i = 13 ∨ i = 14 ∨ i = 15 := by omega
                    rcases hcase with rfl | rfl | rfl | rfl | rfl | rfl | rfl | rfl | rfl | rfl | rfl | rfl | rfl | rfl | rfl | rfl
                    · refine wpOp_step rfl (fun K' hK => ?_)
                      clear hd hin hD
                      go_simp
                      exact hK _ _ ⟨updV xv 0 (Value.slice (some { block := g, off := 0 }) m k9), by simp [updV], hb, hG.any gk.out g0.out _ rfl, hF13.step (fun _ h => h) (by decide) (by decide) _, hF15.step (fun _ h => h) (by decide) _, hU13.step (fun h => h) (by decide)⟩
                    · refine wpOp_step rfl (fun K' hK => ?_)
                      clear hd hin hD
                      go_simp
                      exact hK _ _ ⟨updV xv 1 (Value.int IntKind.i64 ↑i), by simp [updV], hb, hG.any gk.out g1.out _ rfl, hF13.step (fun _ h => h) (by decide) (by decide) _, hF15.step (fun _ h => h) (by decide) _, hU13.step (fun h => h) (by decide)⟩
                    · refine wpOp_step rfl (fun K' hK => ?_)
                      simp [Region.binds] at hd
                      clear hd hin hD
                      go_simp
                      exact hK _ _ ⟨updV xv 2 (Value.slice (some { block := g, off := 0 }) m k9), by simp [updV], hb, hG.any gk.out g2.out _ rfl, hF13.step (fun _ h => h) (by decide) (by decide) _, hF15.step (fun _ h => h) (by decide) _, hU13.step (fun h => h) (by decide)⟩
                    · refine wpOp_step rfl (fun K' hK => ?_)
                      simp [Region.binds] at hd
                      clear hd hin hD
                      go_simp
                      exact hK _ _ ⟨updV xv 3 (Value.int IntKind.i64 ↑k), by simp [updV], hb, hG.any gk.out g3.out _ rfl, hF13.step (fun _ h => h) (by decide) (by decide) _, hF15.step (fun _ h => h) (by decide) _, hU13.step (fun h => h) (by decide)⟩
                    · refine wpOp_step rfl (fun K' hK => ?_)
                      clear hd hin hD
                      go_simp
                      exact hK _ _ ⟨updV xv 4 (Value.slice (some { block := g, off := 0 }) m k9), by simp [updV], hb, hG.any gk.out g4.out _ rfl, hF13.step (fun _ h => h) (by decide) (by decide) _, hF15.step (fun _ h => h) (by decide) _, hU13.step (fun h => h) (by decide)⟩
                    · refine wpOp_step rfl (fun K' hK => ?_)
                      clear hd hin hD
                      go_simp
                      exact hK _ _ ⟨updV xv 5 (Value.int IntKind.i64 ↑k), by simp [updV], hb, hG.any gk.out g5.out _ rfl, hF13.step (fun _ h => h) (by decide) (by decide) _, hF15.step (fun _ h => h) (by decide) _, hU13.step (fun h => h) (by decide)⟩
                    · refine wpOp_step rfl (fun K' hK => ?_)
                      simp [Region.binds] at hd
                      have e4 : xv 4 = Value.slice (some { block := g, off := 0 }) m k9 := hG.get g4.out (by simp [hd])
                      have e5 : xv 5 = Value.int IntKind.i64 ↑k := hG.get g5.out (by simp [hd])
                      clear hd hin hD
                      go_simp
                      exact hK _ _ ⟨updV xv 6 (.pointer (some ⟨g, k * 2, none⟩)), by simp [updV, e4, e5], hb, hG.any gk.out g6.out _ rfl, hF13.step (fun _ h => h) (by decide) (by decide) _, hF15.step (fun _ h => h) (by decide) _, hU13.step (fun h => h) (by decide)⟩
                    · refine wpOp_step rfl (fun K' hK => ?_)
                      simp [Region.binds] at hd
                      have e6 : xv 6 = .pointer (some ⟨g, k * 2, none⟩) := hG.get g6.out (by simp [hd])
                      have f13 : listed.getD 13 false = false := by
                        cases hx : listed.getD 13 false with
                        | false => rfl
                        | true =>
                          have r7 : listed.getD 7 false = true := by have h := hD 13 (by decide) hx; simp [Region.binds] at h; simp [h]
                          rw [getD_false hnl] at r7; cases r7
                      have u13 := hU13 f13
                      obtain ⟨cx0, cx1⟩ : W.cell? ⟨g, k * 2, none⟩ = some (.slice b1 b2 b3) ∧ W.cell? ⟨g, k * 2 + 1, none⟩ = some (.slice b4 b5 b6) := own_cellsE u13 HB.out
                      clear hd hin hD
                      go_simp
                      exact hK _ _ ⟨updV xv 7 (.agg #[.slice b1 b2 b3, .slice b4 b5 b6]), by simp [updV, e6], hb, hG.any gk.out g7.out _ rfl, hF13.step (fun _ h => h) (by decide) (by decide) _, hF15.step (fun _ h => h) (by decide) _, hU13.step (fun h => h) (by decide)⟩
                    · refine wpOp_step rfl (fun K' hK => ?_)
                      clear hd hin hD
                      go_simp
                      exact hK _ _ ⟨updV xv 8 (Value.slice (some { block := g, off := 0 }) m k9), by simp [updV], hb, hG.any gk.out g8.out _ rfl, hF13.step (fun _ h => h) (by decide) (by decide) _, hF15.step (fun _ h => h) (by decide) _, hU13.step (fun h => h) (by decide)⟩
                    · refine wpOp_step rfl (fun K' hK => ?_)
                      clear hd hin hD
                      go_simp
                      exact hK _ _ ⟨updV xv 9 (Value.int IntKind.i64 ↑i), by simp [updV], hb, hG.any gk.out g9.out _ rfl, hF13.step (fun _ h => h) (by decide) (by decide) _, hF15.step (fun _ h => h) (by decide) _, hU13.step (fun h => h) (by decide)⟩
                    · refine wpOp_step rfl (fun K' hK => ?_)
                      simp [Region.binds] at hd
                      have e8 : xv 8 = Value.slice (some { block := g, off := 0 }) m k9 := hG.get g8.out (by simp [hd])
                      have e9 : xv 9 = Value.int IntKind.i64 ↑i := hG.get g9.out (by simp [hd])
                      clear hd hin hD
                      go_simp
                      exact hK _ _ ⟨updV xv 10 (.pointer (some ⟨g, i * 2, none⟩)), by simp [updV, e8, e9], hb, hG.any gk.out g10.out _ rfl, hF13.step (fun _ h => h) (by decide) (by decide) _, hF15.step (fun _ h => h) (by decide) _, hU13.step (fun h => h) (by decide)⟩
                    · refine wpOp_step rfl (fun K' hK => ?_)
                      simp [Region.binds] at hd
                      have e10 : xv 10 = .pointer (some ⟨g, i * 2, none⟩) := hG.get g10.out (by simp [hd])
                      have f13 : listed.getD 13 false = false := by
                        cases hx : listed.getD 13 false with
                        | false => rfl
                        | true =>
                          have r11 : listed.getD 11 false = true := by have h := hD 13 (by decide) hx; simp [Region.binds] at h; simp [h]
                          rw [getD_false hnl] at r11; cases r11
                      have u13 := hU13 f13
                      obtain ⟨cx0, cx1⟩ : W.cell? ⟨g, i * 2, none⟩ = some (.slice a1 a2 a3) ∧ W.cell? ⟨g, i * 2 + 1, none⟩ = some (.slice a4 a5 a6) := own_cellsE u13 HA.out
                      clear hd hin hD
                      go_simp
                      exact hK _ _ ⟨updV xv 11 (.agg #[.slice a1 a2 a3, .slice a4 a5 a6]), by simp [updV, e10], hb, hG.any gk.out g11.out _ rfl, hF13.step (fun _ h => h) (by decide) (by decide) _, hF15.step (fun _ h => h) (by decide) _, hU13.step (fun h => h) (by decide)⟩
                    · refine wpOp_step rfl (fun K' hK => ?_)
                      simp [Region.binds] at hd
                      have e0 : xv 0 = Value.slice (some { block := g, off := 0 }) m k9 := hG.get g0.out (by simp [hd])
                      have e1 : xv 1 = Value.int IntKind.i64 ↑i := hG.get g1.out (by simp [hd])
                      clear hd hin hD
                      go_simp
                      exact hK _ _ ⟨updV xv 12 (.pointer (some ⟨g, i * 2, none⟩)), by simp [updV, e0, e1], hb, hG.any gk.out g12.out _ rfl, hF13.step (fun _ h => h) (by decide) (by decide) _, hF15.step (fun _ h => h) (by decide) _, hU13.step (fun h => h) (by decide)⟩
                    · refine wpOp_step rfl (fun K' hK => ?_)
                      simp [Region.binds] at hd
                      have e12 : xv 12 = .pointer (some ⟨g, i * 2, none⟩) := hG.get g12.out (by simp [hd])
                      have e7 : xv 7 = .agg #[.slice b1 b2 b3, .slice b4 b5 b6] := hG.get g7.out (by simp [hd])
                      have f15 : listed.getD 15 false = false := by
                        cases hx : listed.getD 15 false with
                        | false => rfl
                        | true =>
                          have r13 : listed.getD 13 false = true := by have h := hD 15 (by decide) hx; simp [Region.binds] at h; simp [h]
                          rw [getD_false hnl] at r13; cases r13
                      have u13 := hU13.get hnl
                      clear hd hin hD
                      obtain ⟨cx0, cx1⟩ : W.cell? ⟨g, i * 2, none⟩ = some (.slice a1 a2 a3) ∧ W.cell? ⟨g, i * 2 + 1, none⟩ = some (.slice a4 a5 a6) := own_cellsE u13 HA.out
                      have fr0 := OwnE.fro u13 (i * 2)
                      have fr1 := OwnE.fro u13 (i * 2 + 1)
                      go_simp
                      exact hK _ _ ⟨updV xv 13 undef, by simp [updV, e12, e7], (hb.trans (KeepsBut.setCell _ _ _ _ rfl)).trans (KeepsBut.setCell _ _ _ _ rfl), hG.any gk.out g13.out _ trivial, Fd.new (OwnE.set u13 hltN (⟨.slice b1 b2 b3, .slice b4 b5 b6, bf, bx⟩ : Qe)), Fe.yet f15 (by decide) _, Fz.off hnl⟩
                    · refine wpOp_step rfl (fun K' hK => ?_)
                      simp [Region.binds] at hd
                      have e2 : xv 2 = Value.slice (some { block := g, off := 0 }) m k9 := hG.get g2.out (by simp [hd])
                      have e3 : xv 3 = Value.int IntKind.i64 ↑k := hG.get g3.out (by simp [hd])
                      clear hd hin hD
                      go_simp
                      exact hK _ _ ⟨updV xv 14 (.pointer (some ⟨g, k * 2, none⟩)), by simp [updV, e2, e3], hb, hG.any gk.out g14.out _ rfl, hF13.step (fun _ h => h) (by decide) (by decide) _, hF15.step (fun _ h => h) (by decide) _, hU13.step (fun h => h) (by decide)⟩
                    · refine wpOp_step rfl (fun K' hK => ?_)
                      simp [Region.binds] at hd
                      have e14 : xv 14 = .pointer (some ⟨g, k * 2, none⟩) := hG.get g14.out (by simp [hd])
                      have e11 : xv 11 = .agg #[.slice a1 a2 a3, .slice a4 a5 a6] := hG.get g11.out (by simp [hd])
                      have l13 : listed.getD 13 false = true := by simp [hd]
                      have m13 := hF13.get l13 hnl
                      clear hd hin hD
                      obtain ⟨cx0, cx1⟩ : W.cell? ⟨g, k * 2, none⟩ = some (.slice b1 b2 b3) ∧ W.cell? ⟨g, k * 2 + 1, none⟩ = some (.slice b4 b5 b6) := own_cellsE m13 HB1.out
                      have fr0 := OwnE.fro m13 (k * 2)
                      have fr1 := OwnE.fro m13 (k * 2 + 1)
                      go_simp
                      exact hK _ _ ⟨updV xv 15 undef, by simp [updV, e14, e11], (hb.trans (KeepsBut.setCell _ _ _ _ rfl)).trans (KeepsBut.setCell _ _ _ _ rfl), hG.any gk.out g15.out _ trivial, Fd.off hnl, Fe.new (OwnE.set m13 hk (⟨.slice a1 a2 a3, .slice a4 a5 a6, af, ax⟩ : Qe)), Fz.gone l13 (by decide)⟩
                  · rintro listed ac W ⟨xv, rfl, hb, hG, hF13, hF15, hU13⟩ hall
                    have m15 : Hid ((IsRowX w4.heap.size g m k9 ((TL.set i (⟨.slice b1 b2 b3, .slice b4 b5 b6, bf, bx⟩ : Qe)).set k (⟨.slice a1 a2 a3, .slice a4 a5 a6, af, ax⟩ : Qe))) (xv 15) W) := hF15 (hall 15 (by decide))
                    have XW : Hid ((fun W => KeepsBut (fun z => z = g) wr W) W) := hb
                    clear hall hG hb gk JS g0 g1 g2 g3 g4 g5 g6 g7 g8 g9 g10 g11 g12 g13 g14 g15 hF13 st13 hF15 st15 hU13 su13
                    have O16 : Hid (OwnE w4.heap.size W (.slice (some ⟨g, 0, none⟩) m k9) m ((TL.set i (⟨.slice b1 b2 b3, .slice b4 b5 b6, bf, bx⟩ : Qe)).set k (⟨.slice a1 a2 a3, .slice a4 a5 a6, af, ax⟩ : Qe))) := m15.out
                    have PM2 : Hid (((TL.set i (⟨.slice b1 b2 b3, .slice b4 b5 b6, bf, bx⟩ : Qe)).set k (⟨.slice a1 a2 a3, .slice a4 a5 a6, af, ax⟩ : Qe)).Perm es) := (swap_perm HA.out HB.out).trans PM.out
                    have XT2 : Hid (Below w4.heap.size w4 W) := XT.out.trans (XW.out.below XT.out.size (fun z hz => by rw [hz]; exact hgB))
                    clear m15 XW XT PM OO HA HB HB1
                    go_wp2
                    have hkI := HKI.out
                    go_roundw
                    case rel => exact ⟨i + 1, (k : Int) - 1, _, by omega, by omega, by go_num, by go_num, O16, PM2, XT2⟩
                    case measure => simp [intOf]; omega
                · have QT : Hid (Qs wr (.slice a9 m k9) TL) := OwnE.qs OO.out (fun e he => (QE.out.2 e (PM.out.mem_iff.1 he)).below XT.out)
                  obtain ⟨ta, hta⟩ : ∃ x, x = a9 := ⟨_, rfl⟩
                  obtain ⟨tc, htc⟩ : ∃ x, x = k9 := ⟨_, rfl⟩
                  subst hta
                  subst htc
                  clear OO
                  have LT : Hid (TL.length = m) := by unfold Hid; rw [PM.out.length_eq, HM.out]
                  have FT : Hid ((TL.map Qe.of).flatten.length ≤ 10000) := by unfold Hid; rw [((PM.out.map Qe.of).flatten).length_eq]; exact HF.out
                  go_wp2_with fail
                  refine (solve_any a n _ es wr (QE.out.below XT.out) (by have := HM.out; omega) HF.out (by omega) (by omega)).mono ?_
                  rintro e w7 ⟨ka, km, kc, bx, vb, vus, K, V, cf, rfl, hko, hvs, hfd, hcf, hb7⟩
                  have HFD : Hid (Found a n es K V) := hfd
                  have HCF : Hid (cf = true ↔ ∃ e ∈ useQ a n es, FailP a K V e) := hcf
                  have KO7 : Hid (OwnZ wr.heap.size w7 (.slice ka km kc) km (kRise K a)) := hko
                  have V7 : Hid (Vs w7 bx vb a n vus K V) := hvs
                  have X47 : Hid (Below w4.heap.size w4 w7) := on_below XT.out hb7
                  have QT7 : Hid (Qs w7 (.slice ta m tc) TL) := QT.out.below hb7
                  clear hko hvs hfd hcf hb7 QT XT
                  go_wp2_with fail
                  refine (solve_any a n _ TL w7 QT7.out (by have := LT.out; omega) FT.out (by omega) (by omega)).mono ?_
                  rintro e w8 ⟨ka2, km2, kc2, bx2, vb2, vus2, K2, V2, cf2, rfl, hko, hvs, hfd, hcf, hb8⟩
                  obtain ⟨ekr, ecf, ekk, evv⟩ := order_math PM.out HFD.out hfd
                  rw [ekr] at hko
                  have ekm : km2 = km := by have h1 := hko.len; have h2 := KO7.out.len; omega
                  subst ekm
                  have ecf2 : cf2 = cf := by rw [Bool.eq_iff_iff, hcf, HCF.out]; exact ecf
                  subst ecf2
                  have TV : Hid (cf2 = false → ∀ x ∈ K, V2 x = V x) := fun h => evv fun hex => by have h1 := HCF.out.2 hex; rw [h] at h1; cases h1
                  have TKK : Hid (∀ x, x ∈ K2 ↔ x ∈ K) := ekk
                  have KO8 : Hid (OwnZ wr.heap.size w8 (.slice ka km2 kc) km2 (kRise K a)) := KO7.out.below hb8
                  have KP8 : Hid (OwnZ w7.heap.size w8 (.slice ka2 km2 kc2) km2 (kRise K a)) := hko
                  have V8 : Hid (Vs w8 bx vb a n vus K V) := V7.out.below hb8
                  have U8 : Hid (Vs w8 bx2 vb2 a n vus2 K2 V2) := hvs
                  have X48 : Hid (Below w4.heap.size w4 w8) := on_below X47.out hb8
                  clear hko hvs hfd hcf hb8 HFD HCF KO7 V7 X47 QT7 ekr ecf ekk evv
                  go_upto_region 26 with fail
                  obtain ⟨w9, hw9⟩ : ∃ x, w8.alloc (.cells #[.slice ka km2 kc, .slice (some ⟨vb, 0, none⟩) a a, .bool cf2] 33) = x := ⟨_, rfl⟩
                  have Y89 : Below w8.heap.size w8 w9 := by rw [← hw9]; exact below_alloc _ _
                  have R9 : Hid (RsB w9 w8.heap.size (.slice ka km2 kc) (.slice (some ⟨vb, 0, none⟩) a a) cf2) := by rw [← hw9]; exact RsB.new _ _ _ _
                  have S9 : w9.heap.size = w8.heap.size + 1 := by rw [← hw9]; simp
                  rw [hw9]
                  obtain ⟨w10, hw10⟩ : ∃ x, w9.alloc (.cells #[.slice ka2 km2 kc2, .slice (some ⟨vb2, 0, none⟩) a a, .bool cf2] 33) = x := ⟨_, rfl⟩
                  have Y90 : Below w9.heap.size w9 w10 := by rw [← hw10]; exact below_alloc _ _
                  have P10 : Hid (RsB w10 (w8.heap.size + 1) (.slice ka2 km2 kc2) (.slice (some ⟨vb2, 0, none⟩) a a) cf2) := by rw [← hw10, ← S9]; exact RsB.new _ _ _ _
                  have R10 : Hid (RsB w10 w8.heap.size (.slice ka km2 kc) (.slice (some ⟨vb, 0, none⟩) a a) cf2) := R9.out.below Y90
                  have Y80 : Below w8.heap.size w8 w10 := on_below Y89 Y90
                  rw [hw10]
                  obtain ⟨rb2, hrb2⟩ : ∃ x, w8.heap.size + 1 = x := ⟨_, rfl⟩
                  rw [hrb2] at P10 ⊢
                  obtain ⟨rb, hrb⟩ : ∃ x, w8.heap.size = x := ⟨_, rfl⟩
                  rw [hrb] at R10 ⊢
                  have ZK : Hid (Zs w10 (.slice ka km2 kc) (kRise K a)) := (KO8.out.below Y80).zs
                  have ZP : Hid (Zs w10 (.slice ka2 km2 kc2) (kRise K a)) := (KP8.out.below Y80).zs
                  have V10 : Hid (Vs w10 bx vb a n vus K V) := V8.out.below Y80
                  have U10 : Hid (Vs w10 bx2 vb2 a n vus2 K2 V2) := U8.out.below Y80
                  have X10 : Hid (Below w.heap.size w w10) := on_below X4.out (on_below X48.out Y80)
                  clear hw9 Y89 R9 S9 hw10 Y90 Y80 hrb hrb2 KO8 KP8 V8 U8 X48
                  obtain ⟨r0, r1, r2⟩ := R10.out.cells
                  obtain ⟨s0, s1, s2⟩ := P10.out.cells
                  go_wp2_with fail
                  refine (same9_any _ _ (kRise K a) (kRise K a) w10 ZK.out ZP.out).mono ?_
                  rintro e w11 ⟨rfl, hb⟩
                  rw [sameI_self]
                  have R11 : Hid (RsB w11 rb (.slice ka km2 kc) (.slice (some ⟨vb, 0, none⟩) a a) cf2) := R10.out.below hb
                  have P11 : Hid (RsB w11 rb2 (.slice ka2 km2 kc2) (.slice (some ⟨vb2, 0, none⟩) a a) cf2) := P10.out.below hb
                  have V11 : Hid (Vs w11 bx vb a n vus K V) := V10.out.below hb
                  have U11 : Hid (Vs w11 bx2 vb2 a n vus2 K2 V2) := U10.out.below hb
                  have X11 : Hid (Below w.heap.size w w11) := on_below X10.out hb
                  clear hb r0 r1 r2 s0 s1 s2 R10 P10 V10 U10 X10 ZK ZP
                  obtain ⟨r0, r1, r2⟩ := R11.out.cells
                  obtain ⟨s0, s1, s2⟩ := P11.out.cells
                  cases cf2 with
                  | true =>
                    go_wp2
                    clear r0 r1 r2 s0 s1 s2
                    go_loopw [138] (fun iv wr => ∃ (i : Nat), i ≤ a ∧ iv = .int .i64 i ∧ Hid (Below w11.heap.size w11 wr)) (fun iv _ => a - (intOf iv).toNat)
                    case atStart => exact ⟨0, by omega, rfl, Below.refl _ _⟩
                    case round =>
                      obtain ⟨i, hi, rfl, BB⟩ := hrel
                      obtain ⟨r0, r1, r2⟩ := (R11.out.below BB.out).cells
                      obtain ⟨s0, s1, s2⟩ := (P11.out.below BB.out).cells
                      by_cases hlt2 : i < a
                      · have hltI : (i : Int) < (a : Int) := by omega
                        go_upto_region 31 with fail
                        go_quiet (fail)
                        have HN : Hid (Below w11.heap.size w11 (wr.drewN nq)) := below_drewN BB.out nq
                        clear r0 r1 r2 s0 s1 s2
                        go_wp2
                        go_roundw
                        case rel => exact ⟨i + 1, by omega, by go_num, HN⟩
                        case measure => simp [intOf]; omega
                      · obtain rfl : a = i := by omega
                        have XE := on_below X11.out BB.out
                        go_wp2
                        go_ret
                        exact ⟨rfl, XE⟩
                  | false =>
                    have TV2 : Hid (∀ x ∈ K, V2 x = V x) := TV.out rfl
                    go_wp2
                    clear r0 r1 r2 s0 s1 s2
                    go_loopw [138] (fun iv wr => ∃ (i : Nat), i ≤ a ∧ iv = .int .i64 i ∧ Hid (Below w11.heap.size w11 wr)) (fun iv _ => a - (intOf iv).toNat)
                    case atStart => exact ⟨0, by omega, rfl, Below.refl _ _⟩
                    case round =>
                      obtain ⟨i, hi, rfl, BB⟩ := hrel
                      obtain ⟨r0, r1, r2⟩ := (R11.out.below BB.out).cells
                      obtain ⟨s0, s1, s2⟩ := (P11.out.below BB.out).cells
                      by_cases hlt2 : i < a
                      · have hltI : (i : Int) < (a : Int) := by omega
                        obtain ⟨u1, hu1, cu1⟩ := (V11.out.below BB.out).at hlt2
                        obtain ⟨u2, hu2, cu2⟩ := (U11.out.below BB.out).at hlt2
                        obtain ⟨X, hB1, hB2⟩ : ∃ X, Bs w11 u1 X ∧ Bs w11 u2 X := by
                          refine ⟨if (i : Int) ∈ K then V i else [], V11.out.parts.2 i u1 _ hu1 (xsV_at hlt2), ?_⟩
                          have h1 := U11.out.parts.2 i u2 _ hu2 (xsV_at hlt2)
                          by_cases hk : (i : Int) ∈ K
                          · rw [if_pos ((TKK.out i).2 hk), TV2.out i hk] at h1
                            rw [if_pos hk]
                            exact h1
                          · rw [if_neg (fun h => hk ((TKK.out i).1 h))] at h1
                            rw [if_neg hk]
                            exact h1
                        obtain ⟨a1, c1, rfl, -, -⟩ := bs_shape hB1
                        obtain ⟨a2, c2, rfl, -, -⟩ := bs_shape hB2
                        have k1 := fun n => conv_bytes (hB1.below (below_drewN BB.out n))
                        have k2 := fun n => conv_bytes (hB2.below (below_drewN BB.out n))
                        have k1' := conv_bytes (hB1.below BB.out)
                        have k2' := conv_bytes (hB2.below BB.out)
                        have hst := str_toList
                        clear hB1 hB2 hu1 hu2
                        go_upto_region 31 with fail
                        go_quiet (fail)
                        have HN : Hid (Below w11.heap.size w11 (wr.drewN nq)) := below_drewN BB.out nq
                        clear r0 r1 r2 s0 s1 s2 cu1 cu2
                        go_wp2
                        go_roundw
                        case rel => exact ⟨i + 1, by omega, by go_num, HN⟩
                        case measure => simp [intOf]; omega
                      · obtain rfl : a = i := by omega
                        have XE := on_below X11.out BB.out
                        go_wp2
                        go_ret
                        exact ⟨rfl, XE⟩

end Go.Proofs.Ytkckbeekehecnaa
