/-
  BatchOdd: its walk.
-/
import Derived.Test.YtkckbeekehecnaaBL
import Derived.RegionTactic
import Derived.Deep.Light
import Derived.BigQuiet
namespace Go.Proofs.Ytkckbeekehecnaa
open Go.RowKit
set_option linter.unusedVariables false
set_option maxRecDepth 100000


set_option maxHeartbeats 4000000 in
theorem batchOdd_walk (A S : Int) (pv : Value) (vs : List Value) (ls : List (List Int)) (qv : Value) (us : List Value) (xs : List (List UInt8)) (ov vv : Value) (of : List Int) (v : List UInt8) (T : Int) (w : World) (h : (Lit.int .u8 A).wf = true ∧ (Lit.int .u8 S).wf = true ∧ Sl 1 w pv vs.length vs ∧ LsZ w vs ls ∧ LzW ls ∧ Sl 1 w qv us.length us ∧ Parts w us xs) (he : QeP w ⟨ov, vv, of, v⟩) (ht : (Lit.int .u8 T).wf = true) :
    Calls Try.prog 4 #[.agg #[.int .u8 A, .int .u8 S, pv, qv], .agg #[ov, vv], .int .u8 T] w fun e w' => e = .returned (.bool true) ∧ Below w.heap.size w w' := by
  obtain ⟨ha, hs, hp, hz, hw, hq, hx⟩ := h
  obtain ⟨hal, hau⟩ := bounds_u8 ha
  obtain ⟨hsl, hsu⟩ := bounds_u8 hs
  obtain ⟨A, rfl⟩ := Int.eq_ofNat_of_zero_le hal
  obtain ⟨S, rfl⟩ := Int.eq_ofNat_of_zero_le hsl
  obtain ⟨a, ea, ha40⟩ : ∃ a : Nat, ((A : Int) % 40 = (a : Int)) ∧ a < 40 := ⟨A % 40, by omega, by omega⟩
  obtain ⟨n, eS, hn6⟩ : ∃ n : Nat, ((S : Int) % 6 = (n : Int)) ∧ n < 6 := ⟨S % 6, by omega, by omega⟩
  have hp' := hp
  obtain ⟨-, pa, pc, rfl, hpa2, hpa3, -, -⟩ := hp'
  unfold maxLen at hpa3
  have HZ : Hid (LsZ w vs ls) := hz
  have HW : Hid (LzW ls) := hw
  have HX : Hid (Parts w us xs) := hx
  have HP : Hid (Sl 1 w (.slice pa vs.length pc) vs.length vs) := hp
  have HQ : Hid (Sl 1 w qv us.length us) := hq
  obtain ⟨htl, htu⟩ := bounds_u8 ht
  obtain ⟨T, rfl⟩ := Int.eq_ofNat_of_zero_le htl
  have HO : Hid (Zs w ov of) := he.1
  have HV : Hid (Bs w vv v) := he.2
  obtain ⟨bo, oc, rfl, ho2, ho3⟩ := zs_shape (show Zs w ov of from he.1)
  obtain ⟨va, vc, rfl, hv2, hv3⟩ := bs_shape (show Bs w vv v from he.2)
  obtain ⟨om, hom⟩ : ∃ m, of.length = m := ⟨_, rfl⟩
  obtain ⟨vn, hvn⟩ : ∃ m, v.length = m := ⟨_, rfl⟩
  have HOm : Hid (of.length = om) := hom
  have HVn : Hid (v.length = vn) := hvn
  rw [hom] at ho2 HO ⊢
  rw [hvn] at hv2 HV ⊢
  clear hp hz hw hq hx ha hs hal hsl he ht hom hvn htl
  go_enter Try.func4, Try.ntmps4
  go_wp2_with fail
  obtain ⟨w0, hw0⟩ : ∃ x, w.alloc (.cells #[.int .u8 (A : Int), .int .u8 (S : Int), (.slice pa vs.length pc), qv] 25) = x := ⟨_, rfl⟩
  have B0 : Hid (XBox w.heap.size A S (.slice pa vs.length pc) qv w0) := by rw [← hw0]; exact XBox.new _ _ _ _ _
  have X0 : Hid (Below w.heap.size w w0) := by rw [← hw0]; exact below_alloc _ _
  have S0 : Hid (w0.heap.size = w.heap.size + 1) := by rw [← hw0]; simp [Hid]
  rw [hw0]
  obtain ⟨ob, hob⟩ : ∃ x, w.heap.size + 1 = x := ⟨_, rfl⟩
  have D1 : Hid (EqX (w0.alloc (.cells #[.slice bo om oc, .slice va vn vc] 43)) ob (.slice bo om oc) (.slice va vn vc)) := by
    rw [← hob, ← S0.out]
    exact EqX.new _ _ _
  rw [hob]
  have X1 : Hid (Below w.heap.size w (w0.alloc (.cells #[.slice bo om oc, .slice va vn vc] 43))) := on_below X0.out (below_alloc _ _)
  have B1 : Hid (XBox w.heap.size A S (.slice pa vs.length pc) qv (w0.alloc (.cells #[.slice bo om oc, .slice va vn vc] 43))) := XBox.below B0.out (below_alloc _ _)
  clear hw0 S0 X0 B0 hob
  refine (speaks17_any _).mono ?_
  rintro e w2 ⟨rfl, hb⟩
  have X2 : Hid (Below w.heap.size w w2) := on_below X1.out hb
  have B2 : Hid (XBox w.heap.size A S (.slice pa vs.length pc) qv w2) := XBox.below B1.out hb
  have D2 : Hid (EqX w2 ob (.slice bo om oc) (.slice va vn vc)) := D1.out.below hb
  clear hb B1 X1 D1
  obtain ⟨x0, x1, x2, x3⟩ := B2.out.cells
  obtain ⟨c0, c1⟩ := D2.out.eqb
  go_wp2_with fail
  refine (big17_any (.slice pa vs.length pc) vs ls w2 (HP.out.below X2.out) (HZ.out.below X2.out) HW.out).mono ?_
  rintro e w3 ⟨⟨b, rfl, hsm⟩, hw3⟩
  obtain rfl : w2 = w3 := hw3.symm
  clear hw3
  cases b with
  | true =>
    clear hsm
    go_wp2
    go_ret
    exact ⟨rfl, X2.out⟩
  | false =>
    have SM : Hid (Small17 ls) := hsm rfl
    have SM1 : Hid (ls.length + ls.flatten.length ≤ 300) := SM.out
    have VL : Hid (vs.length = ls.length) := HZ.out.1
    clear hsm
    by_cases h1 : 100 < om
    · have d1 : decide ((100 : Int) < (om : Int)) = true := decide_eq_true (by omega)
      go_wp2
      go_ret
      exact ⟨rfl, X2.out⟩
    have d1 : decide ((100 : Int) < (om : Int)) = false := decide_eq_false (by omega)
    by_cases h2 : 100 < vn
    · have d2 : decide ((100 : Int) < (vn : Int)) = true := decide_eq_true (by omega)
      go_wp2
      go_ret
      exact ⟨rfl, X2.out⟩
    have d2 : decide ((100 : Int) < (vn : Int)) = false := decide_eq_false (by omega)
    go_upto_region 5 with fail
    go_quiet (fail)
    rw [ea, eS]
    have Y2 : Hid (Below w.heap.size w (w2.drewN nq)) := below_drewN X2.out nq
    have Z2 : Hid (XBox w.heap.size A S (.slice pa vs.length pc) qv (w2.drewN nq)) := XBox.below B2.out (below_drewN (Below.refl _ _) nq)
    have D3 : Hid (EqX (w2.drewN nq) ob (.slice bo om oc) (.slice va vn vc)) := D2.out.below (below_drewN (Below.refl _ _) nq)
    obtain ⟨w3, hw3⟩ : ∃ x, w2.drewN nq = x := ⟨_, rfl⟩
    rw [hw3] at Y2 Z2 D3 ⊢
    clear hw3 x0 x1 x2 x3 X2 B2 c0 c1 D2 d1 d2
    obtain ⟨x0, x1, x2, x3⟩ := Z2.out.cells
    go_wp2_with fail
    refine (kequations_any A S (.slice pa vs.length pc) qv vs us ls xs n w3 (by omega) (by omega) (HP.out.below Y2.out) (HZ.out.below Y2.out) (HQ.out.below Y2.out) (HX.out.below Y2.out) (by have h1 := SM1.out; have h2 := VL.out; omega)).mono ?_
    rintro e w4 ⟨lv, uv, es, es2, rfl, hoe, hor, hq1, hq2, heq, hb4⟩
    have X4 : Hid (Below w.heap.size w w4) := on_below Y2.out hb4
    have B4 : Hid (XBox w.heap.size A S (.slice pa vs.length pc) qv w4) := XBox.below Z2.out hb4
    have D4 : Hid (EqX w4 ob (.slice bo om oc) (.slice va vn vc)) := D3.out.below hb4
    have PR : Hid (es.map pairQ = es2.map pairQ) := heq.pr
    have OF : Hid (es.map Qe.of = ls) := by
      have h1 := heq.of
      rw [VL.out, List.take_length] at h1
      exact h1
    have OF2 : Hid (es2.map Qe.of = ls) := by unfold Hid; rw [← of_of_pair PR.out]; exact OF.out
    have OV2 : Hid (es2.map Qe.ov = vs) := by
      have h1 := heq.ov
      rw [List.take_length] at h1
      exact h1
    have L1 : Hid (es.length = vs.length) := heq.l1
    have L2 : Hid (es2.length = vs.length) := heq.l2
    have VA : Hid (∀ e ∈ es, e.va.length = n) := heq.va
    have QE : Hid (Qs w4 lv es) := OwnE.qs hoe (fun e he => (hq1 e he).qep hb4)
    have Q2 : Hid (∀ e ∈ es2, QeP w4 e) := fun e he => (hq2 e he).qep hb4
    have SU : Hid (Sl 1 w4 uv es2.length (es2.map Qe.vv)) := owned_sl hor
    have OE4 : Hid (OwnE w3.heap.size w4 lv es.length es) := hoe
    have QK4 : Hid (∀ e ∈ es, QeK w3.heap.size w3 w4 e) := hq1
    have B34 : Hid (Below w3.heap.size w3 w4) := hb4
    have OR4 : Hid (w4.ownsRow w3.heap.size 38 1 uv es2.length (es2.map Qe.vv)) := hor
    have QK24 : Hid (∀ e ∈ es2, QeK w3.heap.size w3 w4 e) := hq2
    have Y3 : Hid (Below w.heap.size w w3) := Y2.out
    have VE4 : Hid (vs.length = es.length) := heq.l1.symm
    have SP : Hid (Sl 1 w4 (.slice pa vs.length pc) es2.length (es2.map Qe.ov)) := by unfold Hid; rw [L2.out, OV2.out]; exact HP.out.below X4.out
    have M4 : Hid (es2.length ≤ 300 ∧ es.length ≤ 300) := by have h1 := SM1.out; have h2 := VL.out; have h3 := L1.out; have h4 := L2.out; exact ⟨by omega, by omega⟩
    have F4 : Hid ((es2.map Qe.of).flatten.length ≤ 300 ∧ (es.map Qe.of).flatten.length ≤ 300) := by
      unfold Hid
      rw [OF2.out, OF.out]
      have h1 := SM1.out
      exact ⟨by omega, by omega⟩
    clear hoe hor hq1 hq2 heq hb4 x0 x1 x2 x3 Z2
    clear OE4 QK4 OR4 QK24 SP B34 Y3 D3
    obtain ⟨m, hm⟩ : ∃ m, es.length = m := ⟨_, rfl⟩
    have HM : Hid (es.length = m) := hm
    have HM2 : Hid (es2.length = m) := by unfold Hid; rw [← hm, L1.out, L2.out]
    have HMm : m ≤ 300 := by have h1 := M4.out.2; omega
    have HF : Hid ((es.map Qe.of).flatten.length ≤ 300) := F4.out.2
    obtain ⟨la, lc, rfl, hl2, hl3⟩ : ∃ a c, lv = .slice a m c ∧ m ≤ c ∧ c ≤ 9223372036854775807 := by
      obtain ⟨a', c', h1, h2, h3⟩ := QE.out.shape
      rw [hm] at h1 h2
      exact ⟨a', c', h1, h2, h3⟩
    have OB : Hid (Zs w4 (.slice bo om oc) of ∧ Bs w4 (.slice va vn vc) v) := ⟨HO.out.below X4.out, HV.out.below X4.out⟩
    clear hm M4 F4 L1 L2 OF2 SM SM1 VE4
    have hm2 : es2.length = m := HM2.out
    obtain ⟨ua, uc, rfl, hu2, hu3⟩ : ∃ a c, uv = .slice a m c ∧ m ≤ c ∧ c ≤ 9223372036854775807 := by
      obtain ⟨-, a', c', h1, h2, h3, -, -⟩ := SU.out
      rw [hm2] at h1 h2
      exact ⟨a', c', h1, h2, h3⟩
    have SU4 : Hid (Sl 1 w4 (.slice ua m uc) m (es2.map Qe.vv)) := by have h1 := SU.out; rw [hm2] at h1; exact h1
    clear hm2 SU
    obtain ⟨c0, c1⟩ := D4.out.eqb
    go_wp2_with fail
    refine (rfits16_any (a : Int) _ of w4 OB.out.1).mono ?_
    rintro e w5 ⟨⟨fb, rfl, hfit⟩, hb5⟩
    have HFB : Hid (fb = true ↔ FitI (a : Int) of) := hfit
    have X45 : Hid (Below w4.heap.size w4 w5) := hb5
    have X5 : Hid (Below w.heap.size w w5) := on_below X4.out hb5
    have D5 : Hid (EqX w5 ob (.slice bo om oc) (.slice va vn vc)) := D4.out.below hb5
    have hb5' := hb5
    clear hfit hb5 c0 c1
    obtain ⟨c0, c1⟩ := D5.out.eqb
    have QE5 : Hid (Qs w5 (.slice la m lc) es) := QE.out.below hb5'
    obtain ⟨k, hk⟩ : ∃ k : Nat, T % (m + 1) = k := ⟨_, rfl⟩
    have hkm : k ≤ m := by have := Nat.mod_lt T (show m + 1 > 0 by omega); omega
    have wq : IntKind.i64.wrap ((m : Int) + 1) = (m : Int) + 1 := by rw [IntKind.wrap_i64]; omega
    have nz : ((m : Int) + 1 = 0) = False := by simp; omega
    have tq : Int.tmod (T : Int) ((m : Int) + 1) = (k : Int) := by rw [← hk]; rfl
    have mq : (T : Int) % ((m : Int) + 1) = (k : Int) := by rw [← hk]; rfl
    clear hk hb5'
    have QL : Hid (∀ W, Below w5.heap.size w5 W → Qs W (.slice la k lc) (es.take k)) := fun W hW => Qs.take (QE5.out.below hW) hkm
    have QD : Hid (∀ W, Below w5.heap.size w5 W → Qs W (.slice (if lc = k then la else la.map (·.add (k * 2))) (m - k) (lc - k)) (es.drop k)) := fun W hW => Qs.dropV (QE5.out.below hW) hkm
    have QO : Hid (∀ W, Below w5.heap.size w5 W → ∀ e ∈ [(⟨.slice bo om oc, .slice va vn vc, of, v⟩ : Qe)], QeP W e) := fun W hW e he => by
      rw [List.mem_singleton.1 he]
      exact ⟨OB.out.1.below (on_below X45.out hW), OB.out.2.below (on_below X45.out hW)⟩
    have BX5 : Hid (∀ W, Below w5.heap.size w5 W → EqB W ob (.slice bo om oc) (.slice va vn vc)) := fun W hW => (D5.out.below hW).eqb
    have TK : Hid ((es.take k).length ≤ 300 ∧ (es.drop k).length ≤ 300) := by
      have h1 := HM.out
      unfold Hid
      rw [List.length_take, List.length_drop]
      omega
    have hkI : (k : Int) ≤ (m : Int) := by omega
    have hkc : (k : Int) ≤ (lc : Int) := by omega
    have hk0 : (0 : Int) ≤ (k : Int) := by omega
    have hmc : (m : Int) ≤ (lc : Int) := by omega
    have szE := sizeEqn
    have elE := elemEqns
    cases fb with
    | true =>
      by_cases hvn : vn = n
      · subst hvn
        go_wp2
        go_ret
        exact ⟨rfl, X5.out⟩
      have NO : Hid (¬ (FitI (a : Int) of ∧ v.length = n)) := fun h => hvn (by rw [← HVn.out]; exact h.2)
      have b3 : ((vn : Int) == (n : Int)) = false := by simp; omega
      have d3 : decide ((vn : Int) = (n : Int)) = false := decide_eq_false (by omega)
      go_upto_region 10 with fail
      clear c0 c1
      refine wp_region_any (by kernel_rfl) ?_
      obtain ⟨gs, hgs⟩ : ∃ gs : List (Value → World → Prop), gs = [IsAnyV, IsV (Value.slice la m lc), IsV (Value.int IntKind.i64 ↑k), IsV (.slice la k lc), IsAnyV, IsV (.agg #[.slice bo om oc, .slice va vn vc]), IsAnyV, IsAnyV, IsV (Value.slice la m lc), IsV (Value.int IntKind.i64 ↑k), IsV (.slice (if lc = k then la else la.map (·.add (k * 2))) (m - k) (lc - k)), IsAnyV, IsAnyV] := ⟨_, rfl⟩
      have g0 : Hid (gs[0]? = some (IsAnyV)) := by unfold Hid; rw [hgs]; rfl
      have g1 : Hid (gs[1]? = some (IsV (Value.slice la m lc))) := by unfold Hid; rw [hgs]; rfl
      have g2 : Hid (gs[2]? = some (IsV (Value.int IntKind.i64 ↑k))) := by unfold Hid; rw [hgs]; rfl
      have g3 : Hid (gs[3]? = some (IsV (.slice la k lc))) := by unfold Hid; rw [hgs]; rfl
      have g4 : Hid (gs[4]? = some (IsAnyV)) := by unfold Hid; rw [hgs]; rfl
      have g5 : Hid (gs[5]? = some (IsV (.agg #[.slice bo om oc, .slice va vn vc]))) := by unfold Hid; rw [hgs]; rfl
      have g6 : Hid (gs[6]? = some (IsAnyV)) := by unfold Hid; rw [hgs]; rfl
      have g7 : Hid (gs[7]? = some (IsAnyV)) := by unfold Hid; rw [hgs]; rfl
      have g8 : Hid (gs[8]? = some (IsV (Value.slice la m lc))) := by unfold Hid; rw [hgs]; rfl
      have g9 : Hid (gs[9]? = some (IsV (Value.int IntKind.i64 ↑k))) := by unfold Hid; rw [hgs]; rfl
      have g10 : Hid (gs[10]? = some (IsV (.slice (if lc = k then la else la.map (·.add (k * 2))) (m - k) (lc - k)))) := by unfold Hid; rw [hgs]; rfl
      have g11 : Hid (gs[11]? = some (IsAnyV)) := by unfold Hid; rw [hgs]; rfl
      have g12 : Hid (gs[12]? = some (IsAnyV)) := by unfold Hid; rw [hgs]; rfl
      have gk : Hid (∀ p ∈ gs, ∀ v (U U' : World), p v U → p v U') := by
        unfold Hid
        rw [hgs]
        simp only [List.forall_mem_cons]
        exact ⟨(fun _ _ _ h => h), (fun _ _ _ h => h), (fun _ _ _ h => h), (fun _ _ _ h => h), (fun _ _ _ h => h), (fun _ _ _ h => h), (fun _ _ _ h => h), (fun _ _ _ h => h), (fun _ _ _ h => h), (fun _ _ _ h => h), (fun _ _ _ h => h), (fun _ _ _ h => h), (fun _ _ _ h => h), by simp⟩
      clear hgs
      have JS : Hid (∀ W W', Below W.heap.size W W' → (fun W => Below w5.heap.size w5 W) W → (fun W => Below w5.heap.size w5 W) W') := fun W W' hb h => h.trans (hb.mono h.size)
      have st0 : Hid (Stays (IsE0E w5.heap.size)) := stays_e0e _
      have st4 : Hid (Stays (IsOwE w5.heap.size (0 + (es.take k).length) ([] ++ es.take k))) := stays_owe _ _ _
      have st6 : Hid (Stays (IsX1 w5.heap.size (⟨.slice bo om oc, .slice va vn vc, of, v⟩ : Qe))) := stays_x1 _ _
      have st7 : Hid (Stays (IsOwE w5.heap.size (0 + (es.take k).length + 1) ([] ++ es.take k ++ [(⟨.slice bo om oc, .slice va vn vc, of, v⟩ : Qe)]))) := stays_owe _ _ _
      have st11 : Hid (Stays (IsOwE w5.heap.size (0 + (es.take k).length + 1 + (es.drop k).length) ([] ++ es.take k ++ [(⟨.slice bo om oc, .slice va vn vc, of, v⟩ : Qe)] ++ es.drop k))) := stays_owe _ _ _
      have st12 : Hid (Stays (IsOwE w5.heap.size (0 + (es.take k).length + 1 + (es.drop k).length) ([] ++ es.take k ++ [(⟨.slice bo om oc, .slice va vn vc, of, v⟩ : Qe)] ++ es.drop k))) := stays_owe _ _ _
      refine wpAny_inv4 (fun listed ac W => ∃ xv : Nat → Value, ac = ⟨#[Value.agg #[Value.int IntKind.u8 ↑A, Value.int IntKind.u8 ↑S, Value.slice pa vs.length pc, qv], Value.agg #[Value.slice bo om oc, Value.slice va vn vc], Value.int IntKind.u8 ↑T, Value.pointer (some { block := w.heap.size, off := 0 }), Value.pointer (some { block := ob, off := 0 }), undef, Value.bool false, Value.int IntKind.i64 ↑a, Value.int IntKind.i64 ↑n, Value.slice la m lc, Value.slice ua m uc, Value.int IntKind.i64 ↑k, xv 12, undef, undef, undef, undef, Value.bool true, Value.bool false, Value.pointer (some { block := w.heap.size, off := 2 }), Value.slice pa vs.length pc, Value.bool false, Value.bool false, Value.pointer (some { block := ob, off := 0 }), Value.slice bo om oc, Value.int IntKind.i64 ↑om, Value.bool false, Value.bool false, Value.bool false, Value.pointer (some { block := ob, off := 1 }), Value.slice va vn vc, Value.int IntKind.i64 ↑vn, Value.bool false, Value.bool false, Value.pointer (some { block := w.heap.size, off := 0 }), Value.int IntKind.u8 ↑A, Value.int IntKind.i64 ↑A, Value.int IntKind.i64 ↑a, Value.pointer (some { block := w.heap.size, off := 1 }), Value.int IntKind.u8 ↑S, Value.int IntKind.i64 ↑S, Value.int IntKind.i64 ↑n, Value.tuple #[Value.slice la m lc, Value.slice ua m uc], Value.agg #[Value.int IntKind.u8 ↑A, Value.int IntKind.u8 ↑S, Value.slice pa vs.length pc, qv], Value.tuple #[Value.slice la m lc, Value.slice ua m uc], Value.slice la m lc, Value.slice ua m uc, Value.int IntKind.i64 ↑a, Value.pointer (some { block := ob, off := 0 }), Value.slice bo om oc, Value.bool true, Value.bool true, Value.pointer (some { block := ob, off := 1 }), Value.slice va vn vc, Value.int IntKind.i64 ↑vn, Value.int IntKind.i64 ↑n, Value.bool false, Value.bool false, Value.int IntKind.u8 ↑T, Value.int IntKind.i64 ↑T, Value.slice la m lc, Value.int IntKind.i64 ↑m, Value.int IntKind.i64 (↑m + (1 : Int)), Value.int IntKind.i64 ↑k, xv 0, xv 1, xv 2, xv 3, xv 4, xv 5, xv 6, xv 7, xv 8, xv 9, xv 10, xv 11, undef, undef, undef, undef, undef, undef, undef, undef, undef, undef, undef, undef, undef, undef, undef, undef, undef, undef, undef, undef, undef, undef, undef, undef, undef, undef, undef, undef, undef, undef, undef, undef, undef, undef, undef, undef, undef, undef, undef, undef, undef, undef, undef, undef, undef, undef, undef, undef, undef], []⟩ ∧ (fun W => Below w5.heap.size w5 W) W ∧ Lst gs listed xv W ∧ Fd listed xv W 0 4 (IsE0E w5.heap.size) ∧ Fd listed xv W 4 7 (IsOwE w5.heap.size (0 + (es.take k).length) ([] ++ es.take k)) ∧ Fd listed xv W 6 7 (IsX1 w5.heap.size (⟨.slice bo om oc, .slice va vn vc, of, v⟩ : Qe)) ∧ Fd listed xv W 7 11 (IsOwE w5.heap.size (0 + (es.take k).length + 1) ([] ++ es.take k ++ [(⟨.slice bo om oc, .slice va vn vc, of, v⟩ : Qe)])) ∧ Fe listed xv W 11 (IsOwE w5.heap.size (0 + (es.take k).length + 1 + (es.drop k).length) ([] ++ es.take k ++ [(⟨.slice bo om oc, .slice va vn vc, of, v⟩ : Qe)] ++ es.drop k)) ∧ Fe listed xv W 12 (IsOwE w5.heap.size (0 + (es.take k).length + 1 + (es.drop k).length) ([] ++ es.take k ++ [(⟨.slice bo om oc, .slice va vn vc, of, v⟩ : Qe)] ++ es.drop k))) (by kernel_rfl) ?_ ?_ _ _ _ _ (by kernel_rfl) (of_decide_eq_true (by kernel_rfl)) (Down.start _) ⟨fun jx => undef, rfl, below0 _, Lst.start _ _ _ _, Fd.start _ _ _ _ _ _, Fd.start _ _ _ _ _ _, Fd.start _ _ _ _ _ _, Fd.start _ _ _ _ _ _, Fe.start _ _ _ _ _, Fe.start _ _ _ _ _⟩
      · go_light
        rintro listed ac W ⟨xv, rfl, hb, hG, hF0, hF4, hF6, hF7, hF11, hF12⟩ hD i hi hnl hd
        have hin : i < 13 := hi
        clear hi
        have hcase : i = 0 ∨ i = 1 ∨ i = 2 ∨ i = 3 ∨ i = 4 ∨ i = 5 ∨ i = 6 ∨ i = 7 ∨ i = 8 ∨ i = 9 ∨ i = 10 ∨ i = 11 ∨ i = 12 := by omega
        rcases hcase with rfl | rfl | rfl | rfl | rfl | rfl | rfl | rfl | rfl | rfl | rfl | rfl | rfl
        · refine wpOp_step rfl (fun K' hK => ?_)
          clear hd hin hD
          go_simp
          exact hK _ _ ⟨updV xv 0 (.slice (some ⟨W.heap.size, 0, none⟩) 0 0), by simp [updV], JS.out _ _ (below_alloc _ _) hb, hG.any gk.out g0.out _ trivial, Fd.new (⟨OwnE.zero W hb.size, _, rfl⟩), hF4.on st4.out (below_alloc _ _) (by decide) (by decide) _, hF6.on st6.out (below_alloc _ _) (by decide) (by decide) _, hF7.on st7.out (below_alloc _ _) (by decide) (by decide) _, hF11.on st11.out (below_alloc _ _) (by decide) _, hF12.on st12.out (below_alloc _ _) (by decide) _⟩
        · refine wpOp_step rfl (fun K' hK => ?_)
          clear hd hin hD
          go_simp
          exact hK _ _ ⟨updV xv 1 (Value.slice la m lc), by simp [updV], hb, hG.any gk.out g1.out _ rfl, hF0.step (fun _ h => h) (by decide) (by decide) _, hF4.step (fun _ h => h) (by decide) (by decide) _, hF6.step (fun _ h => h) (by decide) (by decide) _, hF7.step (fun _ h => h) (by decide) (by decide) _, hF11.step (fun _ h => h) (by decide) _, hF12.step (fun _ h => h) (by decide) _⟩
        · refine wpOp_step rfl (fun K' hK => ?_)
          clear hd hin hD
          go_simp
          exact hK _ _ ⟨updV xv 2 (Value.int IntKind.i64 ↑k), by simp [updV], hb, hG.any gk.out g2.out _ rfl, hF0.step (fun _ h => h) (by decide) (by decide) _, hF4.step (fun _ h => h) (by decide) (by decide) _, hF6.step (fun _ h => h) (by decide) (by decide) _, hF7.step (fun _ h => h) (by decide) (by decide) _, hF11.step (fun _ h => h) (by decide) _, hF12.step (fun _ h => h) (by decide) _⟩
        · refine wpOp_step rfl (fun K' hK => ?_)
          simp [Region.binds] at hd
          have e1 : xv 1 = Value.slice la m lc := hG.get g1.out (by simp [hd])
          have e2 : xv 2 = Value.int IntKind.i64 ↑k := hG.get g2.out (by simp [hd])
          clear hd hin hD
          go_simp
          exact hK _ _ ⟨updV xv 3 (.slice la k lc), by simp [updV, e1, e2], hb, hG.any gk.out g3.out _ rfl, hF0.step (fun _ h => h) (by decide) (by decide) _, hF4.step (fun _ h => h) (by decide) (by decide) _, hF6.step (fun _ h => h) (by decide) (by decide) _, hF7.step (fun _ h => h) (by decide) (by decide) _, hF11.step (fun _ h => h) (by decide) _, hF12.step (fun _ h => h) (by decide) _⟩
        · refine wpOp_step rfl (fun K' hK => ?_)
          simp [Region.binds] at hd
          have l0 : listed.getD 0 false = true := by simp [hd]
          have m0 := hF0.get l0 hnl
          have e3 : xv 3 = .slice la k lc := hG.get g3.out (by simp [hd])
          clear hd hin hD
          refine step_fullE W rfl (.tmp 64) (.tmp 67) rfl w5.heap.size _ 0 [] rfl m0.1 m0.2 _ (es.take k) e3 (QL.out W hb) (by have := TK.out.1; omega) hb.size ?_
          intro oo cap w' hown hb'
          exact hK _ _ ⟨updV xv 4 (.slice oo (0 + (es.take k).length) cap), by simp [updV, Act.put], JS.out _ _ hb' hb, hG.any gk.out g4.out _ trivial, Fd.off hnl, Fd.new (hown), hF6.on st6.out hb' (by decide) (by decide) _, hF7.on st7.out hb' (by decide) (by decide) _, hF11.on st11.out hb' (by decide) _, hF12.on st12.out hb' (by decide) _⟩
        · refine wpOp_step rfl (fun K' hK => ?_)
          obtain ⟨c0, c1⟩ := BX5.out W hb
          clear hd hin hD
          go_simp
          exact hK _ _ ⟨updV xv 5 (.agg #[.slice bo om oc, .slice va vn vc]), by simp [updV], hb, hG.any gk.out g5.out _ rfl, hF0.step (fun _ h => h) (by decide) (by decide) _, hF4.step (fun _ h => h) (by decide) (by decide) _, hF6.step (fun _ h => h) (by decide) (by decide) _, hF7.step (fun _ h => h) (by decide) (by decide) _, hF11.step (fun _ h => h) (by decide) _, hF12.step (fun _ h => h) (by decide) _⟩
        · refine wpOp_step rfl (fun K' hK => ?_)
          simp [Region.binds] at hd
          have e5 : xv 5 = .agg #[.slice bo om oc, .slice va vn vc] := hG.get g5.out (by simp [hd])
          clear hd hin hD
          go_simp
          exact hK _ _ ⟨updV xv 6 (.slice (some ⟨W.heap.size, 0, none⟩) 1 1), by simp [updV, e5], JS.out _ _ (below_alloc _ _) hb, hG.any gk.out g6.out _ trivial, hF0.on st0.out (below_alloc _ _) (by decide) (by decide) _, hF4.on st4.out (below_alloc _ _) (by decide) (by decide) _, Fd.new (⟨OwnE.new W hb.size (⟨.slice bo om oc, .slice va vn vc, of, v⟩ : Qe), _, rfl⟩), hF7.on st7.out (below_alloc _ _) (by decide) (by decide) _, hF11.on st11.out (below_alloc _ _) (by decide) _, hF12.on st12.out (below_alloc _ _) (by decide) _⟩
        · refine wpOp_step rfl (fun K' hK => ?_)
          simp [Region.binds] at hd
          have l4 : listed.getD 4 false = true := by simp [hd]
          have m4 := hF4.get l4 hnl
          have l6 : listed.getD 6 false = true := by simp [hd]
          have m6 := hF6.get l6 hnl
          have q4 : listed.getD 4 false = true := by simp [hd]
          have f11 : listed.getD 11 false = false := by
            cases hx : listed.getD 11 false with
            | false => rfl
            | true =>
              have r7 : listed.getD 7 false = true := by have h := hD 11 (by decide) hx; simp [Region.binds] at h; simp [h]
              rw [getD_false hnl] at r7; cases r7
          have f12 : listed.getD 12 false = false := by
            cases hx : listed.getD 12 false with
            | false => rfl
            | true =>
              have r7 : listed.getD 7 false = true := by have h := hD 12 (by decide) hx; simp [Region.binds] at h; simp [h]
              rw [getD_false hnl] at r7; cases r7
          clear hd hin hD
          refine step_addV W rfl (.tmp 68) (.tmp 70) rfl w5.heap.size _ _ _ rfl m4 _ 1 [(⟨.slice bo om oc, .slice va vn vc, of, v⟩ : Qe)] rfl (m6.1.qs (QO.out W hb)).1 (e_oneCell (w := W) (QO.out W hb)) (by have := TK.out.1; omega) hb.size ?_
          intro oo cap w' hown hg
          exact hK _ _ ⟨updV xv 7 (.slice oo (0 + (es.take k).length + 1) cap), by simp [updV, Act.put], hb.grown hg hb.size (fun k hk => (OwnE.lt m4 k hk).1), hG.any gk.out g7.out _ trivial, Fd.gone q4 (by decide), Fd.off hnl, Fd.off hnl, Fd.new (hown), Fe.yet f11 (by decide) _, Fe.yet f12 (by decide) _⟩
        · refine wpOp_step rfl (fun K' hK => ?_)
          clear hd hin hD
          go_simp
          exact hK _ _ ⟨updV xv 8 (Value.slice la m lc), by simp [updV], hb, hG.any gk.out g8.out _ rfl, hF0.step (fun _ h => h) (by decide) (by decide) _, hF4.step (fun _ h => h) (by decide) (by decide) _, hF6.step (fun _ h => h) (by decide) (by decide) _, hF7.step (fun _ h => h) (by decide) (by decide) _, hF11.step (fun _ h => h) (by decide) _, hF12.step (fun _ h => h) (by decide) _⟩
        · refine wpOp_step rfl (fun K' hK => ?_)
          clear hd hin hD
          go_simp
          exact hK _ _ ⟨updV xv 9 (Value.int IntKind.i64 ↑k), by simp [updV], hb, hG.any gk.out g9.out _ rfl, hF0.step (fun _ h => h) (by decide) (by decide) _, hF4.step (fun _ h => h) (by decide) (by decide) _, hF6.step (fun _ h => h) (by decide) (by decide) _, hF7.step (fun _ h => h) (by decide) (by decide) _, hF11.step (fun _ h => h) (by decide) _, hF12.step (fun _ h => h) (by decide) _⟩
        · refine wpOp_step rfl (fun K' hK => ?_)
          simp [Region.binds] at hd
          have e8 : xv 8 = Value.slice la m lc := hG.get g8.out (by simp [hd])
          have e9 : xv 9 = Value.int IntKind.i64 ↑k := hG.get g9.out (by simp [hd])
          clear hd hin hD
          go_simp
          exact hK _ _ ⟨updV xv 10 (.slice (if lc = k then la else la.map (·.add (k * 2))) (m - k) (lc - k)), by simp [updV, e8, e9], hb, hG.any gk.out g10.out _ rfl, hF0.step (fun _ h => h) (by decide) (by decide) _, hF4.step (fun _ h => h) (by decide) (by decide) _, hF6.step (fun _ h => h) (by decide) (by decide) _, hF7.step (fun _ h => h) (by decide) (by decide) _, hF11.step (fun _ h => h) (by decide) _, hF12.step (fun _ h => h) (by decide) _⟩
        · refine wpOp_step rfl (fun K' hK => ?_)
          simp [Region.binds] at hd
          have l7 : listed.getD 7 false = true := by simp [hd]
          have m7 := hF7.get l7 hnl
          have e10 : xv 10 = .slice (if lc = k then la else la.map (·.add (k * 2))) (m - k) (lc - k) := hG.get g10.out (by simp [hd])
          have q7 : listed.getD 7 false = true := by simp [hd]
          have q4 : listed.getD 4 false = true := by have h := hD 7 (by decide) q7; simp [Region.binds] at h; simp [h]
          have q7 : listed.getD 7 false = true := by simp [hd]
          have f12 : listed.getD 12 false = false := by
            cases hx : listed.getD 12 false with
            | false => rfl
            | true =>
              have r11 : listed.getD 11 false = true := by have h := hD 12 (by decide) hx; simp [Region.binds] at h; simp [h]
              rw [getD_false hnl] at r11; cases r11
          clear hd hin hD
          refine step_addV W rfl (.tmp 71) (.tmp 74) rfl w5.heap.size _ _ _ rfl m7 _ (es.drop k).length (es.drop k) e10 (qs_sl (QD.out W hb)) (e_oneCell (w := W) (QD.out W hb).2) (by have := TK.out; omega) hb.size ?_
          intro oo cap w' hown hg
          exact hK _ _ ⟨updV xv 11 (.slice oo (0 + (es.take k).length + 1 + (es.drop k).length) cap), by simp [updV, Act.put], hb.grown hg hb.size (fun k hk => (OwnE.lt m7 k hk).1), hG.any gk.out g11.out _ trivial, Fd.gone q4 (by decide), Fd.gone q7 (by decide), Fd.gone q7 (by decide), Fd.off hnl, Fe.new (hown), Fe.yet f12 (by decide) _⟩
        · refine wpOp_step rfl (fun K' hK => ?_)
          simp [Region.binds] at hd
          have l11 : listed.getD 11 false = true := by simp [hd]
          have m11 := hF11 l11
          clear hd hin hD
          go_simp
          exact hK _ _ ⟨updV xv 12 (xv 11), by simp [updV], hb, hG.any gk.out g12.out _ trivial, hF0.step (fun _ h => h) (by decide) (by decide) _, hF4.step (fun _ h => h) (by decide) (by decide) _, hF6.step (fun _ h => h) (by decide) (by decide) _, hF7.step (fun _ h => h) (by decide) (by decide) _, hF11.step (fun _ h => h) (by decide) _, Fe.new (m11)⟩
      · rintro listed ac W ⟨xv, rfl, hb, hG, hF0, hF4, hF6, hF7, hF11, hF12⟩ hall
        have m12 : Hid ((IsOwE w5.heap.size (0 + (es.take k).length + 1 + (es.drop k).length) ([] ++ es.take k ++ [(⟨.slice bo om oc, .slice va vn vc, of, v⟩ : Qe)] ++ es.drop k)) (xv 12) W) := hF12 (hall 12 (by decide))
        have XW : Hid ((fun W => Below w5.heap.size w5 W) W) := hb
        clear hall hG hb gk JS g0 g1 g2 g3 g4 g5 g6 g7 g8 g9 g10 g11 g12 hF0 st0 hF4 st4 hF6 st6 hF7 st7 hF11 st11 hF12 st12
        have HU : Hid (useQ a n (es.take k ++ [(⟨.slice bo om oc, .slice va vn vc, of, v⟩ : Qe)] ++ es.drop k) = useQ a n es) := useQ_odd k NO.out
        obtain ⟨v12, hv12⟩ : ∃ x, xv 12 = x := ⟨_, rfl⟩
        have O12 : Hid (OwnE w5.heap.size W v12 (0 + (es.take k).length + 1 + (es.drop k).length) ([] ++ es.take k ++ [(⟨.slice bo om oc, .slice va vn vc, of, v⟩ : Qe)] ++ es.drop k)) := by have h1 := m12.out; rw [hv12] at h1; exact h1
        rw [hv12]
        have Q12 : Hid (Qs W v12 (es.take k ++ [(⟨.slice bo om oc, .slice va vn vc, of, v⟩ : Qe)] ++ es.drop k)) := OwnE.qs O12.out (fun e he => by
          rcases List.mem_append.1 he with he | he
          · rcases List.mem_append.1 he with he | he
            · exact (QE5.out.2 e (List.mem_of_mem_take he)).below XW.out
            · exact QO.out W XW.out e he
          · exact (QE5.out.2 e (List.mem_of_mem_drop he)).below XW.out)
        obtain ⟨L, hL⟩ : ∃ L, es.take k ++ [(⟨.slice bo om oc, .slice va vn vc, of, v⟩ : Qe)] ++ es.drop k = L := ⟨_, rfl⟩
        have LL : Hid (L.length ≤ 1000 ∧ (L.map Qe.of).flatten.length ≤ 10000) := by
          rw [← hL]
          have h1 := TK.out
          have h2 : ((es.take k).map Qe.of).flatten.length + ((es.drop k).map Qe.of).flatten.length = (es.map Qe.of).flatten.length := by
            rw [← List.length_append, ← List.flatten_append, ← List.map_append, List.take_append_drop]
          have h3 := HF.out
          have h4 := HOm.out
          refine ⟨by simp only [List.length_append, List.length_singleton]; omega, ?_⟩
          rw [List.map_append, List.map_append, List.flatten_append, List.flatten_append, List.length_append, List.length_append]
          simp only [List.map_singleton, List.flatten_singleton]
          omega
        rw [hL] at HU Q12
        obtain ⟨a12, c12, rfl, -, -⟩ := Q12.out.shape
        obtain ⟨n12, hn12⟩ : ∃ x, L.length = x := ⟨_, rfl⟩
        rw [hn12] at Q12 ⊢
        have QEW : Hid (Qs W (.slice la m lc) es) := QE5.out.below XW.out
        have X5W : Hid (Below w5.heap.size w5 W) := XW.out
        have HF2 : Hid (es.length ≤ 1000 ∧ (es.map Qe.of).flatten.length ≤ 10000) := by have h1 := HF.out; have h2 := HM.out; exact ⟨by omega, by omega⟩
        clear m12 O12 hL hn12 hv12 QO QD QL BX5 XW HF HOm HVn hkI hkc hk0 hmc szE elE wq nz tq mq
        go_wp2_with fail
        refine (solve_any a n _ es W QEW.out HF2.out.1 HF2.out.2 (by omega) (by omega)).mono ?_
        rintro e w7 ⟨ka, km, kc, bx, vb, vus, K, V, cf, rfl, hko, hvs, hfd, hcf, hb7⟩
        have HFD : Hid (Found a n es K V) := hfd
        have HCF : Hid (cf = true ↔ ∃ e ∈ useQ a n es, FailP a K V e) := hcf
        have KO7 : Hid (OwnZ W.heap.size w7 (.slice ka km kc) km (kRise K a)) := hko
        have X57 : Hid (Below w5.heap.size w5 w7) := on_below X5W.out hb7
        have Q127 : Hid (Qs w7 (.slice a12 n12 c12) L) := Q12.out.below hb7
        clear hko hvs hfd hcf hb7 QEW Q12 HF2 X5W
        go_wp2_with fail
        refine (solve_any a n _ L w7 Q127.out LL.out.1 LL.out.2 (by omega) (by omega)).mono ?_
        rintro e w8 ⟨ka2, km2, kc2, bx2, vb2, vus2, K2, V2, cf2, rfl, hko, hvs, hfd, hcf, hb8⟩
        obtain ⟨ekr, ecf⟩ := odd_math HU.out HFD.out hfd
        rw [ekr] at hko
        have ekm : km2 = km := by have h1 := hko.len; have h2 := KO7.out.len; omega
        subst ekm
        have ecf2 : cf2 = cf := by rw [Bool.eq_iff_iff, hcf, HCF.out]; exact ecf
        subst ecf2
        have KO8 : Hid (OwnZ W.heap.size w8 (.slice ka km2 kc) km2 (kRise K a)) := KO7.out.below hb8
        have KP8 : Hid (OwnZ w7.heap.size w8 (.slice ka2 km2 kc2) km2 (kRise K a)) := hko
        have X58 : Hid (Below w5.heap.size w5 w8) := on_below X57.out hb8
        clear hko hvs hfd hcf hb8 HFD HCF KO7 X57 Q127 LL HU ekr ecf
        go_upto_region 12 with fail
        obtain ⟨w9, hw9⟩ : ∃ x, w8.alloc (.cells #[.slice ka km2 kc, .slice (some ⟨vb, 0, none⟩) a a, .bool cf2] 33) = x := ⟨_, rfl⟩
        have Y89 : Below w8.heap.size w8 w9 := by rw [← hw9]; exact below_alloc _ _
        have R9 : Hid (RsB w9 w8.heap.size (.slice ka km2 kc) (.slice (some ⟨vb, 0, none⟩) a a) cf2) := by rw [← hw9]; exact RsB.new _ _ _ _
        have S9 : w9.heap.size = w8.heap.size + 1 := by rw [← hw9]; simp
        rw [hw9]
        obtain ⟨w10, hw10⟩ : ∃ x, w9.alloc (.cells #[.slice ka2 km2 kc2, .slice (some ⟨vb2, 0, none⟩) a a, .bool cf2] 33) = x := ⟨_, rfl⟩
        have Y90 : Below w9.heap.size w9 w10 := by rw [← hw10]; exact below_alloc _ _
        have P10 : Hid (RsB w10 (w8.heap.size + 1) (.slice ka2 km2 kc2) (.slice (some ⟨vb2, 0, none⟩) a a) cf2) := by rw [← hw10, ← S9]; exact RsB.new _ _ _ _
        have R10 : Hid (RsB w10 w8.heap.size (.slice ka km2 kc) (.slice (some ⟨vb, 0, none⟩) a a) cf2) := R9.out.below Y90
        have Y80 : Below w8.heap.size w8 w10 := on_below Y89 Y90
        rw [hw10]
        obtain ⟨rb2, hrb2⟩ : ∃ x, w8.heap.size + 1 = x := ⟨_, rfl⟩
        rw [hrb2] at P10 ⊢
        obtain ⟨rb, hrb⟩ : ∃ x, w8.heap.size = x := ⟨_, rfl⟩
        rw [hrb] at R10 ⊢
        have ZK : Hid (Zs w10 (.slice ka km2 kc) (kRise K a)) := (KO8.out.below Y80).zs
        have ZP : Hid (Zs w10 (.slice ka2 km2 kc2) (kRise K a)) := (KP8.out.below Y80).zs
        have X510 : Hid (Below w5.heap.size w5 w10) := on_below X58.out Y80
        have X410 : Hid (Below w4.heap.size w4 w10) := on_below X45.out X510.out
        have X10 : Hid (Below w.heap.size w w10) := on_below X4.out X410.out
        have B10 : Hid (XBox w.heap.size A S (.slice pa vs.length pc) qv w10) := XBox.below B4.out X410.out
        have HVL : vs.length = m := by rw [← OV2.out, List.length_map, HM2.out]
        clear hw9 Y89 R9 S9 hw10 Y90 Y80 hrb hrb2 KO8 KP8 X58 B4 X45 D5 D4 OB TK
        go_wp2
        go_loopw [86] (fun iv wr => ∃ (i : Nat), i ≤ m ∧ iv = .int .i64 i ∧ Hid (Below w10.heap.size w10 wr)) (fun iv _ => m - (intOf iv).toNat)
        case atStart => exact ⟨0, by omega, rfl, Below.refl _ _⟩
        case round =>
          obtain ⟨i, hi, rfl, BB⟩ := hrel
          by_cases hlt : i < m
          · have hltI : (i : Int) < (m : Int) := by omega
            have hltV : (i : Int) < (vs.length : Int) := by omega
            obtain ⟨⟨eo, ev, ef, ex⟩, he⟩ : ∃ e, es[i]? = some e := ⟨_, List.getElem?_eq_getElem (by rw [HM.out]; exact hlt)⟩
            obtain ⟨⟨fo, fv, ff, fx⟩, he2⟩ : ∃ e, es2[i]? = some e := ⟨_, List.getElem?_eq_getElem (by rw [HM2.out]; exact hlt)⟩
            have hpq : (ef, ex) = (ff, fx) := by
              have h1 := congrArg (fun l => l[i]?) PR.out
              simp only [List.getElem?_map, he, he2, Option.map_some, Option.some.injEq] at h1
              exact h1
            injection hpq with g1 g2
            subst g1
            subst g2
            obtain ⟨b0, o0, rfl, ci0, ci1⟩ := Qs.at QE5.out (on_below X510.out BB.out) he
            have EP := Qs.get QE5.out (on_below X510.out BB.out) he
            have hu : (es2.map Qe.vv)[i]? = some fv := by rw [List.getElem?_map, he2]; rfl
            obtain ⟨ub, uo, rfl, cu⟩ := sl_at (show Sl 1 w4 (.slice ua m uc) (es2.map Qe.vv).length (es2.map Qe.vv) from (by rw [List.length_map, HM2.out]; exact SU4.out)) (on_below X410.out BB.out) hu
            have hv : vs[i]? = some fo := by rw [← OV2.out, List.getElem?_map, he2]; rfl
            obtain ⟨pb, po, rfl, cp⟩ := sl_at HP.out (on_below X10.out BB.out) hv
            have EP2 : QeP wr ⟨fo, fv, ef, ex⟩ := (Q2.out _ (List.mem_of_getElem? he2)).below (on_below X410.out BB.out)
            obtain ⟨ea1, ec1, rfl, -, -⟩ := zs_shape (show Zs wr eo ef from EP.1)
            obtain ⟨xa1, xc1, rfl, -, -⟩ := bs_shape (show Bs wr ev ex from EP.2)
            obtain ⟨ea2, ec2, rfl, -, -⟩ := zs_shape (show Zs wr fo ef from EP2.1)
            obtain ⟨xa2, xc2, rfl, -, -⟩ := bs_shape (show Bs wr fv ex from EP2.2)
            have Z1 : Hid (Zs wr (.slice ea1 ef.length ec1) ef) := EP.1
            have Z2 : Hid (Zs wr (.slice ea2 ef.length ec2) ef) := EP2.1
            have V1 : Hid (Bs wr (.slice xa1 ex.length xc1) ex) := EP.2
            have V2 : Hid (Bs wr (.slice xa2 ex.length xc2) ex) := EP2.2
            obtain ⟨fl, hfl⟩ : ∃ x, ef.length = x := ⟨_, rfl⟩
            obtain ⟨xl, hxl⟩ : ∃ x, ex.length = x := ⟨_, rfl⟩
            simp only [hfl, hxl] at ci0 ci1 cu cp Z1 Z2 V1 V2
            clear he he2 hu hv EP EP2 hfl hxl
            go_upto_region 15 with fail
            obtain ⟨wa, hwa⟩ : ∃ x, wr.alloc (.cells #[.slice ea1 fl ec1, .slice xa1 xl xc1] 43) = x := ⟨_, rfl⟩
            have Yra : Below wr.heap.size wr wa := by rw [← hwa]; exact below_alloc _ _
            have EB : EqX wa wr.heap.size (.slice ea1 fl ec1) (.slice xa1 xl xc1) := by rw [← hwa]; exact EqX.new _ _ _
            rw [hwa]
            obtain ⟨gb, hgb⟩ : ∃ x, wr.heap.size = x := ⟨_, rfl⟩
            rw [hgb] at EB ⊢
            have BA : Hid (Below w10.heap.size w10 wa) := on_below BB.out Yra
            obtain ⟨a0, a1⟩ := EB.eqb
            have cu' := (Yra.cell (cell_block_lt cu)).trans cu
            have cp' := (Yra.cell (cell_block_lt cp)).trans cp
            obtain ⟨x0, x1, x2, x3⟩ := (XBox.below B10.out BA.out).cells
            have k1 := fun n => conv_bytes ((V1.out.below Yra).below (below_drewN (Below.refl _ _) n))
            have k2 := fun n => conv_bytes ((V2.out.below Yra).below (below_drewN (Below.refl _ _) n))
            have k1' := conv_bytes (V1.out.below Yra)
            have k2' := conv_bytes (V2.out.below Yra)
            have hst := str_toList
            have CB : Hid (∀ W, Below wa.heap.size wa W → Calls Try.prog 15 #[.slice ea1 fl ec1, .slice ea2 fl ec2] W fun e w' => e = .returned (.int .i64 1) ∧ ∃ m, w' = W.drewN m) := fun W hW => by
              have h := same9_quiet _ _ ef ef W (Z1.out.below (on_below Yra hW)) (Z2.out.below (on_below Yra hW))
              rw [sameI_self] at h
              exact h
            clear hwa Yra EB hgb ci0 ci1 cu cp Z1 Z2 V1 V2
            go_quiet ((go_at_call 15; exact Calls.quiet_of (CB.out _ (below_drewN (Below.refl _ _) _))))
            have HN : Hid (Below w10.heap.size w10 (wa.drewN nq)) := below_drewN BA.out nq
            clear x0 x1 x2 x3 a0 a1 cu' cp' k1 k2 k1' k2' CB
            go_wp2
            go_roundw
            case rel => exact ⟨i + 1, by omega, by go_num, HN⟩
            case measure => simp [intOf]; omega
          · obtain rfl : m = i := by omega
            obtain ⟨r0, r1, r2⟩ := (R10.out.below BB.out).cells
            obtain ⟨s0, s1, s2⟩ := (P10.out.below BB.out).cells
            have XE : Hid (Below w.heap.size w wr) := on_below X10.out BB.out
            go_wp2_with fail
            refine (same9_any _ _ (kRise K a) (kRise K a) wr (ZK.out.below BB.out) (ZP.out.below BB.out)).mono ?_
            rintro e w11 ⟨rfl, hb⟩
            rw [sameI_self]
            have XF : Hid (Below w.heap.size w w11) := on_below XE.out hb
            have RE : Hid (RsB w11 rb (.slice ka km2 kc) (.slice (some ⟨vb, 0, none⟩) a a) cf2) := (R10.out.below BB.out).below hb
            have PE : Hid (RsB w11 rb2 (.slice ka2 km2 kc2) (.slice (some ⟨vb2, 0, none⟩) a a) cf2) := (P10.out.below BB.out).below hb
            clear hb r0 r1 r2 s0 s1 s2
            obtain ⟨r0, r1, r2⟩ := RE.out.cells
            obtain ⟨s0, s1, s2⟩ := PE.out.cells
            cases cf2 with
            | true =>
              go_wp2
              go_ret
              exact ⟨rfl, XF.out⟩
            | false =>
              go_wp2
              go_ret
              exact ⟨rfl, XF.out⟩
    | false =>
      have NO : Hid (¬ (FitI (a : Int) of ∧ v.length = n)) := fun h => by have := HFB.out.2 h.1; cases this
      go_upto_region 10 with fail
      clear c0 c1
      refine wp_region_any (by kernel_rfl) ?_
      obtain ⟨gs, hgs⟩ : ∃ gs : List (Value → World → Prop), gs = [IsAnyV, IsV (Value.slice la m lc), IsV (Value.int IntKind.i64 ↑k), IsV (.slice la k lc), IsAnyV, IsV (.agg #[.slice bo om oc, .slice va vn vc]), IsAnyV, IsAnyV, IsV (Value.slice la m lc), IsV (Value.int IntKind.i64 ↑k), IsV (.slice (if lc = k then la else la.map (·.add (k * 2))) (m - k) (lc - k)), IsAnyV, IsAnyV] := ⟨_, rfl⟩
      have g0 : Hid (gs[0]? = some (IsAnyV)) := by unfold Hid; rw [hgs]; rfl
      have g1 : Hid (gs[1]? = some (IsV (Value.slice la m lc))) := by unfold Hid; rw [hgs]; rfl
      have g2 : Hid (gs[2]? = some (IsV (Value.int IntKind.i64 ↑k))) := by unfold Hid; rw [hgs]; rfl
      have g3 : Hid (gs[3]? = some (IsV (.slice la k lc))) := by unfold Hid; rw [hgs]; rfl
      have g4 : Hid (gs[4]? = some (IsAnyV)) := by unfold Hid; rw [hgs]; rfl
      have g5 : Hid (gs[5]? = some (IsV (.agg #[.slice bo om oc, .slice va vn vc]))) := by unfold Hid; rw [hgs]; rfl
      have g6 : Hid (gs[6]? = some (IsAnyV)) := by unfold Hid; rw [hgs]; rfl
      have g7 : Hid (gs[7]? = some (IsAnyV)) := by unfold Hid; rw [hgs]; rfl
      have g8 : Hid (gs[8]? = some (IsV (Value.slice la m lc))) := by unfold Hid; rw [hgs]; rfl
      have g9 : Hid (gs[9]? = some (IsV (Value.int IntKind.i64 ↑k))) := by unfold Hid; rw [hgs]; rfl
      have g10 : Hid (gs[10]? = some (IsV (.slice (if lc = k then la else la.map (·.add (k * 2))) (m - k) (lc - k)))) := by unfold Hid; rw [hgs]; rfl
      have g11 : Hid (gs[11]? = some (IsAnyV)) := by unfold Hid; rw [hgs]; rfl
      have g12 : Hid (gs[12]? = some (IsAnyV)) := by unfold Hid; rw [hgs]; rfl
      have gk : Hid (∀ p ∈ gs, ∀ v (U U' : World), p v U → p v U') := by
        unfold Hid
        rw [hgs]
        simp only [List.forall_mem_cons]
        exact ⟨(fun _ _ _ h => h), (fun _ _ _ h => h), (fun _ _ _ h => h), (fun _ _ _ h => h), (fun _ _ _ h => h), (fun _ _ _ h => h), (fun _ _ _ h => h), (fun _ _ _ h => h), (fun _ _ _ h => h), (fun _ _ _ h => h), (fun _ _ _ h => h), (fun _ _ _ h => h), (fun _ _ _ h => h), by simp⟩
      clear hgs
      have JS : Hid (∀ W W', Below W.heap.size W W' → (fun W => Below w5.heap.size w5 W) W → (fun W => Below w5.heap.size w5 W) W') := fun W W' hb h => h.trans (hb.mono h.size)
      have st0 : Hid (Stays (IsE0E w5.heap.size)) := stays_e0e _
      have st4 : Hid (Stays (IsOwE w5.heap.size (0 + (es.take k).length) ([] ++ es.take k))) := stays_owe _ _ _
      have st6 : Hid (Stays (IsX1 w5.heap.size (⟨.slice bo om oc, .slice va vn vc, of, v⟩ : Qe))) := stays_x1 _ _
      have st7 : Hid (Stays (IsOwE w5.heap.size (0 + (es.take k).length + 1) ([] ++ es.take k ++ [(⟨.slice bo om oc, .slice va vn vc, of, v⟩ : Qe)]))) := stays_owe _ _ _
      have st11 : Hid (Stays (IsOwE w5.heap.size (0 + (es.take k).length + 1 + (es.drop k).length) ([] ++ es.take k ++ [(⟨.slice bo om oc, .slice va vn vc, of, v⟩ : Qe)] ++ es.drop k))) := stays_owe _ _ _
      have st12 : Hid (Stays (IsOwE w5.heap.size (0 + (es.take k).length + 1 + (es.drop k).length) ([] ++ es.take k ++ [(⟨.slice bo om oc, .slice va vn vc, of, v⟩ : Qe)] ++ es.drop k))) := stays_owe _ _ _
      refine wpAny_inv4 (fun listed ac W => ∃ xv : Nat → Value, ac = ⟨#[Value.agg #[Value.int IntKind.u8 ↑A, Value.int IntKind.u8 ↑S, Value.slice pa vs.length pc, qv], Value.agg #[Value.slice bo om oc, Value.slice va vn vc], Value.int IntKind.u8 ↑T, Value.pointer (some { block := w.heap.size, off := 0 }), Value.pointer (some { block := ob, off := 0 }), undef, Value.bool false, Value.int IntKind.i64 ↑a, Value.int IntKind.i64 ↑n, Value.slice la m lc, Value.slice ua m uc, Value.int IntKind.i64 ↑k, xv 12, undef, undef, undef, undef, Value.bool true, Value.bool false, Value.pointer (some { block := w.heap.size, off := 2 }), Value.slice pa vs.length pc, Value.bool false, Value.bool false, Value.pointer (some { block := ob, off := 0 }), Value.slice bo om oc, Value.int IntKind.i64 ↑om, Value.bool false, Value.bool false, Value.bool false, Value.pointer (some { block := ob, off := 1 }), Value.slice va vn vc, Value.int IntKind.i64 ↑vn, Value.bool false, Value.bool false, Value.pointer (some { block := w.heap.size, off := 0 }), Value.int IntKind.u8 ↑A, Value.int IntKind.i64 ↑A, Value.int IntKind.i64 ↑a, Value.pointer (some { block := w.heap.size, off := 1 }), Value.int IntKind.u8 ↑S, Value.int IntKind.i64 ↑S, Value.int IntKind.i64 ↑n, Value.tuple #[Value.slice la m lc, Value.slice ua m uc], Value.agg #[Value.int IntKind.u8 ↑A, Value.int IntKind.u8 ↑S, Value.slice pa vs.length pc, qv], Value.tuple #[Value.slice la m lc, Value.slice ua m uc], Value.slice la m lc, Value.slice ua m uc, Value.int IntKind.i64 ↑a, Value.pointer (some { block := ob, off := 0 }), Value.slice bo om oc, Value.bool false, Value.bool false, undef, undef, undef, undef, undef, Value.bool false, Value.int IntKind.u8 ↑T, Value.int IntKind.i64 ↑T, Value.slice la m lc, Value.int IntKind.i64 ↑m, Value.int IntKind.i64 (↑m + (1 : Int)), Value.int IntKind.i64 ↑k, xv 0, xv 1, xv 2, xv 3, xv 4, xv 5, xv 6, xv 7, xv 8, xv 9, xv 10, xv 11, undef, undef, undef, undef, undef, undef, undef, undef, undef, undef, undef, undef, undef, undef, undef, undef, undef, undef, undef, undef, undef, undef, undef, undef, undef, undef, undef, undef, undef, undef, undef, undef, undef, undef, undef, undef, undef, undef, undef, undef, undef, undef, undef, undef, undef, undef, undef, undef, undef], []⟩ ∧ (fun W => Below w5.heap.size w5 W) W ∧ Lst gs listed xv W ∧ Fd listed xv W 0 4 (IsE0E w5.heap.size) ∧ Fd listed xv W 4 7 (IsOwE w5.heap.size (0 + (es.take k).length) ([] ++ es.take k)) ∧ Fd listed xv W 6 7 (IsX1 w5.heap.size (⟨.slice bo om oc, .slice va vn vc, of, v⟩ : Qe)) ∧ Fd listed xv W 7 11 (IsOwE w5.heap.size (0 + (es.take k).length + 1) ([] ++ es.take k ++ [(⟨.slice bo om oc, .slice va vn vc, of, v⟩ : Qe)])) ∧ Fe listed xv W 11 (IsOwE w5.heap.size (0 + (es.take k).length + 1 + (es.drop k).length) ([] ++ es.take k ++ [(⟨.slice bo om oc, .slice va vn vc, of, v⟩ : Qe)] ++ es.drop k)) ∧ Fe listed xv W 12 (IsOwE w5.heap.size (0 + (es.take k).length + 1 + (es.drop k).length) ([] ++ es.take k ++ [(⟨.slice bo om oc, .slice va vn vc, of, v⟩ : Qe)] ++ es.drop k))) (by kernel_rfl) ?_ ?_ _ _ _ _ (by kernel_rfl) (of_decide_eq_true (by kernel_rfl)) (Down.start _) ⟨fun jx => undef, rfl, below0 _, Lst.start _ _ _ _, Fd.start _ _ _ _ _ _, Fd.start _ _ _ _ _ _, Fd.start _ _ _ _ _ _, Fd.start _ _ _ _ _ _, Fe.start _ _ _ _ _, Fe.start _ _ _ _ _⟩
      · go_light
        rintro listed ac W ⟨xv, rfl, hb, hG, hF0, hF4, hF6, hF7, hF11, hF12⟩ hD i hi hnl hd
        have hin : i < 13 := hi
        clear hi
        have hcase : i = 0 ∨ i = 1 ∨ i = 2 ∨ i = 3 ∨ i = 4 ∨ i = 5 ∨ i = 6 ∨ i = 7 ∨ i = 8 ∨ i = 9 ∨ i = 10 ∨ i = 11 ∨ i = 12 := by omega
        rcases hcase with rfl | rfl | rfl | rfl | rfl | rfl | rfl | rfl | rfl | rfl | rfl | rfl | rfl
        · refine wpOp_step rfl (fun K' hK => ?_)
          clear hd hin hD
          go_simp
          exact hK _ _ ⟨updV xv 0 (.slice (some ⟨W.heap.size, 0, none⟩) 0 0), by simp [updV], JS.out _ _ (below_alloc _ _) hb, hG.any gk.out g0.out _ trivial, Fd.new (⟨OwnE.zero W hb.size, _, rfl⟩), hF4.on st4.out (below_alloc _ _) (by decide) (by decide) _, hF6.on st6.out (below_alloc _ _) (by decide) (by decide) _, hF7.on st7.out (below_alloc _ _) (by decide) (by decide) _, hF11.on st11.out (below_alloc _ _) (by decide) _, hF12.on st12.out (below_alloc _ _) (by decide) _⟩
        · refine wpOp_step rfl (fun K' hK => ?_)
          clear hd hin hD
          go_simp
          exact hK _ _ ⟨updV xv 1 (Value.slice la m lc), by simp [updV], hb, hG.any gk.out g1.out _ rfl, hF0.step (fun _ h => h) (by decide) (by decide) _, hF4.step (fun _ h => h) (by decide) (by decide) _, hF6.step (fun _ h => h) (by decide) (by decide) _, hF7.step (fun _ h => h) (by decide) (by decide) _, hF11.step (fun _ h => h) (by decide) _, hF12.step (fun _ h => h) (by decide) _⟩
        · refine wpOp_step rfl (fun K' hK => ?_)
          clear hd hin hD
          go_simp
          exact hK _ _ ⟨updV xv 2 (Value.int IntKind.i64 ↑k), by simp [updV], hb, hG.any gk.out g2.out _ rfl, hF0.step (fun _ h => h) (by decide) (by decide) _, hF4.step (fun _ h => h) (by decide) (by decide) _, hF6.step (fun _ h => h) (by decide) (by decide) _, hF7.step (fun _ h => h) (by decide) (by decide) _, hF11.step (fun _ h => h) (by decide) _, hF12.step (fun _ h => h) (by decide) _⟩
        · refine wpOp_step rfl (fun K' hK => ?_)
          simp [Region.binds] at hd
          have e1 : xv 1 = Value.slice la m lc := hG.get g1.out (by simp [hd])
          have e2 : xv 2 = Value.int IntKind.i64 ↑k := hG.get g2.out (by simp [hd])
          clear hd hin hD
          go_simp
          exact hK _ _ ⟨updV xv 3 (.slice la k lc), by simp [updV, e1, e2], hb, hG.any gk.out g3.out _ rfl, hF0.step (fun _ h => h) (by decide) (by decide) _, hF4.step (fun _ h => h) (by decide) (by decide) _, hF6.step (fun _ h => h) (by decide) (by decide) _, hF7.step (fun _ h => h) (by decide) (by decide) _, hF11.step (fun _ h => h) (by decide) _, hF12.step (fun _ h => h) (by decide) _⟩
        · refine wpOp_step rfl (fun K' hK => ?_)
          simp [Region.binds] at hd
          have l0 : listed.getD 0 false = true := by simp [hd]
          have m0 := hF0.get l0 hnl
          have e3 : xv 3 = .slice la k lc := hG.get g3.out (by simp [hd])
          clear hd hin hD
          refine step_fullE W rfl (.tmp 64) (.tmp 67) rfl w5.heap.size _ 0 [] rfl m0.1 m0.2 _ (es.take k) e3 (QL.out W hb) (by have := TK.out.1; omega) hb.size ?_
          intro oo cap w' hown hb'
          exact hK _ _ ⟨updV xv 4 (.slice oo (0 + (es.take k).length) cap), by simp [updV, Act.put], JS.out _ _ hb' hb, hG.any gk.out g4.out _ trivial, Fd.off hnl, Fd.new (hown), hF6.on st6.out hb' (by decide) (by decide) _, hF7.on st7.out hb' (by decide) (by decide) _, hF11.on st11.out hb' (by decide) _, hF12.on st12.out hb' (by decide) _⟩
        · refine wpOp_step rfl (fun K' hK => ?_)
          obtain ⟨c0, c1⟩ := BX5.out W hb
          clear hd hin hD
          go_simp
          exact hK _ _ ⟨updV xv 5 (.agg #[.slice bo om oc, .slice va vn vc]), by simp [updV], hb, hG.any gk.out g5.out _ rfl, hF0.step (fun _ h => h) (by decide) (by decide) _, hF4.step (fun _ h => h) (by decide) (by decide) _, hF6.step (fun _ h => h) (by decide) (by decide) _, hF7.step (fun _ h => h) (by decide) (by decide) _, hF11.step (fun _ h => h) (by decide) _, hF12.step (fun _ h => h) (by decide) _⟩
        · refine wpOp_step rfl (fun K' hK => ?_)
          simp [Region.binds] at hd
          have e5 : xv 5 = .agg #[.slice bo om oc, .slice va vn vc] := hG.get g5.out (by simp [hd])
          clear hd hin hD
          go_simp
          exact hK _ _ ⟨updV xv 6 (.slice (some ⟨W.heap.size, 0, none⟩) 1 1), by simp [updV, e5], JS.out _ _ (below_alloc _ _) hb, hG.any gk.out g6.out _ trivial, hF0.on st0.out (below_alloc _ _) (by decide) (by decide) _, hF4.on st4.out (below_alloc _ _) (by decide) (by decide) _, Fd.new (⟨OwnE.new W hb.size (⟨.slice bo om oc, .slice va vn vc, of, v⟩ : Qe), _, rfl⟩), hF7.on st7.out (below_alloc _ _) (by decide) (by decide) _, hF11.on st11.out (below_alloc _ _) (by decide) _, hF12.on st12.out (below_alloc _ _) (by decide) _⟩
        · refine wpOp_step rfl (fun K' hK => ?_)
          simp [Region.binds] at hd
          have l4 : listed.getD 4 false = true := by simp [hd]
          have m4 := hF4.get l4 hnl
          have l6 : listed.getD 6 false = true := by simp [hd]
          have m6 := hF6.get l6 hnl
          have q4 : listed.getD 4 false = true := by simp [hd]
          have f11 : listed.getD 11 false = false := by
            cases hx : listed.getD 11 false with
            | false => rfl
            | true =>
              have r7 : listed.getD 7 false = true := by have h := hD 11 (by decide) hx; simp [Region.binds] at h; simp [h]
              rw [getD_false hnl] at r7; cases r7
          have f12 : listed.getD 12 false = false := by
            cases hx : listed.getD 12 false with
            | false => rfl
            | true =>
              have r7 : listed.getD 7 false = true := by have h := hD 12 (by decide) hx; simp [Region.binds] at h; simp [h]
              rw [getD_false hnl] at r7; cases r7
          clear hd hin hD
          refine step_addV W rfl (.tmp 68) (.tmp 70) rfl w5.heap.size _ _ _ rfl m4 _ 1 [(⟨.slice bo om oc, .slice va vn vc, of, v⟩ : Qe)] rfl (m6.1.qs (QO.out W hb)).1 (e_oneCell (w := W) (QO.out W hb)) (by have := TK.out.1; omega) hb.size ?_
          intro oo cap w' hown hg
          exact hK _ _ ⟨updV xv 7 (.slice oo (0 + (es.take k).length + 1) cap), by simp [updV, Act.put], hb.grown hg hb.size (fun k hk => (OwnE.lt m4 k hk).1), hG.any gk.out g7.out _ trivial, Fd.gone q4 (by decide), Fd.off hnl, Fd.off hnl, Fd.new (hown), Fe.yet f11 (by decide) _, Fe.yet f12 (by decide) _⟩
        · refine wpOp_step rfl (fun K' hK => ?_)
          clear hd hin hD
          go_simp
          exact hK _ _ ⟨updV xv 8 (Value.slice la m lc), by simp [updV], hb, hG.any gk.out g8.out _ rfl, hF0.step (fun _ h => h) (by decide) (by decide) _, hF4.step (fun _ h => h) (by decide) (by decide) _, hF6.step (fun _ h => h) (by decide) (by decide) _, hF7.step (fun _ h => h) (by decide) (by decide) _, hF11.step (fun _ h => h) (by decide) _, hF12.step (fun _ h => h) (by decide) _⟩
        · refine wpOp_step rfl (fun K' hK => ?_)
          clear hd hin hD
          go_simp
          exact hK _ _ ⟨updV xv 9 (Value.int IntKind.i64 ↑k), by simp [updV], hb, hG.any gk.out g9.out _ rfl, hF0.step (fun _ h => h) (by decide) (by decide) _, hF4.step (fun _ h => h) (by decide) (by decide) _, hF6.step (fun _ h => h) (by decide) (by decide) _, hF7.step (fun _ h => h) (by decide) (by decide) _, hF11.step (fun _ h => h) (by decide) _, hF12.step (fun _ h => h) (by decide) _⟩
        · refine wpOp_step rfl (fun K' hK => ?_)
          simp [Region.binds] at hd
          have e8 : xv 8 = Value.slice la m lc := hG.get g8.out (by simp [hd])
          have e9 : xv 9 = Value.int IntKind.i64 ↑k := hG.get g9.out (by simp [hd])
          clear hd hin hD
          go_simp
          exact hK _ _ ⟨updV xv 10 (.slice (if lc = k then la else la.map (·.add (k * 2))) (m - k) (lc - k)), by simp [updV, e8, e9], hb, hG.any gk.out g10.out _ rfl, hF0.step (fun _ h => h) (by decide) (by decide) _, hF4.step (fun _ h => h) (by decide) (by decide) _, hF6.step (fun _ h => h) (by decide) (by decide) _, hF7.step (fun _ h => h) (by decide) (by decide) _, hF11.step (fun _ h => h) (by decide) _, hF12.step (fun _ h => h) (by decide) _⟩
        · refine wpOp_step rfl (fun K' hK => ?_)
          simp [Region.binds] at hd
          have l7 : listed.getD 7 false = true := by simp [hd]
          have m7 := hF7.get l7 hnl
          have e10 : xv 10 = .slice (if lc = k then la else la.map (·.add (k * 2))) (m - k) (lc - k) := hG.get g10.out (by simp [hd])
          have q7 : listed.getD 7 false = true := by simp [hd]
          have q4 : listed.getD 4 false = true := by have h := hD 7 (by decide) q7; simp [Region.binds] at h; simp [h]
          have q7 : listed.getD 7 false = true := by simp [hd]
          have f12 : listed.getD 12 false = false := by
            cases hx : listed.getD 12 false with
            | false => rfl
            | true =>
              have r11 : listed.getD 11 false = true := by have h := hD 12 (by decide) hx; simp [Region.binds] at h; simp [h]
              rw [getD_false hnl] at r11; cases r11
          clear hd hin hD
          refine step_addV W rfl (.tmp 71) (.tmp 74) rfl w5.heap.size _ _ _ rfl m7 _ (es.drop k).length (es.drop k) e10 (qs_sl (QD.out W hb)) (e_oneCell (w := W) (QD.out W hb).2) (by have := TK.out; omega) hb.size ?_
          intro oo cap w' hown hg
          exact hK _ _ ⟨updV xv 11 (.slice oo (0 + (es.take k).length + 1 + (es.drop k).length) cap), by simp [updV, Act.put], hb.grown hg hb.size (fun k hk => (OwnE.lt m7 k hk).1), hG.any gk.out g11.out _ trivial, Fd.gone q4 (by decide), Fd.gone q7 (by decide), Fd.gone q7 (by decide), Fd.off hnl, Fe.new (hown), Fe.yet f12 (by decide) _⟩
        · refine wpOp_step rfl (fun K' hK => ?_)
          simp [Region.binds] at hd
          have l11 : listed.getD 11 false = true := by simp [hd]
          have m11 := hF11 l11
          clear hd hin hD
          go_simp
          exact hK _ _ ⟨updV xv 12 (xv 11), by simp [updV], hb, hG.any gk.out g12.out _ trivial, hF0.step (fun _ h => h) (by decide) (by decide) _, hF4.step (fun _ h => h) (by decide) (by decide) _, hF6.step (fun _ h => h) (by decide) (by decide) _, hF7.step (fun _ h => h) (by decide) (by decide) _, hF11.step (fun _ h => h) (by decide) _, Fe.new (m11)⟩
      · rintro listed ac W ⟨xv, rfl, hb, hG, hF0, hF4, hF6, hF7, hF11, hF12⟩ hall
        have m12 : Hid ((IsOwE w5.heap.size (0 + (es.take k).length + 1 + (es.drop k).length) ([] ++ es.take k ++ [(⟨.slice bo om oc, .slice va vn vc, of, v⟩ : Qe)] ++ es.drop k)) (xv 12) W) := hF12 (hall 12 (by decide))
        have XW : Hid ((fun W => Below w5.heap.size w5 W) W) := hb
        clear hall hG hb gk JS g0 g1 g2 g3 g4 g5 g6 g7 g8 g9 g10 g11 g12 hF0 st0 hF4 st4 hF6 st6 hF7 st7 hF11 st11 hF12 st12
        have HU : Hid (useQ a n (es.take k ++ [(⟨.slice bo om oc, .slice va vn vc, of, v⟩ : Qe)] ++ es.drop k) = useQ a n es) := useQ_odd k NO.out
        obtain ⟨v12, hv12⟩ : ∃ x, xv 12 = x := ⟨_, rfl⟩
        have O12 : Hid (OwnE w5.heap.size W v12 (0 + (es.take k).length + 1 + (es.drop k).length) ([] ++ es.take k ++ [(⟨.slice bo om oc, .slice va vn vc, of, v⟩ : Qe)] ++ es.drop k)) := by have h1 := m12.out; rw [hv12] at h1; exact h1
        rw [hv12]
        have Q12 : Hid (Qs W v12 (es.take k ++ [(⟨.slice bo om oc, .slice va vn vc, of, v⟩ : Qe)] ++ es.drop k)) := OwnE.qs O12.out (fun e he => by
          rcases List.mem_append.1 he with he | he
          · rcases List.mem_append.1 he with he | he
            · exact (QE5.out.2 e (List.mem_of_mem_take he)).below XW.out
            · exact QO.out W XW.out e he
          · exact (QE5.out.2 e (List.mem_of_mem_drop he)).below XW.out)
        obtain ⟨L, hL⟩ : ∃ L, es.take k ++ [(⟨.slice bo om oc, .slice va vn vc, of, v⟩ : Qe)] ++ es.drop k = L := ⟨_, rfl⟩
        have LL : Hid (L.length ≤ 1000 ∧ (L.map Qe.of).flatten.length ≤ 10000) := by
          rw [← hL]
          have h1 := TK.out
          have h2 : ((es.take k).map Qe.of).flatten.length + ((es.drop k).map Qe.of).flatten.length = (es.map Qe.of).flatten.length := by
            rw [← List.length_append, ← List.flatten_append, ← List.map_append, List.take_append_drop]
          have h3 := HF.out
          have h4 := HOm.out
          refine ⟨by simp only [List.length_append, List.length_singleton]; omega, ?_⟩
          rw [List.map_append, List.map_append, List.flatten_append, List.flatten_append, List.length_append, List.length_append]
          simp only [List.map_singleton, List.flatten_singleton]
          omega
        rw [hL] at HU Q12
        obtain ⟨a12, c12, rfl, -, -⟩ := Q12.out.shape
        obtain ⟨n12, hn12⟩ : ∃ x, L.length = x := ⟨_, rfl⟩
        rw [hn12] at Q12 ⊢
        have QEW : Hid (Qs W (.slice la m lc) es) := QE5.out.below XW.out
        have X5W : Hid (Below w5.heap.size w5 W) := XW.out
        have HF2 : Hid (es.length ≤ 1000 ∧ (es.map Qe.of).flatten.length ≤ 10000) := by have h1 := HF.out; have h2 := HM.out; exact ⟨by omega, by omega⟩
        clear m12 O12 hL hn12 hv12 QO QD QL BX5 XW HF HOm HVn hkI hkc hk0 hmc szE elE wq nz tq mq
        go_wp2_with fail
        refine (solve_any a n _ es W QEW.out HF2.out.1 HF2.out.2 (by omega) (by omega)).mono ?_
        rintro e w7 ⟨ka, km, kc, bx, vb, vus, K, V, cf, rfl, hko, hvs, hfd, hcf, hb7⟩
        have HFD : Hid (Found a n es K V) := hfd
        have HCF : Hid (cf = true ↔ ∃ e ∈ useQ a n es, FailP a K V e) := hcf
        have KO7 : Hid (OwnZ W.heap.size w7 (.slice ka km kc) km (kRise K a)) := hko
        have X57 : Hid (Below w5.heap.size w5 w7) := on_below X5W.out hb7
        have Q127 : Hid (Qs w7 (.slice a12 n12 c12) L) := Q12.out.below hb7
        clear hko hvs hfd hcf hb7 QEW Q12 HF2 X5W
        go_wp2_with fail
        refine (solve_any a n _ L w7 Q127.out LL.out.1 LL.out.2 (by omega) (by omega)).mono ?_
        rintro e w8 ⟨ka2, km2, kc2, bx2, vb2, vus2, K2, V2, cf2, rfl, hko, hvs, hfd, hcf, hb8⟩
        obtain ⟨ekr, ecf⟩ := odd_math HU.out HFD.out hfd
        rw [ekr] at hko
        have ekm : km2 = km := by have h1 := hko.len; have h2 := KO7.out.len; omega
        subst ekm
        have ecf2 : cf2 = cf := by rw [Bool.eq_iff_iff, hcf, HCF.out]; exact ecf
        subst ecf2
        have KO8 : Hid (OwnZ W.heap.size w8 (.slice ka km2 kc) km2 (kRise K a)) := KO7.out.below hb8
        have KP8 : Hid (OwnZ w7.heap.size w8 (.slice ka2 km2 kc2) km2 (kRise K a)) := hko
        have X58 : Hid (Below w5.heap.size w5 w8) := on_below X57.out hb8
        clear hko hvs hfd hcf hb8 HFD HCF KO7 X57 Q127 LL HU ekr ecf
        go_upto_region 12 with fail
        obtain ⟨w9, hw9⟩ : ∃ x, w8.alloc (.cells #[.slice ka km2 kc, .slice (some ⟨vb, 0, none⟩) a a, .bool cf2] 33) = x := ⟨_, rfl⟩
        have Y89 : Below w8.heap.size w8 w9 := by rw [← hw9]; exact below_alloc _ _
        have R9 : Hid (RsB w9 w8.heap.size (.slice ka km2 kc) (.slice (some ⟨vb, 0, none⟩) a a) cf2) := by rw [← hw9]; exact RsB.new _ _ _ _
        have S9 : w9.heap.size = w8.heap.size + 1 := by rw [← hw9]; simp
        rw [hw9]
        obtain ⟨w10, hw10⟩ : ∃ x, w9.alloc (.cells #[.slice ka2 km2 kc2, .slice (some ⟨vb2, 0, none⟩) a a, .bool cf2] 33) = x := ⟨_, rfl⟩
        have Y90 : Below w9.heap.size w9 w10 := by rw [← hw10]; exact below_alloc _ _
        have P10 : Hid (RsB w10 (w8.heap.size + 1) (.slice ka2 km2 kc2) (.slice (some ⟨vb2, 0, none⟩) a a) cf2) := by rw [← hw10, ← S9]; exact RsB.new _ _ _ _
        have R10 : Hid (RsB w10 w8.heap.size (.slice ka km2 kc) (.slice (some ⟨vb, 0, none⟩) a a) cf2) := R9.out.below Y90
        have Y80 : Below w8.heap.size w8 w10 := on_below Y89 Y90
        rw [hw10]
        obtain ⟨rb2, hrb2⟩ : ∃ x, w8.heap.size + 1 = x := ⟨_, rfl⟩
        rw [hrb2] at P10 ⊢
        obtain ⟨rb, hrb⟩ : ∃ x, w8.heap.size = x := ⟨_, rfl⟩
        rw [hrb] at R10 ⊢
        have ZK : Hid (Zs w10 (.slice ka km2 kc) (kRise K a)) := (KO8.out.below Y80).zs
        have ZP : Hid (Zs w10 (.slice ka2 km2 kc2) (kRise K a)) := (KP8.out.below Y80).zs
        have X510 : Hid (Below w5.heap.size w5 w10) := on_below X58.out Y80
        have X410 : Hid (Below w4.heap.size w4 w10) := on_below X45.out X510.out
        have X10 : Hid (Below w.heap.size w w10) := on_below X4.out X410.out
        have B10 : Hid (XBox w.heap.size A S (.slice pa vs.length pc) qv w10) := XBox.below B4.out X410.out
        have HVL : vs.length = m := by rw [← OV2.out, List.length_map, HM2.out]
        clear hw9 Y89 R9 S9 hw10 Y90 Y80 hrb hrb2 KO8 KP8 X58 B4 X45 D5 D4 OB TK
        go_wp2
        go_loopw [86] (fun iv wr => ∃ (i : Nat), i ≤ m ∧ iv = .int .i64 i ∧ Hid (Below w10.heap.size w10 wr)) (fun iv _ => m - (intOf iv).toNat)
        case atStart => exact ⟨0, by omega, rfl, Below.refl _ _⟩
        case round =>
          obtain ⟨i, hi, rfl, BB⟩ := hrel
          by_cases hlt : i < m
          · have hltI : (i : Int) < (m : Int) := by omega
            have hltV : (i : Int) < (vs.length : Int) := by omega
            obtain ⟨⟨eo, ev, ef, ex⟩, he⟩ : ∃ e, es[i]? = some e := ⟨_, List.getElem?_eq_getElem (by rw [HM.out]; exact hlt)⟩
            obtain ⟨⟨fo, fv, ff, fx⟩, he2⟩ : ∃ e, es2[i]? = some e := ⟨_, List.getElem?_eq_getElem (by rw [HM2.out]; exact hlt)⟩
            have hpq : (ef, ex) = (ff, fx) := by
              have h1 := congrArg (fun l => l[i]?) PR.out
              simp only [List.getElem?_map, he, he2, Option.map_some, Option.some.injEq] at h1
              exact h1
            injection hpq with g1 g2
            subst g1
            subst g2
            obtain ⟨b0, o0, rfl, ci0, ci1⟩ := Qs.at QE5.out (on_below X510.out BB.out) he
            have EP := Qs.get QE5.out (on_below X510.out BB.out) he
            have hu : (es2.map Qe.vv)[i]? = some fv := by rw [List.getElem?_map, he2]; rfl
            obtain ⟨ub, uo, rfl, cu⟩ := sl_at (show Sl 1 w4 (.slice ua m uc) (es2.map Qe.vv).length (es2.map Qe.vv) from (by rw [List.length_map, HM2.out]; exact SU4.out)) (on_below X410.out BB.out) hu
            have hv : vs[i]? = some fo := by rw [← OV2.out, List.getElem?_map, he2]; rfl
            obtain ⟨pb, po, rfl, cp⟩ := sl_at HP.out (on_below X10.out BB.out) hv
            have EP2 : QeP wr ⟨fo, fv, ef, ex⟩ := (Q2.out _ (List.mem_of_getElem? he2)).below (on_below X410.out BB.out)
            obtain ⟨ea1, ec1, rfl, -, -⟩ := zs_shape (show Zs wr eo ef from EP.1)
            obtain ⟨xa1, xc1, rfl, -, -⟩ := bs_shape (show Bs wr ev ex from EP.2)
            obtain ⟨ea2, ec2, rfl, -, -⟩ := zs_shape (show Zs wr fo ef from EP2.1)
            obtain ⟨xa2, xc2, rfl, -, -⟩ := bs_shape (show Bs wr fv ex from EP2.2)
            have Z1 : Hid (Zs wr (.slice ea1 ef.length ec1) ef) := EP.1
            have Z2 : Hid (Zs wr (.slice ea2 ef.length ec2) ef) := EP2.1
            have V1 : Hid (Bs wr (.slice xa1 ex.length xc1) ex) := EP.2
            have V2 : Hid (Bs wr (.slice xa2 ex.length xc2) ex) := EP2.2
            obtain ⟨fl, hfl⟩ : ∃ x, ef.length = x := ⟨_, rfl⟩
            obtain ⟨xl, hxl⟩ : ∃ x, ex.length = x := ⟨_, rfl⟩
            simp only [hfl, hxl] at ci0 ci1 cu cp Z1 Z2 V1 V2
            clear he he2 hu hv EP EP2 hfl hxl
            go_upto_region 15 with fail
            obtain ⟨wa, hwa⟩ : ∃ x, wr.alloc (.cells #[.slice ea1 fl ec1, .slice xa1 xl xc1] 43) = x := ⟨_, rfl⟩
            have Yra : Below wr.heap.size wr wa := by rw [← hwa]; exact below_alloc _ _
            have EB : EqX wa wr.heap.size (.slice ea1 fl ec1) (.slice xa1 xl xc1) := by rw [← hwa]; exact EqX.new _ _ _
            rw [hwa]
            obtain ⟨gb, hgb⟩ : ∃ x, wr.heap.size = x := ⟨_, rfl⟩
            rw [hgb] at EB ⊢
            have BA : Hid (Below w10.heap.size w10 wa) := on_below BB.out Yra
            obtain ⟨a0, a1⟩ := EB.eqb
            have cu' := (Yra.cell (cell_block_lt cu)).trans cu
            have cp' := (Yra.cell (cell_block_lt cp)).trans cp
            obtain ⟨x0, x1, x2, x3⟩ := (XBox.below B10.out BA.out).cells
            have k1 := fun n => conv_bytes ((V1.out.below Yra).below (below_drewN (Below.refl _ _) n))
            have k2 := fun n => conv_bytes ((V2.out.below Yra).below (below_drewN (Below.refl _ _) n))
            have k1' := conv_bytes (V1.out.below Yra)
            have k2' := conv_bytes (V2.out.below Yra)
            have hst := str_toList
            have CB : Hid (∀ W, Below wa.heap.size wa W → Calls Try.prog 15 #[.slice ea1 fl ec1, .slice ea2 fl ec2] W fun e w' => e = .returned (.int .i64 1) ∧ ∃ m, w' = W.drewN m) := fun W hW => by
              have h := same9_quiet _ _ ef ef W (Z1.out.below (on_below Yra hW)) (Z2.out.below (on_below Yra hW))
              rw [sameI_self] at h
              exact h
            clear hwa Yra EB hgb ci0 ci1 cu cp Z1 Z2 V1 V2
            go_quiet ((go_at_call 15; exact Calls.quiet_of (CB.out _ (below_drewN (Below.refl _ _) _))))
            have HN : Hid (Below w10.heap.size w10 (wa.drewN nq)) := below_drewN BA.out nq
            clear x0 x1 x2 x3 a0 a1 cu' cp' k1 k2 k1' k2' CB
            go_wp2
            go_roundw
            case rel => exact ⟨i + 1, by omega, by go_num, HN⟩
            case measure => simp [intOf]; omega
          · obtain rfl : m = i := by omega
            obtain ⟨r0, r1, r2⟩ := (R10.out.below BB.out).cells
            obtain ⟨s0, s1, s2⟩ := (P10.out.below BB.out).cells
            have XE : Hid (Below w.heap.size w wr) := on_below X10.out BB.out
            go_wp2_with fail
            refine (same9_any _ _ (kRise K a) (kRise K a) wr (ZK.out.below BB.out) (ZP.out.below BB.out)).mono ?_
            rintro e w11 ⟨rfl, hb⟩
            rw [sameI_self]
            have XF : Hid (Below w.heap.size w w11) := on_below XE.out hb
            have RE : Hid (RsB w11 rb (.slice ka km2 kc) (.slice (some ⟨vb, 0, none⟩) a a) cf2) := (R10.out.below BB.out).below hb
            have PE : Hid (RsB w11 rb2 (.slice ka2 km2 kc2) (.slice (some ⟨vb2, 0, none⟩) a a) cf2) := (P10.out.below BB.out).below hb
            clear hb r0 r1 r2 s0 s1 s2
            obtain ⟨r0, r1, r2⟩ := RE.out.cells
            obtain ⟨s0, s1, s2⟩ := PE.out.cells
            cases cf2 with
            | true =>
              go_wp2
              go_ret
              exact ⟨rfl, XF.out⟩
            | false =>
              go_wp2
              go_ret
              exact ⟨rfl, XF.out⟩

theorem batchOdd_law (A S : Int) (pv : Value) (vs : List Value) (ls : List (List Int)) (qv : Value) (us : List Value) (xs : List (List UInt8)) (e : Qe) (T : Int) (w : World) (h : (Lit.int .u8 A).wf = true ∧ (Lit.int .u8 S).wf = true ∧ Sl 1 w pv vs.length vs ∧ LsZ w vs ls ∧ LzW ls ∧ Sl 1 w qv us.length us ∧ Parts w us xs) (he : QeP w e) (_ : QeW e) (ht : (Lit.int .u8 T).wf = true) :
    Calls Try.prog 4 #[.agg #[.int .u8 A, .int .u8 S, pv, qv], .agg #[e.ov, e.vv], .int .u8 T] w fun e w' => e = .returned (.bool true) ∧ Below w.heap.size w w' := batchOdd_walk A S pv vs ls qv us xs e.ov e.vv e.of e.va T w h he ht

end Go.Proofs.Ytkckbeekehecnaa
