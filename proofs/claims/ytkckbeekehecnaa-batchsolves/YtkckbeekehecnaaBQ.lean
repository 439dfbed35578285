/-
  BatchSolves: its walk.
-/
import Derived.Test.YtkckbeekehecnaaBP
import Derived.RegionTactic
import Derived.Deep.Light
import Derived.BigQuiet
namespace Go.Proofs.Ytkckbeekehecnaa
open Go.RowKit
set_option linter.unusedVariables false
set_option maxRecDepth 100000

theorem use_fit {n size : Nat} {es : List Qe} (hl : ∀ e ∈ es, e.va.length = size) : useQ n size es = fitQ (n : Int) es := by
  unfold useQ fitQ
  refine List.filter_congr fun e he => ?_
  rw [hl e he]
  simp
theorem solves_math {n size : Nat} {es es2 : List Qe} {K RK : List Int} {V RV : Int → List UInt8} {ss : List (EqP × Int)} {rb cf : Bool} (hp : es.map pairQ = es2.map pairQ) (hl : ∀ e ∈ es, e.va.length = size) (h : Found n size es K V) (hs : SvI ((fitQ (n : Int) es2).map pairQ) RK RV ss) (hR : RK.Pairwise (· < ·)) (hF : ∀ x, x ∈ RK ↔ Fol ((fitQ (n : Int) es2).map Qe.of) x) (hb : rb = true ↔ AgQ size ((fitQ (n : Int) es2).map pairQ)) (hc : cf = true ↔ ∃ e ∈ useQ n size es, FailP n K V e) :
    RK = kRise K n ∧ cf = !rb ∧ (rb = true → ∀ x ∈ K, RV x = V x) := by
  have hP : (useQ n size es).map pairQ = (fitQ (n : Int) es2).map pairQ := by rw [use_fit hl]; exact fitQ_pair hp
  have hO : (useQ n size es).map Qe.of = (fitQ (n : Int) es2).map Qe.of := of_of_pair hP
  have hK : ∀ x, x ∈ RK ↔ x ∈ K := fun x => by rw [hF, h.mem, hO]
  refine ⟨rise_ext hR (kRise_rise K n) fun x => by rw [hK, kRise_mem h.rg], ?_, fun hrb x hx => ?_⟩
  · rw [h.fail, hP] at hc
    cases rb with
    | true =>
      have h1 := hb.1 rfl
      cases cf with
      | false => rfl
      | true => exact absurd h1 (hc.1 rfl)
    | false =>
      have h1 : ¬ AgQ size ((fitQ (n : Int) es2).map pairQ) := fun h => by have h2 := hb.2 h; cases h2
      exact hc.2 h1
  · have hag := hb.1 hrb
    rw [← hP] at hag
    obtain ⟨V0, hl0, hA0⟩ := hag.spec
    rw [h.unique hl0 hA0 x hx]
    have hA2 : ∀ p ∈ (fitQ (n : Int) es2).map pairQ, (∀ b ∈ p.1, Fol (((fitQ (n : Int) es2).map pairQ).map Prod.fst) b) → zeroB (xorAll p.2 (p.1.map V0)) = true := fun p hp hc => by
      rw [← hP] at hp
      exact hA0 p hp fun b hb => by rw [hO]; have h1 := hc b hb; rwa [pairs_fst] at h1
    refine Slv.unique ?_ hs.slv hl0 hA2 x ((hs.mem x).1 ((hK x).2 hx))
    intro p hp
    rw [← hP] at hp
    exact pair_len p hp

set_option maxHeartbeats 4000000 in
theorem batchSolves_walk (A S : Int) (pv : Value) (vs : List Value) (ls : List (List Int)) (qv : Value) (us : List Value) (xs : List (List UInt8)) (w : World) (h : (Lit.int .u8 A).wf = true ∧ (Lit.int .u8 S).wf = true ∧ Sl 1 w pv vs.length vs ∧ LsZ w vs ls ∧ LzW ls ∧ Sl 1 w qv us.length us ∧ Parts w us xs) :
    Calls Try.prog 3 #[.agg #[.int .u8 A, .int .u8 S, pv, qv]] w fun e w' => e = .returned (.bool true) ∧ Below w.heap.size w w' := by
  obtain ⟨ha, hs, hp, hz, hw, hq, hx⟩ := h
  obtain ⟨hal, hau⟩ := bounds_u8 ha
  obtain ⟨hsl, hsu⟩ := bounds_u8 hs
  obtain ⟨A, rfl⟩ := Int.eq_ofNat_of_zero_le hal
  obtain ⟨S, rfl⟩ := Int.eq_ofNat_of_zero_le hsl
  obtain ⟨a, ea, ha40⟩ : ∃ a : Nat, ((A : Int) % 40 = (a : Int)) ∧ a < 40 := ⟨A % 40, by omega, by omega⟩
  obtain ⟨n, eS, hn6⟩ : ∃ n : Nat, ((S : Int) % 6 = (n : Int)) ∧ n < 6 := ⟨S % 6, by omega, by omega⟩
  have HZ : Hid (LsZ w vs ls) := hz
  have HW : Hid (LzW ls) := hw
  have HX : Hid (Parts w us xs) := hx
  have HP : Hid (Sl 1 w pv vs.length vs) := hp
  have HQ : Hid (Sl 1 w qv us.length us) := hq
  clear hp hz hw hq hx ha hs hal hsl
  go_enter Try.func3, Try.ntmps3
  go_wp2_with fail
  have B1 : Hid (XBox w.heap.size A S pv qv (w.alloc (.cells #[.int .u8 (A : Int), .int .u8 (S : Int), pv, qv] 25))) := XBox.new _ _ _ _ _
  have X1 : Hid (Below w.heap.size w (w.alloc (.cells #[.int .u8 (A : Int), .int .u8 (S : Int), pv, qv] 25))) := below_alloc _ _
  refine (speaks17_any _).mono ?_
  rintro e w2 ⟨rfl, hb⟩
  have X2 : Hid (Below w.heap.size w w2) := on_below X1.out hb
  have B2 : Hid (XBox w.heap.size A S pv qv w2) := XBox.below B1.out hb
  clear hb B1 X1
  obtain ⟨x0, x1, x2, x3⟩ := B2.out.cells
  go_wp2_with fail
  refine (big17_any pv vs ls w2 (HP.out.below X2.out) (HZ.out.below X2.out) HW.out).mono ?_
  rintro e w3 ⟨⟨b, rfl, hsm⟩, hw3⟩
  obtain rfl : w2 = w3 := hw3.symm
  clear hw3
  cases b with
  | true =>
    clear hsm
    go_wp2
    go_ret
    exact ⟨rfl, X2.out⟩
  | false =>
    have SM : Hid (Small17 ls) := hsm rfl
    have SM1 : Hid (ls.length + ls.flatten.length ≤ 300) := SM.out
    have VL : Hid (vs.length = ls.length) := HZ.out.1
    clear hsm
    go_upto_region 5 with fail
    go_quiet (fail)
    rw [ea, eS]
    have Y2 : Hid (Below w.heap.size w (w2.drewN nq)) := below_drewN X2.out nq
    have Z2 : Hid (XBox w.heap.size A S pv qv (w2.drewN nq)) := XBox.below B2.out (below_drewN (Below.refl _ _) nq)
    obtain ⟨w3, hw3⟩ : ∃ x, w2.drewN nq = x := ⟨_, rfl⟩
    rw [hw3] at Y2 Z2 ⊢
    clear hw3 x0 x1 x2 x3 X2 B2
    obtain ⟨x0, x1, x2, x3⟩ := Z2.out.cells
    go_wp2_with fail
    refine (kequations_any A S pv qv vs us ls xs n w3 (by omega) (by omega) (HP.out.below Y2.out) (HZ.out.below Y2.out) (HQ.out.below Y2.out) (HX.out.below Y2.out) (by have h1 := SM1.out; have h2 := VL.out; omega)).mono ?_
    rintro e w4 ⟨lv, uv, es, es2, rfl, hoe, hor, hq1, hq2, heq, hb4⟩
    have X4 : Hid (Below w.heap.size w w4) := on_below Y2.out hb4
    have B4 : Hid (XBox w.heap.size A S pv qv w4) := XBox.below Z2.out hb4
    have PR : Hid (es.map pairQ = es2.map pairQ) := heq.pr
    have OF : Hid (es.map Qe.of = ls) := by
      have h1 := heq.of
      rw [VL.out, List.take_length] at h1
      exact h1
    have OF2 : Hid (es2.map Qe.of = ls) := by unfold Hid; rw [← of_of_pair PR.out]; exact OF.out
    have OV2 : Hid (es2.map Qe.ov = vs) := by
      have h1 := heq.ov
      rw [List.take_length] at h1
      exact h1
    have L1 : Hid (es.length = vs.length) := heq.l1
    have L2 : Hid (es2.length = vs.length) := heq.l2
    have VA : Hid (∀ e ∈ es, e.va.length = n) := heq.va
    have QE : Hid (Qs w4 lv es) := OwnE.qs hoe (fun e he => (hq1 e he).qep hb4)
    have Q2 : Hid (∀ e ∈ es2, QeP w4 e) := fun e he => (hq2 e he).qep hb4
    have SU : Hid (Sl 1 w4 uv es2.length (es2.map Qe.vv)) := owned_sl hor
    have OE4 : Hid (OwnE w3.heap.size w4 lv es.length es) := hoe
    have QK4 : Hid (∀ e ∈ es, QeK w3.heap.size w3 w4 e) := hq1
    have B34 : Hid (Below w3.heap.size w3 w4) := hb4
    have OR4 : Hid (w4.ownsRow w3.heap.size 38 1 uv es2.length (es2.map Qe.vv)) := hor
    have QK24 : Hid (∀ e ∈ es2, QeK w3.heap.size w3 w4 e) := hq2
    have Y3 : Hid (Below w.heap.size w w3) := Y2.out
    have VE4 : Hid (vs.length = es.length) := heq.l1.symm
    have SP : Hid (Sl 1 w4 pv es2.length (es2.map Qe.ov)) := by unfold Hid; rw [L2.out, OV2.out]; exact HP.out.below X4.out
    have M4 : Hid (es2.length ≤ 300 ∧ es.length ≤ 300) := by have h1 := SM1.out; have h2 := VL.out; have h3 := L1.out; have h4 := L2.out; exact ⟨by omega, by omega⟩
    have F4 : Hid ((es2.map Qe.of).flatten.length ≤ 300 ∧ (es.map Qe.of).flatten.length ≤ 300) := by
      unfold Hid
      rw [OF2.out, OF.out]
      have h1 := SM1.out
      exact ⟨by omega, by omega⟩
    clear hoe hor hq1 hq2 heq hb4 x0 x1 x2 x3 Z2
    clear OE4 QK4 B34 OR4 QK24 Y3 VE4
    obtain ⟨m, hm⟩ : ∃ m, es2.length = m := ⟨_, rfl⟩
    have HM2 : Hid (es2.length = m) := hm
    have HMm : m ≤ 300 := by have h1 := M4.out.1; omega
    obtain ⟨ua, uc, rfl, hu2, hu3⟩ : ∃ a c, uv = .slice a m c ∧ m ≤ c ∧ c ≤ 9223372036854775807 := by
      obtain ⟨-, a', c', h1, h2, h3, -, -⟩ := SU.out
      rw [hm] at h1 h2
      exact ⟨a', c', h1, h2, h3⟩
    have VA2 : Hid (∀ e ∈ es2, e.va.length = n) := va_of_pair PR.out VA.out
    clear hm
    go_wp2_with fail
    refine (solve_any a n lv es w4 QE.out (by have := M4.out.2; omega) (by have := F4.out.2; omega) (by omega) (by omega)).mono ?_
    rintro e w5 ⟨ka, km, kc, bx, vb, vus, K, V, cf, rfl, hko, hvs, hfd, hcf, hb5⟩
    have HFD : Hid (Found a n es K V) := hfd
    have HCF : Hid (cf = true ↔ ∃ e ∈ useQ a n es, FailP a K V e) := hcf
    have KO5 : Hid (OwnZ w4.heap.size w5 (.slice ka km kc) km (kRise K a)) := hko
    have V5 : Hid (Vs w5 bx vb a n vus K V) := hvs
    have B45 : Hid (Below w4.heap.size w4 w5) := hb5
    clear hko hvs hfd hcf hb5
    go_upto_region 8 with fail
    obtain ⟨w6, hw6⟩ : ∃ x, w5.alloc (.cells #[.slice ka km kc, .slice (some ⟨vb, 0, none⟩) a a, .bool cf] 33) = x := ⟨_, rfl⟩
    have Y56 : Below w5.heap.size w5 w6 := by rw [← hw6]; exact below_alloc _ _
    have R6 : Hid (RsB w6 w5.heap.size (.slice ka km kc) (.slice (some ⟨vb, 0, none⟩) a a) cf) := by rw [← hw6]; exact RsB.new _ _ _ _
    rw [hw6]
    obtain ⟨rb0, hrb⟩ : ∃ x, w5.heap.size = x := ⟨_, rfl⟩
    rw [hrb] at R6 ⊢
    have B46 : Hid (Below w4.heap.size w4 w6) := on_below B45.out Y56
    have KO6 : Hid (OwnZ w4.heap.size w6 (.slice ka km kc) km (kRise K a)) := KO5.out.below Y56
    have V6 : Hid (Vs w6 bx vb a n vus K V) := V5.out.below Y56
    have E6 : Hid (XBox w.heap.size A S pv qv w6) := XBox.below B4.out B46.out
    clear hw6 hrb Y56 KO5 V5 B45
    obtain ⟨x0, x1, x2, x3⟩ := E6.out.cells
    obtain ⟨r0, r1, r2⟩ := R6.out.cells
    have SU6 : Hid (Sl 1 w6 (.slice ua m uc) es2.length (es2.map Qe.vv)) := SU.out.below B46.out
    go_wp2_with fail
    refine (rsolve_full a n pv (.slice ua m uc) es2 w6 (SP.out.below B46.out) SU6.out (fun e he => (Q2.out e he).below B46.out) VA2.out (by have := M4.out.1; omega) (by have := F4.out.1; omega) (by omega) (by omega)).mono ?_
    rintro e w7 ⟨ra, rk, rc, rg, rc2, ius, RK, RV, rb, rfl, hro, hrs, hrf, hrw, hrv, ⟨ss, hsv⟩, hrag, hb7⟩
    obtain ⟨e1, e2, e3⟩ := solves_math PR.out VA.out HFD.out hsv hrs hrf hrag HCF.out
    subst e1
    subst e2
    have RVV : Hid (rb = true → ∀ x ∈ K, RV x = V x) := e3
    have KO7 : Hid (OwnZ w4.heap.size w7 (.slice ka km kc) km (kRise K a)) := KO6.out.below hb7
    have KR7 : Hid (OwnZ w6.heap.size w7 (.slice ra rk rc) rk (kRise K a)) := hro
    have V7 : Hid (Vs w7 bx vb a n vus K V) := V6.out.below hb7
    have RW7 : Hid (w7.ownsRow w6.heap.size 38 1 (.slice (some ⟨rg, 0, none⟩) a rc2) a ius) := hrw
    have RP7 : Hid (VsP w7 ius (kRise K a) RV n) := hrv
    have B47 : Hid (Below w4.heap.size w4 w7) := on_below B46.out hb7
    have R7 : Hid (RsB w7 rb0 (.slice ka km kc) (.slice (some ⟨vb, 0, none⟩) a a) (!rb)) := R6.out.below hb7
    have HNC : Hid (rb = true → ∀ e ∈ es2, FitI (a : Int) e.of → e.va.length = n → leftZ K e.of = [] → zeroB (xorAll e.va (e.of.map V)) = true) := fun hrb e he h1 h2 h3 => by
      have hno : ¬ ∃ e ∈ useQ a n es, FailP a K V e := fun h => by have h4 := HCF.out.2 h; rw [hrb] at h4; cases h4
      have h5 : pairQ e ∈ es.map pairQ := by rw [PR.out]; exact List.mem_map.2 ⟨e, he, rfl⟩
      obtain ⟨e', he', h6⟩ := List.mem_map.1 h5
      have g1 : e'.of = e.of := congrArg Prod.fst h6
      have g2 : e'.va = e.va := congrArg Prod.snd h6
      have h7 := holdsH HFD.out hno e' he'
      rw [g1, g2] at h7
      exact h7 h1 h2 h3
    have X7 : Hid (Below w.heap.size w w7) := on_below X4.out B47.out
    clear hro hrs hrf hrw hrv hsv hrag hb7 e3 HCF KO6 V6 R6 B46 SU6 x0 x1 x2 x3 r0 r1 r2 E6
    obtain ⟨r0, r1, r2⟩ := R7.out.cells
    go_wp2_with fail
    refine (same9_any _ _ (kRise K a) (kRise K a) w7 KO7.out.zs KR7.out.zs).mono ?_
    rintro e w8 ⟨rfl, hb8⟩
    rw [sameI_self]
    have KZ8 : Hid (Zs w8 (.slice ka km kc) (kRise K a)) := (KO7.out.below hb8).zs
    have RZ8 : Hid (Zs w8 (.slice ra rk rc) (kRise K a)) := (KR7.out.below hb8).zs
    have V8 : Hid (Vs w8 bx vb a n vus K V) := V7.out.below hb8
    have RW8 : Hid (w8.ownsRow w6.heap.size 38 1 (.slice (some ⟨rg, 0, none⟩) a rc2) a ius) := owns_kept RW7.out fun k hk => hb8.block k (World.ownsRow.lt RW7.out k hk).2
    have RP8 : Hid (VsP w8 ius (kRise K a) RV n) := RP7.out.below hb8
    have B48 : Hid (Below w4.heap.size w4 w8) := on_below B47.out hb8
    have R8 : Hid (RsB w8 rb0 (.slice ka km kc) (.slice (some ⟨vb, 0, none⟩) a a) (!rb)) := R7.out.below hb8
    have X8 : Hid (Below w.heap.size w w8) := on_below X7.out hb8
    clear hb8 KO7 KR7 V7 RW7 RP7 B47 R7 X7 r0 r1 r2
    have SUM : Hid (Sl 1 w4 (.slice ua m uc) m (es2.map Qe.vv)) := by have h1 := SU.out; rw [HM2.out] at h1; exact h1
    have SPM : Hid (Sl 1 w4 pv m (es2.map Qe.ov)) := by have h1 := SP.out; rw [HM2.out] at h1; exact h1
    have IL : Hid (Sl 1 w8 (.slice (some ⟨rg, 0, none⟩) a rc2) ius.length ius) := by
      have h1 := owned_slN RW8.out
      have h2 := h1.1
      have h3 : ius.length = a := by omega
      unfold Hid
      rw [h3]
      exact h1
    clear RW8 SU SP
    cases rb with
    | true =>
      obtain ⟨r0, r1, r2⟩ := R8.out.cells
      have RVV2 : Hid (∀ x ∈ K, RV x = V x) := RVV.out rfl
      have HNC2 := HNC.out rfl
      have HNH : Hid (∀ e ∈ es2, FitI (a : Int) e.of → e.va.length = n → leftZ K e.of = [] → zeroB (xorAll e.va (e.of.map V)) = true) := HNC2
      clear HNC2 HNC RVV
      go_wp2
      clear r0 r1 r2
      go_loopw [67] (fun iv wr => ∃ (i : Nat), i ≤ a ∧ iv = .int .i64 i ∧ Hid (Below w8.heap.size w8 wr)) (fun iv _ => a - (intOf iv).toNat)
      case atStart => exact ⟨0, by omega, rfl, Below.refl _ _⟩
      case round =>
        obtain ⟨i, hi, rfl, BB⟩ := hrel
        by_cases hlt2 : i < a
        · have hltI : (i : Int) < (a : Int) := by omega
          obtain ⟨u, hu, cu⟩ := (V8.out.below BB.out).at hlt2
          by_cases hk : (i : Int) ∈ K
          · obtain ⟨qv1, cv, rfl, hbv⟩ := V8.out.kn i u hu hk
            have hkr : (i : Int) ∈ kRise K a := (kRise_mem HFD.out.rg).2 hk
            have dk : decide ((i : Int) ∈ kRise K a) = true := decide_eq_true hkr
            obtain ⟨mi, u2, hmi, hu2', hb2', -⟩ := RP8.out (i : Int) hkr
            obtain rfl : i = mi := by omega
            rw [RVV2.out _ hk] at hb2'
            obtain ⟨b9, o9, hbo, cw⟩ := sl_at IL.out BB.out hu2'
            injection hbo with hbo
            injection hbo with g4 g5
            subst g4
            subst g5
            rw [Nat.zero_add] at cw
            have hlv : (V (i : Int)).length = n := HFD.out.len _ hk
            obtain ⟨a2, c2, rfl, -, -⟩ := bs_shape hb2'
            rw [hlv] at hb2' cw
            have k1 := fun n => conv_bytes (hbv.bs.below (below_drewN BB.out n))
            have k2 := fun n => conv_bytes (hb2'.below (below_drewN BB.out n))
            have k1' := conv_bytes (hbv.bs.below BB.out)
            have k2' := conv_bytes (hb2'.below BB.out)
            have hst := str_toList
            clear hu hbv hu2' hb2' hmi
            go_wp2_with fail
            refine (rhas_any (i : Int) _ (kRise K a) wr (RZ8.out.below BB.out)).mono ?_
            rintro e w9 ⟨rfl, hw9⟩
            obtain rfl : wr = w9 := hw9.symm
            clear hw9
            rw [dk]
            go_upto_region 15 with fail
            go_quiet (fail)
            have HN : Hid (Below w8.heap.size w8 (wr.drewN nq)) := below_drewN BB.out nq
            clear cu cw k1 k2 k1' k2' dk hkr
            go_wp2
            go_roundw
            case rel => exact ⟨i + 1, by omega, by go_num, HN⟩
            case measure => simp [intOf]; omega
          · obtain rfl := V8.out.un i u hu hk
            have dk : decide ((i : Int) ∈ kRise K a) = false := decide_eq_false (fun h => hk ((kRise_mem HFD.out.rg).1 h))
            go_wp2_with fail
            refine (rhas_any (i : Int) _ (kRise K a) wr (RZ8.out.below BB.out)).mono ?_
            rintro e w9 ⟨rfl, hw9⟩
            obtain rfl : wr = w9 := hw9.symm
            clear hw9
            rw [dk]
            go_upto_region 15 with fail
            go_quiet (fail)
            have HN : Hid (Below w8.heap.size w8 (wr.drewN nq)) := below_drewN BB.out nq
            clear cu dk
            go_wp2
            go_roundw
            case rel => exact ⟨i + 1, by omega, by go_num, HN⟩
            case measure => simp [intOf]; omega
        · obtain rfl : a = i := by omega
          have B4r : Hid (Below w4.heap.size w4 wr) := on_below B48.out BB.out
          obtain ⟨r0, r1, r2⟩ := (R8.out.below BB.out).cells
          obtain ⟨x0, x1, x2, x3⟩ := (XBox.below B4.out B4r.out).cells
          go_wp2_with fail
          refine (holds17_any a n A S 0 m pv qv ua uc [] es2 ka km kc bx vb vus K V false wr HM2.out (SPM.out.below B4r.out) (fun e he => (Q2.out e he).below B4r.out) (SUM.out.below B4r.out) VA2.out (KZ8.out.below BB.out) (V8.out.below BB.out) HFD.out.rg HFD.out.len HNH.out F4.out.1 HMm (by omega) (by omega)).mono ?_
          rintro e w9 ⟨rfl, hb9⟩
          have XE : Hid (Below w.heap.size w w9) := on_below (on_below X8.out BB.out) hb9
          clear hb9 r0 r1 r2 x0 x1 x2 x3
          go_wp2
          go_ret
          exact ⟨rfl, XE.out⟩
    | false =>
      obtain ⟨r0, r1, r2⟩ := R8.out.cells
      go_wp2
      clear r0 r1 r2
      go_loopw [67] (fun iv wr => ∃ (i : Nat), i ≤ a ∧ iv = .int .i64 i ∧ Hid (Below w8.heap.size w8 wr)) (fun iv _ => a - (intOf iv).toNat)
      case atStart => exact ⟨0, by omega, rfl, Below.refl _ _⟩
      case round =>
        obtain ⟨i, hi, rfl, BB⟩ := hrel
        by_cases hlt2 : i < a
        · have hltI : (i : Int) < (a : Int) := by omega
          obtain ⟨u, hu, cu⟩ := (V8.out.below BB.out).at hlt2
          by_cases hk : (i : Int) ∈ K
          · obtain ⟨qv1, cv, rfl, hbv⟩ := V8.out.kn i u hu hk
            have dk : decide ((i : Int) ∈ kRise K a) = true := decide_eq_true ((kRise_mem HFD.out.rg).2 hk)
            clear hu hbv
            go_wp2_with fail
            refine (rhas_any (i : Int) _ (kRise K a) wr (RZ8.out.below BB.out)).mono ?_
            rintro e w9 ⟨rfl, hw9⟩
            obtain rfl : wr = w9 := hw9.symm
            clear hw9
            rw [dk]
            go_upto_region 15 with fail
            go_quiet (fail)
            have HN : Hid (Below w8.heap.size w8 (wr.drewN nq)) := below_drewN BB.out nq
            clear cu dk
            go_wp2
            go_roundw
            case rel => exact ⟨i + 1, by omega, by go_num, HN⟩
            case measure => simp [intOf]; omega
          · obtain rfl := V8.out.un i u hu hk
            have dk : decide ((i : Int) ∈ kRise K a) = false := decide_eq_false (fun h => hk ((kRise_mem HFD.out.rg).1 h))
            go_wp2_with fail
            refine (rhas_any (i : Int) _ (kRise K a) wr (RZ8.out.below BB.out)).mono ?_
            rintro e w9 ⟨rfl, hw9⟩
            obtain rfl : wr = w9 := hw9.symm
            clear hw9
            rw [dk]
            go_upto_region 15 with fail
            go_quiet (fail)
            have HN : Hid (Below w8.heap.size w8 (wr.drewN nq)) := below_drewN BB.out nq
            clear cu dk
            go_wp2
            go_roundw
            case rel => exact ⟨i + 1, by omega, by go_num, HN⟩
            case measure => simp [intOf]; omega
        · obtain rfl : a = i := by omega
          have XE := on_below X8.out BB.out
          go_wp2
          go_ret
          exact ⟨rfl, XE⟩

end Go.Proofs.Ytkckbeekehecnaa
