/-
  math/bits: Div64, where the lower half is nought.
-/
import Derived.Test.YtbnedpjfgadkkaaDegA
import Derived.Test.YtbnedpjfgadkkaaDegM
import Derived.Laws.BitsAllLaws
namespace Go.Proofs.Ytbnedpjfgadkkaa
open Go.RowKit
set_option linter.unusedVariables false

set_option maxRecDepth 100000 in
set_option maxHeartbeats 1000000 in
theorem lz64_any (x : Nat) (w : World) (h1 : 1 ≤ x) (hx : x < 18446744073709551616) :
    Calls Try.prog 56 #[.int .u64 x] w fun e w' => ∃ s : Nat, e = .returned (.int .i64 (s : Nat)) ∧ s ≤ 63 ∧ (9223372036854775808 ≤ x * 2 ^ s ∧ x * 2 ^ s < 18446744073709551616) ∧ w' = w := by
  have HL : Hid (∀ W, Calls Try.prog 67 #[.int .u64 x] W fun e w' => ∃ L : Nat, e = .returned (.int .i64 (L : Nat)) ∧ Good x L ∧ w' = W) := fun W => len64_any x W hx
  have Hx : Hid (1 ≤ x ∧ x < 18446744073709551616) := ⟨h1, hx⟩
  clear h1 hx
  go_enter Try.func56, Try.ntmps56
  go_wp2_with fail
  refine (HL.out _).mono ?_
  rintro e w1 ⟨L, rfl, hg, rfl⟩
  have hL := good_lt hg Hx.out.1 Hx.out.2
  obtain ⟨g1, g2, g3⟩ := hg Hx.out.1
  have HN : Hid (9223372036854775808 ≤ x * 2 ^ (64 - L) ∧ x * 2 ^ (64 - L) < 18446744073709551616) := norm_of g1 g2 g3 hL
  clear g2 g3 hg Hx HL
  go_wp2
  go_ret
  exact ⟨64 - L, ret_i (by omega), by omega, HN.out, rfl⟩

theorem u64w (n : Nat) (h : n < 18446744073709551616) : IntKind.u64.wrap (n : Int) = n := by
  rw [IntKind.wrap_u64]
  omega
theorem u64w_of {z : Int} {n : Nat} (hz : z = n) (h : n < 18446744073709551616) : IntKind.u64.wrap z = n := by
  rw [hz]
  exact u64w n h
theorem u64w_mul {a b c : Nat} (e : a * b = c) (h : c < 18446744073709551616) : IntKind.u64.wrap ((a : Int) * (b : Int)) = c := u64w_of (by rw [← e]; simp) h
theorem u64w_shl {a s c : Nat} (e : a * 2 ^ s = c) (h : c < 18446744073709551616) : IntKind.u64.wrap ((a : Int) * 2 ^ s) = c := u64w_of (by rw [← e]; simp) h
theorem u64w_lmul {a c : Nat} {K : Int} {k : Nat} (hK : K = k) (e : k * a = c) (h : c < 18446744073709551616) : IntKind.u64.wrap (K * (a : Int)) = c := u64w_of (by rw [← e, hK]; simp) h
theorem u64w_rmul {a c : Nat} {K : Int} {k : Nat} (hK : K = k) (e : a * k = c) (h : c < 18446744073709551616) : IntKind.u64.wrap ((a : Int) * K) = c := u64w_of (by rw [← e, hK]; simp) h
theorem u64w_add {a b c : Nat} (e : a + b = c) (h : c < 18446744073709551616) : IntKind.u64.wrap ((a : Int) + (b : Int)) = c := u64w_of (by rw [← e]; simp) h
theorem u64w_sub {a b c : Nat} (e : b + c = a) (h : c < 18446744073709551616) : IntKind.u64.wrap ((a : Int) - (b : Int)) = c := u64w_of (by omega) h
theorem u64w_sub1 {a c : Nat} (e : a = c + 1) (h : c < 18446744073709551616) : IntKind.u64.wrap ((a : Int) - 1) = c := u64w_of (by omega) h

theorem u64_mask (Y : Nat) (h : Y < 18446744073709551616) : bits BinOp.and IntKind.u64 (Y : Int) 4294967295 = ((Y % 4294967296 : Nat) : Int) := by
  have e := u64_and_nat Y 4294967295 h (by decide)
  have e2 := Nat.and_two_pow_sub_one_eq_mod Y 32
  have e3 : Y &&& 4294967295 = Y % 4294967296 := e2
  rw [e3] at e
  exact e
theorem u64_mask0 : bits BinOp.and IntKind.u64 0 4294967295 = 0 := by
  have e := u64_mask 0 (by decide)
  simpa using e
theorem u64_or0 (U : Nat) (h : U < 18446744073709551616) : bits BinOp.or IntKind.u64 (U : Int) 0 = (U : Int) := by
  have e := u64_or_nat U 0 h (by decide)
  rw [Nat.or_zero] at e
  exact e

theorem divI {a b c : Nat} (e : a / b = c) : (a : Int) / (b : Int) = c := by rw [← e]; simp
theorem divK {a c : Nat} {K : Int} {k : Nat} (hK : K = k) (e : a / k = c) : (a : Int) / K = c := by rw [← e, hK]; simp

theorem small_mul {q n : Nat} (h : ¬ 4294967296 ≤ q) (k : n < 4294967296) : q * n < 18446744073709551616 := by
  have a : q * n ≤ 4294967295 * 4294967295 := Nat.mul_le_mul (by omega) (by omega)
  omega

/-- The rest behind the first digit, as it is reckoned. -/
theorem rest_wrap {U Y q A B V : Nat} (hA : U * 4294967296 % 18446744073709551616 = A) (hB : q * Y % 18446744073709551616 = B) (hV : U * 4294967296 - q * Y = V) (hl : q * Y ≤ U * 4294967296) (hv : V < 18446744073709551616) : IntKind.u64.wrap ((A : Int) - (B : Int)) = V := by
  rw [IntKind.wrap_u64]
  omega
theorem modw {z : Int} {n A : Nat} (hz : z = n) (hA : n % 18446744073709551616 = A) : IntKind.u64.wrap z = A := by
  rw [IntKind.wrap_u64, hz]
  omega

set_option maxRecDepth 100000 in
set_option maxHeartbeats 4000000 in
theorem div64_top (hi y : Nat) (w : World) (h0 : 1 ≤ hi) (h1 : hi < y) (hy : y < 18446744073709551616) :
    Calls Try.prog 51 #[.int .u64 hi, .int .u64 0, .int .u64 y] w fun e w' => ∃ r : Int, e = .returned (.tuple #[.int .u64 ((hi * 18446744073709551616 / y : Nat) : Int), .int .u64 r]) ∧ w' = w := by
  have HZ : Hid (∀ W, Calls Try.prog 56 #[.int .u64 y] W fun e w' => ∃ s : Nat, e = .returned (.int .i64 (s : Nat)) ∧ s ≤ 63 ∧ (9223372036854775808 ≤ y * 2 ^ s ∧ y * 2 ^ s < 18446744073709551616) ∧ w' = W) := fun W => lz64_any y W (by omega) hy
  have i1 : ¬ (y : Int) = 0 := by omega
  have i2 : ¬ (hi : Int) = 0 := by omega
  have i3 : ¬ (y : Int) ≤ (hi : Int) := by omega
  have H1 : Hid (hi < y) := h1
  obtain ⟨Z, hZ⟩ : ∃ Z, hi * 18446744073709551616 / y = Z := ⟨_, rfl⟩
  rw [hZ]
  have HQ : Hid (hi * 18446744073709551616 / y = Z) := hZ
  clear hy h0 h1 hZ
  go_enter Try.func51, Try.ntmps51
  go_wp2_with fail
  refine (HZ.out _).mono ?_
  rintro e w1 ⟨s, rfl, hs, hn, rfl⟩
  clear HZ
  have HQ2 : Hid (hi * 2 ^ s * 18446744073709551616 / (y * 2 ^ s) = Z) := shifted.trans HQ.out
  have hUY : hi * 2 ^ s < y * 2 ^ s := (Nat.mul_lt_mul_right (Nat.two_pow_pos s)).2 H1.out
  clear HQ H1
  obtain ⟨Y, hY⟩ : ∃ Y, y * 2 ^ s = Y := ⟨_, rfl⟩
  obtain ⟨U, hU⟩ : ∃ U, hi * 2 ^ s = U := ⟨_, rfl⟩
  rw [hY] at hn HQ2 hUY
  rw [hU] at HQ2 hUY
  have HU : Hid (U < Y) := hUY
  have HY : Hid (Y < 18446744073709551616) := hn.2
  have a1 := u64w_shl hY hn.2
  have a4 := u64w_shl hU (by omega)
  have a5 := u64_or0 U (by omega)
  have a6 := u64_mask0
  have D0 := digs_of hn.1 hn.2
  have a3 := u64_mask Y hn.2
  obtain ⟨n1, hn1⟩ : ∃ n, Y / 4294967296 = n := ⟨_, rfl⟩
  obtain ⟨n0, hn0⟩ : ∃ n, Y % 4294967296 = n := ⟨_, rfl⟩
  have a2 := divK (K := 4294967296) (k := 4294967296) rfl hn1
  rw [hn1, hn0] at D0
  rw [hn0] at a3
  have HD : Hid (Digs Y n1 n0) := D0
  have I0 := step_start D0 hUY
  obtain ⟨q0, hq0⟩ : ∃ q, U / n1 = q := ⟨_, rfl⟩
  obtain ⟨r0, hr0⟩ : ∃ q, U % n1 = q := ⟨_, rfl⟩
  rw [hq0, hr0] at I0
  have a7 := divI hq0
  have a7b := u64w q0 (by have := I0.le; omega)
  have i4 : ¬ (n1 : Int) = 0 := by have := D0.lo; omega
  have HI : Hid (StepI U Y n1 q0 r0) := I0
  obtain ⟨t0, ht0⟩ : ∃ t, q0 * n1 = t := ⟨_, rfl⟩
  have he := I0.eq
  rw [ht0] at he
  have a8 := u64w_mul ht0 (by omega)
  have a9 := u64w_sub (a := U) (b := t0) (c := r0) he (by omega)
  clear hn hY hU hUY D0 hn1 hn0 hq0 hr0 I0 he ht0
  go_upto_region 17 with fail
  clear a1 a2 a3 a4 a5 a6 a7 a7b a8 a9 i1 i2 i3
  go_loop [15, 16] (fun qv rv => ∃ (q r : Nat), qv = .int .u64 (q : Nat) ∧ rv = .int .u64 (r : Nat) ∧ Hid (StepI U Y n1 q r)) (fun qv _ => (intOf qv).toNat)
  case atStart => exact ⟨q0, r0, rfl, rfl, HI⟩
  case round =>
    obtain ⟨q, r, rfl, rfl, I⟩ := hrel
    clear HI
    have hI := I.out
    by_cases hq : 4294967296 ≤ q
    · have hq' : (q : Int) ≥ 4294967296 := by omega
      obtain ⟨p, hp, p1, p2, p3, p4⟩ := hI.less HD.out HU.out (.inl hq)
      obtain ⟨t, ht⟩ : ∃ t, r + n1 = t := ⟨_, rfl⟩
      have b1 := u64w_sub1 hp (by omega)
      have b2 := u64w_add ht (by omega)

      by_cases hb : r + n1 < 4294967296
      · have I2 : Hid (StepI U Y n1 p (r + n1)) := StepI.on p1 p2 p3 hb
        rw [ht] at I2 hb
        have hb' : ¬ (t : Int) ≥ 4294967296 := by omega
        have HM : Hid (q = p + 1) := hp
        clear I hI p1 p2 p3 p4 ht hp hq hb
        go_wp2
        go_round
        case rel => exact ⟨p, t, rfl, rfl, I2⟩
        case measure => have := HM.out; simp [intOf]; omega
      · have D : Hid (IsDig U Y p) := dig_break HD.out p1 p2 p3 hb
        have hb' : (t : Int) ≥ 4294967296 := by omega
        clear I hI p1 p2 p3 p4 ht hp hq hb
        have DL := D.out.lt HU.out
        have DR := D.out.rest
        have DE := D.out.1
        have D1 : Hid (IsDig U Y p) := D
        have HK : Hid (p < 4294967296) := DL
        obtain ⟨A1, hA1⟩ : ∃ A, U * 4294967296 % 18446744073709551616 = A := ⟨_, rfl⟩
        obtain ⟨B1, hB1⟩ : ∃ A, p * Y % 18446744073709551616 = A := ⟨_, rfl⟩
        obtain ⟨V, hV⟩ : ∃ A, U * 4294967296 - p * Y = A := ⟨_, rfl⟩
        have hVl : V < 18446744073709551616 := by have := HY.out; omega
        have d1 := modw (z := (U : Int) * 4294967296) (n := U * 4294967296) (by simp) hA1
        have d2 := u64w A1 (by rw [← hA1]; exact Nat.mod_lt _ (by decide))
        have d3 := modw (z := (p : Int) * (Y : Int)) (n := p * Y) (by simp) hB1
        have d4 := rest_wrap hA1 hB1 hV DE hVl
        rw [hV] at DR
        have HV : Hid (V < Y) := DR
        have HV2 : Hid (U * 4294967296 - p * Y = V) := hV
        have J0 := step_start HD.out DR
        obtain ⟨q2, hq2⟩ : ∃ q, V / n1 = q := ⟨_, rfl⟩
        obtain ⟨r2, hr2⟩ : ∃ q, V % n1 = q := ⟨_, rfl⟩
        rw [hq2, hr2] at J0
        have d5 := divI hq2
        have d6 := u64w q2 (by have := J0.le; omega)
        have HI : Hid (StepI V Y n1 q2 r2) := J0
        obtain ⟨t2, ht2⟩ : ∃ t, q2 * n1 = t := ⟨_, rfl⟩
        have he := J0.eq
        rw [ht2] at he
        have d7 := u64w_mul ht2 (by omega)
        have d8 := u64w_sub (a := V) (b := t2) (c := r2) he (by omega)
        clear D DL DR DE hA1 hB1 hV hVl J0 hq2 hr2 he ht2
        go_upto_region 24 with fail
        clear d1 d2 d3 d4 d5 d6 d7 d8
        go_loop [18, 16] (fun qv rv => ∃ (q r : Nat), qv = .int .u64 (q : Nat) ∧ rv = .int .u64 (r : Nat) ∧ Hid (StepI V Y n1 q r)) (fun qv _ => (intOf qv).toNat)
        case atStart => exact ⟨q2, r2, rfl, rfl, HI⟩
        case round =>
          obtain ⟨qv, rv, rfl, rfl, I⟩ := hrel
          clear HI
          have hI := I.out
          by_cases hq : 4294967296 ≤ qv
          · have hq' : (qv : Int) ≥ 4294967296 := by omega
            obtain ⟨pv, hp, p1, p2, p3, p4⟩ := hI.less HD.out HV.out (.inl hq)
            obtain ⟨tv, ht⟩ : ∃ tv, rv + n1 = tv := ⟨_, rfl⟩
            have b1 := u64w_sub1 hp (by omega)
            have b2 := u64w_add ht (by omega)

            by_cases hb : rv + n1 < 4294967296
            · have I2 : Hid (StepI V Y n1 pv (rv + n1)) := StepI.on p1 p2 p3 hb
              rw [ht] at I2 hb
              have hb' : ¬ (tv : Int) ≥ 4294967296 := by omega
              have HM : Hid (qv = pv + 1) := hp
              clear I hI p1 p2 p3 p4 ht hp hq hb
              go_wp2
              go_round
              case rel => exact ⟨pv, tv, rfl, rfl, I2⟩
              case measure => have := HM.out; simp [intOf]; omega
            · have D : Hid (IsDig V Y pv) := dig_break HD.out p1 p2 p3 hb
              have hb' : (tv : Int) ≥ 4294967296 := by omega
              clear I hI p1 p2 p3 p4 ht hp hq hb
              have DL := D.out.lt HV.out
              obtain ⟨E, hE⟩ : ∃ E, p * 4294967296 = E := ⟨_, rfl⟩
              have f1 := u64w_rmul (K := 4294967296) rfl hE (by have := HK.out; omega)
              have hZ : E + pv = Z := by rw [← hE, ← HQ2.out]; exact (two_digs D1.out (by rw [HV2.out]; exact D.out)).symm
              have f2 := u64w_add hZ (by have := HK.out; omega)
              clear hE D DL hZ D1 HV2 HK
              go_wp2
              go_ret2
              exact ⟨⟨_, rfl⟩, rfl⟩
          · have hq' : ¬ (qv : Int) ≥ 4294967296 := by omega
            have hn0 := HD.out.n0
            have hrt := hI.lt
            obtain ⟨Av, hA⟩ : ∃ Av, qv * n0 = Av := ⟨_, rfl⟩
            obtain ⟨Cv, hC⟩ : ∃ Cv, 4294967296 * rv = Cv := ⟨_, rfl⟩
            have hAl : Av < 18446744073709551616 := by rw [← hA]; exact small_mul hq hn0
            have hCl : Cv < 18446744073709551616 := by omega
            have c1 := u64w_mul hA hAl
            have c2 := u64w_lmul (K := 4294967296) rfl hC hCl
            have c3 := u64w Cv hCl
            by_cases ht0 : Cv < Av
            · have ht0' : (Av : Int) > (Cv : Int) := by omega
              have ht1 : 4294967296 * rv < qv * n0 := by rw [hA, hC]; exact ht0
              clear hA hC hAl hCl hn0 hrt
              obtain ⟨pv, hp, p1, p2, p3, p4⟩ := hI.less HD.out HV.out (.inr ht1)
              obtain ⟨tv, ht⟩ : ∃ tv, rv + n1 = tv := ⟨_, rfl⟩
              have b1 := u64w_sub1 hp (by omega)
              have b2 := u64w_add ht (by omega)
              clear ht1 ht0
              by_cases hb : rv + n1 < 4294967296
              · have I2 : Hid (StepI V Y n1 pv (rv + n1)) := StepI.on p1 p2 p3 hb
                rw [ht] at I2 hb
                have hb' : ¬ (tv : Int) ≥ 4294967296 := by omega
                have HM : Hid (qv = pv + 1) := hp
                clear I hI p1 p2 p3 p4 ht hp hq hb
                go_wp2
                go_round
                case rel => exact ⟨pv, tv, rfl, rfl, I2⟩
                case measure => have := HM.out; simp [intOf]; omega
              · have D : Hid (IsDig V Y pv) := dig_break HD.out p1 p2 p3 hb
                have hb' : (tv : Int) ≥ 4294967296 := by omega
                clear I hI p1 p2 p3 p4 ht hp hq hb
                have DL := D.out.lt HV.out
                obtain ⟨E, hE⟩ : ∃ E, p * 4294967296 = E := ⟨_, rfl⟩
                have f1 := u64w_rmul (K := 4294967296) rfl hE (by have := HK.out; omega)
                have hZ : E + pv = Z := by rw [← hE, ← HQ2.out]; exact (two_digs D1.out (by rw [HV2.out]; exact D.out)).symm
                have f2 := u64w_add hZ (by have := HK.out; omega)
                clear hE D DL hZ D1 HV2 HK
                go_wp2
                go_ret2
                exact ⟨⟨_, rfl⟩, rfl⟩
            · have ht0' : ¬ (Av : Int) > (Cv : Int) := by omega
              have D : Hid (IsDig V Y qv) := hI.done HD.out (by rw [hA, hC]; omega)
              clear I hI hA hC hAl hCl hn0 hrt hq ht0
              have DL := D.out.lt HV.out
              obtain ⟨E, hE⟩ : ∃ E, p * 4294967296 = E := ⟨_, rfl⟩
              have f1 := u64w_rmul (K := 4294967296) rfl hE (by have := HK.out; omega)
              have hZ : E + qv = Z := by rw [← hE, ← HQ2.out]; exact (two_digs D1.out (by rw [HV2.out]; exact D.out)).symm
              have f2 := u64w_add hZ (by have := HK.out; omega)
              clear hE D DL hZ D1 HV2 HK
              go_wp2
              go_ret2
              exact ⟨⟨_, rfl⟩, rfl⟩
    · have hq' : ¬ (q : Int) ≥ 4294967296 := by omega
      have hn0 := HD.out.n0
      have hrt := hI.lt
      obtain ⟨A, hA⟩ : ∃ A, q * n0 = A := ⟨_, rfl⟩
      obtain ⟨C, hC⟩ : ∃ C, 4294967296 * r = C := ⟨_, rfl⟩
      have hAl : A < 18446744073709551616 := by rw [← hA]; exact small_mul hq hn0
      have hCl : C < 18446744073709551616 := by omega
      have c1 := u64w_mul hA hAl
      have c2 := u64w_lmul (K := 4294967296) rfl hC hCl
      have c3 := u64w C hCl
      by_cases ht0 : C < A
      · have ht0' : (A : Int) > (C : Int) := by omega
        have ht1 : 4294967296 * r < q * n0 := by rw [hA, hC]; exact ht0
        clear hA hC hAl hCl hn0 hrt
        obtain ⟨p, hp, p1, p2, p3, p4⟩ := hI.less HD.out HU.out (.inr ht1)
        obtain ⟨t, ht⟩ : ∃ t, r + n1 = t := ⟨_, rfl⟩
        have b1 := u64w_sub1 hp (by omega)
        have b2 := u64w_add ht (by omega)
        clear ht1 ht0
        by_cases hb : r + n1 < 4294967296
        · have I2 : Hid (StepI U Y n1 p (r + n1)) := StepI.on p1 p2 p3 hb
          rw [ht] at I2 hb
          have hb' : ¬ (t : Int) ≥ 4294967296 := by omega
          have HM : Hid (q = p + 1) := hp
          clear I hI p1 p2 p3 p4 ht hp hq hb
          go_wp2
          go_round
          case rel => exact ⟨p, t, rfl, rfl, I2⟩
          case measure => have := HM.out; simp [intOf]; omega
        · have D : Hid (IsDig U Y p) := dig_break HD.out p1 p2 p3 hb
          have hb' : (t : Int) ≥ 4294967296 := by omega
          clear I hI p1 p2 p3 p4 ht hp hq hb
          have DL := D.out.lt HU.out
          have DR := D.out.rest
          have DE := D.out.1
          have D1 : Hid (IsDig U Y p) := D
          have HK : Hid (p < 4294967296) := DL
          obtain ⟨A1, hA1⟩ : ∃ A, U * 4294967296 % 18446744073709551616 = A := ⟨_, rfl⟩
          obtain ⟨B1, hB1⟩ : ∃ A, p * Y % 18446744073709551616 = A := ⟨_, rfl⟩
          obtain ⟨V, hV⟩ : ∃ A, U * 4294967296 - p * Y = A := ⟨_, rfl⟩
          have hVl : V < 18446744073709551616 := by have := HY.out; omega
          have d1 := modw (z := (U : Int) * 4294967296) (n := U * 4294967296) (by simp) hA1
          have d2 := u64w A1 (by rw [← hA1]; exact Nat.mod_lt _ (by decide))
          have d3 := modw (z := (p : Int) * (Y : Int)) (n := p * Y) (by simp) hB1
          have d4 := rest_wrap hA1 hB1 hV DE hVl
          rw [hV] at DR
          have HV : Hid (V < Y) := DR
          have HV2 : Hid (U * 4294967296 - p * Y = V) := hV
          have J0 := step_start HD.out DR
          obtain ⟨q2, hq2⟩ : ∃ q, V / n1 = q := ⟨_, rfl⟩
          obtain ⟨r2, hr2⟩ : ∃ q, V % n1 = q := ⟨_, rfl⟩
          rw [hq2, hr2] at J0
          have d5 := divI hq2
          have d6 := u64w q2 (by have := J0.le; omega)
          have HI : Hid (StepI V Y n1 q2 r2) := J0
          obtain ⟨t2, ht2⟩ : ∃ t, q2 * n1 = t := ⟨_, rfl⟩
          have he := J0.eq
          rw [ht2] at he
          have d7 := u64w_mul ht2 (by omega)
          have d8 := u64w_sub (a := V) (b := t2) (c := r2) he (by omega)
          clear D DL DR DE hA1 hB1 hV hVl J0 hq2 hr2 he ht2
          go_upto_region 24 with fail
          clear d1 d2 d3 d4 d5 d6 d7 d8
          go_loop [18, 16] (fun qv rv => ∃ (q r : Nat), qv = .int .u64 (q : Nat) ∧ rv = .int .u64 (r : Nat) ∧ Hid (StepI V Y n1 q r)) (fun qv _ => (intOf qv).toNat)
          case atStart => exact ⟨q2, r2, rfl, rfl, HI⟩
          case round =>
            obtain ⟨qv, rv, rfl, rfl, I⟩ := hrel
            clear HI
            have hI := I.out
            by_cases hq : 4294967296 ≤ qv
            · have hq' : (qv : Int) ≥ 4294967296 := by omega
              obtain ⟨pv, hp, p1, p2, p3, p4⟩ := hI.less HD.out HV.out (.inl hq)
              obtain ⟨tv, ht⟩ : ∃ tv, rv + n1 = tv := ⟨_, rfl⟩
              have b1 := u64w_sub1 hp (by omega)
              have b2 := u64w_add ht (by omega)

              by_cases hb : rv + n1 < 4294967296
              · have I2 : Hid (StepI V Y n1 pv (rv + n1)) := StepI.on p1 p2 p3 hb
                rw [ht] at I2 hb
                have hb' : ¬ (tv : Int) ≥ 4294967296 := by omega
                have HM : Hid (qv = pv + 1) := hp
                clear I hI p1 p2 p3 p4 ht hp hq hb
                go_wp2
                go_round
                case rel => exact ⟨pv, tv, rfl, rfl, I2⟩
                case measure => have := HM.out; simp [intOf]; omega
              · have D : Hid (IsDig V Y pv) := dig_break HD.out p1 p2 p3 hb
                have hb' : (tv : Int) ≥ 4294967296 := by omega
                clear I hI p1 p2 p3 p4 ht hp hq hb
                have DL := D.out.lt HV.out
                obtain ⟨E, hE⟩ : ∃ E, p * 4294967296 = E := ⟨_, rfl⟩
                have f1 := u64w_rmul (K := 4294967296) rfl hE (by have := HK.out; omega)
                have hZ : E + pv = Z := by rw [← hE, ← HQ2.out]; exact (two_digs D1.out (by rw [HV2.out]; exact D.out)).symm
                have f2 := u64w_add hZ (by have := HK.out; omega)
                clear hE D DL hZ D1 HV2 HK
                go_wp2
                go_ret2
                exact ⟨⟨_, rfl⟩, rfl⟩
            · have hq' : ¬ (qv : Int) ≥ 4294967296 := by omega
              have hn0 := HD.out.n0
              have hrt := hI.lt
              obtain ⟨Av, hA⟩ : ∃ Av, qv * n0 = Av := ⟨_, rfl⟩
              obtain ⟨Cv, hC⟩ : ∃ Cv, 4294967296 * rv = Cv := ⟨_, rfl⟩
              have hAl : Av < 18446744073709551616 := by rw [← hA]; exact small_mul hq hn0
              have hCl : Cv < 18446744073709551616 := by omega
              have c1 := u64w_mul hA hAl
              have c2 := u64w_lmul (K := 4294967296) rfl hC hCl
              have c3 := u64w Cv hCl
              by_cases ht0 : Cv < Av
              · have ht0' : (Av : Int) > (Cv : Int) := by omega
                have ht1 : 4294967296 * rv < qv * n0 := by rw [hA, hC]; exact ht0
                clear hA hC hAl hCl hn0 hrt
                obtain ⟨pv, hp, p1, p2, p3, p4⟩ := hI.less HD.out HV.out (.inr ht1)
                obtain ⟨tv, ht⟩ : ∃ tv, rv + n1 = tv := ⟨_, rfl⟩
                have b1 := u64w_sub1 hp (by omega)
                have b2 := u64w_add ht (by omega)
                clear ht1 ht0
                by_cases hb : rv + n1 < 4294967296
                · have I2 : Hid (StepI V Y n1 pv (rv + n1)) := StepI.on p1 p2 p3 hb
                  rw [ht] at I2 hb
                  have hb' : ¬ (tv : Int) ≥ 4294967296 := by omega
                  have HM : Hid (qv = pv + 1) := hp
                  clear I hI p1 p2 p3 p4 ht hp hq hb
                  go_wp2
                  go_round
                  case rel => exact ⟨pv, tv, rfl, rfl, I2⟩
                  case measure => have := HM.out; simp [intOf]; omega
                · have D : Hid (IsDig V Y pv) := dig_break HD.out p1 p2 p3 hb
                  have hb' : (tv : Int) ≥ 4294967296 := by omega
                  clear I hI p1 p2 p3 p4 ht hp hq hb
                  have DL := D.out.lt HV.out
                  obtain ⟨E, hE⟩ : ∃ E, p * 4294967296 = E := ⟨_, rfl⟩
                  have f1 := u64w_rmul (K := 4294967296) rfl hE (by have := HK.out; omega)
                  have hZ : E + pv = Z := by rw [← hE, ← HQ2.out]; exact (two_digs D1.out (by rw [HV2.out]; exact D.out)).symm
                  have f2 := u64w_add hZ (by have := HK.out; omega)
                  clear hE D DL hZ D1 HV2 HK
                  go_wp2
                  go_ret2
                  exact ⟨⟨_, rfl⟩, rfl⟩
              · have ht0' : ¬ (Av : Int) > (Cv : Int) := by omega
                have D : Hid (IsDig V Y qv) := hI.done HD.out (by rw [hA, hC]; omega)
                clear I hI hA hC hAl hCl hn0 hrt hq ht0
                have DL := D.out.lt HV.out
                obtain ⟨E, hE⟩ : ∃ E, p * 4294967296 = E := ⟨_, rfl⟩
                have f1 := u64w_rmul (K := 4294967296) rfl hE (by have := HK.out; omega)
                have hZ : E + qv = Z := by rw [← hE, ← HQ2.out]; exact (two_digs D1.out (by rw [HV2.out]; exact D.out)).symm
                have f2 := u64w_add hZ (by have := HK.out; omega)
                clear hE D DL hZ D1 HV2 HK
                go_wp2
                go_ret2
                exact ⟨⟨_, rfl⟩, rfl⟩
      · have ht0' : ¬ (A : Int) > (C : Int) := by omega
        have D : Hid (IsDig U Y q) := hI.done HD.out (by rw [hA, hC]; omega)
        clear I hI hA hC hAl hCl hn0 hrt hq ht0
        have DL := D.out.lt HU.out
        have DR := D.out.rest
        have DE := D.out.1
        have D1 : Hid (IsDig U Y q) := D
        have HK : Hid (q < 4294967296) := DL
        obtain ⟨A1, hA1⟩ : ∃ A, U * 4294967296 % 18446744073709551616 = A := ⟨_, rfl⟩
        obtain ⟨B1, hB1⟩ : ∃ A, q * Y % 18446744073709551616 = A := ⟨_, rfl⟩
        obtain ⟨V, hV⟩ : ∃ A, U * 4294967296 - q * Y = A := ⟨_, rfl⟩
        have hVl : V < 18446744073709551616 := by have := HY.out; omega
        have d1 := modw (z := (U : Int) * 4294967296) (n := U * 4294967296) (by simp) hA1
        have d2 := u64w A1 (by rw [← hA1]; exact Nat.mod_lt _ (by decide))
        have d3 := modw (z := (q : Int) * (Y : Int)) (n := q * Y) (by simp) hB1
        have d4 := rest_wrap hA1 hB1 hV DE hVl
        rw [hV] at DR
        have HV : Hid (V < Y) := DR
        have HV2 : Hid (U * 4294967296 - q * Y = V) := hV
        have J0 := step_start HD.out DR
        obtain ⟨q2, hq2⟩ : ∃ q, V / n1 = q := ⟨_, rfl⟩
        obtain ⟨r2, hr2⟩ : ∃ q, V % n1 = q := ⟨_, rfl⟩
        rw [hq2, hr2] at J0
        have d5 := divI hq2
        have d6 := u64w q2 (by have := J0.le; omega)
        have HI : Hid (StepI V Y n1 q2 r2) := J0
        obtain ⟨t2, ht2⟩ : ∃ t, q2 * n1 = t := ⟨_, rfl⟩
        have he := J0.eq
        rw [ht2] at he
        have d7 := u64w_mul ht2 (by omega)
        have d8 := u64w_sub (a := V) (b := t2) (c := r2) he (by omega)
        clear D DL DR DE hA1 hB1 hV hVl J0 hq2 hr2 he ht2
        go_upto_region 24 with fail
        clear d1 d2 d3 d4 d5 d6 d7 d8
        go_loop [18, 16] (fun qv rv => ∃ (q r : Nat), qv = .int .u64 (q : Nat) ∧ rv = .int .u64 (r : Nat) ∧ Hid (StepI V Y n1 q r)) (fun qv _ => (intOf qv).toNat)
        case atStart => exact ⟨q2, r2, rfl, rfl, HI⟩
        case round =>
          obtain ⟨qv, rv, rfl, rfl, I⟩ := hrel
          clear HI
          have hI := I.out
          by_cases hq : 4294967296 ≤ qv
          · have hq' : (qv : Int) ≥ 4294967296 := by omega
            obtain ⟨pv, hp, p1, p2, p3, p4⟩ := hI.less HD.out HV.out (.inl hq)
            obtain ⟨tv, ht⟩ : ∃ tv, rv + n1 = tv := ⟨_, rfl⟩
            have b1 := u64w_sub1 hp (by omega)
            have b2 := u64w_add ht (by omega)

            by_cases hb : rv + n1 < 4294967296
            · have I2 : Hid (StepI V Y n1 pv (rv + n1)) := StepI.on p1 p2 p3 hb
              rw [ht] at I2 hb
              have hb' : ¬ (tv : Int) ≥ 4294967296 := by omega
              have HM : Hid (qv = pv + 1) := hp
              clear I hI p1 p2 p3 p4 ht hp hq hb
              go_wp2
              go_round
              case rel => exact ⟨pv, tv, rfl, rfl, I2⟩
              case measure => have := HM.out; simp [intOf]; omega
            · have D : Hid (IsDig V Y pv) := dig_break HD.out p1 p2 p3 hb
              have hb' : (tv : Int) ≥ 4294967296 := by omega
              clear I hI p1 p2 p3 p4 ht hp hq hb
              have DL := D.out.lt HV.out
              obtain ⟨E, hE⟩ : ∃ E, q * 4294967296 = E := ⟨_, rfl⟩
              have f1 := u64w_rmul (K := 4294967296) rfl hE (by have := HK.out; omega)
              have hZ : E + pv = Z := by rw [← hE, ← HQ2.out]; exact (two_digs D1.out (by rw [HV2.out]; exact D.out)).symm
              have f2 := u64w_add hZ (by have := HK.out; omega)
              clear hE D DL hZ D1 HV2 HK
              go_wp2
              go_ret2
              exact ⟨⟨_, rfl⟩, rfl⟩
          · have hq' : ¬ (qv : Int) ≥ 4294967296 := by omega
            have hn0 := HD.out.n0
            have hrt := hI.lt
            obtain ⟨Av, hA⟩ : ∃ Av, qv * n0 = Av := ⟨_, rfl⟩
            obtain ⟨Cv, hC⟩ : ∃ Cv, 4294967296 * rv = Cv := ⟨_, rfl⟩
            have hAl : Av < 18446744073709551616 := by rw [← hA]; exact small_mul hq hn0
            have hCl : Cv < 18446744073709551616 := by omega
            have c1 := u64w_mul hA hAl
            have c2 := u64w_lmul (K := 4294967296) rfl hC hCl
            have c3 := u64w Cv hCl
            by_cases ht0 : Cv < Av
            · have ht0' : (Av : Int) > (Cv : Int) := by omega
              have ht1 : 4294967296 * rv < qv * n0 := by rw [hA, hC]; exact ht0
              clear hA hC hAl hCl hn0 hrt
              obtain ⟨pv, hp, p1, p2, p3, p4⟩ := hI.less HD.out HV.out (.inr ht1)
              obtain ⟨tv, ht⟩ : ∃ tv, rv + n1 = tv := ⟨_, rfl⟩
              have b1 := u64w_sub1 hp (by omega)
              have b2 := u64w_add ht (by omega)
              clear ht1 ht0
              by_cases hb : rv + n1 < 4294967296
              · have I2 : Hid (StepI V Y n1 pv (rv + n1)) := StepI.on p1 p2 p3 hb
                rw [ht] at I2 hb
                have hb' : ¬ (tv : Int) ≥ 4294967296 := by omega
                have HM : Hid (qv = pv + 1) := hp
                clear I hI p1 p2 p3 p4 ht hp hq hb
                go_wp2
                go_round
                case rel => exact ⟨pv, tv, rfl, rfl, I2⟩
                case measure => have := HM.out; simp [intOf]; omega
              · have D : Hid (IsDig V Y pv) := dig_break HD.out p1 p2 p3 hb
                have hb' : (tv : Int) ≥ 4294967296 := by omega
                clear I hI p1 p2 p3 p4 ht hp hq hb
                have DL := D.out.lt HV.out
                obtain ⟨E, hE⟩ : ∃ E, q * 4294967296 = E := ⟨_, rfl⟩
                have f1 := u64w_rmul (K := 4294967296) rfl hE (by have := HK.out; omega)
                have hZ : E + pv = Z := by rw [← hE, ← HQ2.out]; exact (two_digs D1.out (by rw [HV2.out]; exact D.out)).symm
                have f2 := u64w_add hZ (by have := HK.out; omega)
                clear hE D DL hZ D1 HV2 HK
                go_wp2
                go_ret2
                exact ⟨⟨_, rfl⟩, rfl⟩
            · have ht0' : ¬ (Av : Int) > (Cv : Int) := by omega
              have D : Hid (IsDig V Y qv) := hI.done HD.out (by rw [hA, hC]; omega)
              clear I hI hA hC hAl hCl hn0 hrt hq ht0
              have DL := D.out.lt HV.out
              obtain ⟨E, hE⟩ : ∃ E, q * 4294967296 = E := ⟨_, rfl⟩
              have f1 := u64w_rmul (K := 4294967296) rfl hE (by have := HK.out; omega)
              have hZ : E + qv = Z := by rw [← hE, ← HQ2.out]; exact (two_digs D1.out (by rw [HV2.out]; exact D.out)).symm
              have f2 := u64w_add hZ (by have := HK.out; omega)
              clear hE D DL hZ D1 HV2 HK
              go_wp2
              go_ret2
              exact ⟨⟨_, rfl⟩, rfl⟩

end Go.Proofs.Ytbnedpjfgadkkaa
