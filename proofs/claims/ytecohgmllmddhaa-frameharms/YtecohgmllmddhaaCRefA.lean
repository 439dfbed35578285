/-
  The document's own answers of the first layer: a bit, the sum by a long division, what is sealed.
-/
import Derived.Test.YtecohgmllmddhaaCMathF
import Derived.Test.YtecohgmllmddhaaLApp
namespace Go.Proofs.Ytecohgmllmddhaa
open Go.RowKit
set_option linter.unusedVariables false

theorem bit_num (y j : Nat) : y / 2 ^ j % 2 = (y.testBit j).toNat := by
  rw [Nat.testBit_eq_decide_div_mod_eq]
  have : y / 2 ^ j % 2 < 2 := Nat.mod_lt _ (by omega)
  by_cases h : y / 2 ^ j % 2 = 1
  · simp [h]
  · have h0 : y / 2 ^ j % 2 = 0 := by omega
    simp [h0]

theorem bit_int (y j : Nat) : ((y : Int) / 2 ^ j).tmod 2 = (((y.testBit j).toNat : Nat) : Int) := by
  rw [← bit_num]
  have e : (y : Int) / 2 ^ j = ((y / 2 ^ j : Nat) : Int) := by simp
  rw [e]
  generalize y / 2 ^ j = t
  rw [Int.tmod_eq_emod_of_nonneg (Int.natCast_nonneg _)]
  omega

theorem bit_at (l : List UInt8) (k : Nat) (h : k / 8 < l.length) : (MathA.bitsOf l)[k]?.getD false = (l[k / 8]).toNat.testBit (7 - k % 8) := by
  rw [MathA.bitsOf_at, List.getElem?_eq_getElem h]
  rfl

set_option maxRecDepth 100000 in
set_option maxHeartbeats 1000000 in
theorem bit_any (v : Value) (l : List UInt8) (k : Nat) (w : World) (hl : Bs w v l) (hk : k < 8 * l.length) (hl2 : l.length ≤ 1000000) :
    Calls Try.prog 67 #[v, .int .i64 k] w fun e w' => e = .returned (.int .u64 (((MathA.bitsOf l)[k]?.getD false).toNat : Nat)) ∧ w' = w := by
  obtain ⟨_, ao, cap, rfl, hnc, hcm, _, hcl⟩ := hl
  rcases hcl with h0 | ⟨b, off, rfl, hc⟩
  · omega
  have hk8 : k / 8 < l.length := by omega
  have d0 := hc (k / 8) _ (map_bv_at l (k / 8) hk8)
  have HB : Hid ((MathA.bitsOf l)[k]?.getD false = (l[k / 8]).toNat.testBit (7 - k % 8)) := bit_at l k hk8
  clear hc
  generalize hy : l[k / 8] = y at *
  clear hy
  have hyl := y.toNat_lt
  obtain ⟨m, hm⟩ : ∃ m : Nat, k / 8 = m := ⟨_, rfl⟩
  rw [hm] at d0 hk8
  have hmI : (k : Int) / 8 = (m : Int) := by omega
  obtain ⟨r, hr, hr8⟩ : ∃ r : Nat, k % 8 = r ∧ r < 8 := ⟨_, rfl, by omega⟩
  have hrI : (k : Int) % 8 = (r : Int) := by omega
  rw [hr] at HB
  obtain ⟨j, hj, hj8⟩ : ∃ j : Nat, 7 - r = j ∧ j < 8 := ⟨_, rfl, by omega⟩
  rw [hj] at HB
  have hjI : (7 : Int) - (r : Int) = (j : Int) := by omega
  clear hm hr hj
  have hw1 : IntKind.i64.wrap (7 - (r : Int)) = (j : Int) := by rw [hjI]; unfold IntKind.wrap; simp [IntKind.bits]; omega
  go_enter Try.func67, Try.ntmps67
  go_wp2
  go_ret
  exact ⟨ret_int (by rw [HB.out]; exact bit_int _ _), rfl⟩

theorem wrap64 (x : Int) (h0 : 0 ≤ x) (h1 : x < 18446744073709551616) : IntKind.u64.wrap x = x := by
  simp [IntKind.wrap, IntKind.bits, IntKind.signed]
  omega

theorem refBit_in (l : List UInt8) (k : Nat) (h : k < 32) : (MathA.refBit l k).toNat = 1 - ((MathA.bitsOf l)[k]?.getD false).toNat := by
  unfold MathA.refBit
  cases (MathA.bitsOf l)[k]?.getD false <;> simp [h]

theorem refBit_out (l : List UInt8) (k : Nat) (h : ¬ k < 32) : (MathA.refBit l k).toNat = ((MathA.bitsOf l)[k]?.getD false).toNat := by
  unfold MathA.refBit
  cases (MathA.bitsOf l)[k]?.getD false <;> simp [h]

theorem bit_none (l : List UInt8) (k : Nat) (h : ¬ k < 8 * l.length) : ((MathA.bitsOf l)[k]?.getD false).toNat = 0 := by
  rw [List.getElem?_eq_none (by rw [MathA.length_bitsOf]; omega)]
  rfl

theorem xor_poly (S : Nat) (h : S < 8589934592) : bits BinOp.xor IntKind.u64 (S : Int) 4374732215 = ((S ^^^ 4374732215 : Nat) : Int) :=
  u64_xor_nat S 4374732215 (by omega) (by omega)

set_option maxRecDepth 100000 in
set_option maxHeartbeats 1000000 in
theorem rsum_any (v : Value) (l : List UInt8) (w : World) (hl : Bs w v l) (hl2 : l.length ≤ 1000000) :
    Calls Try.prog 55 #[v] w fun e w' => e = .returned (.int .u32 (MathA.sum l)) ∧ w' = w := by
  have H0 : Hid (Bs w v l) := hl
  obtain ⟨_, ao, cap, rfl, hnc, hcm, _, _⟩ := hl
  obtain ⟨n, hn⟩ : ∃ n, l.length = n := ⟨_, rfl⟩
  rw [hn] at hl2 hnc ⊢
  have Hn : Hid (l.length = n) := hn
  have HB : Hid (∀ k, k < 8 * n → Calls Try.prog 67 #[.slice ao n cap, .int .i64 k] w fun e w' => e = .returned (.int .u64 (((MathA.bitsOf l)[k]?.getD false).toNat : Nat)) ∧ w' = w) := by
    intro k hk
    have h := bit_any _ l k w H0.out (by omega) (by omega)
    rw [hn] at h
    exact h
  clear hn H0
  go_enter Try.func55, Try.ntmps55
  go_wp2_with fail
  go_loopw [3, 4] (fun r i wr => ∃ (k R : Nat), k ≤ 8 * n + 32 ∧ i = .int .i64 k ∧ r = .int .u64 R ∧ Hid (R = (MathA.refRest l k).toNat) ∧ wr = w) (fun _ i _ => 8 * n + 32 - (intOf i).toNat)
  case atStart => exact ⟨0, 0, by omega, rfl, rfl, rfl, rfl⟩
  case round =>
    obtain ⟨k, R, hk, rfl, rfl, hR, rfl⟩ := hrel
    have hRl : R < 4294967296 := by rw [hR.out]; exact (MathA.refRest l k).isLt
    by_cases hlt : k < 8 * n + 32
    · have hltI : (k : Int) < 8 * (n : Int) + 32 := by omega
      obtain ⟨c, hc⟩ : ∃ c, (MathA.refBit l k).toNat = c := ⟨_, rfl⟩
      have hc1 : c ≤ 1 := by rw [← hc]; exact Bool.toNat_le _
      obtain ⟨S, hS⟩ : ∃ S, 2 * R + c = S := ⟨_, rfl⟩
      obtain ⟨R2, hR2⟩ : ∃ R2, 2 * R = R2 := ⟨_, rfl⟩
      have hwA : IntKind.u64.wrap ((R : Int) * 2) = (R2 : Int) := by rw [wrap64 _ (by omega) (by omega)]; omega
      have hwB : IntKind.u64.wrap ((R2 : Int) + (c : Int)) = (S : Int) := by rw [wrap64 _ (by omega) (by omega)]; omega
      have hlo : Hid (S < 4294967296 → S = (MathA.refRest l (k + 1)).toNat) := fun h => by
        rw [MathA.refRest, MathA.push_lo _ _ (by rw [← hR.out, hc, hS]; exact h), ← hR.out, hc, hS]
      have hhi : Hid (4294967296 ≤ S → S ^^^ 4374732215 = (MathA.refRest l (k + 1)).toNat) := fun h => by
        rw [MathA.refRest, MathA.push_hi _ _ (by rw [← hR.out, hc, hS]; exact h), ← hR.out, hc, hS]
      have hS33 : S < 8589934592 := by omega
      by_cases h8 : k < 8 * n
      · have h8I : (k : Int) < 8 * (n : Int) := by omega
        have CB := HB.out k h8
        by_cases h32 : k < 32
        · have e := refBit_in l k h32
          rw [hc] at e
          have hb1 := Bool.toNat_le ((MathA.bitsOf l)[k]?.getD false)
          generalize ((MathA.bitsOf l)[k]?.getD false).toNat = d at *
          have hwC : IntKind.u64.wrap (1 - (d : Int)) = (c : Int) := by rw [wrap64 _ (by omega) (by omega)]; omega
          have HCB : Hid (Calls Try.prog 67 #[.slice ao n cap, .int .i64 k] wr fun e w' => e = .returned (.int .u64 (d : Nat)) ∧ w' = wr) := CB
          clear CB e hS hR2 hc
          by_cases hi : 4294967296 ≤ S
          · have hiI : (4294967296 : Int) ≤ (S : Int) := by omega
            have HI : Hid (4294967296 ≤ S) := hi
            have HS33 : Hid (S < 8589934592) := hS33
            clear hi hRl hS33
            go_wp2_with fail
            refine HCB.out.mono ?_
            rintro e w' ⟨rfl, rfl⟩
            go_wp2
            go_roundw
            case rel => exact ⟨k + 1, S ^^^ 4374732215, by omega, by go_num, int_val (xor_poly S HS33.out), hhi.out HI.out, trivial⟩
            case measure => simp [intOf]; omega
          · have hiI : decide ((4294967296 : Int) ≤ (S : Int)) = false := by rw [decide_eq_false_iff_not]; omega
            have HI : Hid (S < 4294967296) := Nat.lt_of_not_le hi
            have HS33 : Hid (S < 8589934592) := hS33
            clear hi hRl hS33
            go_wp2_with fail
            refine HCB.out.mono ?_
            rintro e w' ⟨rfl, rfl⟩
            go_wp2
            go_roundw
            case rel => exact ⟨k + 1, S, by omega, by go_num, rfl, hlo.out HI.out, trivial⟩
            case measure => simp [intOf]; omega
        · have e := refBit_out l k h32
          rw [hc] at e
          have HCB : Hid (Calls Try.prog 67 #[.slice ao n cap, .int .i64 k] wr fun e w' => e = .returned (.int .u64 (c : Nat)) ∧ w' = wr) := by rw [e]; exact CB
          clear CB e hS hR2 hc
          by_cases hi : 4294967296 ≤ S
          · have hiI : (4294967296 : Int) ≤ (S : Int) := by omega
            have HI : Hid (4294967296 ≤ S) := hi
            have HS33 : Hid (S < 8589934592) := hS33
            clear hi hRl hS33
            go_wp2_with fail
            refine HCB.out.mono ?_
            rintro e w' ⟨rfl, rfl⟩
            go_wp2
            go_roundw
            case rel => exact ⟨k + 1, S ^^^ 4374732215, by omega, by go_num, int_val (xor_poly S HS33.out), hhi.out HI.out, trivial⟩
            case measure => simp [intOf]; omega
          · have hiI : decide ((4294967296 : Int) ≤ (S : Int)) = false := by rw [decide_eq_false_iff_not]; omega
            have HI : Hid (S < 4294967296) := Nat.lt_of_not_le hi
            have HS33 : Hid (S < 8589934592) := hS33
            clear hi hRl hS33
            go_wp2_with fail
            refine HCB.out.mono ?_
            rintro e w' ⟨rfl, rfl⟩
            go_wp2
            go_roundw
            case rel => exact ⟨k + 1, S, by omega, by go_num, rfl, hlo.out HI.out, trivial⟩
            case measure => simp [intOf]; omega
      · have h8I : ¬ (k : Int) < 8 * (n : Int) := by omega
        have hn0 := bit_none l k (by rw [Hn.out]; exact h8)
        by_cases h32 : k < 32
        · have e := refBit_in l k h32
          rw [hc, hn0] at e
          subst e
          have hwB' : IntKind.u64.wrap ((R2 : Int) + 1) = (S : Int) := hwB
          clear hn0 hS hR2 hc hwB
          by_cases hi : 4294967296 ≤ S
          · have hiI : (4294967296 : Int) ≤ (S : Int) := by omega
            have HI : Hid (4294967296 ≤ S) := hi
            have HS33 : Hid (S < 8589934592) := hS33
            clear hi hRl hS33
            go_wp2
            go_roundw
            case rel => exact ⟨k + 1, S ^^^ 4374732215, by omega, by go_num, int_val (xor_poly S HS33.out), hhi.out HI.out, trivial⟩
            case measure => simp [intOf]; omega
          · have hiI : decide ((4294967296 : Int) ≤ (S : Int)) = false := by rw [decide_eq_false_iff_not]; omega
            have HI : Hid (S < 4294967296) := Nat.lt_of_not_le hi
            have HS33 : Hid (S < 8589934592) := hS33
            clear hi hRl hS33
            go_wp2
            go_roundw
            case rel => exact ⟨k + 1, S, by omega, by go_num, rfl, hlo.out HI.out, trivial⟩
            case measure => simp [intOf]; omega
        · have e := refBit_out l k h32
          rw [hc, hn0] at e
          subst e
          have hwB' : IntKind.u64.wrap (R2 : Int) = (S : Int) := by have h := hwB; simpa using h
          clear hn0 hS hR2 hc hwB
          by_cases hi : 4294967296 ≤ S
          · have hiI : (4294967296 : Int) ≤ (S : Int) := by omega
            have HI : Hid (4294967296 ≤ S) := hi
            have HS33 : Hid (S < 8589934592) := hS33
            clear hi hRl hS33
            go_wp2
            go_roundw
            case rel => exact ⟨k + 1, S ^^^ 4374732215, by omega, by go_num, int_val (xor_poly S HS33.out), hhi.out HI.out, trivial⟩
            case measure => simp [intOf]; omega
          · have hiI : decide ((4294967296 : Int) ≤ (S : Int)) = false := by rw [decide_eq_false_iff_not]; omega
            have HI : Hid (S < 4294967296) := Nat.lt_of_not_le hi
            have HS33 : Hid (S < 8589934592) := hS33
            clear hi hRl hS33
            go_wp2
            go_roundw
            case rel => exact ⟨k + 1, S, by omega, by go_num, rfl, hlo.out HI.out, trivial⟩
            case measure => simp [intOf]; omega
    · have hltI : ¬ (k : Int) < 8 * (n : Int) + 32 := by omega
      have hkn : k = 8 * l.length + 32 := by rw [Hn.out]; omega
      have hT : 4294967295 - R = MathA.sum l := by
        unfold MathA.sum
        rw [hR.out, hkn, MathA.refRest_all]
      obtain ⟨T, hTT⟩ : ∃ T, MathA.sum l = T := ⟨_, rfl⟩
      rw [hTT] at hT
      have HT : Hid (MathA.sum l = T) := hTT
      have hwD : IntKind.u64.wrap (4294967295 - (R : Int)) = (T : Int) := by rw [wrap64 _ (by omega) (by omega)]; omega
      have hT32 : (T : Int) < 4294967296 := by omega
      have hwE : IntKind.u32.wrap (T : Int) = (T : Int) := by simp [IntKind.wrap, IntKind.bits, IntKind.signed]; omega
      clear hT hTT hRl hkn hR hlt
      go_wp2
      go_ret
      exact ⟨ret_int (by rw [HT.out]), rfl⟩

end Go.Proofs.Ytecohgmllmddhaa
