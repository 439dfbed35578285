/-
  The walks of the small functions of package crc: remainder.
-/
import Derived.Test.YtecohgmllmddhaaRows
import Derived.Test.YtecohgmllmddhaaCMathA
import Derived.Test.YtecohgmllmddhaaLBase
namespace Go.Proofs.Ytecohgmllmddhaa
open Go.RowKit

theorem msb_nat (s : BitVec 32) : s.msb = decide (s.toNat / 2147483648 = 1) := by
  have hs := s.isLt
  rw [BitVec.msb_eq_decide]
  by_cases h : s.toNat / 2147483648 = 1
  · simp [h]; omega
  · simp [h]; omega

theorem shl1_nat (s : BitVec 32) : (s <<< 1).toNat = s.toNat * 2 % 4294967296 := by
  rw [BitVec.toNat_shiftLeft, Nat.shiftLeft_eq]

theorem L_hi (s : BitVec 32) (h : ((s.toNat : Int) / 2147483648 == 1) = true) :
    bits BinOp.xor IntKind.u32 ((s.toNat : Int) * 2 % 4294967296) 79764919 = ((MathA.L s).toNat : Int) := by
  have hs := s.isLt
  have h1 : s.toNat / 2147483648 = 1 := by simp at h; omega
  have e := u32_xor_nat (s.toNat * 2 % 4294967296) 79764919 (by omega) (by omega)
  have e2 : (((s.toNat * 2 % 4294967296 : Nat) : Int)) = (s.toNat : Int) * 2 % 4294967296 := by omega
  rw [e2] at e
  refine Eq.trans e ?_
  unfold MathA.L
  rw [msb_nat]
  simp only [h1, decide_true, if_true, BitVec.toNat_xor, shl1_nat]
  rfl

theorem L_lo (s : BitVec 32) (h : ((s.toNat : Int) / 2147483648 == 1) = false) :
    (s.toNat : Int) * 2 % 4294967296 = ((MathA.L s).toNat : Int) := by
  have hs := s.isLt
  have h1 : ¬ s.toNat / 2147483648 = 1 := by simp at h; omega
  unfold MathA.L
  rw [msb_nat]
  simp only [h1, decide_false, Bool.false_eq_true, if_false, BitVec.xor_zero, shl1_nat]
  omega

theorem Ln_step {k : Nat} {s t : BitVec 32} (hk : k < 8) (h : MathA.Ln (8 - k) s = t) : MathA.Ln (8 - (k + 1)) (MathA.L s) = t := by
  have e : 8 - k = (8 - (k + 1)) + 1 := by omega
  rw [e] at h
  exact h

set_option maxHeartbeats 400000 in
theorem remainder_any (b : Nat) (hb : b < 256) (w : World) :
    Calls Try.prog 56 #[.int .u8 b] w fun e w' => e = .returned (.int .u32 (MathA.Ln 8 (BitVec.ofNat 32 (b * 16777216))).toNat) ∧ w' = w := by
  go_enter Try.func56, Try.ntmps56
  go_wp2
  go_loop [3, 7] (fun x i => ∃ (k : Nat) (s : BitVec 32), k ≤ 8 ∧ i = .int .i64 k ∧ x = .int .u32 s.toNat ∧ MathA.Ln (8 - k) s = MathA.Ln 8 (BitVec.ofNat 32 (b * 16777216))) (fun _ i => 8 - (intOf i).toNat)
  case atStart => 
    refine ⟨0, BitVec.ofNat 32 (b * 16777216), by omega, rfl, int_val ?_, rfl⟩
    simp; omega
  case round =>
    obtain ⟨k, s, hk, rfl, rfl, he⟩ := hrel
    have H : Hid (MathA.Ln (8 - k) s = MathA.Ln 8 (BitVec.ofNat 32 (b * 16777216))) := he
    clear he
    have hs := s.isLt
    go_wp2
    · go_round
      case rel => exact ⟨k + 1, MathA.L s, by omega, by go_num, int_val (L_hi s (by assumption)), Ln_step (by omega) H.out⟩
      case measure => simp [intOf]; omega
    · go_round
      case rel => exact ⟨k + 1, MathA.L s, by omega, by go_num, int_val (L_lo s (by assumption)), Ln_step (by omega) H.out⟩
      case measure => simp [intOf]; omega
    · have hk8 : k = 8 := by omega
      subst hk8
      go_ret
      exact ⟨by rw [← H.out]; rfl, rfl⟩

end Go.Proofs.Ytecohgmllmddhaa
