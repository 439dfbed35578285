/-
  Plain mathematics of the sum of 32 bits, by bytes: what a table of the remainders of all bytes comes to.
-/
import Derived.Test.YtecohgmllmddhaaCMathA
namespace Go.Proofs.Ytecohgmllmddhaa.MathA

/-- The bits of a byte, the highest first. -/
def bits8 (b : UInt8) : List Bool := (List.range 8).map fun i => b.toNat.testBit (7 - i)

/-- All bits of some bytes. -/
def bitsOf (l : List UInt8) : List Bool := l.flatMap bits8

/-- One byte, with the rest that there was. -/
def upd (r : BitVec 32) (b : UInt8) : BitVec 32 := Ln 8 (r ^^^ BitVec.ofNat 32 (b.toNat * 16777216))

/-- What is left of all bytes, beginning with all bits set. -/
def crc (l : List UInt8) : BitVec 32 := l.foldl upd 4294967295#32

/-- The sum. -/
def sum (l : List UInt8) : Nat := 4294967295 - (crc l).toNat

theorem sum_lt (l : List UInt8) : sum l < 4294967296 := by unfold sum; omega

theorem Ln_low (n : Nat) : ∀ s : BitVec 32, (∀ i, i < 32 → 32 - n ≤ i → s.getLsbD i = false) → Ln n s = s <<< n := by
  induction n with
  | zero => intro s _; simp [Ln]
  | succ n ih =>
    intro s h
    have hm : s.msb = false := by
      rw [BitVec.msb_eq_getLsbD_last]
      exact h 31 (by omega) (by omega)
    have hL : L s = s <<< 1 := by unfold L; simp [hm]
    simp only [Ln]
    rw [hL, ih]
    · rw [← BitVec.shiftLeft_add, Nat.add_comm]
    · intro i hi h2
      simp only [BitVec.getLsbD_shiftLeft]
      by_cases h0 : i < 1
      · simp [h0]
      · simp only [h (i - 1) (by omega) (by omega), Bool.and_false]

theorem split24 (r : BitVec 32) : r = (r &&& 16777215#32) ^^^ ((r >>> 24) <<< 24) := by
  apply BitVec.eq_of_getLsbD_eq
  intro i hi
  have h24 : (16777215#32 : BitVec 32).getLsbD i = decide (i < 24) := by
    have e : (16777215#32 : BitVec 32) = BitVec.ofNat 32 (2 ^ 24 - 1) := by decide
    rw [e, BitVec.getLsbD_ofNat, Nat.testBit_two_pow_sub_one]
    simp [hi]
  simp only [BitVec.getLsbD_xor, BitVec.getLsbD_and, h24, BitVec.getLsbD_shiftLeft, BitVec.getLsbD_ushiftRight]
  by_cases h : i < 24
  · simp [h]
  · have e : 24 + (i - 24) = i := by omega
    simp [h, hi, e]

theorem upd_split (r : BitVec 32) (b : UInt8) : upd r b = (r <<< 8) ^^^ Ln 8 (((r >>> 24) ^^^ BitVec.ofNat 32 b.toNat) <<< 24) := by
  unfold upd
  have hb : BitVec.ofNat 32 (b.toNat * 16777216) = (BitVec.ofNat 32 b.toNat) <<< 24 := by
    apply BitVec.eq_of_toNat_eq
    have := b.toNat_lt
    simp [Nat.shiftLeft_eq]
  have e1 : r ^^^ BitVec.ofNat 32 (b.toNat * 16777216) = (r &&& 16777215#32) ^^^ (((r >>> 24) ^^^ BitVec.ofNat 32 b.toNat) <<< 24) := by
    rw [hb, BitVec.shiftLeft_xor_distrib, ← BitVec.xor_assoc, ← split24]
  rw [e1, Ln_xor, Ln_low 8 (r &&& 16777215#32)]
  · congr 1
    apply BitVec.eq_of_getLsbD_eq
    intro i hi
    have h24 : ∀ j, j < 32 → (16777215#32 : BitVec 32).getLsbD j = decide (j < 24) := by
      intro j hj
      have e : (16777215#32 : BitVec 32) = BitVec.ofNat 32 (2 ^ 24 - 1) := by decide
      rw [e, BitVec.getLsbD_ofNat, Nat.testBit_two_pow_sub_one]
      simp [hj]
    simp only [BitVec.getLsbD_shiftLeft, BitVec.getLsbD_and]
    by_cases h8 : i < 8
    · simp [h8]
    · rw [h24 (i - 8) (by omega)]
      have : i - 8 < 24 := by omega
      simp [this]
  · intro i hi h2
    have e : (16777215#32 : BitVec 32) = BitVec.ofNat 32 (2 ^ 24 - 1) := by decide
    rw [BitVec.getLsbD_and, e, BitVec.getLsbD_ofNat, Nat.testBit_two_pow_sub_one]
    have : ¬ i < 24 := by omega
    simp [this]

/-- As numbers. -/
theorem upd_nat (r : BitVec 32) (b : UInt8) :
    ((r.toNat * 256 % 4294967296) ^^^ (Ln 8 (BitVec.ofNat 32 (((r.toNat / 16777216) ^^^ b.toNat) * 16777216))).toNat) = (upd r b).toNat := by
  have hr := r.isLt
  have hb := b.toNat_lt
  have e2 : BitVec.ofNat 32 (((r.toNat / 16777216) ^^^ b.toNat) * 16777216) = ((r >>> 24) ^^^ BitVec.ofNat 32 b.toNat) <<< 24 := by
    apply BitVec.eq_of_toNat_eq
    simp only [BitVec.toNat_shiftLeft, BitVec.toNat_ofNat, BitVec.toNat_xor, BitVec.toNat_ushiftRight, Nat.shiftLeft_eq, Nat.shiftRight_eq_div_pow]
    have e : b.toNat % 2 ^ 32 = b.toNat := by omega
    rw [e]
  rw [upd_split, BitVec.toNat_xor, BitVec.toNat_shiftLeft, Nat.shiftLeft_eq, e2]

theorem feed_bits8 (s : BitVec 32) (b : UInt8) : feed s (bits8 b) = upd s b := by
  rw [feed_pack]
  · unfold upd
    have hl : (bits8 b).length = 8 := by simp [bits8]
    rw [hl]
    congr 2
    have h : ∀ n, n < 256 → pack ((List.range 8).map fun i => n.testBit (7 - i)) = BitVec.ofNat 32 (n * 16777216) := by decide +kernel
    exact h _ b.toNat_lt
  · simp [bits8]

theorem feed_bitsOf (l : List UInt8) : ∀ s, feed s (bitsOf l) = l.foldl upd s := by
  induction l with
  | nil => intro s; rfl
  | cons b l ih =>
    intro s
    simp only [bitsOf, List.flatMap_cons, List.foldl_cons]
    rw [feed_append, feed_bits8]
    exact ih _

theorem crc_feed (l : List UInt8) : crc l = feed 4294967295#32 (bitsOf l) := (feed_bitsOf l _).symm

end Go.Proofs.Ytecohgmllmddhaa.MathA
