/-
  Plain mathematics of the sum of 32 bits: what is sealed.
-/
import Derived.Test.YtecohgmllmddhaaCMathB
import Derived.Test.YtecohgmllmddhaaCSeal
namespace Go.Proofs.Ytecohgmllmddhaa.MathA
set_option linter.unusedVariables false

theorem length_bitsOf (l : List UInt8) : (bitsOf l).length = 8 * l.length := by
  induction l with
  | nil => rfl
  | cons b l ih => simp only [bitsOf, List.flatMap_cons, List.length_append, List.length_cons] at ih ⊢; rw [ih]; simp [bits8]; omega

theorem pack_append (a b : List Bool) : pack (a ++ b) = pack a ^^^ (pack b >>> a.length) := by
  induction a with
  | nil => simp [pack]
  | cons x a ih =>
    simp only [List.cons_append, pack, List.length_cons, ih]
    rw [BitVec.ushiftRight_xor_distrib, ← BitVec.shiftRight_add, BitVec.xor_assoc]

theorem pack_bits8 (b : UInt8) : pack (bits8 b) = BitVec.ofNat 32 (b.toNat * 16777216) := by
  have h : ∀ n, n < 256 → pack ((List.range 8).map fun i => n.testBit (7 - i)) = BitVec.ofNat 32 (n * 16777216) := by decide +kernel
  exact h _ b.toNat_lt

/-- The four bytes of a number are its bits. -/
theorem pack_be4 (n : Nat) (hn : n < 4294967296) : pack (bitsOf (be4 n)) = BitVec.ofNat 32 n := by
  have hl : ∀ b, (bits8 b).length = 8 := by intro b; simp [bits8]
  have e : bitsOf (be4 n) = bits8 (UInt8.ofNat (n / 16777216)) ++ (bits8 (UInt8.ofNat (n / 65536)) ++ (bits8 (UInt8.ofNat (n / 256)) ++ bits8 (UInt8.ofNat n))) := by
    simp [bitsOf, be4]
  rw [e, pack_append, pack_append, pack_append, hl, hl, hl, pack_bits8, pack_bits8, pack_bits8, pack_bits8]
  simp only [BitVec.ushiftRight_xor_distrib]
  apply BitVec.eq_of_getLsbD_eq
  intro i hi
  simp only [BitVec.getLsbD_xor, BitVec.getLsbD_ushiftRight, BitVec.getLsbD_ofNat]
  have ht : ∀ m k : Nat, ((UInt8.ofNat m).toNat * 16777216).testBit k = (decide (24 ≤ k) && decide (k < 32) && m.testBit (k - 24)) := by
    intro m k
    rw [show (16777216 : Nat) = 2 ^ 24 by decide, Nat.testBit_mul_two_pow]
    simp only [UInt8.toNat_ofNat']
    rw [show (2 : Nat) ^ 8 = 2 ^ 8 by rfl, Nat.testBit_mod_two_pow]
    by_cases h1 : 24 ≤ k
    · by_cases h2 : k < 32
      · have : k - 24 < 8 := by omega
        simp [h1, h2, this]
      · have : ¬ k - 24 < 8 := by omega
        simp [h1, h2, this]
    · simp [h1]
  have hd : ∀ m k j : Nat, (m / 2 ^ k).testBit j = m.testBit (k + j) := by
    intro m k j
    rw [Nat.testBit_div_two_pow, Nat.add_comm]
  simp only [ht, hi, decide_true, Bool.true_and]
  rw [show (16777216 : Nat) = 2 ^ 24 by decide, show (65536 : Nat) = 2 ^ 16 by decide, show (256 : Nat) = 2 ^ 8 by decide]
  simp only [hd]
  by_cases h1 : 24 ≤ i
  · have a1 : 24 + (i - 24) = i := by omega
    have a2 : ¬ 8 + i < 32 := by omega
    have a3 : ¬ 8 + (8 + i) < 32 := by omega
    have a4 : ¬ 8 + (8 + (8 + i)) < 32 := by omega
    simp [h1, a1, a2, a3, a4]
  · by_cases h2 : 16 ≤ i
    · have a1 : 16 + (8 + i - 24) = i := by omega
      have a0 : 24 ≤ 8 + i := by omega
      have a2 : 8 + i < 32 := by omega
      have a3 : ¬ 8 + (8 + i) < 32 := by omega
      have a4 : ¬ 8 + (8 + (8 + i)) < 32 := by omega
      simp [h1, a0, a1, a2, a3, a4]
    · by_cases h3 : 8 ≤ i
      · have a1 : 8 + (8 + (8 + i) - 24) = i := by omega
        have a0 : ¬ 24 ≤ 8 + i := by omega
        have a2 : 24 ≤ 8 + (8 + i) := by omega
        have a3 : 8 + (8 + i) < 32 := by omega
        have a4 : ¬ 8 + (8 + (8 + i)) < 32 := by omega
        simp [h1, a0, a1, a2, a3, a4]
      · have a1 : 8 + (8 + (8 + i)) - 24 = i := by omega
        have a0 : ¬ 24 ≤ 8 + i := by omega
        have a2 : ¬ 24 ≤ 8 + (8 + i) := by omega
        have a3 : 24 ≤ 8 + (8 + (8 + i)) := by omega
        have a4 : 8 + (8 + (8 + i)) < 32 := by omega
        simp [h1, a0, a1, a2, a3, a4]

theorem be4_num32 (l : List UInt8) (h : l.length = 4) : be4 (num32 l) = l := by
  match l, h with
  | [a, b, c, d], _ =>
    have ha := a.toNat_lt
    have hb := b.toNat_lt
    have hc := c.toNat_lt
    have hd := d.toNat_lt
    have e : num32 [a, b, c, d] = ((a.toNat * 256 + b.toNat) * 256 + c.toNat) * 256 + d.toNat := by
      simp only [num32, List.foldl_cons, List.foldl_nil]
      omega
    rw [e]
    simp only [be4, List.cons.injEq, and_true]
    refine ⟨?_, ?_, ?_, ?_⟩ <;> (apply UInt8.toNat_inj.1; simp only [UInt8.toNat_ofNat']; omega)

/-- What all that is sealed comes to. -/
def goal : BitVec 32 := Ln 32 4294967295#32

theorem feed_sum (r : BitVec 32) : feed r (bitsOf (be4 (4294967295 - r.toNat))) = goal := by
  rw [feed_pack _ _ (by rw [length_bitsOf]; simp [be4]), length_bitsOf]
  have hr := r.isLt
  rw [pack_be4 _ (by omega)]
  have e : BitVec.ofNat 32 (4294967295 - r.toNat) = ~~~r := by
    apply BitVec.eq_of_toNat_eq
    rw [BitVec.toNat_not]
    simp
    omega
  rw [e]
  have e2 : r ^^^ ~~~r = 4294967295#32 := by
    rw [← BitVec.allOnes_xor, BitVec.xor_comm (BitVec.allOnes 32), ← BitVec.xor_assoc, BitVec.xor_self, BitVec.zero_xor]
    rfl
  rw [e2]
  rfl

/-- What is sealed comes to one number. -/
theorem crc_sealed (l : List UInt8) : crc (l ++ be4 (sum l)) = goal := by
  rw [crc_feed]
  have e : bitsOf (l ++ be4 (sum l)) = bitsOf l ++ bitsOf (be4 (sum l)) := by simp [bitsOf]
  rw [e, feed_append, ← crc_feed]
  exact feed_sum _

/-- Bytes whose sum is right come to that number, and no others. -/
theorem right_iff (l : List UInt8) : rightB l = true ↔ 4 ≤ l.length ∧ crc l = goal := by
  unfold rightB
  simp only [Bool.and_eq_true, decide_eq_true_eq, beq_iff_eq]
  refine and_congr_right fun h4 => ?_
  have hsplit : l = l.take (l.length - 4) ++ l.drop (l.length - 4) := (List.take_append_drop _ _).symm
  have hd : (l.drop (l.length - 4)).length = 4 := by simp; omega
  constructor
  · intro h
    rw [hsplit, ← be4_num32 _ hd, h]
    exact crc_sealed _
  · intro h
    have hs := crc_sealed (l.take (l.length - 4))
    rw [← h] at hs
    have e : crc l = crc (l.take (l.length - 4) ++ l.drop (l.length - 4)) := by rw [← hsplit]
    rw [e, crc_feed, crc_feed] at hs
    have eb : ∀ a b : List UInt8, bitsOf (a ++ b) = bitsOf a ++ bitsOf b := by intro a b; simp [bitsOf]
    have h1 := feed_burst 4294967295#32 (bitsOf (l.take (l.length - 4))) (bitsOf (be4 (sum (l.take (l.length - 4))))) (bitsOf (l.drop (l.length - 4))) [] (by rw [length_bitsOf, length_bitsOf, hd]; rfl) (by rw [length_bitsOf]; simp [be4]) (by rw [← eb, ← eb, List.append_nil, List.append_nil]; exact hs)
    have h2 := congrArg pack h1
    rw [← be4_num32 _ hd, pack_be4 _ (sum_lt _), pack_be4 _ (num32_lt _)] at h2
    have h3 := congrArg BitVec.toNat h2
    rw [BitVec.toNat_ofNat, BitVec.toNat_ofNat, Nat.mod_eq_of_lt (sum_lt _), Nat.mod_eq_of_lt (num32_lt _)] at h3
    exact h3.symm

theorem right_sealed (l : List UInt8) : rightB (l ++ be4 (sum l)) = true := by
  rw [right_iff]
  exact ⟨by simp [be4], crc_sealed l⟩

end Go.Proofs.Ytecohgmllmddhaa.MathA
