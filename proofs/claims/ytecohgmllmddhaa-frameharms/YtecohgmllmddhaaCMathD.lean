/-
  Plain mathematics: bits that are turned within 32 in a row.
-/
import Derived.Test.YtecohgmllmddhaaCMathC
namespace Go.Proofs.Ytecohgmllmddhaa.MathA
set_option linter.unusedVariables false

theorem bits8_at (b : UInt8) (i : Nat) (h : i < 8) : (bits8 b)[i]? = some (b.toNat.testBit (7 - i)) := by
  simp [bits8, h]

theorem bitsOf_at (l : List UInt8) : ∀ i, (bitsOf l)[i]? = l[i / 8]?.map fun b => b.toNat.testBit (7 - i % 8) := by
  induction l with
  | nil => intro i; simp [bitsOf]
  | cons b l ih =>
    intro i
    have e : bitsOf (b :: l) = bits8 b ++ bitsOf l := by simp [bitsOf]
    have hl : (bits8 b).length = 8 := by simp [bits8]
    rw [e]
    by_cases h : i < 8
    · rw [List.getElem?_append_left (by omega), bits8_at b i h]
      have e1 : i / 8 = 0 := by omega
      have e2 : i % 8 = i := by omega
      rw [e1, e2]
      rfl
    · rw [List.getElem?_append_right (by omega), ih, hl]
      have e1 : i / 8 = (i - 8) / 8 + 1 := by omega
      have e2 : (i - 8) % 8 = i % 8 := by omega
      rw [e1, e2, List.getElem?_cons_succ]

theorem byte_of_bits (a b : UInt8) (h : ∀ i, i < 8 → a.toNat.testBit (7 - i) = b.toNat.testBit (7 - i)) : a = b := by
  apply UInt8.toNat_inj.1
  apply Nat.eq_of_testBit_eq
  intro i
  by_cases hi : i < 8
  · have := h (7 - i) (by omega)
    rwa [show 7 - (7 - i) = i by omega] at this
  · have ha := a.toNat_lt
    have hb := b.toNat_lt
    have h8 : 2 ^ 8 ≤ 2 ^ i := Nat.pow_le_pow_right (by omega) (by omega)
    rw [Nat.testBit_lt_two_pow (by omega), Nat.testBit_lt_two_pow (by omega)]

theorem bitsOf_inj (a b : List UInt8) (h : bitsOf a = bitsOf b) : a = b := by
  have hl : a.length = b.length := by
    have := congrArg List.length h
    rw [length_bitsOf, length_bitsOf] at this
    omega
  apply List.ext_getElem hl
  intro i h1 h2
  apply byte_of_bits
  intro j hj
  have e := congrArg (fun l : List Bool => l[8 * i + j]?) h
  simp only [bitsOf_at] at e
  have e1 : (8 * i + j) / 8 = i := by omega
  have e2 : (8 * i + j) % 8 = j := by omega
  rw [e1, e2, List.getElem?_eq_getElem h1, List.getElem?_eq_getElem h2] at e
  simpa using e

/-- A byte with one of its bits turned, the highest one being bit 0. -/
def turn8 (b : UInt8) (k : Nat) : UInt8 := UInt8.ofNat (b.toNat ^^^ (128 / 2 ^ k))

theorem turn8_bit (b : UInt8) (k i : Nat) (hk : k < 8) (hi : i < 8) (h : i ≠ k) : (turn8 b k).toNat.testBit (7 - i) = b.toNat.testBit (7 - i) := by
  have hb := b.toNat_lt
  have e : (turn8 b k).toNat = b.toNat ^^^ (128 / 2 ^ k) := by
    unfold turn8
    have h2 : 128 / 2 ^ k < 2 ^ 8 := Nat.lt_of_le_of_lt (Nat.div_le_self _ _) (by omega)
    have := Nat.xor_lt_two_pow hb h2
    simp only [UInt8.toNat_ofNat']
    exact Nat.mod_eq_of_lt this
  rw [e, Nat.testBit_xor]
  have : (128 / 2 ^ k).testBit (7 - i) = false := by
    have h' : ∀ k, k < 8 → ∀ i, i < 8 → i ≠ k → (128 / 2 ^ k).testBit (7 - i) = false := by decide
    exact h' k hk i hi h
  rw [this, Bool.xor_false]

/-- Bytes with bit k turned, where there is one. -/
def turn (l : List UInt8) (k : Nat) : List UInt8 := l.set (k / 8) (turn8 (l.getD (k / 8) 0) (k % 8))

theorem turn_length (l : List UInt8) (k : Nat) : (turn l k).length = l.length := by simp [turn]

theorem turn_bit (l : List UInt8) (k i : Nat) (h : i ≠ k) : (bitsOf (turn l k))[i]? = (bitsOf l)[i]? := by
  rw [bitsOf_at, bitsOf_at, turn]
  by_cases e : i / 8 = k / 8
  · rw [e, List.getElem?_set_self']
    cases hl : l[k / 8]? with
    | none => simp
    | some b =>
      simp only [List.getD, hl, Option.map_some, Option.getD_some]
      show some ((turn8 b (k % 8)).toNat.testBit (7 - i % 8)) = _
      rw [turn8_bit b (k % 8) (i % 8) (by omega) (by omega) (by omega)]
  · rw [List.getElem?_set_ne (by omega)]

/-- Bits 'first', 'first + 1' .. are turned where the mask has a one. -/
def turns (l : List UInt8) (first mask : Nat) : Nat → List UInt8
  | 0 => l
  | i + 1 => if mask.testBit i && decide (first + i < 8 * l.length) then turn (turns l first mask i) (first + i) else turns l first mask i

theorem turns_length (l : List UInt8) (first mask i : Nat) : (turns l first mask i).length = l.length := by
  induction i with
  | zero => rfl
  | succ i ih =>
    simp only [turns]
    split
    · rw [turn_length, ih]
    · exact ih

theorem turns_bit (l : List UInt8) (first mask n i : Nat) (h : i < first ∨ first + n ≤ i) : (bitsOf (turns l first mask n))[i]? = (bitsOf l)[i]? := by
  induction n with
  | zero => rfl
  | succ n ih =>
    simp only [turns]
    split
    · rw [turn_bit _ _ _ (by omega)]
      exact ih (by omega)
    · exact ih (by omega)

/-- What is turned within 32 bits in a row is told, or is the same. -/
theorem turns_told (s : BitVec 32) (l : List UInt8) (first mask : Nat) (h : feed s (bitsOf (turns l first mask 32)) = feed s (bitsOf l)) : turns l first mask 32 = l := by
  apply bitsOf_inj
  have hlen : (bitsOf (turns l first mask 32)).length = (bitsOf l).length := by rw [length_bitsOf, length_bitsOf, turns_length]
  have hsame : ∀ i, i < first ∨ first + 32 ≤ i → (bitsOf (turns l first mask 32))[i]? = (bitsOf l)[i]? := fun i hi => turns_bit l first mask 32 i hi
  generalize bitsOf (turns l first mask 32) = a at *
  generalize bitsOf l = b at *
  have cut : ∀ x : List Bool, x = x.take first ++ (x.drop first).take 32 ++ x.drop (first + 32) := by
    intro x
    rw [List.append_assoc, show x.drop (first + 32) = (x.drop first).drop 32 by rw [List.drop_drop], List.take_append_drop, List.take_append_drop]
  have h1 : a.take first = b.take first := by
    apply List.ext_getElem?
    intro i
    rw [List.getElem?_take, List.getElem?_take]
    split
    · exact hsame i (.inl (by assumption))
    · rfl
  have h2 : a.drop (first + 32) = b.drop (first + 32) := by
    apply List.ext_getElem?
    intro i
    rw [List.getElem?_drop, List.getElem?_drop]
    exact hsame _ (.inr (by omega))
  rw [cut a, cut b] at h ⊢
  rw [h1, h2] at h ⊢
  have h3 := feed_burst s (b.take first) ((a.drop first).take 32) ((b.drop first).take 32) (b.drop (first + 32)) (by simp [hlen]) (by simp; omega) h
  rw [h3]

/-- Of bytes that are right, turned within 32 bits in a row, none but the same are right. -/
theorem turns_right (l : List UInt8) (first mask : Nat) : rightB (turns (l ++ be4 (sum l)) first mask 32) = decide (turns (l ++ be4 (sum l)) first mask 32 = l ++ be4 (sum l)) := by
  by_cases h : turns (l ++ be4 (sum l)) first mask 32 = l ++ be4 (sum l)
  · rw [h]
    simp [right_sealed l]
  · simp only [h, decide_false]
    cases hr : rightB (turns (l ++ be4 (sum l)) first mask 32) with
    | false => rfl
    | true =>
      exfalso
      apply h
      have hr2 := ((right_iff _).1 hr).2
      apply turns_told 4294967295#32
      rw [← crc_feed, ← crc_feed, hr2, crc_sealed]

/-- Two rows of bytes that differ within 32 bits in a row have unlike sums. -/
theorem turns_sum (l : List UInt8) (first mask : Nat) : (sum (turns l first mask 32) = sum l) ↔ turns l first mask 32 = l := by
  constructor
  · intro h
    apply turns_told 4294967295#32
    rw [← crc_feed, ← crc_feed]
    apply BitVec.eq_of_toNat_eq
    have h1 := (crc (turns l first mask 32)).isLt
    have h2 := (crc l).isLt
    unfold sum at h
    omega
  · intro h
    rw [h]

end Go.Proofs.Ytecohgmllmddhaa.MathA
