/-
  Plain mathematics: the sum, bit by bit, by a long division.
-/
import Derived.Test.YtecohgmllmddhaaCMathD
import Derived.Test.YtecohgmllmddhaaCPrim
namespace Go.Proofs.Ytecohgmllmddhaa.MathA
set_option linter.unusedVariables false

def low (b : Bool) : BitVec 32 := if b then 1#32 else 0#32

/-- One bit more, at the low end. -/
def push (r : BitVec 32) (b : Bool) : BitVec 32 := L r ^^^ low b

theorem top_shift (b : Bool) : top b >>> 31 = low b := by cases b <;> decide

theorem push_window (s : BitVec 32) (x : Bool) (rest : List Bool) (hr : rest.length = 31) (b : Bool) :
    push (s ^^^ pack (x :: rest)) b = L (s ^^^ top x) ^^^ pack (rest ++ [b]) := by
  unfold push
  rw [pack_append, hr]
  have e : pack [b] = top b := by simp [pack]
  rw [e, top_shift]
  simp only [pack]
  rw [← BitVec.xor_assoc s, L_xor (s ^^^ top x), L_shift _ (pack_low rest 0 (by omega)), BitVec.xor_assoc]

theorem fold_window (ys : List Bool) : ∀ (s : BitVec 32) (A : List Bool), A.length = 32 →
    ys.foldl push (s ^^^ pack A) = feed s ((A ++ ys).take ys.length) ^^^ pack ((A ++ ys).drop ys.length) := by
  induction ys with
  | nil => intro s A _; simp [feed]
  | cons b ys ih =>
    intro s A hA
    match A, hA with
    | x :: rest, hA =>
      have hr : rest.length = 31 := by simpa using hA
      rw [List.foldl_cons, push_window s x rest hr b, ih _ (rest ++ [b]) (by simp [hr])]
      simp [feed]

theorem pack_false (n : Nat) : pack (List.replicate n false) = 0#32 := by
  induction n with
  | zero => rfl
  | succ n ih => rw [List.replicate_succ, pack, ih]; decide

theorem feed_false (n : Nat) : feed 0#32 (List.replicate n false) = 0#32 := by
  induction n with
  | zero => rfl
  | succ n ih =>
    rw [List.replicate_succ, feed]
    have e : L (0#32 ^^^ top false) = 0#32 := by decide +kernel
    rw [e, ih]

theorem fold_first (C : List Bool) (hC : C.length = 32) : C.foldl push 0#32 = pack C := by
  have h := fold_window C 0#32 (List.replicate 32 false) (by simp)
  rw [pack_false, hC, List.take_left' (by simp), List.drop_left' (by simp), feed_false] at h
  simpa using h

theorem top_not (b : Bool) : top (!b) = top b ^^^ top true := by cases b <;> decide

theorem pack_not (xs : List Bool) : pack (xs.map (!·)) = pack (List.replicate xs.length true) ^^^ pack xs := by
  induction xs with
  | nil => simp [pack]
  | cons x xs ih =>
    rw [List.map_cons, List.length_cons, List.replicate_succ, pack, pack, pack, ih, top_not, BitVec.ushiftRight_xor_distrib]
    ac_rfl

theorem pack_true : pack (List.replicate 32 true) = 4294967295#32 := by decide +kernel

/-- The bit that is taken at a step. -/
def refBit (l : List UInt8) (k : Nat) : Bool := ((bitsOf l)[k]?.getD false) ^^ decide (k < 32)

/-- What is left behind some steps. -/
def refRest (l : List UInt8) : Nat → BitVec 32
  | 0 => 0#32
  | k + 1 => push (refRest l k) (refBit l k)

theorem refRest_fold (l : List UInt8) (k : Nat) : refRest l k = ((List.range k).map (refBit l)).foldl push 0#32 := by
  induction k with
  | zero => rfl
  | succ k ih => rw [List.range_succ, List.map_append, List.foldl_append, ← ih]; rfl

theorem refBits (l : List UInt8) : (List.range (8 * l.length + 32)).map (refBit l) =
    ((bitsOf l ++ List.replicate 32 false).take 32).map (!·) ++ (bitsOf l ++ List.replicate 32 false).drop 32 := by
  apply List.ext_getElem?
  intro i
  have hl := length_bitsOf l
  by_cases hi : i < 8 * l.length + 32
  · have e1 : ((List.range (8 * l.length + 32)).map (refBit l))[i]? = some (refBit l i) := by simp [hi]
    have e2 : (bitsOf l ++ List.replicate 32 false)[i]? = some ((bitsOf l)[i]?.getD false) := by
      by_cases h8 : i < 8 * l.length
      · rw [List.getElem?_append_left (by omega), List.getElem?_eq_getElem (by omega)]
        rfl
      · rw [List.getElem?_append_right (by omega), List.getElem?_replicate, if_pos (by omega), List.getElem?_eq_none (by omega)]
        rfl
    rw [e1]
    by_cases h32 : i < 32
    · rw [List.getElem?_append_left (by simp; omega), List.getElem?_map, List.getElem?_take, if_pos h32, e2]
      simp [refBit, h32]
    · rw [List.getElem?_append_right (by simp; omega), List.getElem?_drop]
      have e3 : 32 + (i - (((bitsOf l ++ List.replicate 32 false).take 32).map (!·)).length) = i := by simp; omega
      rw [e3, e2]
      simp [refBit, h32]
  · rw [List.getElem?_eq_none (by simp; omega), List.getElem?_eq_none (by simp [hl]; omega)]

theorem refRest_all (l : List UInt8) : refRest l (8 * l.length + 32) = crc l := by
  rw [refRest_fold, refBits, List.foldl_append]
  have hB : (bitsOf l ++ List.replicate 32 false).length = 8 * l.length + 32 := by simp [length_bitsOf]
  have hC : ((bitsOf l ++ List.replicate 32 false).take 32).length = 32 := by rw [List.length_take, hB]; omega
  have hD : ((bitsOf l ++ List.replicate 32 false).drop 32).length = (bitsOf l).length := by rw [List.length_drop, hB, length_bitsOf]; omega
  rw [fold_first _ (by rw [List.length_map]; exact hC), pack_not, hC, pack_true, fold_window _ _ _ hC, List.take_append_drop, hD, List.take_left' rfl, List.drop_left' rfl, pack_false, crc_feed]
  simp

theorem even_xor (a b : Nat) (hb : b < 2) : 2 * a ^^^ b = 2 * a + b := by
  apply Nat.eq_of_testBit_eq
  intro i
  cases i with
  | zero =>
    rw [Nat.testBit_xor, Nat.testBit_zero, Nat.testBit_zero, Nat.testBit_zero]
    have h1 : (2 * a) % 2 = 0 := by omega
    have h2 : (2 * a + b) % 2 = b % 2 := by omega
    rw [h1, h2]
    simp
  | succ i =>
    rw [Nat.testBit_xor, Nat.testBit_succ, Nat.testBit_succ, Nat.testBit_succ]
    have h1 : (2 * a) / 2 = a := by omega
    have h2 : (2 * a + b) / 2 = a := by omega
    have h3 : b / 2 = 0 := by omega
    rw [h1, h2, h3]
    simp

theorem high_xor (a c : Nat) (ha : a < 2 ^ 32) (hc : c < 2 ^ 32) : (2 ^ 32 + a) ^^^ (2 ^ 32 + c) = a ^^^ c := by
  apply Nat.eq_of_testBit_eq
  intro i
  rw [Nat.testBit_xor, Nat.testBit_xor]
  by_cases h1 : i < 32
  · rw [Nat.testBit_two_pow_add_gt h1, Nat.testBit_two_pow_add_gt h1]
  · by_cases h2 : i = 32
    · subst h2
      rw [Nat.testBit_two_pow_add_eq, Nat.testBit_two_pow_add_eq]
      cases a.testBit 32 <;> cases c.testBit 32 <;> rfl
    · have hp : 2 ^ 33 ≤ 2 ^ i := Nat.pow_le_pow_right (by omega) (by omega)
      have hq : 2 ^ 32 ≤ 2 ^ i := Nat.pow_le_pow_right (by omega) (by omega)
      rw [Nat.testBit_lt_two_pow (x := 2 ^ 32 + a) (by omega), Nat.testBit_lt_two_pow (x := 2 ^ 32 + c) (by omega), Nat.testBit_lt_two_pow (x := a) (by omega), Nat.testBit_lt_two_pow (x := c) (by omega)]

theorem low_nat (b : Bool) : (low b).toNat = b.toNat := by cases b <;> rfl

theorem push_lo (r : BitVec 32) (b : Bool) (h : 2 * r.toNat + b.toNat < 4294967296) : (push r b).toNat = 2 * r.toNat + b.toNat := by
  have hb : b.toNat < 2 := by cases b <;> decide
  have hm : r.msb = false := by rw [BitVec.msb_eq_decide]; simp; omega
  unfold push L
  rw [hm, BitVec.toNat_xor, BitVec.toNat_xor, low_nat, shl1_nat]
  simp only [Bool.false_eq_true, if_false]
  rw [show (0#32 : BitVec 32).toNat = 0 from rfl, Nat.xor_zero, Nat.mod_eq_of_lt (by omega), Nat.mul_comm, even_xor _ _ hb]

theorem push_hi (r : BitVec 32) (b : Bool) (h : 4294967296 ≤ 2 * r.toNat + b.toNat) : (push r b).toNat = (2 * r.toNat + b.toNat) ^^^ 4374732215 := by
  have hb : b.toNat < 2 := by cases b <;> decide
  have hr := r.isLt
  have hm : r.msb = true := by rw [BitVec.msb_eq_decide]; simp; omega
  unfold push L
  rw [hm, BitVec.toNat_xor, BitVec.toNat_xor, low_nat, shl1_nat]
  simp only [if_true]
  have e1 : r.toNat * 2 % 4294967296 = 2 * (r.toNat - 2147483648) := by omega
  have e2 : 2 * r.toNat + b.toNat = 2 ^ 32 + (2 * (r.toNat - 2147483648) + b.toNat) := by omega
  have e3 : (4374732215 : Nat) = 2 ^ 32 + 79764919 := by decide
  rw [e1, e2, e3, high_xor _ _ (by omega) (by decide), ← even_xor _ _ hb, show poly.toNat = 79764919 from rfl]
  rw [Nat.xor_assoc, Nat.xor_comm 79764919, ← Nat.xor_assoc]

end Go.Proofs.Ytecohgmllmddhaa.MathA
