/-
  Frames that are harmed: what is read of them; Parse, whatever it answers.
-/
import Derived.Test.YtecohgmllmddhaaFrO
import Derived.Test.YtecohgmllmddhaaCMathD
namespace Go.Proofs.Ytecohgmllmddhaa
open Go.RowKit
set_option linter.unusedVariables false

theorem and_bit (M k : Nat) (hM : M < 4294967296) : bits BinOp.and IntKind.u32 ((M : Int) / 2 ^ k) 1 = if M.testBit k then 1 else 0 := by
  have hle : M / 2 ^ k ≤ M := Nat.div_le_self _ _
  have e := u32_and_nat (M / 2 ^ k) 1 (by omega) (by omega)
  have e2 : ((M / 2 ^ k : Nat) : Int) = (M : Int) / 2 ^ k := by simp
  rw [e2, Nat.and_one_is_mod] at e
  refine Eq.trans e ?_
  rw [Nat.testBit_eq_decide_div_mod_eq]
  by_cases h : M / 2 ^ k % 2 = 1
  · simp [h]
  · have h0 : M / 2 ^ k % 2 = 0 := by omega
    simp [h0]

theorem turns_off {l : List UInt8} {F M k : Nat} (h : M.testBit k = false) : MathA.turns l F M (k + 1) = MathA.turns l F M k := by
  simp [MathA.turns, h]

theorem turns_out {l : List UInt8} {F M k : Nat} (h : ¬ F + k < 8 * l.length) : MathA.turns l F M (k + 1) = MathA.turns l F M k := by
  simp [MathA.turns, h]

theorem turns_on {l : List UInt8} {F M k : Nat} (h : M.testBit k = true) (h2 : F + k < 8 * l.length) : MathA.turns l F M (k + 1) = MathA.turn (MathA.turns l F M k) (F + k) := by
  simp [MathA.turns, h, h2]

theorem turn_val (y : UInt8) (m : Nat) : Value.int .u8 (bits BinOp.xor IntKind.u8 (y.toNat : Int) (128 / 2 ^ (m % 8))) = bv (MathA.turn8 y (m % 8)) := by
  have hyl := y.toNat_lt
  have h2 : 128 / 2 ^ (m % 8) < 2 ^ 8 := Nat.lt_of_le_of_lt (Nat.div_le_self _ _) (by omega)
  have e := u8_xor_nat y.toNat (128 / 2 ^ (m % 8)) (by omega) (by omega)
  have e2 : ((128 / 2 ^ (m % 8) : Nat) : Int) = (128 : Int) / 2 ^ (m % 8) := by simp
  rw [e2] at e
  rw [e]
  have h3 := Nat.xor_lt_two_pow hyl h2
  simp only [bv, MathA.turn8, UInt8.toNat_ofNat']
  rw [Nat.mod_eq_of_lt h3]

theorem turn_set {t : List UInt8} {m : Nat} {y : UInt8} (h : m / 8 < t.length) (hy : t[m / 8] = y) : MathA.turn t m = t.set (m / 8) (MathA.turn8 y (m % 8)) := by
  have e3 : t.getD (m / 8) 0 = y := by simp [List.getD, h, hy]
  rw [MathA.turn, e3]

theorem parse_right (l : List UInt8) (h : parseE l = 0) : rightB l = true := by
  unfold parseE at h
  split at h
  · simp at h
  · split at h
    next hh => exact absurd h hh
    · split at h
      · simp at h
      · split at h
        · simp at h
        next hr => simpa using hr

/-- Bits that are turned within 32 in a row. -/
theorem parse_turned (t : List UInt8) (F M : Nat) (h : parseE (sealB t) = 0) : (parseE (MathA.turns (sealB t) F M 32) = 0) ↔ MathA.turns (sealB t) F M 32 = sealB t := by
  have e : rightB (MathA.turns (sealB t) F M 32) = decide (MathA.turns (sealB t) F M 32 = sealB t) := MathA.turns_right t F M
  constructor
  · intro h0
    have hr := parse_right _ h0
    rw [e] at hr
    exact of_decide_eq_true hr
  · intro h0
    rw [h0]
    exact h

/-- What is cut. -/
theorem parse_cut (l : List UInt8) (m : Nat) (h : parseE l = 0) (hm : m < l.length) : parseE (l.take m) ≠ 0 := by
  intro h0
  obtain ⟨h42, hlen, -, -, -⟩ := frame_parse l h
  obtain ⟨k42, klen, -, -, -⟩ := frame_parse _ h0
  have hl : (l.take m).length = m := by rw [List.length_take]; omega
  rw [hl] at klen k42
  rw [num_take l 15 2 m (by omega)] at klen
  omega

/-- PARSE, whatever it answers. -/
theorem parse_any (c g : Nat) (v : Value) (l : List UInt8) (w : World) (hco : IsCo w c g) (hl : Bs w v l) :
    Calls Try.prog 17 #[.pointer (some ⟨c, 0, none⟩), v] w fun e w' => ∃ v0 v1 v2 v3 v4 v5 v6 v7 v8, e = .returned (.tuple #[.agg #[v0, v1, v2, v3, v4, v5, v6, v7, v8], .int .i64 (parseE l)]) ∧ Below w.heap.size w w' := by
  by_cases h : parseE l = 0
  · refine (parse_ok c g v l w hco hl h).mono ?_
    rintro e w' ⟨q, rfl, -, -, hb⟩
    exact ⟨_, _, _, _, _, _, _, _, _, by rw [h]; rfl, hb⟩
  · refine (parse_no c g v l w hco hl h).mono ?_
    rintro e w' ⟨rfl, hb⟩
    exact ⟨_, _, _, _, _, _, _, _, _, rfl, hb⟩

end Go.Proofs.Ytecohgmllmddhaa
