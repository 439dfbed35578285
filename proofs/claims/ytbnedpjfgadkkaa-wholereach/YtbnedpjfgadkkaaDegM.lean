/-
  Long division by two digits of 32 bits: mathematics.
-/
namespace Go.Proofs.Ytbnedpjfgadkkaa

/-- The trial digit q, the rest r: not yet too small. -/
structure StepI (U Y n1 q r : Nat) : Prop where
  up : U * 4294967296 < (q + 1) * Y
  eq : q * n1 + r = U
  lt : r < 4294967296
  le : q ≤ 4294967297

/-- The two digits of the divisor. -/
structure Digs (Y n1 n0 : Nat) : Prop where
  eq : n1 * 4294967296 + n0 = Y
  lo : 2147483648 ≤ n1
  hi : n1 < 4294967296
  n0 : n0 < 4294967296

theorem step_start {U Y n1 n0 : Nat} (h : Digs Y n1 n0) (hU : U < Y) : StepI U Y n1 (U / n1) (U % n1) := by
  obtain ⟨h1, h2, h3, h4⟩ := h
  have hp : 0 < n1 := by omega
  have e := Nat.div_add_mod U n1
  have l := Nat.mod_lt U hp
  generalize U / n1 = q at *
  generalize U % n1 = r at *
  rw [Nat.mul_comm] at e
  refine ⟨?_, e, by omega, ?_⟩
  · have a : U + 1 ≤ (q + 1) * n1 := by rw [Nat.add_mul]; omega
    have c0 : n1 * 4294967296 ≤ Y := by rw [← h1]; exact Nat.le_add_right _ _
    have c1 := Nat.mul_le_mul_left (q + 1) c0
    rw [← Nat.mul_assoc] at c1
    clear h1 c0 hU e
    generalize (q + 1) * n1 = A at *
    generalize (q + 1) * Y = C at *
    omega
  · have a : q * n1 < 4294967298 * n1 := by omega
    have := Nat.lt_of_mul_lt_mul_right a
    omega

theorem StepI.mul {U Y n1 n0 q r : Nat} (h : StepI U Y n1 q r) (d : Digs Y n1 n0) : q * Y + r * 4294967296 = U * 4294967296 + q * n0 := by
  rw [← d.eq, ← h.eq, Nat.mul_add, Nat.add_mul, Nat.mul_assoc]
  omega

/-- The digit was too great. -/
theorem StepI.less {U Y n1 n0 q r : Nat} (h : StepI U Y n1 q r) (d : Digs Y n1 n0) (hU : U < Y) (ht : 4294967296 ≤ q ∨ 4294967296 * r < q * n0) : ∃ p, q = p + 1 ∧ U * 4294967296 < (p + 1) * Y ∧ p * n1 + (r + n1) = U ∧ p ≤ 4294967296 ∧ r + n1 < 8589934592 := by
  have hm := h.mul d
  have hq : 1 ≤ q := by
    rcases ht with h1 | h1
    · omega
    · rcases Nat.eq_zero_or_pos q with rfl | h0
      · simp at h1
      · exact h0
  obtain ⟨p, rfl⟩ : ∃ p, q = p + 1 := ⟨q - 1, by omega⟩
  have := h.le
  have := h.lt
  have := d.hi
  have he := h.eq
  rw [Nat.add_mul] at he
  refine ⟨p, rfl, ?_, by omega, by omega, by omega⟩
  rcases ht with h1 | h1
  · have a : 4294967296 * Y ≤ (p + 1) * Y := Nat.mul_le_mul_right _ h1
    omega
  · omega

theorem StepI.on {U Y n1 r p : Nat} (h1 : U * 4294967296 < (p + 1) * Y) (h2 : p * n1 + (r + n1) = U) (h3 : p ≤ 4294967296) (h4 : r + n1 < 4294967296) : StepI U Y n1 p (r + n1) := ⟨h1, h2, h4, by omega⟩

/-- The digit is it. -/
def IsDig (U Y q : Nat) : Prop := q * Y ≤ U * 4294967296 ∧ U * 4294967296 < (q + 1) * Y

theorem dig_break {U Y n1 n0 r p : Nat} (d : Digs Y n1 n0) (h1 : U * 4294967296 < (p + 1) * Y) (h2 : p * n1 + (r + n1) = U) (h3 : p ≤ 4294967296) (h4 : ¬ r + n1 < 4294967296) : IsDig U Y p := by
  refine ⟨?_, h1⟩
  have a : p * Y = p * n1 * 4294967296 + p * n0 := by rw [← d.eq, Nat.mul_add, Nat.mul_assoc]
  have b : p * n0 ≤ 4294967296 * n0 := Nat.mul_le_mul_right _ h3
  have := d.n0
  rw [a]
  have c : p * n1 = U - (r + n1) := by omega
  rw [c]
  omega

theorem StepI.done {U Y n1 n0 q r : Nat} (h : StepI U Y n1 q r) (d : Digs Y n1 n0) (h1 : q * n0 ≤ 4294967296 * r) : IsDig U Y q := by
  refine ⟨?_, h.up⟩
  have := h.mul d
  omega

theorem IsDig.lt {U Y q : Nat} (h : IsDig U Y q) (hU : U < Y) : q < 4294967296 := by
  have a : q * Y < 4294967296 * Y := by have := h.1; omega
  exact Nat.lt_of_mul_lt_mul_right a

theorem IsDig.rest {U Y q : Nat} (h : IsDig U Y q) : U * 4294967296 - q * Y < Y := by
  have h1 := h.1
  have h2 := h.2
  rw [Nat.add_mul] at h2
  omega

theorem sq64 (U : Nat) : U * 18446744073709551616 = U * 4294967296 * 4294967296 := by
  rw [Nat.mul_assoc]

theorem arith1 (A B D T : Nat) (h : B ≤ D * T) : A * T + B ≤ (A + D) * T := by
  rw [Nat.add_mul]
  exact Nat.add_le_add_left h _
theorem arith2 (A B D Y T : Nat) (h : D * T < B + Y) : (A + D) * T < A * T + B + Y := by
  rw [Nat.add_mul, Nat.add_assoc]
  exact Nat.add_lt_add_left h _

theorem two_digs {U Y q p : Nat} (h : IsDig U Y q) (k : IsDig (U * 4294967296 - q * Y) Y p) : U * 18446744073709551616 / Y = q * 4294967296 + p := by
  obtain ⟨h1, h2⟩ := h
  obtain ⟨k1, k2⟩ := k
  have e : (q * 4294967296 + p) * Y = q * Y * 4294967296 + p * Y := by
    rw [Nat.add_mul]
    congr 1
    rw [Nat.mul_assoc, Nat.mul_comm 4294967296 Y, Nat.mul_assoc]
  rw [sq64]
  obtain ⟨D, hD⟩ : ∃ D, U * 4294967296 = q * Y + D := ⟨U * 4294967296 - q * Y, by omega⟩
  have hD2 : U * 4294967296 - q * Y = D := by omega
  rw [hD2] at k1 k2
  rw [Nat.succ_mul] at k2
  rw [hD]
  clear h1 h2 hD hD2
  have l1 : (q * 4294967296 + p) * Y ≤ (q * Y + D) * 4294967296 := by
    rw [e]
    exact arith1 _ _ _ _ k1
  have l2 : (q * Y + D) * 4294967296 < (q * 4294967296 + p) * Y + Y := by
    rw [e]
    exact arith2 _ _ _ _ _ k2
  clear e k1 k2
  generalize q * 4294967296 + p = Z at *
  rw [← Nat.succ_mul] at l2
  exact Nat.div_eq_of_lt_le l1 l2

theorem shifted {hi y s : Nat} : hi * 2 ^ s * 18446744073709551616 / (y * 2 ^ s) = hi * 18446744073709551616 / y := by
  have e : hi * 2 ^ s * 18446744073709551616 = hi * 18446744073709551616 * 2 ^ s := Nat.mul_right_comm _ _ _
  rw [e]
  exact Nat.mul_div_mul_right _ _ (Nat.two_pow_pos s)

theorem digs_of {Y : Nat} (h1 : 9223372036854775808 ≤ Y) (h2 : Y < 18446744073709551616) : Digs Y (Y / 4294967296) (Y % 4294967296) := by
  refine ⟨by omega, by omega, by omega, by omega⟩

theorem norm_of {y L : Nat} (h1 : 1 ≤ L) (h2 : 2 ^ (L - 1) ≤ y) (h3 : y < 2 ^ L) (h4 : L ≤ 64) : 9223372036854775808 ≤ y * 2 ^ (64 - L) ∧ y * 2 ^ (64 - L) < 18446744073709551616 := by
  constructor
  · have := Nat.mul_le_mul_right (2 ^ (64 - L)) h2
    rw [← Nat.pow_add, show L - 1 + (64 - L) = 63 by omega] at this
    exact this
  · have := (Nat.mul_lt_mul_right (Nat.two_pow_pos (64 - L))).2 h3
    rw [← Nat.pow_add, show L + (64 - L) = 64 by omega] at this
    exact this

end Go.Proofs.Ytbnedpjfgadkkaa
