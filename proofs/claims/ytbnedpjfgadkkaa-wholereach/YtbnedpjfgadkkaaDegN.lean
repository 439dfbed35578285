/-
  The shares of the degrees: mathematics.
-/
import Derived.Test.YtbnedpjfgadkkaaDegM
namespace Go.Proofs.Ytbnedpjfgadkkaa

def part (F E i : Nat) : Nat := (F * E - 1000) * (F - 1) * i + 1000 * (F + 1) * F * (i - 1)
def whole (F E i : Nat) : Nat := F * (1000 + E) * (F - 1) * i
def share64 (P W : Nat) : Nat := P * 18446744073709551616 / W
def belowN (F E i : Nat) : Nat := share64 (part F E i) (whole F E i)

/-- The limits. -/
structure MayD (F E : Nat) : Prop where
  f2 : 2 ≤ F
  f4 : F ≤ 4096
  e1 : 1 ≤ E
  e2 : E ≤ 1000
  fe : 1000 < F * E

theorem mul_le4 {a b c d : Nat} (h : a ≤ b) (k : c ≤ d) : a * c ≤ b * d := Nat.mul_le_mul h k

theorem poly1 (d j x E : Nat) (hx : (d + j + 2) * E = x + 1000) : (d + j + 2) * (1000 + E) * (d + j + 1) * (j + 1) = x * (d + j + 1) * (j + 1) + 1000 * (d + j + 3) * (d + j + 2) * j + 1000 * (d + j + 3) * (d + 1) := by
  have e : (d + j + 2) * (1000 + E) = 1000 * (d + j + 2) + (x + 1000) := by grind
  rw [e]
  grind

theorem whole_part {F E i : Nat} (h : MayD F E) (h1 : 1 ≤ i) (h2 : i < F) : whole F E i = part F E i + 1000 * (F + 1) * (F - i) := by
  obtain ⟨a1, a2, a3, a4, a5⟩ := h
  obtain ⟨j, rfl⟩ : ∃ j, i = j + 1 := ⟨i - 1, by omega⟩
  obtain ⟨d, rfl⟩ : ∃ d, F = d + j + 2 := ⟨F - (j + 2), by omega⟩
  obtain ⟨x, hx⟩ : ∃ x, (d + j + 2) * E = x + 1000 := ⟨(d + j + 2) * E - 1000, by omega⟩
  have e1 : (d + j + 2) * E - 1000 = x := by omega
  have e2 : d + j + 2 - 1 = d + j + 1 := by omega
  have e3 : j + 1 - 1 = j := by omega
  have e4 : d + j + 2 - (j + 1) = d + 1 := by omega
  have e5 : d + j + 2 + 1 = d + j + 3 := by omega
  unfold whole part
  rw [e1, e2, e3, e4, e5]
  exact poly1 d j x E hx

theorem part_pos {F E i : Nat} (h : MayD F E) (h1 : 1 ≤ i) : 1 ≤ part F E i := by
  obtain ⟨a1, a2, a3, a4, a5⟩ := h
  unfold part
  have b : 1 ≤ (F * E - 1000) * (F - 1) * i := Nat.mul_pos (Nat.mul_pos (by omega) (by omega)) h1
  exact Nat.le_trans b (Nat.le_add_right _ _)

theorem part_lt {F E i : Nat} (h : MayD F E) (h1 : 1 ≤ i) (h2 : i < F) : part F E i < whole F E i := by
  rw [whole_part h h1 h2]
  have b : 1 ≤ 1000 * (F + 1) * (F - i) := Nat.mul_pos (Nat.mul_pos (by omega) (by omega)) (by omega)
  exact Nat.lt_add_of_pos_right b

theorem whole_le {F E i : Nat} (h : MayD F E) (h2 : i ≤ F) : whole F E i ≤ 200000000000000 ∧ F * (1000 + E) * (F - 1) ≤ 40000000000 := by
  obtain ⟨a1, a2, a3, a4, a5⟩ := h
  have b1 : F * (1000 + E) ≤ 4096 * 2000 := Nat.mul_le_mul a2 (by omega)
  have b2 : F * (1000 + E) * (F - 1) ≤ 4096 * 2000 * 4095 := Nat.mul_le_mul b1 (by omega)
  have b3 : F * (1000 + E) * (F - 1) * i ≤ 4096 * 2000 * 4095 * 4096 := Nat.mul_le_mul b2 (by omega)
  exact ⟨Nat.le_trans b3 (by decide), Nat.le_trans b2 (by decide)⟩

/-- All numbers on the way. -/
structure Reck (F E i x1 x2 f1 x3 x4 y1 y2 y3 i1 y4 z1 z2 z3 : Nat) : Prop where
  ex1 : F * E = x1
  ex2 : 1000 + x2 = x1
  ef1 : F = f1 + 1
  ex3 : x2 * f1 = x3
  ex4 : x3 * i = x4
  ey1 : F + 1 = y1
  ey2 : 1000 * y1 = y2
  ey3 : y2 * F = y3
  ei1 : i = i1 + 1
  ey4 : y3 * i1 = y4
  ep : x4 + y4 = part F E i
  ez1 : 1000 + E = z1
  ez2 : F * z1 = z2
  ez3 : z2 * f1 = z3
  ez : z3 * i = whole F E i
  bx1 : x1 < 1000000000000000000
  bx3 : x3 < 1000000000000000000
  bx4 : x4 < 1000000000000000000
  by3 : y3 < 1000000000000000000
  by4 : y4 < 1000000000000000000
  bz2 : z2 < 1000000000000000000
  bz3 : z3 < 1000000000000000000
  bz : whole F E i < 1000000000000000000

theorem reck {F E i : Nat} (h : MayD F E) (h1 : 1 ≤ i) (h2 : i < F) : ∃ x1 x2 f1 x3 x4 y1 y2 y3 i1 y4 z1 z2 z3, Reck F E i x1 x2 f1 x3 x4 y1 y2 y3 i1 y4 z1 z2 z3 := by
  obtain ⟨a1, a2, a3, a4, a5⟩ := h
  have c1 : F * E ≤ 4096 * 1000 := Nat.mul_le_mul a2 a4
  have c2 : (F * E - 1000) * (F - 1) ≤ 4096000 * 4095 := Nat.mul_le_mul (by omega) (by omega)
  have c3 : (F * E - 1000) * (F - 1) * i ≤ 4096000 * 4095 * 4095 := Nat.mul_le_mul c2 (by omega)
  have d1 : 1000 * (F + 1) * F ≤ 4097000 * 4096 := Nat.mul_le_mul (by omega) a2
  have d2 : 1000 * (F + 1) * F * (i - 1) ≤ 4097000 * 4096 * 4094 := Nat.mul_le_mul d1 (by omega)
  have b1 : F * (1000 + E) ≤ 4096 * 2000 := Nat.mul_le_mul a2 (by omega)
  have b2 : F * (1000 + E) * (F - 1) ≤ 4096 * 2000 * 4095 := Nat.mul_le_mul b1 (by omega)
  have b3 : F * (1000 + E) * (F - 1) * i ≤ 4096 * 2000 * 4095 * 4096 := Nat.mul_le_mul b2 (by omega)
  have big : ∀ n m : Nat, n ≤ m → m < 1000000000000000000 → n < 1000000000000000000 := fun n m => Nat.lt_of_le_of_lt
  exact ⟨_, F * E - 1000, F - 1, _, _, _, _, _, i - 1, _, _, _, _, rfl, by omega, by omega, rfl, rfl, rfl, rfl, rfl, by omega, rfl, rfl, rfl, rfl, rfl, rfl, big _ _ c1 (by decide), big _ _ c2 (by decide), big _ _ c3 (by decide), big _ _ d1 (by decide), big _ _ d2 (by decide), big _ _ b1 (by decide), big _ _ b2 (by decide), big _ _ b3 (by decide)⟩

theorem share_lt_core {A B W W' : Nat} (hW : 0 < W) (hW' : 0 < W') (h : A * W' + W * W' ≤ B * W) : A / W < B / W' := by
  have q := Nat.div_mul_le_self A W
  generalize A / W = x at *
  have a : (x + 1) * W' * W ≤ B * W := by
    have b : x * W * W' ≤ A * W' := Nat.mul_le_mul_right _ q
    have e : (x + 1) * W' * W = x * W * W' + W * W' := by grind
    rw [e]
    omega
  exact (Nat.le_div_iff_mul_le hW').2 (Nat.le_of_mul_le_mul_right a hW)

theorem share_le_core {P W P' W' : Nat} (N : Nat) (hW : 0 < W) (hW' : 0 < W') (h : P * W' ≤ P' * W) : P * N / W ≤ P' * N / W' := by
  have q := Nat.div_mul_le_self (P * N) W
  generalize P * N / W = x at *
  have a : x * W' * W ≤ P' * N * W := by
    have b : x * W * W' ≤ P * N * W' := Nat.mul_le_mul_right _ q
    have c : P * W' * N ≤ P' * W * N := Nat.mul_le_mul_right _ h
    have e : x * W' * W = x * W * W' := Nat.mul_right_comm _ _ _
    have f : P * N * W' = P * W' * N := Nat.mul_right_comm _ _ _
    have g : P' * N * W = P' * W * N := Nat.mul_right_comm _ _ _
    rw [e, g]
    rw [f] at b
    exact Nat.le_trans b c
  exact (Nat.le_div_iff_mul_le hW').2 (Nat.le_of_mul_le_mul_right a hW)

theorem share_lt {P W P' W' : Nat} (hW : 0 < W) (hW' : 0 < W') (h : P * 18446744073709551616 * W' + W * W' ≤ P' * 18446744073709551616 * W) : share64 P W < share64 P' W' := share_lt_core hW hW' h

theorem share_le {P W P' W' : Nat} (hW : 0 < W) (hW' : 0 < W') (h : P * W' ≤ P' * W) : share64 P W ≤ share64 P' W' := share_le_core _ hW hW' h

theorem share_lt64 {P W : Nat} (h : P < W) : share64 P W < 18446744073709551616 := by
  unfold share64
  rw [Nat.div_lt_iff_lt_mul (by omega), Nat.mul_comm]
  exact (Nat.mul_lt_mul_left (by decide)).2 h

theorem share_pos {P W : Nat} (h : 1 ≤ P) (h1 : 0 < W) (h2 : W ≤ 18446744073709551616) : 1 ≤ share64 P W := by
  unfold share64
  rw [Nat.le_div_iff_mul_le h1, Nat.one_mul]
  exact Nat.le_trans h2 (Nat.le_mul_of_pos_left _ h)

theorem poly2 (P P' W D e i : Nat) (h : W * i = P + D * (e + 1)) (k : W * (i + 1) = P' + D * e) : P' * (W * i) = P * (W * (i + 1)) + D * W * (e + i + 1) := by
  have h' : (P : Int) = W * i - D * (e + 1) := by
    have : ((W * i : Nat) : Int) = ((P + D * (e + 1) : Nat) : Int) := by rw [h]
    simp only [Int.natCast_mul, Int.natCast_add, Int.natCast_one] at this
    omega
  have k' : (P' : Int) = W * (i + 1) - D * e := by
    have : ((W * (i + 1) : Nat) : Int) = ((P' + D * e : Nat) : Int) := by rw [k]
    simp only [Int.natCast_mul, Int.natCast_add, Int.natCast_one] at this
    omega
  apply Int.ofNat.inj
  show ((P' * (W * i) : Nat) : Int) = ((P * (W * (i + 1)) + D * W * (e + i + 1) : Nat) : Int)
  simp only [Int.natCast_mul, Int.natCast_add, Int.natCast_one]
  rw [h', k']
  grind

theorem below_lt {F E i : Nat} (h : MayD F E) (h1 : 1 ≤ i) (h2 : i < F) : belowN F E i < 18446744073709551616 := share_lt64 (part_lt h h1 h2)

theorem below_pos {F E i : Nat} (h : MayD F E) (h1 : 1 ≤ i) (h2 : i < F) : 1 ≤ belowN F E i := by
  have a := (whole_le (i := i) h (by omega)).1
  have b := part_lt h h1 h2
  exact share_pos (part_pos h h1) (by omega) (by omega)

theorem below_core {P P' W D e i F : Nat} (N : Nat) (a1 : W * i = P + D * (e + 1)) (a2 : W * (i + 1) = P' + D * e) (he : F = e + i + 1) (hw : W ≤ 40000000000) (hD : 1 ≤ D) (hf4 : F ≤ 4096) (hN : 40000000000 * (4096 * 4096) ≤ N) : P * N * (W * (i + 1)) + W * i * (W * (i + 1)) ≤ P' * N * (W * i) := by
  have hp := poly2 P P' W D e i a1 a2
  rw [← he] at hp
  have e1 : P' * N * (W * i) = P' * (W * i) * N := Nat.mul_right_comm _ _ _
  have e2 : P * N * (W * (i + 1)) = P * (W * (i + 1)) * N := Nat.mul_right_comm _ _ _
  rw [e1, e2, hp, Nat.add_mul]
  apply Nat.add_le_add_left
  have b1 : W * (i * (i + 1)) ≤ 40000000000 * (4096 * 4096) := Nat.mul_le_mul hw (Nat.mul_le_mul (by omega) (by omega))
  have b2 : W * i * (W * (i + 1)) = W * (W * (i * (i + 1))) := by grind
  have b3 : W * (W * (i * (i + 1))) ≤ W * N := Nat.mul_le_mul_left _ (Nat.le_trans b1 hN)
  have b4 : W * N ≤ D * W * F * N := by
    apply Nat.mul_le_mul_right
    have c1 : 1 ≤ D * F := Nat.mul_pos hD (by omega)
    have c2 : W * 1 ≤ W * (D * F) := Nat.mul_le_mul_left _ c1
    have c3 : D * W * F = W * (D * F) := by grind
    rw [c3]
    omega
  rw [b2]
  exact Nat.le_trans b3 b4

theorem below_next {F E i : Nat} (h : MayD F E) (h1 : 1 ≤ i) (h2 : i + 1 < F) : belowN F E i < belowN F E (i + 1) := by
  have a1 := whole_part h h1 (by omega)
  have a2 := whole_part h (show 1 ≤ i + 1 by omega) h2
  have l1 := part_lt h h1 (by omega)
  have l2 := part_lt h (show 1 ≤ i + 1 by omega) h2
  have hw := (whole_le (i := i) h (by omega)).2
  obtain ⟨e, he⟩ : ∃ e, F = e + i + 1 := ⟨F - (i + 1), by omega⟩
  have he1 : F - i = e + 1 := by omega
  have he2 : F - (i + 1) = e := by omega
  rw [he1] at a1
  rw [he2] at a2
  exact share_lt (by omega) (by omega) (below_core 18446744073709551616 a1 a2 he hw (by omega) h.f4 (by decide))

theorem below_mono {F E : Nat} (h : MayD F E) {i j : Nat} (h1 : 1 ≤ i) (h2 : i ≤ j) (h3 : j < F) : belowN F E i ≤ belowN F E j := by
  induction j with
  | zero => omega
  | succ j ih =>
    by_cases e : i = j + 1
    · rw [e]; exact Nat.le_refl _
    · have a := ih (by omega) (by omega)
      have b := below_next h (show 1 ≤ j by omega) h3
      omega

theorem below_eps {F E G i : Nat} (h : MayD F E) (k : MayD F G) (hEG : E ≤ G) (h1 : 1 ≤ i) (h2 : i < F) : belowN F E i ≤ belowN F G i := by
  have a1 := whole_part h h1 h2
  have a2 := whole_part k h1 h2
  have l1 := part_lt h h1 h2
  have l2 := part_lt k h1 h2
  have hw : whole F E i ≤ whole F G i := by
    unfold whole
    exact Nat.mul_le_mul_right _ (Nat.mul_le_mul_right _ (Nat.mul_le_mul_left _ (by omega)))
  unfold belowN
  apply share_le (by omega) (by omega)
  generalize 1000 * (F + 1) * (F - i) = X at *
  rw [a1, a2, Nat.mul_add, Nat.mul_add, Nat.mul_comm (part F G i) (part F E i)]
  exact Nat.add_le_add_left (Nat.mul_le_mul_right _ (by omega)) _

/-- The degree of a number. -/
structure DegAt (F E u d : Nat) : Prop where
  lo : 1 ≤ d
  hi : d ≤ F
  past : ∀ i, 1 ≤ i → i < d → belowN F E i ≤ u
  at_ : d < F → u < belowN F E d

theorem DegAt.le {F E u v d e : Nat} (h : DegAt F E u d) (k : DegAt F E v e) (huv : u ≤ v) : d ≤ e := by
  rcases Nat.lt_or_ge e d with hlt | hge
  · have a := h.past e k.lo hlt
    have b := k.at_ (by have := h.hi; omega)
    omega
  · exact hge

theorem DegAt.uniq {F E u d e : Nat} (h : DegAt F E u d) (k : DegAt F E u e) : d = e := Nat.le_antisymm (h.le k (Nat.le_refl _)) (k.le h (Nat.le_refl _))

end Go.Proofs.Ytbnedpjfgadkkaa
