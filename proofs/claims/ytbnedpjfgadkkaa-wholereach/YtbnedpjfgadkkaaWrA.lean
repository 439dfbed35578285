/-
  Each block is in some check block of 4000, whatever the degrees.
-/
import Derived.Test.YtbnedpjfgadkkaaInS
import Derived.Test.YtbnedpjfgadkkaaWrK
namespace Go.Proofs.Ytbnedpjfgadkkaa
set_option linter.unusedVariables false

/-- Numbers of which one share follows. -/
theorem share_ge {P W X : Nat} (hW : 0 < W) (h : X * W ≤ P * 18446744073709551616) : X ≤ share64 P W := by
  unfold share64
  exact (Nat.le_div_iff_mul_le hW).2 h
theorem share_le' {P W X : Nat} (hW : 0 < W) (h : P * 18446744073709551616 < (X + 1) * W) : share64 P W ≤ X := by
  unfold share64
  have := (Nat.div_lt_iff_lt_mul hW).2 h
  omega
theorem share_gt {P W X : Nat} (hW : 0 < W) (h : ¬ share64 P W ≤ X) : (X + 1) * W ≤ P * 18446744073709551616 := by
  unfold share64 at h
  exact (Nat.le_div_iff_mul_le hW).1 (by omega)

structure Deg2 (P1 P2 W X Y : Nat) : Prop where
  w : W = P1 + X
  w2 : 2 * W = P2 + Y
  yx : Y ≤ X
  xw : W ≤ 2 * X
  pos : 0 < W

theorem deg2_of {F E : Nat} (h : MayD F E) (hF : 2 < F) : ∃ X Y, Deg2 (part F E 1) (part F E 2) (whole F E 1) X Y ∧ whole F E 2 = 2 * whole F E 1 := by
  have a1 := whole_part h (i := 1) (by omega) (by omega)
  have a2 := whole_part h (i := 2) (by omega) hF
  have l1 := part_lt h (i := 1) (by omega) (by omega)
  have e2 : whole F E 2 = 2 * whole F E 1 := by
    unfold whole
    rw [Nat.mul_one, Nat.mul_comm]
  refine ⟨1000 * (F + 1) * (F - 1), 1000 * (F + 1) * (F - 2), ⟨a1, by rw [← e2]; exact a2, Nat.mul_le_mul_left _ (by omega), ?_, by omega⟩, e2⟩
  have he := h.e2
  have b : F * (1000 + E) ≤ F * 2000 := Nat.mul_le_mul_left _ (by omega)
  have c : F * 2000 ≤ 2 * (1000 * (F + 1)) := by clear b a1 a2 l1 e2; omega
  have d := Nat.mul_le_mul_right (F - 1) (Nat.le_trans b c)
  unfold whole
  rw [Nat.mul_one]
  rw [Nat.mul_assoc] at d
  rw [Nat.mul_assoc]
  rw [Nat.mul_assoc 2] at d
  exact d

theorem half_one {P1 P2 W X Y : Nat} (h : Deg2 P1 P2 W X Y) : share64 P1 W ≤ 9223372036854775808 := by
  obtain ⟨h1, h2, h3, h4, h5⟩ := h
  exact share_le' h5 (by omega)
theorem half_two {P1 P2 W X Y : Nat} (h : Deg2 P1 P2 W X Y) : 9223372036854775808 ≤ share64 P2 (2 * W) := by
  obtain ⟨h1, h2, h3, h4, h5⟩ := h
  exact share_ge (by omega) (by omega)
theorem more_two {P1 P2 W X Y : Nat} (h : Deg2 P1 P2 W X Y) (hq : ¬ share64 P1 W ≤ 4611686018427387904) : 11529215046068469760 ≤ share64 P2 (2 * W) := by
  obtain ⟨h1, h2, h3, h4, h5⟩ := h
  have := share_gt h5 hq
  exact share_ge (by omega) (by omega)

theorem two_not {E : Nat} (h : MayD 2 E) : share64 (part 2 E 1) (whole 2 E 1) ≤ 4611686018427387904 := by
  have e1 := h.e2
  have e2 := h.fe
  have p : part 2 E 1 = 2 * E - 1000 := by unfold part; omega
  have w : whole 2 E 1 = 2000 + 2 * E := by unfold whole; omega
  rw [p, w]
  exact share_le' (by omega) (by omega)

/-- In the lower range the degree is 2, where degree 1 is rare. -/
theorem deg_low {F E u : Nat} (h : MayD F E) (hq : belowN F E 1 ≤ 4611686018427387904) (h1 : 4611686018427387904 ≤ u) (h2 : u < 9223372036854775808) : DegAt F E u 2 := by
  refine ⟨by decide, h.f2, fun i a b => ?_, fun hF => ?_⟩
  · obtain rfl : i = 1 := by omega
    exact Nat.le_trans hq h1
  · obtain ⟨X, Y, hd, e⟩ := deg2_of h hF
    have := half_two hd
    unfold belowN
    rw [e]
    omega

/-- In the upper range it is 2, where degree 1 isn't rare. -/
theorem deg_high {F E u : Nat} (h : MayD F E) (hq : ¬ belowN F E 1 ≤ 4611686018427387904) (h1 : 9223372036854775808 ≤ u) (h2 : u < 11529215046068469760) : DegAt F E u 2 := by
  have hF : 2 < F := by
    have := h.f2
    by_cases e : F = 2
    · subst e
      exact absurd (two_not h) hq
    · omega
  obtain ⟨X, Y, hd, e⟩ := deg2_of h hF
  refine ⟨by decide, h.f2, fun i a b => ?_, fun _ => ?_⟩
  · obtain rfl : i = 1 := by omega
    exact Nat.le_trans (half_one hd) h1
  · have := more_two hd hq
    unfold belowN
    rw [e]
    omega

theorem belowD_one {s n : Nat} (h1 : 1 ≤ n) (hn : n ≤ 64) (hX : 64 ≤ mix (addS s)) : belowD s (n : Int) = (addS s, ((mix (addS s) % n : Nat) : Int)) := by
  have hf : fewOf n < n := Nat.mod_lt _ h1
  rw [belowD_some (by omega), Int.toNat_natCast, fairD_done _ _ _ (by omega)]

theorem seed3_at (S id : Nat) : seedTo 0 [S, 2, id] = mix (state2 S ^^^ id) := by
  unfold seedTo
  rw [List.foldl_cons, List.foldl_cons, List.foldl_cons, List.foldl_nil]
  have e : ∀ x y, seedStep x y = mix (addS x ^^^ y) := fun x y => rfl
  unfold state2
  rw [e (seedStep (seedStep 0 S) 2) id]

theorem two_picks {s A : Nat} (h2 : 2 ≤ A) (h53 : A ≤ 53) (hx : 64 ≤ mix (addS s)) (hy : 64 ≤ mix (addS (addS s))) : (picks s ((A : Int) - 2) 2).2 = [(fstG mix addS A s : Int), (sndG mix addS A s : Int)] := by
  have e1 : (A : Int) - 2 + (0 : Nat) + 1 = ((A - 1 : Nat) : Int) := by omega
  have e2 : ((A - 1 : Nat) : Int) + 1 = (A : Int) := by omega
  have e3 : (A : Int) - 2 + (1 : Nat) = ((A - 1 : Nat) : Int) := by omega
  have b1 := belowD_one (s := s) (n := A - 1) (by omega) (by omega) hx
  have b2 := belowD_one (s := addS s) (n := A) (by omega) (by omega) hy
  show (pickD ((A : Int) - 2 + (1 : Nat)) (pickD ((A : Int) - 2 + (0 : Nat)) (s, []))).2 = _
  have p1 : pickD ((A : Int) - 2 + (0 : Nat)) (s, []) = (addS s, [(fstG mix addS A s : Int)]) := by
    unfold pickD
    simp only [e1, b1]
    simp [fstG]
  rw [p1, e3]
  unfold pickD
  simp only [e2, b2]
  unfold sndG
  generalize fstG mix addS A s = x
  generalize mix (addS (addS s)) % A = y
  by_cases hxy : y = x
  · simp [hxy]
  · have : ¬ ((y : Int) = (x : Int)) := by omega
    simp [hxy, this]

theorem mem_some2 {s A b : Nat} (h2 : 2 ≤ A) (h53 : A ≤ 53) (hx : 64 ≤ mix (addS s)) (hy : 64 ≤ mix (addS (addS s))) (hb : b = fstG mix addS A s ∨ b = sndG mix addS A s) : (b : Int) ∈ (someD s (A : Int) ((2 : Nat) : Int)).2 := by
  have hk : howMany (A : Int) ((2 : Nat) : Int) = 2 := by unfold howMany; split <;> omega
  unfold someD
  rw [hk, mem_sortI]
  show (b : Int) ∈ (picks s ((A : Int) - 2) 2).2
  rw [two_picks h2 h53 hx hy]
  rcases hb with rfl | rfl
  · simp
  · simp

/-- NO BLOCK IS LEFT OUT. -/
theorem reach_is {F E S A b : Nat} (h : MayD F E) (hS : S < 16) (h2 : 2 ≤ A) (h53 : A ≤ 53) (hb : b < A) : ∃ id, id < 4000 ∧ ∀ k l, Chk F E S A id k l → (b : Int) ∈ l := by
  have key : ∀ id lo hi, GoodG mix addS lo hi (state2 S) A id b → (∀ u, lo ≤ u → u < hi → DegAt F E u 2) → ∀ k l, Chk F E S A id k l → (b : Int) ∈ l := by
    rintro id lo hi ⟨g1, g2, g3, g4, g5⟩ hd k l ⟨s0, s1, u, d, t', c0, c1, c2, c3, c4, c5⟩
    rw [seed3_at] at c0
    rw [c0, c1] at g1 g2 g3 g4 g5
    rw [c2] at g1 g2
    have := c3.uniq (hd u g1 g2)
    subst this
    have hm := mem_some2 h2 h53 g3 g4 g5
    rw [c5] at hm
    exact hm
  by_cases hq : belowN F E 1 ≤ 4611686018427387904
  · obtain ⟨t, hl, ht⟩ := cov_any0 S hS
    obtain ⟨id, h1, h3⟩ := okT_is hl ht h2 h53 hb
    exact ⟨id, h1, key id _ _ h3 (fun u a c => deg_low h hq a c)⟩
  · obtain ⟨t, hl, ht⟩ := cov_any1 S hS
    obtain ⟨id, h1, h3⟩ := okT_is hl ht h2 h53 hb
    exact ⟨id, h1, key id _ _ h3 (fun u a c => deg_high h hq a c)⟩

end Go.Proofs.Ytbnedpjfgadkkaa
