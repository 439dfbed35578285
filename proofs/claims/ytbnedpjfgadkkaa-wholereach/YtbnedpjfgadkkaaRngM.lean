/-
  Mixing numbers of 64 bits: mathematics.
-/
namespace Go.Proofs.Ytbnedpjfgadkkaa

/-- A number put upon itself, shifted down. -/
def xsh (z k : Nat) : Nat := z ^^^ (z / 2 ^ k)
def mul64 (a c : Nat) : Nat := a * c % 18446744073709551616
def mix (z : Nat) : Nat := xsh (mul64 (xsh (mul64 (xsh z 30) 13787848793156543929) 27) 10723151780598845931) 31
def addS (s : Nat) : Nat := (s + 11400714819323198485) % 18446744073709551616

theorem xsh_lt {z : Nat} (k : Nat) (h : z < 18446744073709551616) : xsh z k < 18446744073709551616 := by
  have h2 : z / 2 ^ k < 2 ^ 64 := Nat.lt_of_le_of_lt (Nat.div_le_self _ _) h
  exact Nat.xor_lt_two_pow (n := 64) h h2

theorem mul64_lt (a c : Nat) : mul64 a c < 18446744073709551616 := Nat.mod_lt _ (by decide)
theorem mix_lt {z : Nat} : mix z < 18446744073709551616 := xsh_lt _ (mul64_lt _ _)
theorem addS_lt (s : Nat) : addS s < 18446744073709551616 := Nat.mod_lt _ (by decide)

/-- By each seed the state is another one. -/
def seedStep (s x : Nat) : Nat := mix (addS s ^^^ x)
def seedTo (s : Nat) (l : List Nat) : Nat := l.foldl seedStep s

theorem foldl_snoc {α β : Type} (f : β → α → β) (s : β) (l : List α) (x : α) : (l ++ [x]).foldl f s = f (l.foldl f s) x := by simp

theorem seedTo_lt {s : Nat} (h : s < 18446744073709551616) (l : List Nat) : seedTo s l < 18446744073709551616 := by
  induction l generalizing s with
  | nil => exact h
  | cons x l ih => exact ih mix_lt

theorem xsh_inj {x y : Nat} (k : Nat) (hk : 22 ≤ k) (hx : x < 2 ^ 64) (hy : y < 2 ^ 64) (h : xsh x k = xsh y k) : x = y := by
  have key : ∀ d : BitVec 64, d = d >>> k → d = 0#64 := by
    intro d hd
    have e : d = ((d >>> k) >>> k) >>> k := by rw [← hd, ← hd, ← hd]
    rw [e]
    apply BitVec.eq_of_getLsbD_eq
    intro i hi
    simp
    apply BitVec.getLsbD_of_ge
    omega
  have hb : BitVec.ofNat 64 x ^^^ BitVec.ofNat 64 x >>> k = BitVec.ofNat 64 y ^^^ BitVec.ofNat 64 y >>> k := by
    apply BitVec.eq_of_toNat_eq
    simp only [BitVec.toNat_xor, BitVec.toNat_ushiftRight, BitVec.toNat_ofNat, Nat.shiftRight_eq_div_pow]
    rw [Nat.mod_eq_of_lt hx, Nat.mod_eq_of_lt hy]
    exact h
  have hd : BitVec.ofNat 64 x ^^^ BitVec.ofNat 64 y = (BitVec.ofNat 64 x ^^^ BitVec.ofNat 64 y) >>> k := by
    generalize BitVec.ofNat 64 x = a at *
    generalize BitVec.ofNat 64 y = b at *
    rw [BitVec.ushiftRight_xor_distrib]
    have e1 : a ^^^ b = (a ^^^ a >>> k) ^^^ (b ^^^ a >>> k) := by
      apply BitVec.eq_of_getLsbD_eq
      intro i hi
      simp
      cases a.getLsbD (k + i) <;> cases b.getLsbD i <;> rfl
    rw [e1, hb]
    apply BitVec.eq_of_getLsbD_eq
    intro i hi
    simp
    cases a.getLsbD (k + i) <;> cases b.getLsbD i <;> cases b.getLsbD (k + i) <;> rfl
  have h0 := key _ hd
  have h1 : BitVec.ofNat 64 x = BitVec.ofNat 64 y := BitVec.xor_eq_zero_iff.1 h0
  have h2 := congrArg BitVec.toNat h1
  simp only [BitVec.toNat_ofNat, Nat.mod_eq_of_lt hx, Nat.mod_eq_of_lt hy] at h2
  exact h2

theorem mul_inj {x y c d : Nat} (hcd : c * d % 18446744073709551616 = 1) (hx : x < 18446744073709551616) (hy : y < 18446744073709551616) (h : mul64 x c = mul64 y c) : x = y := by
  have key : ∀ z, z < 18446744073709551616 → mul64 z c * d % 18446744073709551616 = z := by
    intro z hz
    unfold mul64
    rw [Nat.mod_mul_mod, Nat.mul_assoc, Nat.mul_mod, hcd, Nat.mul_one, Nat.mod_mod, Nat.mod_eq_of_lt hz]
  rw [← key x hx, ← key y hy, h]

theorem mix_inj {x y : Nat} (hx : x < 18446744073709551616) (hy : y < 18446744073709551616) (h : mix x = mix y) : x = y := by
  unfold mix at h
  have h1 := xsh_inj 31 (by decide) (mul64_lt _ _) (mul64_lt _ _) h
  have h2 := mul_inj (d := 3573116690164977347) (by decide) (xsh_lt _ (mul64_lt _ _)) (xsh_lt _ (mul64_lt _ _)) h1
  have h3 := xsh_inj 27 (by decide) (mul64_lt _ _) (mul64_lt _ _) h2
  have h4 := mul_inj (d := 10871156337175269513) (by decide) (xsh_lt _ hx) (xsh_lt _ hy) h3
  exact xsh_inj 30 (by decide) hx hy h4

end Go.Proofs.Ytbnedpjfgadkkaa
