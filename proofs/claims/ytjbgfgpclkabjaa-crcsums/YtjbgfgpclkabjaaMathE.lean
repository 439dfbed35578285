/-
  Plain mathematics: the sum of three rows of bytes, put upon each other.
-/
import Derived.Test.YtjbgfgpclkabjaaMathC
namespace Go.Proofs.Ytjbgfgpclkabjaa.MathA
set_option linter.unusedVariables false

/-- Three rows of bytes, put upon each other. -/
def xor3 : List UInt8 → List UInt8 → List UInt8 → List UInt8
  | x :: a, y :: b, z :: c => (x ^^^ y ^^^ z) :: xor3 a b c
  | _, _, _ => []

theorem ofNat_xor (a b : UInt8) : BitVec.ofNat 32 ((a ^^^ b).toNat * 16777216) = BitVec.ofNat 32 (a.toNat * 16777216) ^^^ BitVec.ofNat 32 (b.toNat * 16777216) := by
  have e : (16777216 : Nat) = 2 ^ 24 := by decide
  rw [e, ← Nat.shiftLeft_eq, ← Nat.shiftLeft_eq, ← Nat.shiftLeft_eq, UInt8.toNat_xor, Nat.shiftLeft_xor_distrib, BitVec.ofNat_xor]

theorem upd_xor (r s : BitVec 32) (a b : UInt8) : upd (r ^^^ s) (a ^^^ b) = upd r a ^^^ upd s b := by
  unfold upd
  rw [← Ln_xor, ofNat_xor]
  congr 1
  ac_rfl

theorem foldl_xor3 (a : List UInt8) : ∀ (b c : List UInt8) (r s t : BitVec 32), a.length = b.length → a.length = c.length →
    (xor3 a b c).foldl upd (r ^^^ s ^^^ t) = a.foldl upd r ^^^ b.foldl upd s ^^^ c.foldl upd t := by
  induction a with
  | nil =>
    intro b c r s t hb hc
    have hb' : b = [] := List.eq_nil_of_length_eq_zero hb.symm
    have hc' : c = [] := List.eq_nil_of_length_eq_zero hc.symm
    subst hb'; subst hc'
    rfl
  | cons x a ih =>
    intro b c r s t hb hc
    match b, c, hb, hc with
    | y :: b, z :: c, hb, hc =>
      simp only [xor3, List.foldl_cons]
      rw [upd_xor, upd_xor]
      exact ih b c _ _ _ (by simpa using hb) (by simpa using hc)

theorem crc_xor3 (a b c : List UInt8) (hb : a.length = b.length) (hc : a.length = c.length) : crc (xor3 a b c) = crc a ^^^ crc b ^^^ crc c := by
  have h := foldl_xor3 a b c 4294967295#32 4294967295#32 4294967295#32 hb hc
  have e : (4294967295#32 ^^^ 4294967295#32 ^^^ 4294967295#32 : BitVec 32) = 4294967295#32 := by decide
  rw [e] at h
  exact h

theorem sum_not (l : List UInt8) : sum l = (~~~crc l).toNat := by
  rw [BitVec.toNat_not]
  rfl

theorem not_xor3 (a b c : BitVec 32) : ~~~(a ^^^ b ^^^ c) = ~~~a ^^^ ~~~b ^^^ ~~~c := by
  apply BitVec.eq_of_getLsbD_eq
  intro i hi
  simp only [BitVec.getLsbD_not, BitVec.getLsbD_xor, hi, decide_true, Bool.true_and]
  cases a.getLsbD i <;> cases b.getLsbD i <;> cases c.getLsbD i <;> rfl

theorem sum_xor3 (a b c : List UInt8) (hb : a.length = b.length) (hc : a.length = c.length) : sum (xor3 a b c) = sum a ^^^ sum b ^^^ sum c := by
  rw [sum_not, sum_not, sum_not, sum_not, crc_xor3 a b c hb hc, not_xor3, BitVec.toNat_xor, BitVec.toNat_xor]

theorem xor3_length (a : List UInt8) : ∀ b c : List UInt8, a.length = b.length → a.length = c.length → (xor3 a b c).length = a.length := by
  induction a with
  | nil => intro b c _ _; cases b <;> cases c <;> rfl
  | cons x a ih =>
    intro b c hb hc
    match b, c, hb, hc with
    | y :: b, z :: c, hb, hc =>
      simp only [xor3, List.length_cons]
      rw [ih b c (by simpa using hb) (by simpa using hc)]

theorem xor3_at (a : List UInt8) : ∀ (b c : List UInt8) (i : Nat), a.length = b.length → a.length = c.length → i < a.length →
    (xor3 a b c)[i]? = some (a.getD i 0 ^^^ b.getD i 0 ^^^ c.getD i 0) := by
  induction a with
  | nil => intro b c i _ _ h; simp at h
  | cons x a ih =>
    intro b c i hb hc hi
    match b, c, hb, hc with
    | y :: b, z :: c, hb, hc =>
      cases i with
      | zero => rfl
      | succ i =>
        simp only [xor3, List.getElem?_cons_succ]
        rw [ih b c i (by simpa using hb) (by simpa using hc) (by simpa using hi)]
        simp [List.getD]

end Go.Proofs.Ytjbgfgpclkabjaa.MathA
