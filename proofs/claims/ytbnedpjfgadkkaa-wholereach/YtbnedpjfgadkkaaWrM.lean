/-
  In which check blocks all blocks are: what is reckoned.
-/
import Derived.Test.YtbnedpjfgadkkaaIShM
import Derived.Test.YtbnedpjfgadkkaaWrG
namespace Go.Proofs.Ytbnedpjfgadkkaa
set_option linter.unusedVariables false

def covF (lo hi a A code : Nat) : Nat := covH (fun id acc k => bitsH kMix kAdd lo hi a A id acc k) 60 code 0
def okL (lo hi a : Nat) : List Nat → Nat → Bool
  | [], _ => true
  | c :: t, A => cond (Nat.beq (covF lo hi a A c) (Nat.sub (Nat.pow 2 A) 1)) (kS (Nat.succ A) (okL lo hi a t)) false
def okT (lo hi S : Nat) (t : List Nat) : Bool := kS (state2 S) fun a => okL lo hi a t 2

theorem okL_is (lo hi a : Nat) (t : List Nat) : ∀ A, okL lo hi a t A = true → ∀ j c, t[j]? = some c → covF lo hi a (A + j) c = 2 ^ (A + j) - 1 := by
  induction t with
  | nil => intro A _ j c h; simp at h
  | cons c0 t ih =>
    intro A h j c hj
    have e : okL lo hi a (c0 :: t) A = cond (Nat.beq (covF lo hi a A c0) (Nat.sub (Nat.pow 2 A) 1)) (kS (Nat.succ A) (okL lo hi a t)) false := rfl
    rw [e, kS_eq] at h
    cases hb : Nat.beq (covF lo hi a A c0) (Nat.sub (Nat.pow 2 A) 1) with
    | false => rw [hb] at h; cases h
    | true =>
      rw [hb] at h
      cases j with
      | zero =>
        simp at hj
        subst hj
        exact Nat.eq_of_beq_eq_true hb
      | succ j =>
        have := ih (A + 1) h j c (by simpa using hj)
        rw [show A + 1 + j = A + (j + 1) by omega] at this
        exact this

/-- Each block is in some check block of two blocks. -/
theorem okT_is {lo hi S : Nat} {t : List Nat} (hl : t.length = 52) (h : okT lo hi S t = true) {A b : Nat} (h2 : 2 ≤ A) (h53 : A ≤ 53) (hb : b < A) : ∃ id, id < 4000 ∧ GoodG mix addS lo hi (state2 S) A id b := by
  unfold okT at h
  rw [kS_eq] at h
  have hj : A - 2 < t.length := by omega
  have e := okL_is lo hi (state2 S) t 2 h (A - 2) t[A - 2] (List.getElem?_eq_getElem hj)
  rw [show 2 + (A - 2) = A by omega] at e
  have hbit := full_bit hb
  rw [← e] at hbit
  unfold covF at hbit
  rcases covH_is _ (fun id b => GoodG mix addS lo hi (state2 S) A id b) (fun id acc k => bitsH_is mix addS kMix kAdd kMix_eq kAdd_eq lo hi (state2 S) A id acc k) 60 _ 0 b hbit with h0 | h0
  · simp at h0
  · exact h0

end Go.Proofs.Ytbnedpjfgadkkaa
