/-
  Counting what is drawn, packed into one number: mathematics, over any functions.
-/
namespace Go.Proofs.Ytecohgmllmddhaa
set_option linter.unusedVariables false

def sN {α : Type} (x : Nat) (f : Nat → α) : α := Nat.rec (f 0) (fun n _ => f (Nat.succ n)) x
theorem sN_eq {α : Type} (x : Nat) (f : Nat → α) : sN x f = f x := by cases x <;> rfl

def iterG (f : Nat → Nat) : Nat → Nat → Nat
  | 0, a => a
  | n + 1, a => iterG f n (f a)

theorem iterG_succ (f : Nat → Nat) (n a : Nat) : iterG f (n + 1) a = iterG f n (f a) := rfl
theorem iterG_add (f : Nat → Nat) (n m : Nat) : ∀ a, iterG f (n + m) a = iterG f m (iterG f n a) := by
  induction n with
  | zero => intro a; rw [Nat.zero_add]; rfl
  | succ n ih =>
    intro a
    rw [show n + 1 + m = (n + m) + 1 by omega, iterG_succ, ih, iterG_succ]
theorem iterG_last (f : Nat → Nat) (n a : Nat) : iterG f (n + 1) a = f (iterG f n a) := iterG_add f n 1 a

def cntG (g : Nat → Nat) (d : Nat) : Nat → Nat
  | 0 => 0
  | k + 1 => cntG g d k + if g k = d then 1 else 0

theorem cntG_zero (g : Nat → Nat) (d : Nat) : cntG g d 0 = 0 := rfl
theorem cntG_same {g : Nat → Nat} {d k : Nat} (h : g k = d) : cntG g d (k + 1) = cntG g d k + 1 := by
  show cntG g d k + (if g k = d then 1 else 0) = _
  rw [if_pos h]
theorem cntG_other {g : Nat → Nat} {d k : Nat} (h : ¬ g k = d) : cntG g d (k + 1) = cntG g d k := by
  show cntG g d k + (if g k = d then 1 else 0) = _
  rw [if_neg h, Nat.add_zero]

theorem cntG_le (g : Nat → Nat) (d k : Nat) : cntG g d k ≤ k := by
  induction k with
  | zero => exact Nat.le_refl _
  | succ k ih =>
    by_cases h : g k = d
    · rw [cntG_same h]; omega
    · rw [cntG_other h]; omega

def Four (x : Nat) : Prop := x = 1 ∨ x = 2 ∨ x = 3 ∨ x = 4

theorem cntG_sum (g : Nat → Nat) (hg : ∀ k, Four (g k)) (k : Nat) : cntG g 1 k + cntG g 2 k + cntG g 3 k + cntG g 4 k = k := by
  induction k with
  | zero => rfl
  | succ k ih =>
    rcases hg k with h | h | h | h <;> simp only [cntG, h] <;> simp <;> omega

def incD (d : Nat) : Nat := if d = 1 then 1 else if d = 2 then 65536 else if d = 3 then 4294967296 else 281474976710656
def csG (g : Nat → Nat) (k : Nat) : Nat := cntG g 1 k + 65536 * cntG g 2 k + 4294967296 * cntG g 3 k + 281474976710656 * cntG g 4 k

theorem csG_next (g : Nat → Nat) (hg : ∀ k, Four (g k)) (k : Nat) : csG g (k + 1) = csG g k + incD (g k) := by
  unfold csG incD
  rcases hg k with h | h | h | h <;> simp only [cntG, h] <;> simp <;> omega

def stepVG (T : Nat) (u mx inc : Nat → Nat) (acc : Nat) : Nat := u (acc % T) + T * (acc / T + inc (mx (u (acc % T))))

theorem stepVG_pack (T : Nat) (u mx inc : Nat → Nat) (hT : 0 < T) (a c : Nat) (h : a < T) : stepVG T u mx inc (a + T * c) = u a + T * (c + inc (mx (u a))) := by
  unfold stepVG
  rw [Nat.add_mul_mod_self_left, Nat.mod_eq_of_lt h, Nat.add_mul_div_left _ _ hT, Nat.div_eq_of_lt h, Nat.zero_add]

theorem iter_is (T : Nat) (u mx dg inc : Nat → Nat) (hT : 0 < T) (hu : ∀ a, u a < T) (hd : ∀ y, Four (dg y)) (hi : ∀ y, inc y = incD (dg y)) (s0 : Nat) (h0 : s0 < T) (k : Nat) :
    iterG (stepVG T u mx inc) k s0 = iterG u k s0 + T * csG (fun j => dg (mx (iterG u (j + 1) s0))) k := by
  induction k with
  | zero => simp [iterG, csG, cntG]
  | succ k ih =>
    have hl : iterG u k s0 < T := by
      cases k with
      | zero => exact h0
      | succ k => rw [iterG_last]; exact hu _
    rw [iterG_last, ih, stepVG_pack T u mx inc hT _ _ hl, csG_next _ (fun j => hd _), ← iterG_last u k s0, hi]

def stepH {α : Type} (T c : Nat) (inc : Nat → Nat) (mxF : Nat → (Nat → α) → α) (acc : Nat) (k : Nat → α) : α :=
  sN (Nat.mod (Nat.add (Nat.mod acc T) c) T) fun st => mxF st fun y => sN (Nat.add st (Nat.mul T (Nat.add (Nat.div acc T) (inc y)))) k

theorem stepH_eq {α : Type} (T c : Nat) (inc mx : Nat → Nat) (mxF : Nat → (Nat → α) → α) (h : ∀ z k, mxF z k = k (mx z)) (acc : Nat) (k : Nat → α) : stepH T c inc mxF acc k = k (stepVG T (fun s => (s + c) % T) mx inc acc) := by
  unfold stepH
  rw [sN_eq, h, sN_eq]
  rfl

def runH (S : Nat → (Nat → Nat) → Nat) (n : Nat) : Nat → Nat := Nat.rec (fun acc => acc) (fun _ ih acc => S acc ih) n
def outH (R : Nat → Nat) (n : Nat) : Nat → Nat := Nat.rec (fun acc => acc) (fun _ ih acc => sN (R acc) ih) n

theorem runH_eq (S : Nat → (Nat → Nat) → Nat) (V : Nat → Nat) (h : ∀ a k, S a k = k (V a)) (n : Nat) : ∀ a, runH S n a = iterG V n a := by
  induction n with
  | zero => intro a; rfl
  | succ n ih =>
    intro a
    show S a (runH S n) = iterG V n (V a)
    rw [h, ih]

theorem outH_eq (R V : Nat → Nat) (m : Nat) (h : ∀ a, R a = iterG V m a) (n : Nat) : ∀ a, outH R n a = iterG V (m * n) a := by
  induction n with
  | zero => intro a; rfl
  | succ n ih =>
    intro a
    show sN (R a) (outH R n) = _
    rw [sN_eq, ih, h, show m * (n + 1) = m + m * n by rw [Nat.mul_succ, Nat.add_comm], iterG_add]

def within (lo c hi : Nat) : Bool := cond (Nat.ble lo c) (Nat.ble c hi) false
theorem within_is {lo c hi : Nat} (h : within lo c hi = true) : lo ≤ c ∧ c ≤ hi := by
  unfold within at h
  cases hb : Nat.ble lo c with
  | false => rw [hb] at h; cases h
  | true => rw [hb] at h; exact ⟨Nat.le_of_ble_eq_true hb, Nat.le_of_ble_eq_true h⟩

def okF (cs : Nat) : Bool := cond (within 959 (cs % 65536) 1706) (cond (within 3293 (cs / 65536 % 65536) 5595) (cond (within 1070 (cs / 4294967296 % 65536) 1891) (within 515 (cs / 281474976710656) 965) false) false) false

theorem okF_is {c1 c2 c3 c4 : Nat} (h1 : c1 ≤ 8000) (h2 : c2 ≤ 8000) (h3 : c3 ≤ 8000) (h4 : c4 ≤ 8000) (h : okF (c1 + 65536 * c2 + 4294967296 * c3 + 281474976710656 * c4) = true) : (959 ≤ c1 ∧ c1 ≤ 1706) ∧ (3293 ≤ c2 ∧ c2 ≤ 5595) ∧ (1070 ≤ c3 ∧ c3 ≤ 1891) ∧ (515 ≤ c4 ∧ c4 ≤ 965) := by
  have e1 : (c1 + 65536 * c2 + 4294967296 * c3 + 281474976710656 * c4) % 65536 = c1 := by omega
  have e2 : (c1 + 65536 * c2 + 4294967296 * c3 + 281474976710656 * c4) / 65536 % 65536 = c2 := by omega
  have e3 : (c1 + 65536 * c2 + 4294967296 * c3 + 281474976710656 * c4) / 4294967296 % 65536 = c3 := by omega
  have e4 : (c1 + 65536 * c2 + 4294967296 * c3 + 281474976710656 * c4) / 281474976710656 = c4 := by omega
  unfold okF at h
  rw [e1, e2, e3, e4] at h
  cases w1 : within 959 c1 1706 with
  | false => rw [w1] at h; cases h
  | true =>
    rw [w1] at h
    cases w2 : within 3293 c2 5595 with
    | false => rw [w2] at h; cases h
    | true =>
      rw [w2] at h
      cases w3 : within 1070 c3 1891 with
      | false => rw [w3] at h; cases h
      | true =>
        rw [w3] at h
        exact ⟨within_is w1, within_is w2, within_is w3, within_is h⟩

end Go.Proofs.Ytecohgmllmddhaa
