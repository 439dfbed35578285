/-
  Counting what is drawn by numbers in a row: mathematics, over any functions, as the kernel reckons it.
-/
namespace Go.Proofs.Ytbnedpjfgadkkaa
set_option linter.unusedVariables false

def kS {α : Type} (x : Nat) (f : Nat → α) : α := Nat.rec (f 0) (fun n _ => f (Nat.succ n)) x
theorem kS_eq {α : Type} (x : Nat) (f : Nat → α) : kS x f = f x := by cases x <;> rfl

/-- How many of n numbers, from id on. -/
def cntR (h : Nat → Nat) : Nat → Nat → Nat
  | 0, _ => 0
  | n + 1, id => h id + cntR h n (id + 1)

theorem cntR_zero (h : Nat → Nat) (id : Nat) : cntR h 0 id = 0 := rfl
theorem cntR_succ (h : Nat → Nat) (n id : Nat) : cntR h (n + 1) id = h id + cntR h n (id + 1) := rfl
theorem cntR_add (h : Nat → Nat) (n m : Nat) : ∀ id, cntR h (n + m) id = cntR h n id + cntR h m (id + n) := by
  induction n with
  | zero => intro id; rw [Nat.zero_add, cntR_zero, Nat.zero_add, Nat.add_zero]
  | succ n ih =>
    intro id
    rw [show n + 1 + m = (n + m) + 1 by omega, cntR_succ, ih, cntR_succ, show id + 1 + n = id + (n + 1) by omega, Nat.add_assoc]
theorem cntR_last (h : Nat → Nat) (n id : Nat) : cntR h (n + 1) id = cntR h n id + h (id + n) := by
  rw [cntR_add h n 1 id, cntR_succ, cntR_zero, Nat.add_zero]
theorem cntR_le (h : Nat → Nat) (hh : ∀ x, h x ≤ 1) (n : Nat) : ∀ id, cntR h n id ≤ n := by
  induction n with
  | zero => intro id; exact Nat.le_refl _
  | succ n ih =>
    intro id
    rw [cntR_succ]
    have := ih (id + 1)
    have := hh id
    omega

def runC (hF : Nat → (Nat → Nat) → Nat) (n : Nat) : Nat → Nat → Nat := Nat.rec (fun _ acc => acc) (fun _ ih id acc => hF id fun x => kS (Nat.add acc x) fun acc' => kS (Nat.succ id) fun id' => ih id' acc') n
def outC (R : Nat → Nat → Nat) (m n : Nat) : Nat → Nat → Nat := Nat.rec (fun _ acc => acc) (fun _ ih id acc => kS (R id acc) fun acc' => kS (Nat.add id m) fun id' => ih id' acc') n

theorem runC_eq (hF : Nat → (Nat → Nat) → Nat) (h : Nat → Nat) (hh : ∀ id k, hF id k = k (h id)) (n : Nat) : ∀ id acc, runC hF n id acc = acc + cntR h n id := by
  induction n with
  | zero => intro id acc; rfl
  | succ n ih =>
    intro id acc
    show (hF id fun x => kS (Nat.add acc x) fun acc' => kS (Nat.succ id) fun id' => runC hF n id' acc') = _
    rw [hh, kS_eq, kS_eq, ih, cntR_succ]
    show acc + h id + cntR h n (id + 1) = _
    omega

theorem outC_eq (R : Nat → Nat → Nat) (h : Nat → Nat) (m : Nat) (hR : ∀ id acc, R id acc = acc + cntR h m id) (n : Nat) : ∀ id acc, outC R m n id acc = acc + cntR h (m * n) id := by
  induction n with
  | zero => intro id acc; rfl
  | succ n ih =>
    intro id acc
    show (kS (R id acc) fun acc' => kS (Nat.add id m) fun id' => outC R m n id' acc') = _
    rw [kS_eq, kS_eq, ih, hR, show m * (n + 1) = m + m * n by rw [Nat.mul_succ, Nat.add_comm], cntR_add]
    show acc + cntR h m id + cntR h (m * n) (id + m) = _
    omega

/-- 1, if what is drawn lies below a bound. -/
def hitG (mx ad : Nat → Nat) (lim a id : Nat) : Nat := if lim ≤ mx (ad (mx (a ^^^ id))) then 0 else 1
theorem hitG_le (mx ad : Nat → Nat) (lim a id : Nat) : hitG mx ad lim a id ≤ 1 := by unfold hitG; split <;> omega

def hitH (mxF adF : Nat → (Nat → Nat) → Nat) (lim a id : Nat) (k : Nat → Nat) : Nat := kS (Nat.xor a id) fun z => mxF z fun s0 => adF s0 fun s1 => mxF s1 fun u => cond (Nat.ble lim u) (k 0) (k 1)

theorem hitH_eq (mx ad : Nat → Nat) (mxF adF : Nat → (Nat → Nat) → Nat) (h1 : ∀ z k, mxF z k = k (mx z)) (h2 : ∀ z k, adF z k = k (ad z)) (lim a id : Nat) (k : Nat → Nat) : hitH mxF adF lim a id k = k (hitG mx ad lim a id) := by
  unfold hitH hitG
  rw [kS_eq, h1, h2, h1]
  show cond (Nat.ble lim (mx (ad (mx (a ^^^ id))))) (k 0) (k 1) = _
  by_cases h : lim ≤ mx (ad (mx (a ^^^ id)))
  · rw [Nat.ble_eq_true_of_le h, if_pos h]
    rfl
  · have : Nat.ble lim (mx (ad (mx (a ^^^ id)))) = false := by
      cases hb : Nat.ble lim (mx (ad (mx (a ^^^ id)))) with
      | false => rfl
      | true => exact absurd (Nat.le_of_ble_eq_true hb) h
    rw [this, if_neg h]
    rfl

def inR (lo c hi : Nat) : Bool := cond (Nat.ble lo c) (Nat.ble c hi) false
theorem inR_is {lo c hi : Nat} (h : inR lo c hi = true) : lo ≤ c ∧ c ≤ hi := by
  unfold inR at h
  cases hb : Nat.ble lo c with
  | false => rw [hb] at h; cases h
  | true => rw [hb] at h; exact ⟨Nat.le_of_ble_eq_true hb, Nat.le_of_ble_eq_true h⟩

end Go.Proofs.Ytbnedpjfgadkkaa
