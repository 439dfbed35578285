/-
  How often each degree is drawn, by 64 seeds: what is reckoned.
-/
import Derived.Test.YtecohgmllmddhaaRngM
import Derived.Test.YtecohgmllmddhaaDegN
import Derived.Test.YtecohgmllmddhaaShG
namespace Go.Proofs.Ytecohgmllmddhaa
set_option linter.unusedVariables false

def incF (y : Nat) : Nat := cond (Nat.ble 3074457345618258602 y) (cond (Nat.ble 13322648497679120611 y) (cond (Nat.ble 16738712215032741281 y) 281474976710656 4294967296) 65536) 1
def mixF (z : Nat) (k : Nat → Nat) : Nat :=
  sN (Nat.xor z (Nat.div z 1073741824)) fun a => sN (Nat.mod (Nat.mul a 13787848793156543929) 18446744073709551616) fun b =>
  sN (Nat.xor b (Nat.div b 134217728)) fun c => sN (Nat.mod (Nat.mul c 10723151780598845931) 18446744073709551616) fun d => sN (Nat.xor d (Nat.div d 2147483648)) k
def stepF (acc : Nat) (k : Nat → Nat) : Nat := stepH 18446744073709551616 11400714819323198485 incF mixF acc k
def runF (acc : Nat) : Nat := runH stepF 100 acc
def outF (acc : Nat) : Nat := outH runF 80 acc
def startF (s : Nat) : Nat := seedStep (seedStep 0 s) 77
def checkF (s : Nat) : Bool := sN (startF s) fun a => sN (outF a) fun acc => okF (acc / 18446744073709551616)

/-- The degree. -/
def dg (y : Nat) : Nat := if 3074457345618258602 ≤ y then (if 13322648497679120611 ≤ y then (if 16738712215032741281 ≤ y then 4 else 3) else 2) else 1

theorem dg_four (y : Nat) : Four (dg y) := by
  unfold dg
  split
  · split
    · split
      · exact .inr (.inr (.inr rfl))
      · exact .inr (.inr (.inl rfl))
    · exact .inr (.inl rfl)
  · exact .inl rfl

theorem ble_no {a y : Nat} (h : ¬ a ≤ y) : Nat.ble a y = false := by
  cases hb : Nat.ble a y with
  | false => rfl
  | true => exact absurd (Nat.le_of_ble_eq_true hb) h

theorem incF_dg (y : Nat) : incF y = incD (dg y) := by
  unfold incF dg
  by_cases h1 : 3074457345618258602 ≤ y
  · rw [Nat.ble_eq_true_of_le h1, if_pos h1]
    by_cases h2 : 13322648497679120611 ≤ y
    · rw [Nat.ble_eq_true_of_le h2, if_pos h2]
      by_cases h3 : 16738712215032741281 ≤ y
      · rw [Nat.ble_eq_true_of_le h3, if_pos h3]; rfl
      · rw [ble_no h3, if_neg h3]; rfl
    · rw [ble_no h2, if_neg h2]; rfl
  · rw [ble_no h1, if_neg h1]; rfl

theorem mixF_eq (z : Nat) (k : Nat → Nat) : mixF z k = k (mix z) := by
  unfold mixF
  rw [sN_eq, sN_eq, sN_eq, sN_eq, sN_eq]
  rfl

def stepV : Nat → Nat := stepVG 18446744073709551616 addS mix incF
theorem stepF_eq (acc : Nat) (k : Nat → Nat) : stepF acc k = k (stepV acc) := stepH_eq 18446744073709551616 11400714819323198485 incF mix mixF mixF_eq acc k
theorem runF_eq (a : Nat) : runF a = iterG stepV 100 a := runH_eq stepF stepV stepF_eq 100 a
theorem outF_eq (a : Nat) : outF a = iterG stepV (100 * 80) a := outH_eq runF stepV 100 runF_eq 80 a

/-- The degree of each draw. -/
def drawD (s0 j : Nat) : Nat := dg (mix (iterG addS (j + 1) s0))

theorem drawD_four (s0 j : Nat) : Four (drawD s0 j) := dg_four _

theorem out_is {s0 : Nat} (h : s0 < 18446744073709551616) : outF s0 = iterG addS 8000 s0 + 18446744073709551616 * csG (drawD s0) 8000 := by
  rw [outF_eq]
  exact iter_is 18446744073709551616 addS mix dg incF (by decide) addS_lt dg_four incF_dg s0 h 8000

theorem out_div {a c : Nat} (T : Nat) (hT : 0 < T) (h : a < T) : (a + T * c) / T = c := by
  rw [Nat.add_mul_div_left _ _ hT, Nat.div_eq_of_lt h, Nat.zero_add]

theorem check_is {s : Nat} (h : checkF s = true) (hs : startF s < 18446744073709551616) : (959 ≤ cntG (drawD (startF s)) 1 8000 ∧ cntG (drawD (startF s)) 1 8000 ≤ 1706) ∧ (3293 ≤ cntG (drawD (startF s)) 2 8000 ∧ cntG (drawD (startF s)) 2 8000 ≤ 5595) ∧ (1070 ≤ cntG (drawD (startF s)) 3 8000 ∧ cntG (drawD (startF s)) 3 8000 ≤ 1891) ∧ (515 ≤ cntG (drawD (startF s)) 4 8000 ∧ cntG (drawD (startF s)) 4 8000 ≤ 965) := by
  unfold checkF at h
  rw [sN_eq, sN_eq, out_is hs, out_div 18446744073709551616 (by decide) (by rw [iterG_last addS 7999]; exact addS_lt _)] at h
  exact okF_is (cntG_le _ _ _) (cntG_le _ _ _) (cntG_le _ _ _) (cntG_le _ _ _) h

end Go.Proofs.Ytecohgmllmddhaa
