/-
  How many check blocks of 4000 are made of one block: what is reckoned.
-/
import Derived.Test.YtbnedpjfgadkkaaRngM
import Derived.Test.YtbnedpjfgadkkaaKcM
namespace Go.Proofs.Ytbnedpjfgadkkaa
set_option linter.unusedVariables false

def kMix (z : Nat) (k : Nat → Nat) : Nat :=
  kS (Nat.xor z (Nat.div z 1073741824)) fun a => kS (Nat.mod (Nat.mul a 13787848793156543929) 18446744073709551616) fun b =>
  kS (Nat.xor b (Nat.div b 134217728)) fun c => kS (Nat.mod (Nat.mul c 10723151780598845931) 18446744073709551616) fun d => kS (Nat.xor d (Nat.div d 2147483648)) k
def kAdd (z : Nat) (k : Nat → Nat) : Nat := kS (Nat.mod (Nat.add z 11400714819323198485) 18446744073709551616) k

theorem kMix_eq (z : Nat) (k : Nat → Nat) : kMix z k = k (mix z) := by
  unfold kMix
  rw [kS_eq, kS_eq, kS_eq, kS_eq, kS_eq]
  rfl
theorem kAdd_eq (z : Nat) (k : Nat → Nat) : kAdd z k = k (addS z) := by
  unfold kAdd
  rw [kS_eq]
  rfl

/-- The state behind a session and 2, as the next seed meets it. -/
def state2 (S : Nat) : Nat := addS (seedStep (seedStep 0 S) 2)
/-- Is a check block made of one block? -/
def oneOf (S id : Nat) : Nat := hitG mix addS 4611686018427387904 (state2 S) id

def oneF (a id : Nat) (k : Nat → Nat) : Nat := hitH kMix kAdd 4611686018427387904 a id k
def sumF (a : Nat) : Nat := outC (runC (oneF a) 100) 100 40 0 0
def okS (S : Nat) : Bool := kS (state2 S) fun a => inR 701 (sumF a) 1299

theorem sumF_eq (a : Nat) : sumF a = cntR (hitG mix addS 4611686018427387904 a) (100 * 40) 0 := by
  unfold sumF
  rw [outC_eq (runC (oneF a) 100) (hitG mix addS 4611686018427387904 a) 100 (runC_eq (oneF a) _ (hitH_eq mix addS kMix kAdd kMix_eq kAdd_eq 4611686018427387904 a) 100) 40 0 0, Nat.zero_add]

theorem okS_is {S : Nat} (h : okS S = true) : 701 ≤ cntR (oneOf S) 4000 0 ∧ cntR (oneOf S) 4000 0 ≤ 1299 := by
  unfold okS at h
  rw [kS_eq, sumF_eq] at h
  exact inR_is h

end Go.Proofs.Ytbnedpjfgadkkaa
