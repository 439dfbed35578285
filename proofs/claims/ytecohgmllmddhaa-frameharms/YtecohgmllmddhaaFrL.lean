/-
  Bytes that are owned and written; the numbers of a packet that may be.
-/
import Derived.Test.YtecohgmllmddhaaFrK
namespace Go.Proofs.Ytecohgmllmddhaa
open Go.RowKit
set_option linter.unusedVariables false

/-- Whatever it is. -/
def IsAny : Value → World → Prop := fun _ _ => True
theorem stays_any : Stays IsAny := fun _ _ _ _ _ => trivial

theorem Own.set {w : World} {q : Nat} {l : List UInt8} (h : Own w q l) (k : Nat) (hk : k < l.length) (x : UInt8) : Own (w.setCell ⟨q, k, none⟩ (bv x)) q (l.set k x) := by
  obtain ⟨cur, hh, hl, ht⟩ := h
  refine ⟨cur.setIfInBounds k (bv x), ?_, by simp; omega, ?_⟩
  · unfold World.setCell
    simp only [Array.getElem?_modify, if_true, hh, Option.map_some]
    rfl
  · rw [Array.toList_setIfInBounds, List.length_set, List.take_set, ht, List.map_set]

theorem inc_byte (y : UInt8) : Value.int .u8 (((y.toNat : Int) + 1) % 256) = bv (y + 1) := by
  unfold bv
  congr 1

/-- A header that may be, as numbers from 0 on. -/
theorem may_nats {N B Q E F L : Int} (h : MayH N B Q E F L) : ∃ n b q e f l : Nat, N = n ∧ B = b ∧ Q = q ∧ E = e ∧ F = f ∧ L = l := by
  obtain ⟨⟨hN, hB, hQ, hE, hF, hEF⟩, hL0, hL⟩ := h
  exact ⟨N.toNat, B.toNat, Q.toNat, E.toNat, F.toNat, L.toNat, by omega, by omega, by omega, by omega, by omega, by omega⟩

theorem ok_u64 {n : Int} (h : Ok .u64 n) : ∃ k : Nat, n = k ∧ k < 2 ^ 64 := by
  have h1 : 0 ≤ n ∧ n ≤ 18446744073709551615 := by
    simp [Ok, Lit.wf, IntKind.min, IntKind.max, IntKind.bits, IntKind.signed] at h
    omega
  exact ⟨n.toNat, by omega, by omega⟩

end Go.Proofs.Ytecohgmllmddhaa
