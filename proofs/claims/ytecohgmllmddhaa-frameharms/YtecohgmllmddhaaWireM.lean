/-
  Numbers as bytes and back; parts, one more. No program.
-/
import Derived.Test.YtecohgmllmddhaaWireC
namespace Go.Proofs.Ytecohgmllmddhaa
open Go.RowKit
set_option linter.unusedVariables false

theorem be_length (n s : Nat) : (be n s).length = s := by simp [be]

theorem num64_be_take (n s : Nat) (hn : n < 18446744073709551616) : ∀ k, k ≤ s → num64 ((be n s).take k) = n / 2 ^ (8 * (s - k)) % 2 ^ (8 * k) := by
  intro k
  induction k with
  | zero => intro _; simp [num64, Nat.mod_one]
  | succ k ih =>
    intro hk
    have hl : k < (be n s).length := by rw [be_length]; omega
    have e := num64_next (l := be n s) (j := k) (m := num64 ((be n s).take k)) (y := (be n s)[k]) hl rfl rfl
    rw [← e, ih (by omega)]
    have hy : ((be n s)[k]).toNat = n / 2 ^ (8 * (s - 1 - k)) % 256 := by simp [be]
    rw [hy]
    obtain ⟨t, ht⟩ : ∃ t, s - 1 - k = t := ⟨_, rfl⟩
    have h1 : s - (k + 1) = t := by omega
    have h2 : s - k = t + 1 := by omega
    rw [ht, h1, h2]
    have h3 : n / 2 ^ (8 * (t + 1)) = n / 2 ^ (8 * t) / 256 := by
      rw [Nat.div_div_eq_div_mul, show 8 * (t + 1) = 8 * t + 8 by omega, Nat.pow_add]
    rw [h3]
    generalize hA : n / 2 ^ (8 * t) = A
    have hAn : A ≤ n := by rw [← hA]; exact Nat.div_le_self _ _
    have hp : 2 ^ (8 * (k + 1)) = 256 * 2 ^ (8 * k) := by rw [show 8 * (k + 1) = 8 + 8 * k by omega, Nat.pow_add]
    have hm : A % 2 ^ (8 * (k + 1)) = A / 256 % 2 ^ (8 * k) * 256 + A % 256 := by
      rw [hp, Nat.mod_mul]
      omega
    have hle : A % 2 ^ (8 * (k + 1)) ≤ A := Nat.mod_le _ _
    rw [hm] at hle ⊢
    exact Nat.mod_eq_of_lt (Nat.lt_of_le_of_lt (Nat.le_trans hle hAn) hn)

theorem num64_be (n s : Nat) (hn : n < 2 ^ (8 * s)) (h64 : n < 18446744073709551616) : num64 (be n s) = n := by
  have h := num64_be_take n s h64 s (Nat.le_refl _)
  rw [List.take_of_length_le (by rw [be_length]; exact Nat.le_refl _), Nat.sub_self] at h
  rw [h]
  simp
  exact Nat.mod_eq_of_lt hn

theorem flat_next {ps : List (List UInt8)} {k : Nat} (hk : k < ps.length) : (ps.take (k + 1)).flatten = (ps.take k).flatten ++ ps[k] := by
  rw [List.take_succ_eq_append_getElem hk, List.flatten_append]
  simp

end Go.Proofs.Ytecohgmllmddhaa
