/-
  Plain mathematics of frames that were changed: what is read of them.
-/
import Derived.Test.YtecohgmllmddhaaFrL
namespace Go.Proofs.Ytecohgmllmddhaa
open Go.RowKit
set_option linter.unusedVariables false

theorem num_set (l : List UInt8) (k a s : Nat) (x : UInt8) (h : k < a ∨ a + s ≤ k) : num (l.set k x) a s = num l a s := by
  unfold num
  rw [List.drop_set]
  split
  · rfl
  · rw [List.take_set, List.set_eq_of_length_le (by simp; omega)]

theorem num_app (l z : List UInt8) (a s : Nat) (h : a + s ≤ l.length) : num (l ++ z) a s = num l a s := by
  unfold num
  rw [List.drop_append_of_le_length (by omega), List.take_append_of_le_length (by simp; omega)]

theorem num_set1 (l : List UInt8) (a : Nat) (x : UInt8) (h : a < l.length) : num (l.set a x) a 1 = x.toNat := by
  rw [num_one _ a (by simpa using h)]
  simp

theorem headE_app (l z : List UInt8) (h : 38 ≤ l.length) : headE (l ++ z) = headE l := by
  unfold headE
  rw [num_app l z 0 2 (by omega), num_app l z 2 1 (by omega), num_app l z 11 4 (by omega), num_app l z 15 2 (by omega), num_app l z 17 1 (by omega), num_app l z 18 2 (by omega), num_app l z 20 2 (by omega), num_app l z 22 8 (by omega)]

/-- A frame's version, turned. -/
theorem parse_version (l : List UInt8) (v : UInt8) (h : parseE l = 0) (hv : v.toNat ≠ 1) : parseE (l.set 2 v) = 6 := by
  obtain ⟨h42, hlen, -, -, -⟩ := frame_parse l h
  have h0 : num l 0 2 = 16716 := by
    by_cases e : num l 0 2 = 16716
    · exact e
    · have hh : headE l = 5 := by unfold headE; rw [if_pos e]
      rw [pe_head (by omega) (by rw [hh]; simp), hh] at h
      simp at h
  have hh : headE (l.set 2 v) = 6 := by
    unfold headE
    rw [num_set l 2 0 2 v (.inr (by omega)), if_neg (by rw [h0]; simp), num_set1 l 2 v (by omega), if_pos hv]
  rw [pe_head (by rw [List.length_set]; omega) (by rw [hh]; simp), hh]

theorem num_two (l : List UInt8) (h : 2 ≤ l.length) : num l 0 2 = (l[0]).toNat * 256 + (l[1]).toNat := by
  match l, h with
  | a :: b :: r, _ =>
    have ha := a.toNat_lt
    have hb := b.toNat_lt
    show (((0 * 256 + a.toNat) % 18446744073709551616) * 256 + b.toNat) % 18446744073709551616 = a.toNat * 256 + b.toNat
    omega

/-- And its beginning, too. -/
theorem parse_magic (l : List UInt8) (v x : UInt8) (h : parseE l = 0) (hx : (l.set 2 v)[0]? = some x) : parseE ((l.set 2 v).set 0 (x + 1)) = 5 := by
  obtain ⟨h42, hlen, -, -, -⟩ := frame_parse l h
  have h0 : num l 0 2 = 16716 := by
    by_cases e : num l 0 2 = 16716
    · exact e
    · have hh : headE l = 5 := by unfold headE; rw [if_pos e]
      rw [pe_head (by omega) (by rw [hh]; simp), hh] at h
      simp at h
  have h00 : num (l.set 2 v) 0 2 = 16716 := by rw [num_set l 2 0 2 v (.inr (by omega))]; exact h0
  have hlm : (l.set 2 v).length = l.length := List.length_set
  generalize l.set 2 v = m at *
  have hx0 : m[0]'(by omega) = x := by
    rw [List.getElem?_eq_getElem (by omega)] at hx
    exact Option.some.inj hx
  have hn := num_two m (by omega)
  rw [h00, hx0] at hn
  have hb := (m[1]'(by omega)).toNat_lt
  have hx65 : x.toNat = 65 := by omega
  have hne : num (m.set 0 (x + 1)) 0 2 ≠ 16716 := by
    rw [num_two (m.set 0 (x + 1)) (by rw [List.length_set]; omega)]
    have e1 : (m.set 0 (x + 1))[0]'(by rw [List.length_set]; omega) = x + 1 := by simp
    have e2 : (x + 1).toNat = 66 := by rw [UInt8.toNat_add, hx65]; decide
    rw [e1, e2]
    omega
  have hh : headE (m.set 0 (x + 1)) = 5 := by unfold headE; rw [if_pos hne]
  rw [pe_head (by rw [List.length_set]; omega) (by rw [hh]; simp), hh]

/-- A byte more. -/
theorem parse_more (l z : List UInt8) (h : parseE l = 0) (hz : z ≠ []) : parseE (l ++ z) = 7 := by
  obtain ⟨h42, hlen, -, -, -⟩ := frame_parse l h
  have hh : headE l = 0 := by
    by_cases e : headE l = 0
    · exact e
    · rw [pe_head (by omega) e] at h
      exact absurd h e
  have hzl : 0 < z.length := List.length_pos_iff.2 hz
  refine pe_len (by rw [List.length_append]; omega) (by rw [headE_app l z (by omega)]; exact hh) ?_
  rw [num_app l z 15 2 (by omega), List.length_append]
  omega

/-- No auxiliary blocks. -/
theorem parse_params (t z : List UInt8) (h38 : 42 ≤ t.length + z.length) (ht : 38 ≤ t.length) (h0 : num t 0 2 = 16716) (h2 : num t 2 1 = 1) : parseE (t.set 17 0 ++ z) = 1 := by
  have hl : (t.set 17 0).length = t.length := List.length_set
  have hh : headE (t.set 17 0 ++ z) = 1 := by
    rw [headE_app _ z (by omega)]
    unfold headE
    rw [num_set t 17 0 2 0 (.inr (by omega)), num_set t 17 2 1 0 (.inr (by omega)), if_neg (by rw [h0]; simp), if_neg (by rw [h2]; simp), num_set1 t 17 0 (by omega)]
    refine mayHE_no (fun h => ?_)
    have := h.1.2.2.1
    simp at this
  rw [pe_head (by rw [List.length_append]; omega) (by rw [hh]; simp), hh]

end Go.Proofs.Ytecohgmllmddhaa
