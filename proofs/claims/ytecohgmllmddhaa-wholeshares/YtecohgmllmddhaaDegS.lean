/-
  degree: the statements' own first look.
-/
import Derived.Test.YtecohgmllmddhaaDegE
import Derived.Deep.QuietTactic
import Derived.BigQuiet
namespace Go.Proofs.Ytecohgmllmddhaa
open Go.RowKit
set_option linter.unusedVariables false

theorem may_nat {N B Q E F : Int} (h : May N B Q E F) : ∃ e f : Nat, E = e ∧ F = f ∧ MayD f e := by
  obtain ⟨-, -, -, h4, h5, h6⟩ := h
  obtain ⟨e, rfl⟩ := Int.eq_ofNat_of_zero_le (show 0 ≤ E by omega)
  obtain ⟨f, rfl⟩ := Int.eq_ofNat_of_zero_le (show 0 ≤ F by omega)
  refine ⟨e, f, rfl, rfl, by omega, by omega, by omega, by omega, ?_⟩
  have a : ((1000 : Nat) : Int) < ((f * e : Nat) : Int) := by rw [Int.natCast_mul]; exact h6
  omega

theorem may_two : May 1 1 1 ((1000 : Nat) : Int) ((2 : Nat) : Int) := ⟨by omega, by omega, by omega, by omega, by omega, by decide⟩
theorem mayD_two : MayD 2 1000 := ⟨by decide, by decide, by decide, by decide, by decide⟩
theorem below_two : belowN 2 1000 1 = 4611686018427387904 := by decide
theorem degat_one {d : Nat} (h : DegAt 2 1000 4611686018427387903 d) : d = 1 :=
  h.uniq ⟨by omega, by omega, fun i h1 h2 => by omega, fun _ => by rw [below_two]; decide⟩
theorem degat_two {d : Nat} (h : DegAt 2 1000 4611686018427387904 d) : d = 2 :=
  h.uniq ⟨by omega, by omega, fun i h1 h2 => by
    obtain rfl : i = 1 := by omega
    rw [below_two]
    exact Nat.le_refl _, fun h => by omega⟩

set_option maxRecDepth 100000 in
set_option maxHeartbeats 1000000 in
theorem speaks8_any (w : World) : Calls Try.prog 27 #[] w fun e w' => e = .returned (.bool true) ∧ Below w.heap.size w w' := by
  go_enter Try.func27, Try.ntmps27
  go_wp2_with fail
  refine (dnew_yes 1 1 1 1000 2 _ may_two).mono ?_
  rintro e w1 ⟨a, -, rfl, hd1, hb1⟩
  have B1 : Hid (Below w.heap.size w w1) := hb1
  have D1 : Hid (IsDT w1 a 2 1000) := hd1
  clear hb1 hd1
  go_wp2_with fail
  refine (dbelow_yes a 2 1000 1 _ D1.out mayD_two (by decide) (by decide)).mono ?_
  rintro e w2 ⟨rfl, hb2⟩
  rw [below_two]
  have B2 : Hid (Below w.heap.size w w2) := B1.out.trans (hb2.mono B1.out.size)
  have D2 : Hid (IsDT w2 a 2 1000) := D1.out.below hb2
  clear hb2 B1 D1
  go_wp2_with fail
  refine (dof_any a 2 1000 4611686018427387903 _ D2.out mayD_two (by decide)).mono ?_
  rintro e w3 ⟨d, rfl, hd, hb3⟩
  obtain rfl := degat_one hd
  have B3 : Hid (Below w.heap.size w w3) := B2.out.trans (hb3.mono B2.out.size)
  have D3 : Hid (IsDT w3 a 2 1000) := D2.out.below hb3
  clear hb3 B2 D2 hd
  go_wp2_with fail
  refine (dof_any a 2 1000 4611686018427387904 _ D3.out mayD_two (by decide)).mono ?_
  rintro e w4 ⟨d, rfl, hd, hb4⟩
  obtain rfl := degat_two hd
  have B4 : Hid (Below w.heap.size w w4) := B3.out.trans (hb4.mono B3.out.size)
  have D4 : Hid (IsDT w4 a 2 1000) := D3.out.below hb4
  clear hb4 B3 D3 hd
  go_wp2_with fail
  refine (dmost_any a 2 1000 _ D4.out).mono ?_
  rintro e w5 ⟨rfl, rfl⟩
  go_wp2
  go_ret
  exact ⟨rfl, B4.out⟩

end Go.Proofs.Ytecohgmllmddhaa
