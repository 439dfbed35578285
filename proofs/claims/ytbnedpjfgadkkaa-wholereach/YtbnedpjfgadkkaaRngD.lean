/-
  rng: the document's Below.
-/
import Derived.Test.YtbnedpjfgadkkaaRngC
import Derived.Deep.CutRange
namespace Go.Proofs.Ytbnedpjfgadkkaa
open Go.RowKit
set_option linter.unusedVariables false

def mod64 (X m : Nat) : Nat := X % m
theorem mod64_int (X m : Nat) : ((X : Nat) : Int) % (m : Int) = (mod64 X m : Nat) := (Int.natCast_emod X m).symm
theorem mod64_lt {X m : Nat} (h : 1 ≤ m) : mod64 X m < m := Nat.mod_lt _ h
theorem big_rem (m : Nat) : (18446744073709551615 : Int) % (m : Int) = (mod64 18446744073709551615 m : Nat) := mod64_int 18446744073709551615 m
theorem few_ref2 {m : Nat} (h1 : 1 ≤ m) : ((mod64 18446744073709551615 m : Int) + 1) % (m : Int) = (fewOf m : Nat) := by
  have e : fewOf m = (mod64 18446744073709551615 m + 1) % m := (few_ref h1).symm
  rw [e]
  generalize mod64 18446744073709551615 m = M
  simp

set_option maxRecDepth 100000 in
set_option maxHeartbeats 1000000 in
theorem rrbelow_some (s : Nat) (m : Nat) (w : World) (hm : 1 ≤ m) (hm2 : m < 9223372036854775808) (x1 x2 : Nat) (HX : Hid (fairD (fewOf m) 15 s = (x1, x2))) :
    Calls Try.prog 45 #[.int .u64 s, .int .i64 m] w fun e w' => e = .returned (.tuple #[.int .u64 (x1 : Nat), .int .i64 ((x2 % m : Nat) : Int)]) ∧ Below w.heap.size w w' := by
  have hMl : mod64 18446744073709551615 m < m := mod64_lt hm
  have A1 : Hid _ := big_rem m
  have A2 : Hid _ := few_ref2 hm
  have A4 : Hid (m < 9223372036854775808) := hm2
  have A5 : Hid (1 ≤ m) := hm
  have A6 : Hid (mod64 18446744073709551615 m < m) := hMl
  have B6 : IntKind.u64.wrap (m : Int) = m := by rw [IntKind.wrap_u64]; omega
  have h1 : ¬ (m : Int) < 1 := by omega
  generalize mod64 18446744073709551615 m = M at *
  clear hm2 hm hMl
  generalize fewOf m = few at *
  go_enter Try.func45, Try.ntmps45
  go_upto_region 4 with fail
  obtain ⟨X, hX⟩ : ∃ X : Int, X = 18446744073709551615 := ⟨_, rfl⟩
  rw [← hX]
  have B1 : X % (m : Int) = (M : Int) := by rw [hX]; exact A1.out
  have B2 := A2.out
  have B3 : (0 : Int) ≤ X := by rw [hX]; decide
  have B5 := A5.out
  obtain ⟨K, hK⟩ : ∃ K : Nat, M + 1 = K := ⟨_, rfl⟩
  have hK' : ((M : Int) + 1) = K := by rw [← hK]; simp
  have B4 : IntKind.u64.wrap ((M : Int) + 1) = (K : Int) := by
    have := A6.out
    have := A4.out
    rw [IntKind.wrap_u64]
    omega
  rw [hK'] at B2
  clear A1 A2 hX hK hK'
  go_upto_region 5 with fail
  clear A6
  go_wp2
  go_loop [0, 8, 9] (fun sv xv i => ∃ (k s' x : Nat), i = .int .i64 k ∧ k ≤ 16 ∧ sv = .int .u64 (s' : Nat) ∧ xv = .int .u64 (x : Nat) ∧ Hid (FairR few s k s' x)) (fun _ _ i => 16 - (intOf i).toNat)
  case atStart => exact ⟨0, s, 0, rfl, by omega, rfl, rfl, fairR_start few s⟩
  case round =>
    obtain ⟨k, s', x, rfl, hk, rfl, rfl, HT⟩ := hrel
    by_cases hk6 : k < 16
    · have HR : Hid (∀ W, Calls Try.prog 30 #[.int .u64 s'] W fun e w' => e = .returned (.tuple #[.int .u64 (addS s' : Nat), .int .u64 (mix (addS s') : Nat)]) ∧ w' = W) := fun W => rref_next s' W
      by_cases hd : mix (addS s') < few
      · have HT2 : Hid (FairR few s (k + 1) (addS s') (mix (addS s'))) := HT.out.next hk6 hd
        clear HT HX
        generalize mix (addS s') = y at *
        generalize addS s' = t at *
        have hd' : ¬ (y : Int) ≥ (few : Int) := by omega
        go_wp2_with fail
        refine (HR.out _).mono ?_
        rintro e w1 ⟨rfl, rfl⟩
        go_wp2
        go_round
        case rel => exact ⟨k + 1, t, y, by go_num, by omega, rfl, rfl, HT2⟩
        case measure => simp [intOf]; omega
      · have HE : Hid (fairD few 15 s = (addS s', mix (addS s'))) := HT.out.done hk6 hd
        have HE2 : Hid ((addS s', mix (addS s')) = (x1, x2)) := HE.out.symm.trans HX.out
        clear HT HX HE
        generalize mix (addS s') = y at *
        generalize addS s' = t at *
        have hd' : (y : Int) ≥ (few : Int) := by omega
        obtain ⟨rfl, rfl⟩ := Prod.mk.inj HE2.out
        clear HE2
        have hyl : y % m < m := Nat.mod_lt _ A5.out
        have a3 : (y : Int) % (m : Int) = ((y % m : Nat) : Int) := by simp
        have HA4 := A4.out
        generalize hz : y % m = z at *
        have Hz : Hid (y % m = z) := hz
        clear hz
        go_wp2_with fail
        refine (HR.out _).mono ?_
        rintro e w1 ⟨rfl, rfl⟩
        go_wp2_with fail
        go_region
        go_wp2
        go_ret2
        exact ⟨ret_two rfl (by rw [Hz.out]), below0 _⟩
    · have HE : Hid (fairD few 15 s = (s', x)) := HT.out.last hk6
      have HE2 : Hid ((s', x) = (x1, x2)) := HE.out.symm.trans HX.out
      clear HT HX HE
      obtain ⟨rfl, rfl⟩ := Prod.mk.inj HE2.out
      clear HE2
      have hyl : x % m < m := Nat.mod_lt _ A5.out
      have a3 : (x : Int) % (m : Int) = ((x % m : Nat) : Int) := by simp
      have HA4 := A4.out
      generalize hz : x % m = z at *
      have Hz : Hid (x % m = z) := hz
      clear hz
      go_wp2_with fail
      go_region
      go_wp2
      go_ret2
      exact ⟨ret_two rfl (by rw [Hz.out]), below0 _⟩

set_option maxRecDepth 100000 in
set_option maxHeartbeats 1000000 in
theorem rrbelow_none (s : Nat) (n : Int) (w : World) (h : n < 1) :
    Calls Try.prog 45 #[.int .u64 s, .int .i64 n] w fun e w' => e = .returned (.tuple #[.int .u64 (s : Nat), .int .i64 0]) ∧ Below w.heap.size w w' := by
  go_enter Try.func45, Try.ntmps45
  go_wp2
  go_ret2
  exact ⟨rfl, Below.refl _ _⟩

/-- The document's Below. -/
theorem rrbelow_any (s : Nat) (n : Int) (w : World) (hn : n < 9223372036854775808) :
    Calls Try.prog 45 #[.int .u64 s, .int .i64 n] w fun e w' => e = .returned (.tuple #[.int .u64 ((belowD s n).1 : Nat), .int .i64 (belowD s n).2]) ∧ Below w.heap.size w w' := by
  by_cases h1 : n < 1
  · rw [belowD_none h1]
    exact rrbelow_none s n w h1
  · rw [belowD_some h1]
    obtain ⟨m, rfl⟩ : ∃ m : Nat, n = m := ⟨n.toNat, by omega⟩
    rw [show ((m : Int)).toNat = m from Int.toNat_natCast m]
    have h2 : 1 ≤ m := by omega
    have h3 : m < 9223372036854775808 := by omega
    obtain ⟨x, hx⟩ : ∃ x, fairD (fewOf m) 15 s = x := ⟨_, rfl⟩
    rw [hx]
    obtain ⟨x1, x2⟩ := x
    exact rrbelow_some s m w h2 h3 x1 x2 hx

end Go.Proofs.Ytbnedpjfgadkkaa
