/-
  rng: the statements' own first look; RngMixes and RngApart.
-/
import Derived.Test.YtecohgmllmddhaaRngD
namespace Go.Proofs.Ytecohgmllmddhaa
open Go.RowKit
set_option linter.unusedVariables false

theorem mix_first : mix (addS 0) = 16294208416658607535 := by decide
theorem below_one (s : Nat) : (belowD s 1).2 = 0 := by
  rw [belowD_some (by decide)]
  show (((fairD (fewOf (1 : Int).toNat) 15 s).2 % 1 : Nat) : Int) = 0
  rw [Nat.mod_one]
  rfl

theorem below_on {w w1 W : World} (h : Below w.heap.size w w1) (h2 : Below w1.heap.size w1 W) : Below w.heap.size w W := h.trans (h2.mono h.size)

theorem us_none (w : World) : Us w (.slice none 0 0) [] := ⟨⟨rfl, none, 0, rfl, Nat.le_refl _, by unfold maxLen; omega, by simp, .inl rfl⟩, by simp⟩
theorem us_one (w : World) (t : TypeId) (b : Nat) (hb : b = w.heap.size) : Us (w.alloc (.cells #[.int .u64 1] t)) (.slice (some ⟨b, 0, none⟩) 1 1) [1] := ⟨Sl.lit w [uv 1] t b 1 hb rfl (by simp), by simp⟩

set_option maxRecDepth 100000 in
set_option maxHeartbeats 1000000 in
theorem speaks7_any (w : World) : Calls Try.prog 18 #[] w fun e w' => e = .returned (.bool true) ∧ Below w.heap.size w w' := by
  go_enter Try.func18, Try.ntmps18
  go_wp2_with fail
  refine (rnew_any _ [] _ (us_none _)).mono ?_
  rintro e w1 ⟨rfl, hr1, hb1, hz1⟩
  have R1 : Hid (IsRand w1 w.heap.size 0) := hr1
  have B1 : Hid (Below w.heap.size w w1) := hb1
  have Z1 : Hid (w1.heap.size = w.heap.size + 1) := hz1
  clear hr1 hb1 hz1
  go_wp2_with fail
  refine (rnd_next _ 0 _ R1.out).mono ?_
  rintro e w2 ⟨rfl, -, hk2, hz2⟩
  rw [mix_first]
  have B2 : Hid (Below w.heap.size w w2) := B1.out.trans (hk2.below B1.out.size (fun k hk => by omega))
  clear hk2 hz2 R1 Z1 B1
  go_wp2_with fail
  refine (rnew_any _ [] _ (us_none _)).mono ?_
  rintro e w3 ⟨rfl, hr3, hb3, hz3⟩
  have R3 : Hid (IsRand w3 w2.heap.size 0) := hr3
  have B3 : Hid (Below w.heap.size w w3) := below_on B2.out hb3
  have Z3 : Hid (w.heap.size ≤ w2.heap.size) := B2.out.size
  clear hr3 hb3 hz3 B2
  go_wp2_with fail
  refine (rbelow_any _ 0 0 _ R3.out (by decide)).mono ?_
  rintro e w4 ⟨rfl, -, hk4, hz4⟩
  rw [belowD_none (by decide)]
  have B4 : Hid (Below w.heap.size w w4) := B3.out.trans (hk4.below B3.out.size (fun k hk => by have := Z3.out; omega))
  clear hk4 hz4 R3 Z3 B3
  go_wp2_with fail
  refine (rnew_any _ [1] _ (us_one _ _ _ rfl)).mono ?_
  rintro e w5 ⟨rfl, hr5, hb5, hz5⟩
  have B5 : Hid (Below w.heap.size w w5) := below_on (below_on B4.out (below_alloc _ _)) hb5
  have Z5 : Hid (w.heap.size ≤ (w4.alloc (.cells #[.int .u64 1] 22)).heap.size) := by have := B4.out.size; unfold Hid; simp; omega
  obtain ⟨r5, hr⟩ : ∃ r, (w4.alloc (.cells #[.int .u64 1] 22)).heap.size = r := ⟨_, rfl⟩
  rw [hr] at hr5 Z5 ⊢
  have R5 : Hid (IsRand w5 r5 (seedTo 0 [1])) := hr5
  clear hr5 hb5 hz5 B4 hr
  generalize seedTo 0 [1] = s5 at *
  go_wp2_with fail
  refine (rbelow_any _ s5 1 _ R5.out (by decide)).mono ?_
  rintro e w6 ⟨rfl, -, hk6, hz6⟩
  rw [below_one]
  have B6 : Hid (Below w.heap.size w w6) := B5.out.trans (hk6.below B5.out.size (fun k hk => by have := Z5.out; omega))
  clear hk6 hz6 R5 Z5 B5
  go_wp2
  go_ret
  exact ⟨rfl, B6.out⟩

set_option maxRecDepth 100000 in
set_option maxHeartbeats 1000000 in
/-- RngMixes. -/
theorem rngMixes_walk (z : Nat) (w : World) (hz : z < 18446744073709551616) :
    Calls Try.prog 4 #[.int .u64 z] w fun e w' => e = .returned (.bool true) ∧ Below w.heap.size w w' := by
  have H1 : Hid (∀ W, Calls Try.prog 19 #[.int .u64 z] W fun e w' => e = .returned (.int .u64 (mix z : Nat)) ∧ w' = W) := fun W => mix_any z hz W
  have H2 : Hid (∀ W, Calls Try.prog 20 #[.int .u64 z] W fun e w' => e = .returned (.int .u64 (mix z : Nat)) ∧ w' = W) := fun W => rmix_any z hz W
  generalize mix z = y at *
  clear hz
  go_enter Try.func4, Try.ntmps4
  go_wp2_with fail
  refine (speaks7_any _).mono ?_
  rintro e w1 ⟨rfl, hb1⟩
  have B1 : Hid (Below w.heap.size w w1) := hb1
  clear hb1
  go_wp2_with fail
  refine (H1.out _).mono ?_
  rintro e w2 ⟨rfl, rfl⟩
  go_wp2_with fail
  refine (H2.out _).mono ?_
  rintro e w2 ⟨rfl, rfl⟩
  go_wp2
  go_ret
  exact ⟨rfl, B1.out⟩

theorem beq_beq {a b x y : Int} (h : ¬ a = b) (k : ¬ x = y) : ((a == b) == (x == y)) = true := by
  rw [beq_false_of_ne h, beq_false_of_ne k]
  rfl

set_option maxRecDepth 100000 in
set_option maxHeartbeats 1000000 in
/-- RngApart. -/
theorem rngApart_walk (x y : Nat) (w : World) (hx : x < 18446744073709551616) (hy : y < 18446744073709551616) :
    Calls Try.prog 7 #[.int .u64 x, .int .u64 y] w fun e w' => e = .returned (.bool true) ∧ Below w.heap.size w w' := by
  have H1 : Hid (∀ W, Calls Try.prog 19 #[.int .u64 x] W fun e w' => e = .returned (.int .u64 (mix x : Nat)) ∧ w' = W) := fun W => mix_any x hx W
  have H2 : Hid (∀ W, Calls Try.prog 19 #[.int .u64 y] W fun e w' => e = .returned (.int .u64 (mix y : Nat)) ∧ w' = W) := fun W => mix_any y hy W
  have H3 : Hid (mix x = mix y ↔ x = y) := ⟨mix_inj hx hy, fun h => by rw [h]⟩
  generalize mix x = a at *
  generalize mix y = b at *
  clear hx hy
  go_enter Try.func7, Try.ntmps7
  go_wp2_with fail
  refine (speaks7_any _).mono ?_
  rintro e w1 ⟨rfl, hb1⟩
  have B1 : Hid (Below w.heap.size w w1) := hb1
  clear hb1
  go_wp2_with fail
  refine (H1.out _).mono ?_
  rintro e w2 ⟨rfl, rfl⟩
  go_wp2_with fail
  refine (H2.out _).mono ?_
  rintro e w2 ⟨rfl, rfl⟩
  by_cases h : x = y
  · have h2 := H3.out.2 h
    subst h
    subst h2
    clear H3
    go_wp2
    go_ret
    exact ⟨rfl, B1.out⟩
  · have h2 : ¬ a = b := fun e => h (H3.out.1 e)
    have h3 : ¬ (x : Int) = (y : Int) := by omega
    have h4 : ¬ (a : Int) = (b : Int) := by omega
    clear H3 h h2
    go_wp2
    go_ret
    exact ⟨ret_bool (beq_beq h4 h3), B1.out⟩

theorem u64_nat {x : Int} (h : (Lit.int .u64 x).wf = true) : ∃ n : Nat, x = n ∧ n < 18446744073709551616 := by
  simp [Lit.wf, IntKind.min, IntKind.max, IntKind.bits, IntKind.signed] at h
  exact ⟨x.toNat, by omega, by omega⟩

theorem us_of {w : World} {v : Value} {l : List Int} (h1 : Sl 1 w v l.length (l.map (Value.int .u64))) (h2 : ∀ z ∈ l, (Lit.int .u64 z).wf = true) : ∃ s : List Nat, Us w v s := by
  refine ⟨l.map Int.toNat, ?_, ?_⟩
  · have e : (l.map Int.toNat).map uv = l.map (Value.int .u64) := by
      rw [List.map_map]
      apply List.map_congr_left
      intro z hz
      obtain ⟨n, rfl, _⟩ := u64_nat (h2 z hz)
      simp [uv]
    rw [e, List.length_map]
    exact h1
  · intro x hx
    obtain ⟨z, hz, rfl⟩ := List.mem_map.1 hx
    obtain ⟨n, rfl, hn⟩ := u64_nat (h2 z hz)
    simpa using hn

theorem rngMixes_law (x : Int) (w : World) (h : (Lit.int .u64 x).wf = true) : Calls Try.prog 4 #[.int .u64 x] w fun e w' => e = .returned (.bool true) ∧ Below w.heap.size w w' := by
  obtain ⟨n, rfl, hn⟩ := u64_nat h
  exact rngMixes_walk n w hn

theorem rngApart_law (x y : Int) (w : World) (h : (Lit.int .u64 x).wf = true) (k : (Lit.int .u64 y).wf = true) : Calls Try.prog 7 #[.int .u64 x, .int .u64 y] w fun e w' => e = .returned (.bool true) ∧ Below w.heap.size w w' := by
  obtain ⟨n, rfl, hn⟩ := u64_nat h
  obtain ⟨m, rfl, hm⟩ := u64_nat k
  exact rngApart_walk n m w hn hm

end Go.Proofs.Ytecohgmllmddhaa
