/-
  SampleDraws.
-/
import Derived.Test.YthlladpappldbaaSmpS
namespace Go.Proofs.Ythlladpappldbaa
open Go.RowKit
set_option linter.unusedVariables false

set_option maxRecDepth 100000 in
set_option maxHeartbeats 1000000 in
theorem sampleDraws_walk (v0 : Value) (ss : List Nat) (b m : Int) (w : World) (h0 : Us w v0 ss) :
    Calls Try.prog 3 #[v0, .int .i64 b, .int .i64 m] w fun e w' => e = .returned (.bool true) ∧ Below w.heap.size w w' := by
  have HU : Hid (Us w v0 ss) := h0
  obtain ⟨⟨-, a0, c0, rfl, hn0, hc0, -, -⟩, -⟩ := h0
  obtain ⟨n, hn⟩ : ∃ n, ss.length = n := ⟨_, rfl⟩
  rw [hn] at hn0 HU ⊢
  clear hn
  unfold maxLen at hc0
  go_enter Try.func3, Try.ntmps3
  go_wp2_with fail
  refine (speaks9_any _).mono ?_
  rintro e w1 ⟨rfl, hb1⟩
  have B1 : Hid (Below w.heap.size w w1) := hb1
  clear hb1
  by_cases hn50 : n ≤ 50
  · by_cases hb300 : b ≤ 300
    · go_wp2_with fail
      refine (rnew_any _ ss _ (HU.out.below B1.out)).mono ?_
      rintro e w2 ⟨rfl, hr2, hb2, -⟩
      have HR : Hid (w.heap.size ≤ w1.heap.size) := B1.out.size
      have R2 : Hid (IsRand w2 w1.heap.size (seedTo 0 ss)) := hr2
      have B2 : Hid (Below w.heap.size w w2) := below_on B1.out hb2
      generalize w1.heap.size = r at *
      clear hr2 hb2 B1
      go_wp2_with fail
      refine (rseed_any _ ss _ (HU.out.below B2.out)).mono ?_
      rintro e w3 ⟨rfl, rfl⟩
      generalize seedTo 0 ss = s at *
      obtain ⟨⟨t, l⟩, hT⟩ : ∃ p, someD s b m = p := ⟨_, rfl⟩
      obtain ⟨k, hk⟩ : ∃ k, howMany b m = k := ⟨_, rfl⟩
      have HT : Hid (someD s b m = (t, l)) := hT
      have HK : Hid (howMany b m = k) := hk
      have C1 : Hid (∀ W, Calls Try.prog 14 #[.int .u64 s, .int .i64 b, .int .i64 m] W fun e w' => ∃ a c, e = .returned (.tuple #[.int .u64 t, .slice a k c]) ∧ OwnZ W.heap.size w' (.slice a k c) k l ∧ Below W.heap.size W w') := fun W => rsome_any s b m W (by omega) k HK.out t l HT
      have C2 : Hid (∀ W, IsRand W r s → Calls Try.prog 15 #[.pointer (some ⟨r, 0, none⟩), .int .i64 b, .int .i64 m] W fun e w' => ∃ a c, e = .returned (.slice a k c) ∧ OwnZ W.heap.size w' (.slice a k c) k l ∧ IsRand w' r t ∧ KeepsBut (fun x => x = r) W w') := fun W hW => some_any r s b m W hW (by omega) k HK.out t l HT
      clear hT hk HT HK
      have N1 : Hid (∀ W, Calls Try.prog 16 #[.int .u64 t] W fun e w' => e = .returned (.tuple #[.int .u64 (addS t : Nat), .int .u64 (mix (addS t) : Nat)]) ∧ w' = W) := fun W => rref_next t W
      have N2 : Hid (∀ W, IsRand W r t → Calls Try.prog 18 #[.pointer (some ⟨r, 0, none⟩)] W fun e w' => e = .returned (.int .u64 (mix (addS t) : Nat)) ∧ IsRand w' r (addS t) ∧ KeepsBut (fun k => k = r) W w' ∧ w'.heap.size = W.heap.size) := fun W h => rnd_next r t W h
      generalize mix (addS t) = y at *
      generalize addS t = t2 at *
      go_wp2_with fail
      refine (C1.out _).mono ?_
      rintro e w4 ⟨a4, c4, rfl, ho4, hb4⟩
      have Z4 : Hid (OwnZ w3.heap.size w4 (.slice a4 k c4) k l) := ho4
      have R3 : Hid (r < w3.heap.size) := cell_block_lt R2.out.cell
      have R4 : Hid (IsRand w4 r s) := R2.out.below hb4
      have B4 : Hid (Below w.heap.size w w4) := below_on B2.out hb4
      clear ho4 hb4 R2 B2 C1
      go_wp2_with fail
      refine (C2.out _ R4.out).mono ?_
      rintro e w5 ⟨a5, c5, rfl, ho5, hr5, hk5⟩
      have Z5 : Hid (Zs w5 (.slice a5 k c5) l) := ho5.zs
      have R5 : Hid (IsRand w5 r t) := hr5
      have B5 : Hid (Below w.heap.size w w5) := below_keeps B4.out HR.out hk5
      have Y5 : Hid (Zs w5 (.slice a4 k c4) l) := (Z4.out.keeps R3.out hk5).zs
      clear ho5 hr5 hk5 Z4 R4 B4 C2
      go_wp2_with fail
      refine (N1.out _).mono ?_
      rintro e w6 ⟨rfl, rfl⟩
      go_wp2_with fail
      refine (same9_any _ _ l l _ Z5.out Y5.out).mono ?_
      rintro e w7 ⟨rfl, hb7⟩
      rw [sameI_self]
      have R7 : Hid (IsRand w7 r t) := R5.out.below hb7
      have B7 : Hid (Below w.heap.size w w7) := below_on B5.out hb7
      clear hb7 R5 B5 Z5 Y5 N1
      go_wp2_with fail
      refine (N2.out _ R7.out).mono ?_
      rintro e w8 ⟨rfl, -, hk8, -⟩
      have B8 : Hid (Below w.heap.size w w8) := below_keeps B7.out HR.out hk8
      clear hk8 N2 R7 B7
      go_wp2
      go_ret
      exact ⟨rfl, B8.out⟩
    · go_wp2
      go_ret
      exact ⟨rfl, B1.out⟩
  · go_wp2
    go_ret
    exact ⟨rfl, B1.out⟩

theorem sampleDraws_law (v0 : Value) (l : List Int) (b m : Int) (w : World) (h0 : Sl 1 w v0 l.length (l.map (Value.int .u64))) (k0 : ∀ z ∈ l, (Lit.int .u64 z).wf = true) (hb : (Lit.int .i64 b).wf = true) (hm : (Lit.int .i64 m).wf = true) :
    Calls Try.prog 3 #[v0, .int .i64 b, .int .i64 m] w fun e w' => e = .returned (.bool true) ∧ Below w.heap.size w w' := by
  obtain ⟨s, hs⟩ := us_of h0 k0
  exact sampleDraws_walk v0 s b m w hs

end Go.Proofs.Ythlladpappldbaa
