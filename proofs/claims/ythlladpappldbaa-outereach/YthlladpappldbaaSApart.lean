/-
  SampleApart.
-/
import Derived.Test.YthlladpappldbaaSmpS
import Derived.Test.YthlladpappldbaaLDraw
import Derived.BigQuiet
namespace Go.Proofs.Ythlladpappldbaa
open Go.RowKit
set_option linter.unusedVariables false

theorem max2Z (a b : Int) (W : World) : (Builtin.max_ #[3, 3] 3 #[.int .i64 a, .int .i64 b]).run Try.prog W = .ok (.int .i64 (max a b)) W := by
  simp only [Builtin.max_, List.foldlM, Builtin.max2, Sem.run_pure, pure_bind]
  congr 2
  split <;> omega

theorem howMany_max (b m : Int) : max (min m b) 0 = (howMany b m : Int) := by
  unfold howMany
  split <;> omega

theorem pairwise_at {l : List Int} (h : l.Pairwise (· < ·)) {p : Nat} (hp : p + 1 < l.length) : l[p] < l[p + 1] := by
  rw [List.pairwise_iff_getElem] at h
  exact h p (p + 1) (by omega) hp (by omega)

set_option maxRecDepth 100000 in
set_option maxHeartbeats 1000000 in
theorem sampleApart_walk (sv : Value) (ss : List Nat) (b m x : Int) (w : World) (h0 : Us w sv ss) :
    Calls Try.prog 4 #[.agg #[sv, .int .i64 b, .int .i64 m, .int .i64 x]] w fun e w' => e = .returned (.bool true) ∧ Below w.heap.size w w' := by
  have HU : Hid (Us w sv ss) := h0
  obtain ⟨⟨-, a0, c0, rfl, hn0, hc0, -, -⟩, -⟩ := h0
  obtain ⟨n, hn⟩ : ∃ n, ss.length = n := ⟨_, rfl⟩
  rw [hn] at hn0 HU ⊢
  clear hn
  unfold maxLen at hc0
  go_enter Try.func4, Try.ntmps4
  go_wp2_with fail
  refine (speaks9_any _).mono ?_
  rintro e w1 ⟨rfl, hb1⟩
  have B1 : Hid (Below w.heap.size w w1) := below_on (below_alloc _ _) hb1
  have q0 : w1.cell? ⟨w.heap.size, 0, none⟩ = some (.slice a0 n c0) := (hb1.cell (by simp)).trans (by simp)
  have q1 : w1.cell? ⟨w.heap.size, 1, none⟩ = some (.int .i64 b) := (hb1.cell (by simp)).trans (by simp)
  have q2 : w1.cell? ⟨w.heap.size, 2, none⟩ = some (.int .i64 m) := (hb1.cell (by simp)).trans (by simp)
  have q3 : w1.cell? ⟨w.heap.size, 3, none⟩ = some (.int .i64 x) := (hb1.cell (by simp)).trans (by simp)
  clear hb1
  go_wp2_with fail
  go_quiet (fail)
  rename_i nq
  have B2 : Hid (Below w.heap.size w (w1.drewN nq)) := below_drewN B1.out _
  clear B1 q0 q1 q2 q3
  generalize w1.drewN nq = w2 at *
  by_cases hn50 : n ≤ 50
  · by_cases hb300 : b ≤ 2000
    · obtain ⟨k, hk⟩ : ∃ k, howMany b m = k := ⟨_, rfl⟩
      have HK : Hid (howMany b m = k) := hk
      have hkl : k ≤ 2000 := by have := howMany_le b m; omega
      have hmin := min2Z m b
      have hmax := max2Z (min m b) 0
      rw [howMany_max, hk] at hmax
      clear hk
      generalize min m b = mb at *
      go_wp2_with fail
      refine (rnew_any _ ss _ (HU.out.below B2.out)).mono ?_
      rintro e w3 ⟨rfl, hr3, hb3, -⟩
      have HR : Hid (w.heap.size ≤ w2.heap.size) := B2.out.size
      have R3 : Hid (IsRand w3 w2.heap.size (seedTo 0 ss)) := hr3
      have B3 : Hid (Below w.heap.size w w3) := below_on B2.out hb3
      generalize w2.heap.size = r at *
      clear hr3 hb3 B2
      generalize seedTo 0 ss = s at *
      obtain ⟨⟨t, l⟩, hT⟩ : ∃ p, someD s b m = p := ⟨_, rfl⟩
      have HT : Hid (someD s b m = (t, l)) := hT
      have C2 : Hid (∀ W, IsRand W r s → Calls Try.prog 15 #[.pointer (some ⟨r, 0, none⟩), .int .i64 b, .int .i64 m] W fun e w' => ∃ a c, e = .returned (.slice a k c) ∧ OwnZ W.heap.size w' (.slice a k c) k l ∧ IsRand w' r t ∧ KeepsBut (fun x => x = r) W w') := fun W hW => some_any r s b m W hW (by omega) k HK.out t l HT
      have HS : Hid (l.Pairwise (· < ·)) := by have := someD_rises s b m; rw [hT] at this; exact this
      have HM : Hid (∀ y ∈ l, 0 ≤ y ∧ y < b) := by
        intro y hy
        have := someD_mem (s := s) (b := b) (m := m) (x := y)
        rw [hT] at this
        exact this hy
      clear hT HT HK
      go_wp2_with fail
      refine (C2.out _ R3.out).mono ?_
      rintro e w4 ⟨a4, c4, rfl, ho4, -, hk4⟩
      have Z4 : Hid (Zs w4 (.slice a4 k c4) l) := ho4.zs
      have B4 : Hid (Below w.heap.size w w4) := below_keeps B3.out HR.out hk4
      have HL : Hid (l.length = k) := ho4.len
      have HSL : Hid (l.Pairwise (· ≤ ·)) := HS.out.imp (fun h => by omega)
      obtain ⟨-, ae, ce, hv4, hkc, hcm4, -, hcells⟩ := Z4.out
      injection hv4 with e1 e2 e3
      subst e3
      unfold maxLen at hcm4
      rw [HL.out] at hkc
      clear ho4 hk4 B3 R3 C2 hcells e1 e2
      go_wp2
      clear hmin hmax
      go_loopw [41] (fun iv wr => ∃ i : Nat, i ≤ k ∧ iv = .int .i64 i ∧ Hid (Zs wr (.slice a4 k c4) l) ∧ Hid (Below w.heap.size w wr)) (fun iv _ => k - (intOf iv).toNat)
      case atStart => exact ⟨0, by omega, rfl, Z4, B4⟩
      case round =>
        obtain ⟨i, hi, rfl, Z, B⟩ := hrel
        clear Z4 B4
        by_cases hlt : i < k
        · have hil : i < l.length := by rw [HL.out]; exact hlt
          obtain ⟨-, hzc⟩ := zs_cells Z.out
          obtain ⟨g, off, rfl, hc⟩ : ∃ g off, a4 = some ⟨g, off, none⟩ ∧ ∀ j, j < l.length → wr.cell? ⟨g, off + j, none⟩ = some (.int .i64 (l.getD j 0)) := by
            rcases hzc with h | h
            · omega
            · exact h
          have hci := hc i hil
          have hgi : l.getD i 0 = l[i] := by simp [List.getD, hil]
          rw [hgi] at hci
          have hmem := HM.out l[i] (List.getElem_mem hil)
          obtain ⟨hm0, hm1⟩ := hmem
          have HH : Hid (Calls Try.prog 19 #[.slice (some ⟨g, off, none⟩) k c4, .int .i64 l[i]] wr fun e w' => e = .returned (.bool true) ∧ Below wr.heap.size wr w') := by
            have := shas_any l[i] _ l wr Z.out (by rw [HL.out]; omega) HSL.out
            rw [show decide (l[i] ∈ l) = true from by simp] at this
            exact this
          cases i with
          | zero =>
            clear hc hgi hzc
            rw [Nat.add_zero] at hci
            generalize l[0] = y at *
            go_wp2_with fail
            refine HH.out.mono ?_
            rintro e w5 ⟨rfl, hb5⟩
            have Z5 : Hid (Zs w5 (.slice (some ⟨g, off, none⟩) k c4) l) := Z.out.below hb5
            have B5 : Hid (Below w.heap.size w w5) := below_on B.out hb5
            clear hb5 HH Z B
            go_wp2
            go_roundw
            case rel => exact ⟨1, by omega, by go_num, Z5, B5⟩
            case measure => simp [intOf]; omega
          | succ p =>
            have hcp := hc p (by omega)
            have hpl : p < l.length := by omega
            have hgp : l.getD p 0 = l[p] := by simp [List.getD, hpl]
            rw [hgp] at hcp
            have hrise := pairwise_at HS.out hil
            have hsub : ((p : Int) + 1) - 1 = (p : Int) := by omega
            clear hc hgi hzc hgp
            generalize l[p] = y0 at *
            generalize l[p + 1] = y at *
            have hge : ¬ y0 ≥ y := by omega
            go_wp2_with fail
            refine HH.out.mono ?_
            rintro e w5 ⟨rfl, hb5⟩
            have Z5 : Hid (Zs w5 (.slice (some ⟨g, off, none⟩) k c4) l) := Z.out.below hb5
            have B5 : Hid (Below w.heap.size w w5) := below_on B.out hb5
            clear hb5 HH Z B
            go_wp2
            go_roundw
            case rel => exact ⟨p + 1 + 1, by omega, by go_num, Z5, B5⟩
            case measure => simp [intOf]; omega
        · have H1 : Hid (∀ W, Zs W (.slice a4 k c4) l → Calls Try.prog 19 #[.slice a4 k c4, .int .i64 x] W fun e w' => e = .returned (.bool (decide (x ∈ l))) ∧ Below W.heap.size W w') := fun W hW => shas_any x _ l W hW (by rw [HL.out]; omega) HSL.out
          have H2 : Hid (∀ W, Zs W (.slice a4 k c4) l → Calls Try.prog 20 #[.slice a4 k c4, .int .i64 x] W fun e w' => e = .returned (.bool (decide (x ∈ l))) ∧ w' = W) := fun W hW => rhas_any x _ l W hW
          generalize decide (x ∈ l) = d at *
          go_wp2_with fail
          refine (H1.out _ Z.out).mono ?_
          rintro e w5 ⟨rfl, hb5⟩
          have Z5 : Hid (Zs w5 (.slice a4 k c4) l) := Z.out.below hb5
          have B5 : Hid (Below w.heap.size w w5) := below_on B.out hb5
          clear hb5 H1 Z B
          go_wp2_with fail
          refine (H2.out _ Z5.out).mono ?_
          rintro e w6 ⟨rfl, rfl⟩
          go_wp2
          go_ret
          exact ⟨by simp, B5.out⟩
    · go_wp2
      go_ret
      exact ⟨rfl, B2.out⟩
  · go_wp2
    go_ret
    exact ⟨rfl, B2.out⟩

theorem sampleApart_law (sv : Value) (sl : List Int) (b m x : Int) (w : World) (h : (Sl 1 w sv sl.length (sl.map (Value.int .u64)) ∧ ∀ z ∈ sl, (Lit.int .u64 z).wf = true) ∧ Ok .i64 b ∧ Ok .i64 m ∧ Ok .i64 x) :
    Calls Try.prog 4 #[.agg #[sv, .int .i64 b, .int .i64 m, .int .i64 x]] w fun e w' => e = .returned (.bool true) ∧ Below w.heap.size w w' := by
  obtain ⟨s, hs⟩ := us_of h.1.1 h.1.2
  exact sampleApart_walk sv s b m x w hs

end Go.Proofs.Ythlladpappldbaa
