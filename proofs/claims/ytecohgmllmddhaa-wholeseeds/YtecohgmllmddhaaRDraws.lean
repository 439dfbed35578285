/-
  RngDraws.
-/
import Derived.Test.YtecohgmllmddhaaRngS
namespace Go.Proofs.Ytecohgmllmddhaa
open Go.RowKit
set_option linter.unusedVariables false

theorem i64_bounds {x : Int} (h : (Lit.int .i64 x).wf = true) : -9223372036854775808 ≤ x ∧ x < 9223372036854775808 := by
  simp [Lit.wf, IntKind.min, IntKind.max, IntKind.bits, IntKind.signed] at h
  omega

theorem map_i64_at (l : List Int) (j : Nat) (h : j < l.length) : (l.map (Value.int .i64))[j]? = some (.int .i64 l[j]) := by
  simp [h]

/-- Both draw alike: the state on one side, the Rand on the other. -/
def DrawI (w : World) (r s : Nat) (wr : World) : Prop := IsRand wr r s ∧ Below w.heap.size w wr

theorem DrawI.mid {w wr w1 : World} {r s : Nat} (h : DrawI w r s wr) (hb : Below wr.heap.size wr w1) : DrawI w r s w1 := ⟨h.1.below hb, h.2.trans (hb.mono h.2.size)⟩
theorem DrawI.next {w wr w1 : World} {r s t : Nat} (h : DrawI w r s wr) (hr : w.heap.size ≤ r) (h1 : IsRand w1 r t) (hk : KeepsBut (fun k => k = r) wr w1) : DrawI w r t w1 := ⟨h1, h.2.trans (hk.below h.2.size (fun k e => by omega))⟩

set_option maxRecDepth 100000 in
set_option maxHeartbeats 1000000 in
/-- RngDraws. -/
theorem rngDraws_walk (v0 : Value) (l : List Nat) (v1 : Value) (zs : List Int) (w : World) (h0 : Us w v0 l) (h1 : Sl 1 w v1 zs.length (zs.map (Value.int .i64))) (hz : ∀ z ∈ zs, (Lit.int .i64 z).wf = true) :
    Calls Try.prog 5 #[v0, v1] w fun e w' => e = .returned (.bool true) ∧ Below w.heap.size w w' := by
  have HU : Hid (Us w v0 l) := h0
  have HV : Hid (Sl 1 w v1 zs.length (zs.map (Value.int .i64))) := h1
  have HZ : Hid (∀ z ∈ zs, (Lit.int .i64 z).wf = true) := hz
  clear hz
  obtain ⟨⟨-, a0, c0, rfl, hn0, hc0, -, -⟩, -⟩ := h0
  obtain ⟨-, a1, c1, rfl, hn1, hc1, -, hcell⟩ := h1
  obtain ⟨n, hn⟩ : ∃ n, l.length = n := ⟨_, rfl⟩
  obtain ⟨m, hm⟩ : ∃ m, zs.length = m := ⟨_, rfl⟩
  have HM : Hid (zs.length = m) := hm
  rw [hn] at hn0 HU ⊢
  rw [hm] at hn1 hcell HV ⊢
  have HC : Hid (m = 0 ∨ ∃ b off, a1 = some ⟨b, off, none⟩ ∧ ∀ j u, (zs.map (Value.int .i64))[j]? = some u → w.cell? ⟨b, off + j, none⟩ = some u) := hcell
  clear hn hm hcell
  unfold maxLen at hc0 hc1
  by_cases hb : n ≤ 50 ∧ m ≤ 100
  · obtain ⟨hb0, hb1⟩ := hb
    go_enter Try.func5, Try.ntmps5
    go_wp2_with fail
    refine (speaks7_any _).mono ?_
    rintro e w1 ⟨rfl, hb1⟩
    have B1 : Hid (Below w.heap.size w w1) := hb1
    clear hb1
    go_wp2_with fail
    refine (rnew_any _ l _ (HU.out.below (B1.out))).mono ?_
    rintro e w2 ⟨rfl, hr2, hb2, hz2⟩
    have D2 : Hid (DrawI w w1.heap.size (seedTo 0 l) w2) := ⟨hr2, B1.out.trans (hb2.mono B1.out.size)⟩
    have HR : Hid (w.heap.size ≤ w1.heap.size) := B1.out.size
    generalize w1.heap.size = r at *
    clear hr2 hb2 hz2
    go_wp2_with fail
    refine (rseed_any _ l _ (HU.out.below D2.out.2)).mono ?_
    rintro e w3 ⟨rfl, rfl⟩
    clear B1
    generalize seedTo 0 l = s0 at *
    go_wp2
    go_loopw [27, 6] (fun i sv wr => ∃ (k s : Nat), k ≤ m ∧ i = .int .i64 k ∧ sv = .int .u64 (s : Nat) ∧ Hid (DrawI w r s wr)) (fun i _ _ => m - (intOf i).toNat)
    case atStart => exact ⟨0, s0, by omega, rfl, rfl, D2⟩
    case round =>
      obtain ⟨k, s, hk, rfl, rfl, D⟩ := hrel
      clear D2
      by_cases hlt : k < m
      · have hkl : k < zs.length := by rw [HM.out]; exact hlt
        obtain ⟨b, off, rfl, hcell⟩ : ∃ b off, a1 = some ⟨b, off, none⟩ ∧ ∀ j u, (zs.map (Value.int .i64))[j]? = some u → w.cell? ⟨b, off + j, none⟩ = some u := by
          rcases HC.out with h | h
          · omega
          · exact h
        have hc0 := hcell k _ (map_i64_at zs k hkl)
        have hzl : Hid (zs[k] < 9223372036854775808) := (i64_bounds (HZ.out _ (List.getElem_mem hkl))).2
        clear hcell
        generalize zs[k] = z at *
        have hc := (D.out.2.cell (cell_block_lt hc0)).trans hc0
        clear hc0 hkl
        by_cases hz0 : z = 0
        · subst hz0
          have H1 : Hid (∀ W, Calls Try.prog 23 #[.int .u64 s] W fun e w' => e = .returned (.tuple #[.int .u64 (addS s : Nat), .int .u64 (mix (addS s) : Nat)]) ∧ w' = W) := fun W => rref_next s W
          have H2 : Hid (∀ W, IsRand W r s → Calls Try.prog 24 #[.pointer (some ⟨r, 0, none⟩)] W fun e w' => e = .returned (.int .u64 (mix (addS s) : Nat)) ∧ IsRand w' r (addS s) ∧ KeepsBut (fun k => k = r) W w' ∧ w'.heap.size = W.heap.size) := fun W h => rnd_next r s W h
          generalize mix (addS s) = y at *
          generalize addS s = t at *
          go_wp2_with fail
          refine (H1.out _).mono ?_
          rintro e w4 ⟨rfl, rfl⟩
          go_wp2_with fail
          refine (H2.out _ D.out.1).mono ?_
          rintro e w5 ⟨rfl, hr5, hk5, hz5⟩
          have D5 : Hid (DrawI w r t w5) := D.out.next HR.out hr5 hk5
          clear hr5 hk5 hz5 D H1 H2 hc
          go_wp2
          go_roundw
          case rel => exact ⟨k + 1, t, by omega, by go_num, rfl, D5⟩
          case measure => simp [intOf]; omega
        · have H1 : Hid (∀ W, Calls Try.prog 25 #[.int .u64 s, .int .i64 z] W fun e w' => e = .returned (.tuple #[.int .u64 ((belowD s z).1 : Nat), .int .i64 (belowD s z).2]) ∧ Below W.heap.size W w') := fun W => rrbelow_any s z W hzl.out
          have H2 : Hid (∀ W, IsRand W r s → Calls Try.prog 26 #[.pointer (some ⟨r, 0, none⟩), .int .i64 z] W fun e w' => e = .returned (.int .i64 (belowD s z).2) ∧ IsRand w' r (belowD s z).1 ∧ KeepsBut (fun k => k = r) W w' ∧ w'.heap.size = W.heap.size) := fun W h => rbelow_any r s z W h hzl.out
          generalize belowD s z = x at *
          obtain ⟨t, y⟩ := x
          dsimp only at H1 H2
          go_wp2_with fail
          refine (H1.out _).mono ?_
          rintro e w4 ⟨rfl, hb4⟩
          have D4 : Hid (DrawI w r s w4) := D.out.mid hb4
          clear hb4 D hc
          go_wp2_with fail
          refine (H2.out _ D4.out.1).mono ?_
          rintro e w5 ⟨rfl, hr5, hk5, hz5⟩
          have D5 : Hid (DrawI w r t w5) := D4.out.next HR.out hr5 hk5
          clear hr5 hk5 hz5 D4 H1 H2
          go_wp2
          go_roundw
          case rel => exact ⟨k + 1, t, by omega, by go_num, rfl, D5⟩
          case measure => simp [intOf]; omega
      · go_wp2
        go_ret
        exact ⟨rfl, D.out.2⟩
  · go_enter Try.func5, Try.ntmps5
    go_wp2_with fail
    refine (speaks7_any _).mono ?_
    rintro e w1 ⟨rfl, hb1⟩
    have B1 : Hid (Below w.heap.size w w1) := hb1
    clear hb1
    by_cases hb0 : n ≤ 50
    · have hb1 : ¬ m ≤ 100 := fun h => hb ⟨hb0, h⟩
      clear hb
      go_wp2
      go_ret
      exact ⟨rfl, B1.out⟩
    · clear hb
      go_wp2
      go_ret
      exact ⟨rfl, B1.out⟩

theorem rngDraws_law (v0 : Value) (l : List Int) (v1 : Value) (zs : List Int) (w : World) (h0 : Sl 1 w v0 l.length (l.map (Value.int .u64))) (k0 : ∀ z ∈ l, (Lit.int .u64 z).wf = true) (h1 : Sl 1 w v1 zs.length (zs.map (Value.int .i64))) (hz : ∀ z ∈ zs, (Lit.int .i64 z).wf = true) :
    Calls Try.prog 5 #[v0, v1] w fun e w' => e = .returned (.bool true) ∧ Below w.heap.size w w' := by
  obtain ⟨s, hs⟩ := us_of h0 k0
  exact rngDraws_walk v0 s v1 zs w hs h1 hz

end Go.Proofs.Ytecohgmllmddhaa
