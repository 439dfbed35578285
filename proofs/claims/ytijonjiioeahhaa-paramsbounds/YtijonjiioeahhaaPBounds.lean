/-
  The walk of the statement ParamsBounds.
-/
import Derived.Test.YtijonjiioeahhaaParS
namespace Go.Proofs.Ytijonjiioeahhaa
open Go.RowKit
set_option linter.unusedVariables false

set_option maxRecDepth 100000 in
set_option maxHeartbeats 4000000 in
theorem paramsBounds_walk (N B Q E F h c : Int) (w : World) (hw : Ok .i64 N ∧ Ok .i64 B ∧ Ok .i64 Q ∧ Ok .i64 E ∧ Ok .i64 F) (hh : (Lit.int .u16 h).wf = true) (hc : (Lit.int .u16 c).wf = true) :
    Calls Try.prog 7 #[.agg #[.int .i64 N, .int .i64 B, .int .i64 Q, .int .i64 E, .int .i64 F], .int .u16 h, .int .u16 c] w fun e w' => e = .returned (.bool true) ∧ Below w.heap.size w w' := by
  obtain ⟨hh1, hh2⟩ : 0 ≤ h ∧ h ≤ 65535 := by simp [Lit.wf, IntKind.min, IntKind.max, IntKind.bits, IntKind.signed] at hh; omega
  obtain ⟨hc1, hc2⟩ : 0 ≤ c ∧ c ≤ 65535 := by simp [Lit.wf, IntKind.min, IntKind.max, IntKind.bits, IntKind.signed] at hc; omega
  clear hw hh hc
  go_enter Try.func7, Try.ntmps7
  go_wp2_with fail
  refine (speaks5_any _).mono ?_
  rintro e w1 ⟨rfl, hb1⟩
  have B1 : Hid (Below w.heap.size w w1) := below_mid (below_alloc _ _) hb1
  have F1 : Hid (Five w1 w.heap.size N B Q E F) := (five_new w _ N B Q E F).below hb1
  clear hb1
  obtain ⟨c0, c1, c2, c3, c4⟩ := F1.out
  by_cases hm : May N B Q E F
  · go_wp2_with fail
    refine (rmay_yes N B Q E F _ hm).mono ?_
    rintro e w3 ⟨rfl, hb2⟩
    have B3 : Hid (Below w.heap.size w w3) := below_mid B1.out hb2
    have F3 : Hid (Five w3 w.heap.size N B Q E F) := F1.out.below hb2
    clear hb2 B1 F1 c0 c1 c2 c3 c4
    obtain ⟨hN, hB, hQ, hE, hF, -⟩ := hm
    obtain ⟨q, hq⟩ : ∃ q, w.heap.size = q := ⟨_, rfl⟩
    rw [hq] at F3
    have hh : 0 ≤ h ∧ h ≤ 1048576 := by omega
    have hk : 0 ≤ h + c ∧ h + c ≤ 1048576 := by omega
    have hr := aux_range hN hQ hE
    have hmr := most_range hN hB
    have hqn := pair_range (a := Q) (b := N) (A := 8) (B := 1048576) (by omega) (by omega)
    have hhf := pair_range (a := h) (b := F) (A := 1048576) (B := 4096) (by omega) (by omega)
    have hcf := pair_range (a := c) (b := F) (A := 1048576) (B := 4096) (by omega) (by omega)
    have hsum : (h + c) * F = h * F + c * F := Int.add_mul _ _ _
    have A0 : Hid (∀ W, Calls Try.prog 35 #[.agg #[.int .i64 N, .int .i64 B, .int .i64 Q, .int .i64 E, .int .i64 F]] W fun e w' => e = .returned (.int .i64 (aux N Q E)) ∧ Below W.heap.size W w') := fun W => aux_any N B Q E F W hN hQ hE
    have A1 : Hid (∀ W, Calls Try.prog 36 #[.agg #[.int .i64 N, .int .i64 B, .int .i64 Q, .int .i64 E, .int .i64 F]] W fun e w' => e = .returned (.int .i64 (N + aux N Q E)) ∧ Below W.heap.size W w') := fun W => all_any N B Q E F W hN hQ hE
    have A2 : Hid (∀ W, Calls Try.prog 37 #[.agg #[.int .i64 N, .int .i64 B, .int .i64 Q, .int .i64 E, .int .i64 F]] W fun e w' => e = .returned (.int .i64 (N * B)) ∧ Below W.heap.size W w') := fun W => most_any N B Q E F W hN hB
    have A3 : Hid (∀ W, Calls Try.prog 38 #[.agg #[.int .i64 N, .int .i64 B, .int .i64 Q, .int .i64 E, .int .i64 F], .int .i64 h] W fun e w' => e = .returned (.int .i64 (N + 2 * aux N Q E + h + 1)) ∧ Below W.heap.size W w') := fun W => blocks_any N B Q E F h W hN hQ hE hh
    have A3' : Hid (∀ W, Calls Try.prog 38 #[.agg #[.int .i64 N, .int .i64 B, .int .i64 Q, .int .i64 E, .int .i64 F], .int .i64 (h + c)] W fun e w' => e = .returned (.int .i64 (N + 2 * aux N Q E + (h + c) + 1)) ∧ Below W.heap.size W w') := fun W => blocks_any N B Q E F (h + c) W hN hQ hE hk
    have A4 : Hid (∀ W, Calls Try.prog 39 #[.agg #[.int .i64 N, .int .i64 B, .int .i64 Q, .int .i64 E, .int .i64 F], .int .i64 h] W fun e w' => e = .returned (.int .i64 (Q * N + aux N Q E + h * F)) ∧ Below W.heap.size W w') := fun W => edges_any N B Q E F h W hN hQ hE hF hh
    have A4' : Hid (∀ W, Calls Try.prog 39 #[.agg #[.int .i64 N, .int .i64 B, .int .i64 Q, .int .i64 E, .int .i64 F], .int .i64 (h + c)] W fun e w' => e = .returned (.int .i64 (Q * N + aux N Q E + (h + c) * F)) ∧ Below W.heap.size W w') := fun W => edges_any N B Q E F (h + c) W hN hQ hE hF hk
    have A5 : Hid (∀ W, Calls Try.prog 40 #[.agg #[.int .i64 N, .int .i64 B, .int .i64 Q, .int .i64 E, .int .i64 F], .int .i64 h] W fun e w' => e = .returned (.int .i64 (Q * N + aux N Q E + h * F)) ∧ Below W.heap.size W w') := fun W => work_any N B Q E F h W hN hQ hE hF hh
    have A5' : Hid (∀ W, Calls Try.prog 40 #[.agg #[.int .i64 N, .int .i64 B, .int .i64 Q, .int .i64 E, .int .i64 F], .int .i64 (h + c)] W fun e w' => e = .returned (.int .i64 (Q * N + aux N Q E + (h + c) * F)) ∧ Below W.heap.size W w') := fun W => work_any N B Q E F (h + c) W hN hQ hE hF hk
    have K2 : IntKind.i64.wrap (c * F) = c * F := by rw [IntKind.wrap_i64]; omega
    obtain ⟨-, hm1, hm2⟩ := hmr
    rw [hsum] at A4' A5'
    clear hsum
    obtain ⟨QN, hQN⟩ : ∃ x, x = Q * N := ⟨_, rfl⟩
    obtain ⟨HF, hHF⟩ : ∃ x, x = h * F := ⟨_, rfl⟩
    obtain ⟨CF, hCF⟩ : ∃ x, x = c * F := ⟨_, rfl⟩
    obtain ⟨P, hP⟩ : ∃ x, x = N * B := ⟨_, rfl⟩
    have E2 : Hid (IntKind.i64.wrap (c * F) = CF) := by unfold Hid; rw [hCF]; exact K2
    rw [← hQN] at A4 A5 A4' A5' hqn
    rw [← hHF] at A4 A5 A4' A5' hhf
    rw [← hCF] at A4' A5' hcf
    rw [← hP] at A2 hm1 hm2
    clear hQN hHF hCF hP K2
    generalize aux N Q E = A at *
    obtain ⟨hr1, hr2⟩ := hr
    obtain ⟨hN1, hN2⟩ := hN
    obtain ⟨hB1, hB2⟩ := hB
    obtain ⟨hQ1, hQ2⟩ := hQ
    obtain ⟨hF1, hF2⟩ := hF
    obtain ⟨hqn1, hqn2⟩ := hqn
    obtain ⟨hhf1, hhf2⟩ := hhf
    obtain ⟨hcf1, hcf2⟩ := hcf
    clear hE hh hk
    go_wp2
    clear hq
    have BX : Hid (∀ W, Below w3.heap.size w3 W → Five W q N B Q E F) := fun W hW => F3.out.below hW
    have C0 : Hid (∀ W, Below w3.heap.size w3 W → Calls Try.prog 35 #[.agg #[.int .i64 N, .int .i64 B, .int .i64 Q, .int .i64 E, .int .i64 F]] W fun e w' => ∃ v, e = .returned v ∧ IsV (.int .i64 (A)) v w' ∧ Below W.heap.size W w') := fun W hW => calls_below (A0.out W)
    have C1 : Hid (∀ W, Below w3.heap.size w3 W → Calls Try.prog 36 #[.agg #[.int .i64 N, .int .i64 B, .int .i64 Q, .int .i64 E, .int .i64 F]] W fun e w' => ∃ v, e = .returned v ∧ IsV (.int .i64 (N + A)) v w' ∧ Below W.heap.size W w') := fun W hW => calls_below (A1.out W)
    have C2 : Hid (∀ W, Below w3.heap.size w3 W → Calls Try.prog 37 #[.agg #[.int .i64 N, .int .i64 B, .int .i64 Q, .int .i64 E, .int .i64 F]] W fun e w' => ∃ v, e = .returned v ∧ IsV (.int .i64 (P)) v w' ∧ Below W.heap.size W w') := fun W hW => calls_below (A2.out W)
    have C3 : Hid (∀ W, Below w3.heap.size w3 W → Calls Try.prog 38 #[.agg #[.int .i64 N, .int .i64 B, .int .i64 Q, .int .i64 E, .int .i64 F], .int .i64 h] W fun e w' => ∃ v, e = .returned v ∧ IsV (.int .i64 (N + 2 * A + h + 1)) v w' ∧ Below W.heap.size W w') := fun W hW => calls_below (A3.out W)
    have D3 : Hid (∀ W, Below w3.heap.size w3 W → Calls Try.prog 38 #[.agg #[.int .i64 N, .int .i64 B, .int .i64 Q, .int .i64 E, .int .i64 F], .int .i64 (h + c)] W fun e w' => ∃ v, e = .returned v ∧ IsV (.int .i64 (N + 2 * A + (h + c) + 1)) v w' ∧ Below W.heap.size W w') := fun W hW => calls_below (A3'.out W)
    have C4 : Hid (∀ W, Below w3.heap.size w3 W → Calls Try.prog 39 #[.agg #[.int .i64 N, .int .i64 B, .int .i64 Q, .int .i64 E, .int .i64 F], .int .i64 h] W fun e w' => ∃ v, e = .returned v ∧ IsV (.int .i64 (QN + A + HF)) v w' ∧ Below W.heap.size W w') := fun W hW => calls_below (A4.out W)
    have D4 : Hid (∀ W, Below w3.heap.size w3 W → Calls Try.prog 39 #[.agg #[.int .i64 N, .int .i64 B, .int .i64 Q, .int .i64 E, .int .i64 F], .int .i64 (h + c)] W fun e w' => ∃ v, e = .returned v ∧ IsV (.int .i64 (QN + A + (HF + CF))) v w' ∧ Below W.heap.size W w') := fun W hW => calls_below (A4'.out W)
    have C5 : Hid (∀ W, Below w3.heap.size w3 W → Calls Try.prog 40 #[.agg #[.int .i64 N, .int .i64 B, .int .i64 Q, .int .i64 E, .int .i64 F], .int .i64 h] W fun e w' => ∃ v, e = .returned v ∧ IsV (.int .i64 (QN + A + HF)) v w' ∧ Below W.heap.size W w') := fun W hW => calls_below (A5.out W)
    have D5 : Hid (∀ W, Below w3.heap.size w3 W → Calls Try.prog 40 #[.agg #[.int .i64 N, .int .i64 B, .int .i64 Q, .int .i64 E, .int .i64 F], .int .i64 (h + c)] W fun e w' => ∃ v, e = .returned v ∧ IsV (.int .i64 (QN + A + (HF + CF))) v w' ∧ Below W.heap.size W w') := fun W hW => calls_below (A5'.out W)
    have D1 : IntKind.i64.wrap (N + 2 * A + (h + c) + 1 - (N + 2 * A + h + 1)) = c := by rw [IntKind.wrap_i64]; omega
    have D2 : IntKind.i64.wrap (QN + A + (HF + CF) - (QN + A + HF)) = CF := by rw [IntKind.wrap_i64]; omega
    have G1 : decide (N + A < N + 2 * A + h + 1) = true := decide_eq_true (by omega)
    have G2 : decide (A ≤ QN + A + HF) = true := decide_eq_true (by omega)
    have G3 : decide (N ≤ P) = true := decide_eq_true (by omega)
    refine wp_region_any (by kernel_rfl) ?_
    obtain ⟨gs, hgs⟩ : ∃ gs : List (Value → World → Prop), gs = [IsV (.agg #[.int .i64 N, .int .i64 B, .int .i64 Q, .int .i64 E, .int .i64 F]), IsV (Value.int IntKind.i64 (h + c)), IsV (.int .i64 (N + 2 * A + (h + c) + 1)), IsV (.agg #[.int .i64 N, .int .i64 B, .int .i64 Q, .int .i64 E, .int .i64 F]), IsV (Value.int IntKind.i64 h), IsV (.int .i64 (N + 2 * A + h + 1)), IsV (.int .i64 c), IsV (Value.int IntKind.u16 c), IsV (.int .i64 c), IsV (.bool true), IsV (.bool true), IsV (.agg #[.int .i64 N, .int .i64 B, .int .i64 Q, .int .i64 E, .int .i64 F]), IsV (Value.int IntKind.i64 (h + c)), IsV (.int .i64 (QN + A + (HF + CF))), IsV (.agg #[.int .i64 N, .int .i64 B, .int .i64 Q, .int .i64 E, .int .i64 F]), IsV (Value.int IntKind.i64 h), IsV (.int .i64 (QN + A + HF)), IsV (.int .i64 CF), IsV (Value.int IntKind.u16 c), IsV (.int .i64 c), IsV (.pointer (some ⟨q, 4, none⟩)), IsV (.int .i64 F), IsV (.int .i64 CF), IsV (.bool true), IsV (.bool true), IsV (.bool true), IsV (.agg #[.int .i64 N, .int .i64 B, .int .i64 Q, .int .i64 E, .int .i64 F]), IsV (Value.int IntKind.i64 (h + c)), IsV (.int .i64 (QN + A + (HF + CF))), IsV (.agg #[.int .i64 N, .int .i64 B, .int .i64 Q, .int .i64 E, .int .i64 F]), IsV (Value.int IntKind.i64 h), IsV (.int .i64 (QN + A + HF)), IsV (.int .i64 CF), IsV (Value.int IntKind.u16 c), IsV (.int .i64 c), IsV (.pointer (some ⟨q, 4, none⟩)), IsV (.int .i64 F), IsV (.int .i64 CF), IsV (.bool true), IsV (.bool true), IsV (.bool true), IsV (.agg #[.int .i64 N, .int .i64 B, .int .i64 Q, .int .i64 E, .int .i64 F]), IsV (Value.int IntKind.i64 h), IsV (.int .i64 (N + 2 * A + h + 1)), IsV (.agg #[.int .i64 N, .int .i64 B, .int .i64 Q, .int .i64 E, .int .i64 F]), IsV (.int .i64 (N + A)), IsV (.bool true), IsV (.bool true), IsV (.bool true), IsV (.agg #[.int .i64 N, .int .i64 B, .int .i64 Q, .int .i64 E, .int .i64 F]), IsV (Value.int IntKind.i64 h), IsV (.int .i64 (QN + A + HF)), IsV (.agg #[.int .i64 N, .int .i64 B, .int .i64 Q, .int .i64 E, .int .i64 F]), IsV (.int .i64 A), IsV (.bool true), IsV (.bool true), IsV (.bool true), IsV (.agg #[.int .i64 N, .int .i64 B, .int .i64 Q, .int .i64 E, .int .i64 F]), IsV (.int .i64 P), IsV (.pointer (some ⟨q, 0, none⟩)), IsV (.int .i64 N), IsV (.bool true), IsV (.bool true), IsV (.bool true)] := ⟨_, rfl⟩
    have g0 : Hid (gs[0]? = some (IsV (.agg #[.int .i64 N, .int .i64 B, .int .i64 Q, .int .i64 E, .int .i64 F]))) := by unfold Hid; rw [hgs]; rfl
    have g1 : Hid (gs[1]? = some (IsV (Value.int IntKind.i64 (h + c)))) := by unfold Hid; rw [hgs]; rfl
    have g2 : Hid (gs[2]? = some (IsV (.int .i64 (N + 2 * A + (h + c) + 1)))) := by unfold Hid; rw [hgs]; rfl
    have g3 : Hid (gs[3]? = some (IsV (.agg #[.int .i64 N, .int .i64 B, .int .i64 Q, .int .i64 E, .int .i64 F]))) := by unfold Hid; rw [hgs]; rfl
    have g4 : Hid (gs[4]? = some (IsV (Value.int IntKind.i64 h))) := by unfold Hid; rw [hgs]; rfl
    have g5 : Hid (gs[5]? = some (IsV (.int .i64 (N + 2 * A + h + 1)))) := by unfold Hid; rw [hgs]; rfl
    have g6 : Hid (gs[6]? = some (IsV (.int .i64 c))) := by unfold Hid; rw [hgs]; rfl
    have g7 : Hid (gs[7]? = some (IsV (Value.int IntKind.u16 c))) := by unfold Hid; rw [hgs]; rfl
    have g8 : Hid (gs[8]? = some (IsV (.int .i64 c))) := by unfold Hid; rw [hgs]; rfl
    have g9 : Hid (gs[9]? = some (IsV (.bool true))) := by unfold Hid; rw [hgs]; rfl
    have g10 : Hid (gs[10]? = some (IsV (.bool true))) := by unfold Hid; rw [hgs]; rfl
    have g11 : Hid (gs[11]? = some (IsV (.agg #[.int .i64 N, .int .i64 B, .int .i64 Q, .int .i64 E, .int .i64 F]))) := by unfold Hid; rw [hgs]; rfl
    have g12 : Hid (gs[12]? = some (IsV (Value.int IntKind.i64 (h + c)))) := by unfold Hid; rw [hgs]; rfl
    have g13 : Hid (gs[13]? = some (IsV (.int .i64 (QN + A + (HF + CF))))) := by unfold Hid; rw [hgs]; rfl
    have g14 : Hid (gs[14]? = some (IsV (.agg #[.int .i64 N, .int .i64 B, .int .i64 Q, .int .i64 E, .int .i64 F]))) := by unfold Hid; rw [hgs]; rfl
    have g15 : Hid (gs[15]? = some (IsV (Value.int IntKind.i64 h))) := by unfold Hid; rw [hgs]; rfl
    have g16 : Hid (gs[16]? = some (IsV (.int .i64 (QN + A + HF)))) := by unfold Hid; rw [hgs]; rfl
    have g17 : Hid (gs[17]? = some (IsV (.int .i64 CF))) := by unfold Hid; rw [hgs]; rfl
    have g18 : Hid (gs[18]? = some (IsV (Value.int IntKind.u16 c))) := by unfold Hid; rw [hgs]; rfl
    have g19 : Hid (gs[19]? = some (IsV (.int .i64 c))) := by unfold Hid; rw [hgs]; rfl
    have g20 : Hid (gs[20]? = some (IsV (.pointer (some ⟨q, 4, none⟩)))) := by unfold Hid; rw [hgs]; rfl
    have g21 : Hid (gs[21]? = some (IsV (.int .i64 F))) := by unfold Hid; rw [hgs]; rfl
    have g22 : Hid (gs[22]? = some (IsV (.int .i64 CF))) := by unfold Hid; rw [hgs]; rfl
    have g23 : Hid (gs[23]? = some (IsV (.bool true))) := by unfold Hid; rw [hgs]; rfl
    have g24 : Hid (gs[24]? = some (IsV (.bool true))) := by unfold Hid; rw [hgs]; rfl
    have g25 : Hid (gs[25]? = some (IsV (.bool true))) := by unfold Hid; rw [hgs]; rfl
    have g26 : Hid (gs[26]? = some (IsV (.agg #[.int .i64 N, .int .i64 B, .int .i64 Q, .int .i64 E, .int .i64 F]))) := by unfold Hid; rw [hgs]; rfl
    have g27 : Hid (gs[27]? = some (IsV (Value.int IntKind.i64 (h + c)))) := by unfold Hid; rw [hgs]; rfl
    have g28 : Hid (gs[28]? = some (IsV (.int .i64 (QN + A + (HF + CF))))) := by unfold Hid; rw [hgs]; rfl
    have g29 : Hid (gs[29]? = some (IsV (.agg #[.int .i64 N, .int .i64 B, .int .i64 Q, .int .i64 E, .int .i64 F]))) := by unfold Hid; rw [hgs]; rfl
    have g30 : Hid (gs[30]? = some (IsV (Value.int IntKind.i64 h))) := by unfold Hid; rw [hgs]; rfl
    have g31 : Hid (gs[31]? = some (IsV (.int .i64 (QN + A + HF)))) := by unfold Hid; rw [hgs]; rfl
    have g32 : Hid (gs[32]? = some (IsV (.int .i64 CF))) := by unfold Hid; rw [hgs]; rfl
    have g33 : Hid (gs[33]? = some (IsV (Value.int IntKind.u16 c))) := by unfold Hid; rw [hgs]; rfl
    have g34 : Hid (gs[34]? = some (IsV (.int .i64 c))) := by unfold Hid; rw [hgs]; rfl
    have g35 : Hid (gs[35]? = some (IsV (.pointer (some ⟨q, 4, none⟩)))) := by unfold Hid; rw [hgs]; rfl
    have g36 : Hid (gs[36]? = some (IsV (.int .i64 F))) := by unfold Hid; rw [hgs]; rfl
    have g37 : Hid (gs[37]? = some (IsV (.int .i64 CF))) := by unfold Hid; rw [hgs]; rfl
    have g38 : Hid (gs[38]? = some (IsV (.bool true))) := by unfold Hid; rw [hgs]; rfl
    have g39 : Hid (gs[39]? = some (IsV (.bool true))) := by unfold Hid; rw [hgs]; rfl
    have g40 : Hid (gs[40]? = some (IsV (.bool true))) := by unfold Hid; rw [hgs]; rfl
    have g41 : Hid (gs[41]? = some (IsV (.agg #[.int .i64 N, .int .i64 B, .int .i64 Q, .int .i64 E, .int .i64 F]))) := by unfold Hid; rw [hgs]; rfl
    have g42 : Hid (gs[42]? = some (IsV (Value.int IntKind.i64 h))) := by unfold Hid; rw [hgs]; rfl
    have g43 : Hid (gs[43]? = some (IsV (.int .i64 (N + 2 * A + h + 1)))) := by unfold Hid; rw [hgs]; rfl
    have g44 : Hid (gs[44]? = some (IsV (.agg #[.int .i64 N, .int .i64 B, .int .i64 Q, .int .i64 E, .int .i64 F]))) := by unfold Hid; rw [hgs]; rfl
    have g45 : Hid (gs[45]? = some (IsV (.int .i64 (N + A)))) := by unfold Hid; rw [hgs]; rfl
    have g46 : Hid (gs[46]? = some (IsV (.bool true))) := by unfold Hid; rw [hgs]; rfl
    have g47 : Hid (gs[47]? = some (IsV (.bool true))) := by unfold Hid; rw [hgs]; rfl
    have g48 : Hid (gs[48]? = some (IsV (.bool true))) := by unfold Hid; rw [hgs]; rfl
    have g49 : Hid (gs[49]? = some (IsV (.agg #[.int .i64 N, .int .i64 B, .int .i64 Q, .int .i64 E, .int .i64 F]))) := by unfold Hid; rw [hgs]; rfl
    have g50 : Hid (gs[50]? = some (IsV (Value.int IntKind.i64 h))) := by unfold Hid; rw [hgs]; rfl
    have g51 : Hid (gs[51]? = some (IsV (.int .i64 (QN + A + HF)))) := by unfold Hid; rw [hgs]; rfl
    have g52 : Hid (gs[52]? = some (IsV (.agg #[.int .i64 N, .int .i64 B, .int .i64 Q, .int .i64 E, .int .i64 F]))) := by unfold Hid; rw [hgs]; rfl
    have g53 : Hid (gs[53]? = some (IsV (.int .i64 A))) := by unfold Hid; rw [hgs]; rfl
    have g54 : Hid (gs[54]? = some (IsV (.bool true))) := by unfold Hid; rw [hgs]; rfl
    have g55 : Hid (gs[55]? = some (IsV (.bool true))) := by unfold Hid; rw [hgs]; rfl
    have g56 : Hid (gs[56]? = some (IsV (.bool true))) := by unfold Hid; rw [hgs]; rfl
    have g57 : Hid (gs[57]? = some (IsV (.agg #[.int .i64 N, .int .i64 B, .int .i64 Q, .int .i64 E, .int .i64 F]))) := by unfold Hid; rw [hgs]; rfl
    have g58 : Hid (gs[58]? = some (IsV (.int .i64 P))) := by unfold Hid; rw [hgs]; rfl
    have g59 : Hid (gs[59]? = some (IsV (.pointer (some ⟨q, 0, none⟩)))) := by unfold Hid; rw [hgs]; rfl
    have g60 : Hid (gs[60]? = some (IsV (.int .i64 N))) := by unfold Hid; rw [hgs]; rfl
    have g61 : Hid (gs[61]? = some (IsV (.bool true))) := by unfold Hid; rw [hgs]; rfl
    have g62 : Hid (gs[62]? = some (IsV (.bool true))) := by unfold Hid; rw [hgs]; rfl
    have g63 : Hid (gs[63]? = some (IsV (.bool true))) := by unfold Hid; rw [hgs]; rfl
    have gk : Hid (∀ p ∈ gs, Stays p) := by
      unfold Hid
      rw [hgs]
      simp only [List.forall_mem_cons]
      exact ⟨stays_v _, stays_v _, stays_v _, stays_v _, stays_v _, stays_v _, stays_v _, stays_v _, stays_v _, stays_v _, stays_v _, stays_v _, stays_v _, stays_v _, stays_v _, stays_v _, stays_v _, stays_v _, stays_v _, stays_v _, stays_v _, stays_v _, stays_v _, stays_v _, stays_v _, stays_v _, stays_v _, stays_v _, stays_v _, stays_v _, stays_v _, stays_v _, stays_v _, stays_v _, stays_v _, stays_v _, stays_v _, stays_v _, stays_v _, stays_v _, stays_v _, stays_v _, stays_v _, stays_v _, stays_v _, stays_v _, stays_v _, stays_v _, stays_v _, stays_v _, stays_v _, stays_v _, stays_v _, stays_v _, stays_v _, stays_v _, stays_v _, stays_v _, stays_v _, stays_v _, stays_v _, stays_v _, stays_v _, stays_v _, by simp⟩
    clear hgs
    refine wpAny_inv (fun listed ac W => ∃ xv : Nat → Value, ac = ⟨#[Value.agg #[Value.int IntKind.i64 N, Value.int IntKind.i64 B, Value.int IntKind.i64 Q, Value.int IntKind.i64 E, Value.int IntKind.i64 F], Value.int IntKind.u16 h, Value.int IntKind.u16 c, Value.pointer (some { block := q, off := 0 }), undef, undef, xv 63, Value.int IntKind.i64 h, Value.int IntKind.i64 (h + c), Value.bool true, Value.bool false, Value.agg #[Value.int IntKind.i64 N, Value.int IntKind.i64 B, Value.int IntKind.i64 Q, Value.int IntKind.i64 E, Value.int IntKind.i64 F], Value.bool true, Value.bool false, Value.int IntKind.u16 h, Value.int IntKind.i64 h, Value.int IntKind.u16 h, Value.int IntKind.i64 h, Value.int IntKind.u16 c, Value.int IntKind.i64 c, Value.int IntKind.i64 (h + c), xv 0, xv 1, xv 2, xv 3, xv 4, xv 5, xv 6, xv 7, xv 8, xv 9, xv 10, xv 11, xv 12, xv 13, xv 14, xv 15, xv 16, xv 17, xv 18, xv 19, xv 20, xv 21, xv 22, xv 23, xv 24, xv 25, xv 26, xv 27, xv 28, xv 29, xv 30, xv 31, xv 32, xv 33, xv 34, xv 35, xv 36, xv 37, xv 38, xv 39, xv 40, xv 41, xv 42, xv 43, xv 44, xv 45, xv 46, xv 47, xv 48, xv 49, xv 50, xv 51, xv 52, xv 53, xv 54, xv 55, xv 56, xv 57, xv 58, xv 59, xv 60, xv 61, xv 62], []⟩ ∧ Below w3.heap.size w3 W ∧ Lst gs listed xv W) (by kernel_rfl) ?_ ?_ _ _ _ _ (by kernel_rfl) (of_decide_eq_true (by kernel_rfl)) ⟨fun j => if j = 63 then Value.bool false else undef, rfl, below0 _, Lst.start _ _ _ _⟩
    · rintro listed ac W ⟨xv, rfl, hb, hG⟩ i hi hd
      have hin : i < 64 := hi
      clear hi
      have hcase : i = 0 ∨ i = 1 ∨ i = 2 ∨ i = 3 ∨ i = 4 ∨ i = 5 ∨ i = 6 ∨ i = 7 ∨ i = 8 ∨ i = 9 ∨ i = 10 ∨ i = 11 ∨ i = 12 ∨ i = 13 ∨ i = 14 ∨ i = 15 ∨ i = 16 ∨ i = 17 ∨ i = 18 ∨ i = 19 ∨ i = 20 ∨ i = 21 ∨ i = 22 ∨ i = 23 ∨ i = 24 ∨ i = 25 ∨ i = 26 ∨ i = 27 ∨ i = 28 ∨ i = 29 ∨ i = 30 ∨ i = 31 ∨ i = 32 ∨ i = 33 ∨ i = 34 ∨ i = 35 ∨ i = 36 ∨ i = 37 ∨ i = 38 ∨ i = 39 ∨ i = 40 ∨ i = 41 ∨ i = 42 ∨ i = 43 ∨ i = 44 ∨ i = 45 ∨ i = 46 ∨ i = 47 ∨ i = 48 ∨ i = 49 ∨ i = 50 ∨ i = 51 ∨ i = 52 ∨ i = 53 ∨ i = 54 ∨ i = 55 ∨ i = 56 ∨ i = 57 ∨ i = 58 ∨ i = 59 ∨ i = 60 ∨ i = 61 ∨ i = 62 ∨ i = 63 := by omega
      rcases hcase with rfl | rfl | rfl | rfl | rfl | rfl | rfl | rfl | rfl | rfl | rfl | rfl | rfl | rfl | rfl | rfl | rfl | rfl | rfl | rfl | rfl | rfl | rfl | rfl | rfl | rfl | rfl | rfl | rfl | rfl | rfl | rfl | rfl | rfl | rfl | rfl | rfl | rfl | rfl | rfl | rfl | rfl | rfl | rfl | rfl | rfl | rfl | rfl | rfl | rfl | rfl | rfl | rfl | rfl | rfl | rfl | rfl | rfl | rfl | rfl | rfl | rfl | rfl | rfl
      · refine wpOp_step rfl (fun K' hK => ?_)
        obtain ⟨c0, c1, c2, c3, c4⟩ := BX.out W hb
        clear hd hin
        go_simp
        exact hK _ _ ⟨updV xv 0 (.agg #[.int .i64 N, .int .i64 B, .int .i64 Q, .int .i64 E, .int .i64 F]), by simp [updV], hb, hG.same gk.out g0.out _ rfl⟩
      · refine wpOp_step rfl (fun K' hK => ?_)
        clear hd hin
        go_simp
        exact hK _ _ ⟨updV xv 1 (Value.int IntKind.i64 (h + c)), by simp [updV], hb, hG.same gk.out g1.out _ rfl⟩
      · refine wpOp_step rfl (fun K' hK => ?_)
        simp [Region.binds] at hd
        have e0 : xv 0 = .agg #[.int .i64 N, .int .i64 B, .int .i64 Q, .int .i64 E, .int .i64 F] := hG.get g0.out (by simp [hd])
        have e1 : xv 1 = Value.int IntKind.i64 (h + c) := hG.get g1.out (by simp [hd])
        clear hd hin
        go_simp
        refine (D3.out W hb).mono ?_
        rintro e w' ⟨v, rfl, hv, hb'⟩
        go_wp2_with fail
        exact ⟨updV xv 2 v, by simp [updV, e0, e1], hb.trans (hb'.mono hb.size), hG.step gk.out hb' g2.out v hv⟩
      · refine wpOp_step rfl (fun K' hK => ?_)
        obtain ⟨c0, c1, c2, c3, c4⟩ := BX.out W hb
        clear hd hin
        go_simp
        exact hK _ _ ⟨updV xv 3 (.agg #[.int .i64 N, .int .i64 B, .int .i64 Q, .int .i64 E, .int .i64 F]), by simp [updV], hb, hG.same gk.out g3.out _ rfl⟩
      · refine wpOp_step rfl (fun K' hK => ?_)
        clear hd hin
        go_simp
        exact hK _ _ ⟨updV xv 4 (Value.int IntKind.i64 h), by simp [updV], hb, hG.same gk.out g4.out _ rfl⟩
      · refine wpOp_step rfl (fun K' hK => ?_)
        simp [Region.binds] at hd
        have e3 : xv 3 = .agg #[.int .i64 N, .int .i64 B, .int .i64 Q, .int .i64 E, .int .i64 F] := hG.get g3.out (by simp [hd])
        have e4 : xv 4 = Value.int IntKind.i64 h := hG.get g4.out (by simp [hd])
        clear hd hin
        go_simp
        refine (C3.out W hb).mono ?_
        rintro e w' ⟨v, rfl, hv, hb'⟩
        go_wp2_with fail
        exact ⟨updV xv 5 v, by simp [updV, e3, e4], hb.trans (hb'.mono hb.size), hG.step gk.out hb' g5.out v hv⟩
      · refine wpOp_step rfl (fun K' hK => ?_)
        simp [Region.binds] at hd
        have e2 : xv 2 = .int .i64 (N + 2 * A + (h + c) + 1) := hG.get g2.out (by simp [hd])
        have e5 : xv 5 = .int .i64 (N + 2 * A + h + 1) := hG.get g5.out (by simp [hd])
        clear hd hin
        go_simp
        exact hK _ _ ⟨updV xv 6 (.int .i64 c), by simp [updV, e2, e5], hb, hG.same gk.out g6.out _ rfl⟩
      · refine wpOp_step rfl (fun K' hK => ?_)
        clear hd hin
        go_simp
        exact hK _ _ ⟨updV xv 7 (Value.int IntKind.u16 c), by simp [updV], hb, hG.same gk.out g7.out _ rfl⟩
      · refine wpOp_step rfl (fun K' hK => ?_)
        simp [Region.binds] at hd
        have e7 : xv 7 = Value.int IntKind.u16 c := hG.get g7.out (by simp [hd])
        have wr : IntKind.i64.wrap c = c := by rw [IntKind.wrap_i64]; omega
        clear hd hin
        go_simp
        exact hK _ _ ⟨updV xv 8 (.int .i64 c), by simp [updV, e7], hb, hG.same gk.out g8.out _ rfl⟩
      · refine wpOp_step rfl (fun K' hK => ?_)
        simp [Region.binds] at hd
        have e6 : xv 6 = .int .i64 c := hG.get g6.out (by simp [hd])
        have e8 : xv 8 = .int .i64 c := hG.get g8.out (by simp [hd])
        clear hd hin
        go_simp
        exact hK _ _ ⟨updV xv 9 (.bool true), by simp [updV, e6, e8], hb, hG.same gk.out g9.out _ rfl⟩
      · refine wpOp_step rfl (fun K' hK => ?_)
        simp [Region.binds] at hd
        have e9 : xv 9 = .bool true := hG.get g9.out (by simp [hd])
        clear hd hin
        go_simp
        exact hK _ _ ⟨updV xv 10 (.bool true), by simp [updV, e9], hb, hG.same gk.out g10.out _ rfl⟩
      · refine wpOp_step rfl (fun K' hK => ?_)
        simp [Region.binds] at hd
        have e10 : xv 10 = .bool true := hG.get g10.out (by simp [hd])
        obtain ⟨c0, c1, c2, c3, c4⟩ := BX.out W hb
        clear hd hin
        go_simp
        exact hK _ _ ⟨updV xv 11 (.agg #[.int .i64 N, .int .i64 B, .int .i64 Q, .int .i64 E, .int .i64 F]), by simp [updV, e10], hb, hG.same gk.out g11.out _ rfl⟩
      · refine wpOp_step rfl (fun K' hK => ?_)
        simp [Region.binds] at hd
        have e10 : xv 10 = .bool true := hG.get g10.out (by simp [hd])
        clear hd hin
        go_simp
        exact hK _ _ ⟨updV xv 12 (Value.int IntKind.i64 (h + c)), by simp [updV, e10], hb, hG.same gk.out g12.out _ rfl⟩
      · refine wpOp_step rfl (fun K' hK => ?_)
        simp [Region.binds] at hd
        have e11 : xv 11 = .agg #[.int .i64 N, .int .i64 B, .int .i64 Q, .int .i64 E, .int .i64 F] := hG.get g11.out (by simp [hd])
        have e12 : xv 12 = Value.int IntKind.i64 (h + c) := hG.get g12.out (by simp [hd])
        have e10 : xv 10 = .bool true := hG.get g10.out (by simp [hd])
        clear hd hin
        go_simp
        refine (D4.out W hb).mono ?_
        rintro e w' ⟨v, rfl, hv, hb'⟩
        go_wp2_with fail
        exact ⟨updV xv 13 v, by simp [updV, e11, e12, e10], hb.trans (hb'.mono hb.size), hG.step gk.out hb' g13.out v hv⟩
      · refine wpOp_step rfl (fun K' hK => ?_)
        simp [Region.binds] at hd
        have e10 : xv 10 = .bool true := hG.get g10.out (by simp [hd])
        obtain ⟨c0, c1, c2, c3, c4⟩ := BX.out W hb
        clear hd hin
        go_simp
        exact hK _ _ ⟨updV xv 14 (.agg #[.int .i64 N, .int .i64 B, .int .i64 Q, .int .i64 E, .int .i64 F]), by simp [updV, e10], hb, hG.same gk.out g14.out _ rfl⟩
      · refine wpOp_step rfl (fun K' hK => ?_)
        simp [Region.binds] at hd
        have e10 : xv 10 = .bool true := hG.get g10.out (by simp [hd])
        clear hd hin
        go_simp
        exact hK _ _ ⟨updV xv 15 (Value.int IntKind.i64 h), by simp [updV, e10], hb, hG.same gk.out g15.out _ rfl⟩
      · refine wpOp_step rfl (fun K' hK => ?_)
        simp [Region.binds] at hd
        have e14 : xv 14 = .agg #[.int .i64 N, .int .i64 B, .int .i64 Q, .int .i64 E, .int .i64 F] := hG.get g14.out (by simp [hd])
        have e15 : xv 15 = Value.int IntKind.i64 h := hG.get g15.out (by simp [hd])
        have e10 : xv 10 = .bool true := hG.get g10.out (by simp [hd])
        clear hd hin
        go_simp
        refine (C4.out W hb).mono ?_
        rintro e w' ⟨v, rfl, hv, hb'⟩
        go_wp2_with fail
        exact ⟨updV xv 16 v, by simp [updV, e14, e15, e10], hb.trans (hb'.mono hb.size), hG.step gk.out hb' g16.out v hv⟩
      · refine wpOp_step rfl (fun K' hK => ?_)
        simp [Region.binds] at hd
        have e13 : xv 13 = .int .i64 (QN + A + (HF + CF)) := hG.get g13.out (by simp [hd])
        have e16 : xv 16 = .int .i64 (QN + A + HF) := hG.get g16.out (by simp [hd])
        have e10 : xv 10 = .bool true := hG.get g10.out (by simp [hd])
        clear hd hin
        go_simp
        exact hK _ _ ⟨updV xv 17 (.int .i64 CF), by simp [updV, e13, e16, e10], hb, hG.same gk.out g17.out _ rfl⟩
      · refine wpOp_step rfl (fun K' hK => ?_)
        simp [Region.binds] at hd
        have e10 : xv 10 = .bool true := hG.get g10.out (by simp [hd])
        clear hd hin
        go_simp
        exact hK _ _ ⟨updV xv 18 (Value.int IntKind.u16 c), by simp [updV, e10], hb, hG.same gk.out g18.out _ rfl⟩
      · refine wpOp_step rfl (fun K' hK => ?_)
        simp [Region.binds] at hd
        have e18 : xv 18 = Value.int IntKind.u16 c := hG.get g18.out (by simp [hd])
        have e10 : xv 10 = .bool true := hG.get g10.out (by simp [hd])
        have wr : IntKind.i64.wrap c = c := by rw [IntKind.wrap_i64]; omega
        clear hd hin
        go_simp
        exact hK _ _ ⟨updV xv 19 (.int .i64 c), by simp [updV, e18, e10], hb, hG.same gk.out g19.out _ rfl⟩
      · refine wpOp_step rfl (fun K' hK => ?_)
        simp [Region.binds] at hd
        have e10 : xv 10 = .bool true := hG.get g10.out (by simp [hd])
        clear hd hin
        go_simp
        exact hK _ _ ⟨updV xv 20 (.pointer (some ⟨q, 4, none⟩)), by simp [updV, e10], hb, hG.same gk.out g20.out _ rfl⟩
      · refine wpOp_step rfl (fun K' hK => ?_)
        simp [Region.binds] at hd
        have e20 : xv 20 = .pointer (some ⟨q, 4, none⟩) := hG.get g20.out (by simp [hd])
        have e10 : xv 10 = .bool true := hG.get g10.out (by simp [hd])
        obtain ⟨c0, c1, c2, c3, c4⟩ := BX.out W hb
        clear hd hin
        go_simp
        exact hK _ _ ⟨updV xv 21 (.int .i64 F), by simp [updV, e20, e10], hb, hG.same gk.out g21.out _ rfl⟩
      · refine wpOp_step rfl (fun K' hK => ?_)
        simp [Region.binds] at hd
        have e19 : xv 19 = .int .i64 c := hG.get g19.out (by simp [hd])
        have e21 : xv 21 = .int .i64 F := hG.get g21.out (by simp [hd])
        have e10 : xv 10 = .bool true := hG.get g10.out (by simp [hd])
        have wr := E2.out
        clear hd hin
        go_simp
        exact hK _ _ ⟨updV xv 22 (.int .i64 CF), by simp [updV, e19, e21, e10], hb, hG.same gk.out g22.out _ rfl⟩
      · refine wpOp_step rfl (fun K' hK => ?_)
        simp [Region.binds] at hd
        have e17 : xv 17 = .int .i64 CF := hG.get g17.out (by simp [hd])
        have e22 : xv 22 = .int .i64 CF := hG.get g22.out (by simp [hd])
        have e10 : xv 10 = .bool true := hG.get g10.out (by simp [hd])
        clear hd hin
        go_simp
        exact hK _ _ ⟨updV xv 23 (.bool true), by simp [updV, e17, e22, e10], hb, hG.same gk.out g23.out _ rfl⟩
      · refine wpOp_step rfl (fun K' hK => ?_)
        simp [Region.binds] at hd
        have e10 : xv 10 = .bool true := hG.get g10.out (by simp [hd])
        have e23 : xv 23 = .bool true := hG.get g23.out (by simp [hd])
        clear hd hin
        go_simp
        exact hK _ _ ⟨updV xv 24 (.bool true), by simp [updV, e10, e23], hb, hG.same gk.out g24.out _ rfl⟩
      · refine wpOp_step rfl (fun K' hK => ?_)
        simp [Region.binds] at hd
        have e24 : xv 24 = .bool true := hG.get g24.out (by simp [hd])
        clear hd hin
        go_simp
        exact hK _ _ ⟨updV xv 25 (.bool true), by simp [updV, e24], hb, hG.same gk.out g25.out _ rfl⟩
      · refine wpOp_step rfl (fun K' hK => ?_)
        simp [Region.binds] at hd
        have e25 : xv 25 = .bool true := hG.get g25.out (by simp [hd])
        obtain ⟨c0, c1, c2, c3, c4⟩ := BX.out W hb
        clear hd hin
        go_simp
        exact hK _ _ ⟨updV xv 26 (.agg #[.int .i64 N, .int .i64 B, .int .i64 Q, .int .i64 E, .int .i64 F]), by simp [updV, e25], hb, hG.same gk.out g26.out _ rfl⟩
      · refine wpOp_step rfl (fun K' hK => ?_)
        simp [Region.binds] at hd
        have e25 : xv 25 = .bool true := hG.get g25.out (by simp [hd])
        clear hd hin
        go_simp
        exact hK _ _ ⟨updV xv 27 (Value.int IntKind.i64 (h + c)), by simp [updV, e25], hb, hG.same gk.out g27.out _ rfl⟩
      · refine wpOp_step rfl (fun K' hK => ?_)
        simp [Region.binds] at hd
        have e26 : xv 26 = .agg #[.int .i64 N, .int .i64 B, .int .i64 Q, .int .i64 E, .int .i64 F] := hG.get g26.out (by simp [hd])
        have e27 : xv 27 = Value.int IntKind.i64 (h + c) := hG.get g27.out (by simp [hd])
        have e25 : xv 25 = .bool true := hG.get g25.out (by simp [hd])
        clear hd hin
        go_simp
        refine (D5.out W hb).mono ?_
        rintro e w' ⟨v, rfl, hv, hb'⟩
        go_wp2_with fail
        exact ⟨updV xv 28 v, by simp [updV, e26, e27, e25], hb.trans (hb'.mono hb.size), hG.step gk.out hb' g28.out v hv⟩
      · refine wpOp_step rfl (fun K' hK => ?_)
        simp [Region.binds] at hd
        have e25 : xv 25 = .bool true := hG.get g25.out (by simp [hd])
        obtain ⟨c0, c1, c2, c3, c4⟩ := BX.out W hb
        clear hd hin
        go_simp
        exact hK _ _ ⟨updV xv 29 (.agg #[.int .i64 N, .int .i64 B, .int .i64 Q, .int .i64 E, .int .i64 F]), by simp [updV, e25], hb, hG.same gk.out g29.out _ rfl⟩
      · refine wpOp_step rfl (fun K' hK => ?_)
        simp [Region.binds] at hd
        have e25 : xv 25 = .bool true := hG.get g25.out (by simp [hd])
        clear hd hin
        go_simp
        exact hK _ _ ⟨updV xv 30 (Value.int IntKind.i64 h), by simp [updV, e25], hb, hG.same gk.out g30.out _ rfl⟩
      · refine wpOp_step rfl (fun K' hK => ?_)
        simp [Region.binds] at hd
        have e29 : xv 29 = .agg #[.int .i64 N, .int .i64 B, .int .i64 Q, .int .i64 E, .int .i64 F] := hG.get g29.out (by simp [hd])
        have e30 : xv 30 = Value.int IntKind.i64 h := hG.get g30.out (by simp [hd])
        have e25 : xv 25 = .bool true := hG.get g25.out (by simp [hd])
        clear hd hin
        go_simp
        refine (C5.out W hb).mono ?_
        rintro e w' ⟨v, rfl, hv, hb'⟩
        go_wp2_with fail
        exact ⟨updV xv 31 v, by simp [updV, e29, e30, e25], hb.trans (hb'.mono hb.size), hG.step gk.out hb' g31.out v hv⟩
      · refine wpOp_step rfl (fun K' hK => ?_)
        simp [Region.binds] at hd
        have e28 : xv 28 = .int .i64 (QN + A + (HF + CF)) := hG.get g28.out (by simp [hd])
        have e31 : xv 31 = .int .i64 (QN + A + HF) := hG.get g31.out (by simp [hd])
        have e25 : xv 25 = .bool true := hG.get g25.out (by simp [hd])
        clear hd hin
        go_simp
        exact hK _ _ ⟨updV xv 32 (.int .i64 CF), by simp [updV, e28, e31, e25], hb, hG.same gk.out g32.out _ rfl⟩
      · refine wpOp_step rfl (fun K' hK => ?_)
        simp [Region.binds] at hd
        have e25 : xv 25 = .bool true := hG.get g25.out (by simp [hd])
        clear hd hin
        go_simp
        exact hK _ _ ⟨updV xv 33 (Value.int IntKind.u16 c), by simp [updV, e25], hb, hG.same gk.out g33.out _ rfl⟩
      · refine wpOp_step rfl (fun K' hK => ?_)
        simp [Region.binds] at hd
        have e33 : xv 33 = Value.int IntKind.u16 c := hG.get g33.out (by simp [hd])
        have e25 : xv 25 = .bool true := hG.get g25.out (by simp [hd])
        have wr : IntKind.i64.wrap c = c := by rw [IntKind.wrap_i64]; omega
        clear hd hin
        go_simp
        exact hK _ _ ⟨updV xv 34 (.int .i64 c), by simp [updV, e33, e25], hb, hG.same gk.out g34.out _ rfl⟩
      · refine wpOp_step rfl (fun K' hK => ?_)
        simp [Region.binds] at hd
        have e25 : xv 25 = .bool true := hG.get g25.out (by simp [hd])
        clear hd hin
        go_simp
        exact hK _ _ ⟨updV xv 35 (.pointer (some ⟨q, 4, none⟩)), by simp [updV, e25], hb, hG.same gk.out g35.out _ rfl⟩
      · refine wpOp_step rfl (fun K' hK => ?_)
        simp [Region.binds] at hd
        have e35 : xv 35 = .pointer (some ⟨q, 4, none⟩) := hG.get g35.out (by simp [hd])
        have e25 : xv 25 = .bool true := hG.get g25.out (by simp [hd])
        obtain ⟨c0, c1, c2, c3, c4⟩ := BX.out W hb
        clear hd hin
        go_simp
        exact hK _ _ ⟨updV xv 36 (.int .i64 F), by simp [updV, e35, e25], hb, hG.same gk.out g36.out _ rfl⟩
      · refine wpOp_step rfl (fun K' hK => ?_)
        simp [Region.binds] at hd
        have e34 : xv 34 = .int .i64 c := hG.get g34.out (by simp [hd])
        have e36 : xv 36 = .int .i64 F := hG.get g36.out (by simp [hd])
        have e25 : xv 25 = .bool true := hG.get g25.out (by simp [hd])
        have wr := E2.out
        clear hd hin
        go_simp
        exact hK _ _ ⟨updV xv 37 (.int .i64 CF), by simp [updV, e34, e36, e25], hb, hG.same gk.out g37.out _ rfl⟩
      · refine wpOp_step rfl (fun K' hK => ?_)
        simp [Region.binds] at hd
        have e32 : xv 32 = .int .i64 CF := hG.get g32.out (by simp [hd])
        have e37 : xv 37 = .int .i64 CF := hG.get g37.out (by simp [hd])
        have e25 : xv 25 = .bool true := hG.get g25.out (by simp [hd])
        clear hd hin
        go_simp
        exact hK _ _ ⟨updV xv 38 (.bool true), by simp [updV, e32, e37, e25], hb, hG.same gk.out g38.out _ rfl⟩
      · refine wpOp_step rfl (fun K' hK => ?_)
        simp [Region.binds] at hd
        have e25 : xv 25 = .bool true := hG.get g25.out (by simp [hd])
        have e38 : xv 38 = .bool true := hG.get g38.out (by simp [hd])
        clear hd hin
        go_simp
        exact hK _ _ ⟨updV xv 39 (.bool true), by simp [updV, e25, e38], hb, hG.same gk.out g39.out _ rfl⟩
      · refine wpOp_step rfl (fun K' hK => ?_)
        simp [Region.binds] at hd
        have e39 : xv 39 = .bool true := hG.get g39.out (by simp [hd])
        clear hd hin
        go_simp
        exact hK _ _ ⟨updV xv 40 (.bool true), by simp [updV, e39], hb, hG.same gk.out g40.out _ rfl⟩
      · refine wpOp_step rfl (fun K' hK => ?_)
        simp [Region.binds] at hd
        have e40 : xv 40 = .bool true := hG.get g40.out (by simp [hd])
        obtain ⟨c0, c1, c2, c3, c4⟩ := BX.out W hb
        clear hd hin
        go_simp
        exact hK _ _ ⟨updV xv 41 (.agg #[.int .i64 N, .int .i64 B, .int .i64 Q, .int .i64 E, .int .i64 F]), by simp [updV, e40], hb, hG.same gk.out g41.out _ rfl⟩
      · refine wpOp_step rfl (fun K' hK => ?_)
        simp [Region.binds] at hd
        have e40 : xv 40 = .bool true := hG.get g40.out (by simp [hd])
        clear hd hin
        go_simp
        exact hK _ _ ⟨updV xv 42 (Value.int IntKind.i64 h), by simp [updV, e40], hb, hG.same gk.out g42.out _ rfl⟩
      · refine wpOp_step rfl (fun K' hK => ?_)
        simp [Region.binds] at hd
        have e41 : xv 41 = .agg #[.int .i64 N, .int .i64 B, .int .i64 Q, .int .i64 E, .int .i64 F] := hG.get g41.out (by simp [hd])
        have e42 : xv 42 = Value.int IntKind.i64 h := hG.get g42.out (by simp [hd])
        have e40 : xv 40 = .bool true := hG.get g40.out (by simp [hd])
        clear hd hin
        go_simp
        refine (C3.out W hb).mono ?_
        rintro e w' ⟨v, rfl, hv, hb'⟩
        go_wp2_with fail
        exact ⟨updV xv 43 v, by simp [updV, e41, e42, e40], hb.trans (hb'.mono hb.size), hG.step gk.out hb' g43.out v hv⟩
      · refine wpOp_step rfl (fun K' hK => ?_)
        simp [Region.binds] at hd
        have e40 : xv 40 = .bool true := hG.get g40.out (by simp [hd])
        obtain ⟨c0, c1, c2, c3, c4⟩ := BX.out W hb
        clear hd hin
        go_simp
        exact hK _ _ ⟨updV xv 44 (.agg #[.int .i64 N, .int .i64 B, .int .i64 Q, .int .i64 E, .int .i64 F]), by simp [updV, e40], hb, hG.same gk.out g44.out _ rfl⟩
      · refine wpOp_step rfl (fun K' hK => ?_)
        simp [Region.binds] at hd
        have e44 : xv 44 = .agg #[.int .i64 N, .int .i64 B, .int .i64 Q, .int .i64 E, .int .i64 F] := hG.get g44.out (by simp [hd])
        have e40 : xv 40 = .bool true := hG.get g40.out (by simp [hd])
        clear hd hin
        go_simp
        refine (C1.out W hb).mono ?_
        rintro e w' ⟨v, rfl, hv, hb'⟩
        go_wp2_with fail
        exact ⟨updV xv 45 v, by simp [updV, e44, e40], hb.trans (hb'.mono hb.size), hG.step gk.out hb' g45.out v hv⟩
      · refine wpOp_step rfl (fun K' hK => ?_)
        simp [Region.binds] at hd
        have e43 : xv 43 = .int .i64 (N + 2 * A + h + 1) := hG.get g43.out (by simp [hd])
        have e45 : xv 45 = .int .i64 (N + A) := hG.get g45.out (by simp [hd])
        have e40 : xv 40 = .bool true := hG.get g40.out (by simp [hd])
        clear hd hin
        go_simp
        exact hK _ _ ⟨updV xv 46 (.bool true), by simp [updV, e43, e45, e40], hb, hG.same gk.out g46.out _ rfl⟩
      · refine wpOp_step rfl (fun K' hK => ?_)
        simp [Region.binds] at hd
        have e40 : xv 40 = .bool true := hG.get g40.out (by simp [hd])
        have e46 : xv 46 = .bool true := hG.get g46.out (by simp [hd])
        clear hd hin
        go_simp
        exact hK _ _ ⟨updV xv 47 (.bool true), by simp [updV, e40, e46], hb, hG.same gk.out g47.out _ rfl⟩
      · refine wpOp_step rfl (fun K' hK => ?_)
        simp [Region.binds] at hd
        have e47 : xv 47 = .bool true := hG.get g47.out (by simp [hd])
        clear hd hin
        go_simp
        exact hK _ _ ⟨updV xv 48 (.bool true), by simp [updV, e47], hb, hG.same gk.out g48.out _ rfl⟩
      · refine wpOp_step rfl (fun K' hK => ?_)
        simp [Region.binds] at hd
        have e48 : xv 48 = .bool true := hG.get g48.out (by simp [hd])
        obtain ⟨c0, c1, c2, c3, c4⟩ := BX.out W hb
        clear hd hin
        go_simp
        exact hK _ _ ⟨updV xv 49 (.agg #[.int .i64 N, .int .i64 B, .int .i64 Q, .int .i64 E, .int .i64 F]), by simp [updV, e48], hb, hG.same gk.out g49.out _ rfl⟩
      · refine wpOp_step rfl (fun K' hK => ?_)
        simp [Region.binds] at hd
        have e48 : xv 48 = .bool true := hG.get g48.out (by simp [hd])
        clear hd hin
        go_simp
        exact hK _ _ ⟨updV xv 50 (Value.int IntKind.i64 h), by simp [updV, e48], hb, hG.same gk.out g50.out _ rfl⟩
      · refine wpOp_step rfl (fun K' hK => ?_)
        simp [Region.binds] at hd
        have e49 : xv 49 = .agg #[.int .i64 N, .int .i64 B, .int .i64 Q, .int .i64 E, .int .i64 F] := hG.get g49.out (by simp [hd])
        have e50 : xv 50 = Value.int IntKind.i64 h := hG.get g50.out (by simp [hd])
        have e48 : xv 48 = .bool true := hG.get g48.out (by simp [hd])
        clear hd hin
        go_simp
        refine (C4.out W hb).mono ?_
        rintro e w' ⟨v, rfl, hv, hb'⟩
        go_wp2_with fail
        exact ⟨updV xv 51 v, by simp [updV, e49, e50, e48], hb.trans (hb'.mono hb.size), hG.step gk.out hb' g51.out v hv⟩
      · refine wpOp_step rfl (fun K' hK => ?_)
        simp [Region.binds] at hd
        have e48 : xv 48 = .bool true := hG.get g48.out (by simp [hd])
        obtain ⟨c0, c1, c2, c3, c4⟩ := BX.out W hb
        clear hd hin
        go_simp
        exact hK _ _ ⟨updV xv 52 (.agg #[.int .i64 N, .int .i64 B, .int .i64 Q, .int .i64 E, .int .i64 F]), by simp [updV, e48], hb, hG.same gk.out g52.out _ rfl⟩
      · refine wpOp_step rfl (fun K' hK => ?_)
        simp [Region.binds] at hd
        have e52 : xv 52 = .agg #[.int .i64 N, .int .i64 B, .int .i64 Q, .int .i64 E, .int .i64 F] := hG.get g52.out (by simp [hd])
        have e48 : xv 48 = .bool true := hG.get g48.out (by simp [hd])
        clear hd hin
        go_simp
        refine (C0.out W hb).mono ?_
        rintro e w' ⟨v, rfl, hv, hb'⟩
        go_wp2_with fail
        exact ⟨updV xv 53 v, by simp [updV, e52, e48], hb.trans (hb'.mono hb.size), hG.step gk.out hb' g53.out v hv⟩
      · refine wpOp_step rfl (fun K' hK => ?_)
        simp [Region.binds] at hd
        have e51 : xv 51 = .int .i64 (QN + A + HF) := hG.get g51.out (by simp [hd])
        have e53 : xv 53 = .int .i64 A := hG.get g53.out (by simp [hd])
        have e48 : xv 48 = .bool true := hG.get g48.out (by simp [hd])
        clear hd hin
        go_simp
        exact hK _ _ ⟨updV xv 54 (.bool true), by simp [updV, e51, e53, e48], hb, hG.same gk.out g54.out _ rfl⟩
      · refine wpOp_step rfl (fun K' hK => ?_)
        simp [Region.binds] at hd
        have e48 : xv 48 = .bool true := hG.get g48.out (by simp [hd])
        have e54 : xv 54 = .bool true := hG.get g54.out (by simp [hd])
        clear hd hin
        go_simp
        exact hK _ _ ⟨updV xv 55 (.bool true), by simp [updV, e48, e54], hb, hG.same gk.out g55.out _ rfl⟩
      · refine wpOp_step rfl (fun K' hK => ?_)
        simp [Region.binds] at hd
        have e55 : xv 55 = .bool true := hG.get g55.out (by simp [hd])
        clear hd hin
        go_simp
        exact hK _ _ ⟨updV xv 56 (.bool true), by simp [updV, e55], hb, hG.same gk.out g56.out _ rfl⟩
      · refine wpOp_step rfl (fun K' hK => ?_)
        simp [Region.binds] at hd
        have e56 : xv 56 = .bool true := hG.get g56.out (by simp [hd])
        obtain ⟨c0, c1, c2, c3, c4⟩ := BX.out W hb
        clear hd hin
        go_simp
        exact hK _ _ ⟨updV xv 57 (.agg #[.int .i64 N, .int .i64 B, .int .i64 Q, .int .i64 E, .int .i64 F]), by simp [updV, e56], hb, hG.same gk.out g57.out _ rfl⟩
      · refine wpOp_step rfl (fun K' hK => ?_)
        simp [Region.binds] at hd
        have e57 : xv 57 = .agg #[.int .i64 N, .int .i64 B, .int .i64 Q, .int .i64 E, .int .i64 F] := hG.get g57.out (by simp [hd])
        have e56 : xv 56 = .bool true := hG.get g56.out (by simp [hd])
        clear hd hin
        go_simp
        refine (C2.out W hb).mono ?_
        rintro e w' ⟨v, rfl, hv, hb'⟩
        go_wp2_with fail
        exact ⟨updV xv 58 v, by simp [updV, e57, e56], hb.trans (hb'.mono hb.size), hG.step gk.out hb' g58.out v hv⟩
      · refine wpOp_step rfl (fun K' hK => ?_)
        simp [Region.binds] at hd
        have e56 : xv 56 = .bool true := hG.get g56.out (by simp [hd])
        clear hd hin
        go_simp
        exact hK _ _ ⟨updV xv 59 (.pointer (some ⟨q, 0, none⟩)), by simp [updV, e56], hb, hG.same gk.out g59.out _ rfl⟩
      · refine wpOp_step rfl (fun K' hK => ?_)
        simp [Region.binds] at hd
        have e59 : xv 59 = .pointer (some ⟨q, 0, none⟩) := hG.get g59.out (by simp [hd])
        have e56 : xv 56 = .bool true := hG.get g56.out (by simp [hd])
        obtain ⟨c0, c1, c2, c3, c4⟩ := BX.out W hb
        clear hd hin
        go_simp
        exact hK _ _ ⟨updV xv 60 (.int .i64 N), by simp [updV, e59, e56], hb, hG.same gk.out g60.out _ rfl⟩
      · refine wpOp_step rfl (fun K' hK => ?_)
        simp [Region.binds] at hd
        have e58 : xv 58 = .int .i64 P := hG.get g58.out (by simp [hd])
        have e60 : xv 60 = .int .i64 N := hG.get g60.out (by simp [hd])
        have e56 : xv 56 = .bool true := hG.get g56.out (by simp [hd])
        clear hd hin
        go_simp
        exact hK _ _ ⟨updV xv 61 (.bool true), by simp [updV, e58, e60, e56], hb, hG.same gk.out g61.out _ rfl⟩
      · refine wpOp_step rfl (fun K' hK => ?_)
        simp [Region.binds] at hd
        have e56 : xv 56 = .bool true := hG.get g56.out (by simp [hd])
        have e61 : xv 61 = .bool true := hG.get g61.out (by simp [hd])
        clear hd hin
        go_simp
        exact hK _ _ ⟨updV xv 62 (.bool true), by simp [updV, e56, e61], hb, hG.same gk.out g62.out _ rfl⟩
      · refine wpOp_step rfl (fun K' hK => ?_)
        simp [Region.binds] at hd
        have e62 : xv 62 = .bool true := hG.get g62.out (by simp [hd])
        clear hd hin
        go_simp
        exact hK _ _ ⟨updV xv 63 (.bool true), by simp [updV, e62], hb, hG.same gk.out g63.out _ rfl⟩
    · rintro listed ac W ⟨xv, rfl, hb, hG⟩ hall
      have e63 : xv 63 = .bool true := hG.get g63.out (hall 63 (by decide))
      have XW : Hid (Below w3.heap.size w3 W) := hb
      clear hall hG hb gk g0 g1 g2 g3 g4 g5 g6 g7 g8 g9 g10 g11 g12 g13 g14 g15 g16 g17 g18 g19 g20 g21 g22 g23 g24 g25 g26 g27 g28 g29 g30 g31 g32 g33 g34 g35 g36 g37 g38 g39 g40 g41 g42 g43 g44 g45 g46 g47 g48 g49 g50 g51 g52 g53 g54 g55 g56 g57 g58 g59 g60 g61 g62 g63
      rw [e63]
      clear e63
      have B5 : Hid (Below w.heap.size w W) := below_mid B3.out XW.out
      go_wp2
      go_ret
      exact ⟨rfl, B5.out⟩
  · go_wp2_with fail
    refine (rmay_no N B Q E F _ hm).mono ?_
    rintro e w2 ⟨rfl, hb2⟩
    have B2 : Hid (Below w.heap.size w w2) := below_mid B1.out hb2
    clear hb2 B1 F1 c0 c1 c2 c3 c4 hm
    go_wp2
    go_ret
    exact ⟨rfl, B2.out⟩

end Go.Proofs.Ytijonjiioeahhaa
