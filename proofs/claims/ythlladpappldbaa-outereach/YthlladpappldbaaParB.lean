/-
  The walks of package params: Auxiliary, All, Most, places, Blocks, Edges, Work; the document's May and Auxiliary.
-/
import Derived.Test.YthlladpappldbaaParA
import Derived.Test.YthlladpappldbaaLSlice
import Derived.Test.YthlladpappldbaaLOrd
namespace Go.Proofs.Ythlladpappldbaa
open Go.RowKit
set_option linter.unusedVariables false

/-- How many auxiliary blocks. -/
def aux (N Q E : Int) : Int := max Q ((55 * Q * E * N + 99999) / 100000)

theorem share_range {N Q E : Int} (hN : 1 ≤ N ∧ N ≤ 1048576) (hQ : 1 ≤ Q ∧ Q ≤ 8) (hE : 1 ≤ E ∧ E ≤ 1000) :
    (0 ≤ 55 * Q * E ∧ 55 * Q * E ≤ 440000) ∧ (0 ≤ 55 * Q * E * N ∧ 55 * Q * E * N ≤ 461373440000) := by
  have h1 : 55 * Q * E ≤ 440 * 1000 := Int.mul_le_mul (by omega) hE.2 (by omega) (by omega)
  have h2 : 0 ≤ 55 * Q * E := Int.mul_nonneg (by omega) (by omega)
  have h3 : 55 * Q * E * N ≤ 440000 * 1048576 := Int.mul_le_mul (by omega) hN.2 (by omega) (by omega)
  have h4 : 0 ≤ 55 * Q * E * N := Int.mul_nonneg (by omega) (by omega)
  omega

theorem aux_range {N Q E : Int} (hN : 1 ≤ N ∧ N ≤ 1048576) (hQ : 1 ≤ Q ∧ Q ≤ 8) (hE : 1 ≤ E ∧ E ≤ 1000) : Q ≤ aux N Q E ∧ aux N Q E ≤ 5000000 := by
  have h := share_range hN hQ hE
  unfold aux
  omega

theorem pair_range {a b A B : Int} (ha : 0 ≤ a ∧ a ≤ A) (hb : 0 ≤ b ∧ b ≤ B) : 0 ≤ a * b ∧ a * b ≤ A * B :=
  ⟨Int.mul_nonneg ha.1 hb.1, Int.mul_le_mul ha.2 hb.2 hb.1 (Int.le_trans ha.1 ha.2)⟩

/-- A block of five numbers, as a box lies. -/
def Five (W : World) (b : Nat) (N B Q E F : Int) : Prop := W.cell? ⟨b, 0, none⟩ = some (.int .i64 N) ∧ W.cell? ⟨b, 1, none⟩ = some (.int .i64 B) ∧ W.cell? ⟨b, 2, none⟩ = some (.int .i64 Q) ∧ W.cell? ⟨b, 3, none⟩ = some (.int .i64 E) ∧ W.cell? ⟨b, 4, none⟩ = some (.int .i64 F)

theorem Five.below {W W' : World} {b : Nat} {N B Q E F : Int} (h : Five W b N B Q E F) (hb : Below W.heap.size W W') : Five W' b N B Q E F := by
  obtain ⟨h0, h1, h2, h3, h4⟩ := h
  exact ⟨(hb.cell (cell_block_lt h0)).trans h0, (hb.cell (cell_block_lt h1)).trans h1, (hb.cell (cell_block_lt h2)).trans h2, (hb.cell (cell_block_lt h3)).trans h3, (hb.cell (cell_block_lt h4)).trans h4⟩

theorem five_new (w : World) (t : TypeId) (N B Q E F : Int) : Five (w.alloc (.cells #[.int .i64 N, .int .i64 B, .int .i64 Q, .int .i64 E, .int .i64 F] t)) w.heap.size N B Q E F := by
  refine ⟨?_, ?_, ?_, ?_, ?_⟩ <;> simp

set_option maxRecDepth 100000 in
set_option maxHeartbeats 1000000 in
/-- AUXILIARY. -/
theorem aux_any (N B Q E F : Int) (w : World) (hN : 1 ≤ N ∧ N ≤ 1048576) (hQ : 1 ≤ Q ∧ Q ≤ 8) (hE : 1 ≤ E ∧ E ≤ 1000) : Calls Try.prog 42 #[.agg #[.int .i64 N, .int .i64 B, .int .i64 Q, .int .i64 E, .int .i64 F]] w fun e w' => e = .returned (.int .i64 (aux N Q E)) ∧ Below w.heap.size w w' := by
  have hr := share_range hN hQ hE
  obtain ⟨X, hX⟩ : ∃ X, 55 * Q * E = X := ⟨_, rfl⟩
  rw [hX] at hr
  obtain ⟨Y, hY⟩ : ∃ Y, X * N = Y := ⟨_, rfl⟩
  rw [hY] at hr
  obtain ⟨⟨r1, r2⟩, r3, r4⟩ := hr
  have k1 : IntKind.i64.wrap (55 * Q * E) = X := by rw [hX, IntKind.wrap_i64]; omega
  have k2 : IntKind.i64.wrap (X * N) = Y := by rw [hY, IntKind.wrap_i64]; omega
  have hA : Hid (aux N Q E = max Q ((Y + 99999) / 100000)) := by unfold Hid aux; rw [hX, hY]
  clear hX hY hN hE
  obtain ⟨hQ1, hQ2⟩ := hQ
  have hmx := max2 Q ((Y + 99999) / 100000)
  rw [hA.out]
  clear hA
  go_enter Try.func42, Try.ntmps42
  go_wp2
  all_goals
    go_ret
    exact ⟨ret_int (by omega), below_alloc _ _⟩

theorem below_mid {w w1 W : World} (h : Below w.heap.size w w1) (h2 : Below w1.heap.size w1 W) : Below w.heap.size w W := h.trans (h2.mono h.size)

theorem most_range {N B : Int} (hN : 1 ≤ N ∧ N ≤ 1048576) (hB : 1 ≤ B ∧ B ≤ 65535) : IntKind.i64.wrap (N * B) = N * B ∧ N ≤ N * B ∧ N * B ≤ 68718428160 := by
  have h1 := pair_range (a := N) (b := B) (A := 1048576) (B := 65535) (by omega) (by omega)
  have h2 : N * 1 ≤ N * B := Int.mul_le_mul_of_nonneg_left hB.1 (by omega)
  refine ⟨?_, by omega, by omega⟩
  rw [IntKind.wrap_i64]
  omega

set_option maxRecDepth 100000 in
set_option maxHeartbeats 1000000 in
/-- The document's Auxiliary. -/
theorem raux_any (N B Q E F : Int) (w : World) (hN : 1 ≤ N ∧ N ≤ 1048576) (hQ : 1 ≤ Q ∧ Q ≤ 8) (hE : 1 ≤ E ∧ E ≤ 1000) : Calls Try.prog 27 #[.agg #[.int .i64 N, .int .i64 B, .int .i64 Q, .int .i64 E, .int .i64 F]] w fun e w' => e = .returned (.int .i64 (aux N Q E)) ∧ Below w.heap.size w w' := by
  have hr := share_range hN hQ hE
  obtain ⟨X, hX⟩ : ∃ X, 55 * Q * E = X := ⟨_, rfl⟩
  rw [hX] at hr
  obtain ⟨Y, hY⟩ : ∃ Y, X * N = Y := ⟨_, rfl⟩
  rw [hY] at hr
  obtain ⟨⟨r1, r2⟩, r3, r4⟩ := hr
  have k1 : IntKind.i64.wrap (55 * Q * E) = X := by rw [hX, IntKind.wrap_i64]; omega
  have k2 : IntKind.i64.wrap (X * N) = Y := by rw [hY, IntKind.wrap_i64]; omega
  have hA : Hid (aux N Q E = max Q ((Y + 99999) / 100000)) := by unfold Hid aux; rw [hX, hY]
  clear hX hY hN hE
  obtain ⟨hQ1, hQ2⟩ := hQ
  rw [hA.out]
  clear hA
  go_enter Try.func27, Try.ntmps27
  go_wp2
  all_goals
    go_ret
    exact ⟨ret_int (by omega), below_alloc _ _⟩

end Go.Proofs.Ythlladpappldbaa
