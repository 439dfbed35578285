/-
  Texts that lie together: ParA ParB.
-/
import Derived.Test.YtkckbeekehecnaaRows
import Derived.Test.YtkckbeekehecnaaZBase
namespace Go.Proofs.Ytkckbeekehecnaa

section
/-
  The walks of package params: within, Check; and of the document's May.
-/
open Go.RowKit
set_option linter.unusedVariables false

/-- Params that may be. -/
def May (N B Q E F : Int) : Prop := (1 ≤ N ∧ N ≤ 1048576) ∧ (1 ≤ B ∧ B ≤ 65535) ∧ (1 ≤ Q ∧ Q ≤ 8) ∧ (1 ≤ E ∧ E ≤ 1000) ∧ (2 ≤ F ∧ F ≤ 4096) ∧ 1000 < F * E

def decMay (N B Q E F : Int) : Decidable (May N B Q E F) := inferInstanceAs (Decidable ((1 ≤ N ∧ N ≤ 1048576) ∧ (1 ≤ B ∧ B ≤ 65535) ∧ (1 ≤ Q ∧ Q ≤ 8) ∧ (1 ≤ E ∧ E ≤ 1000) ∧ (2 ≤ F ∧ F ≤ 4096) ∧ 1000 < F * E))

theorem mul_range {E F : Int} (hE : 1 ≤ E ∧ E ≤ 1000) (hF : 2 ≤ F ∧ F ≤ 4096) : 0 ≤ F * E ∧ F * E ≤ 4096000 := by
  have h1 : F * E ≤ 4096 * 1000 := Int.mul_le_mul hF.2 hE.2 (by omega) (by omega)
  have h2 : 0 ≤ F * E := Int.mul_nonneg (by omega) (by omega)
  omega

/-- The error's number of Params. -/
def mayE (N B Q E F : Int) : Int := @ite Int (May N B Q E F) (decMay N B Q E F) 0 1

theorem mayE_no {N B Q E F : Int} (h : ¬ May N B Q E F) : mayE N B Q E F = 1 := if_neg h
theorem mayE_yes {N B Q E F : Int} (h : May N B Q E F) : mayE N B Q E F = 0 := if_pos h

end

section
/-
  The walks of package params: Auxiliary, All, Most, places, Blocks, Edges, Work; the document's May and Auxiliary.
-/
open Go.RowKit
set_option linter.unusedVariables false

/-- How many auxiliary blocks. -/
def aux (N Q E : Int) : Int := max Q ((55 * Q * E * N + 99999) / 100000)

theorem share_range {N Q E : Int} (hN : 1 ≤ N ∧ N ≤ 1048576) (hQ : 1 ≤ Q ∧ Q ≤ 8) (hE : 1 ≤ E ∧ E ≤ 1000) :
    (0 ≤ 55 * Q * E ∧ 55 * Q * E ≤ 440000) ∧ (0 ≤ 55 * Q * E * N ∧ 55 * Q * E * N ≤ 461373440000) := by
  have h1 : 55 * Q * E ≤ 440 * 1000 := Int.mul_le_mul (by omega) hE.2 (by omega) (by omega)
  have h2 : 0 ≤ 55 * Q * E := Int.mul_nonneg (by omega) (by omega)
  have h3 : 55 * Q * E * N ≤ 440000 * 1048576 := Int.mul_le_mul (by omega) hN.2 (by omega) (by omega)
  have h4 : 0 ≤ 55 * Q * E * N := Int.mul_nonneg (by omega) (by omega)
  omega

theorem aux_range {N Q E : Int} (hN : 1 ≤ N ∧ N ≤ 1048576) (hQ : 1 ≤ Q ∧ Q ≤ 8) (hE : 1 ≤ E ∧ E ≤ 1000) : Q ≤ aux N Q E ∧ aux N Q E ≤ 5000000 := by
  have h := share_range hN hQ hE
  unfold aux
  omega

theorem pair_range {a b A B : Int} (ha : 0 ≤ a ∧ a ≤ A) (hb : 0 ≤ b ∧ b ≤ B) : 0 ≤ a * b ∧ a * b ≤ A * B :=
  ⟨Int.mul_nonneg ha.1 hb.1, Int.mul_le_mul ha.2 hb.2 hb.1 (Int.le_trans ha.1 ha.2)⟩

/-- A block of five numbers, as a box lies. -/
def Five (W : World) (b : Nat) (N B Q E F : Int) : Prop := W.cell? ⟨b, 0, none⟩ = some (.int .i64 N) ∧ W.cell? ⟨b, 1, none⟩ = some (.int .i64 B) ∧ W.cell? ⟨b, 2, none⟩ = some (.int .i64 Q) ∧ W.cell? ⟨b, 3, none⟩ = some (.int .i64 E) ∧ W.cell? ⟨b, 4, none⟩ = some (.int .i64 F)

theorem Five.below {W W' : World} {b : Nat} {N B Q E F : Int} (h : Five W b N B Q E F) (hb : Below W.heap.size W W') : Five W' b N B Q E F := by
  obtain ⟨h0, h1, h2, h3, h4⟩ := h
  exact ⟨(hb.cell (cell_block_lt h0)).trans h0, (hb.cell (cell_block_lt h1)).trans h1, (hb.cell (cell_block_lt h2)).trans h2, (hb.cell (cell_block_lt h3)).trans h3, (hb.cell (cell_block_lt h4)).trans h4⟩

theorem five_new (w : World) (t : TypeId) (N B Q E F : Int) : Five (w.alloc (.cells #[.int .i64 N, .int .i64 B, .int .i64 Q, .int .i64 E, .int .i64 F] t)) w.heap.size N B Q E F := by
  refine ⟨?_, ?_, ?_, ?_, ?_⟩ <;> simp

theorem below_mid {w w1 W : World} (h : Below w.heap.size w w1) (h2 : Below w1.heap.size w1 W) : Below w.heap.size w W := h.trans (h2.mono h.size)

theorem most_range {N B : Int} (hN : 1 ≤ N ∧ N ≤ 1048576) (hB : 1 ≤ B ∧ B ≤ 65535) : IntKind.i64.wrap (N * B) = N * B ∧ N ≤ N * B ∧ N * B ≤ 68718428160 := by
  have h1 := pair_range (a := N) (b := B) (A := 1048576) (B := 65535) (by omega) (by omega)
  have h2 : N * 1 ≤ N * B := Int.mul_le_mul_of_nonneg_left hB.1 (by omega)
  refine ⟨?_, by omega, by omega⟩
  rw [IntKind.wrap_i64]
  omega

end

end Go.Proofs.Ytkckbeekehecnaa
