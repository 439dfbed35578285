/-
  EmitBlocks.
-/
import Derived.Test.YtkckbeekehecnaaGreatEmS
import Derived.Test.YtkckbeekehecnaaGreatLCase
import Derived.RegionTactic
namespace Go.Proofs.YtkckbeekehecnaaGreat
open Go.RowKit
set_option linter.unusedVariables false

/-- A case in a box. -/
def CaseC (W : World) (b : Nat) (N B Q E F S : Int) (ov iv : Value) : Prop := W.cell? ⟨b, 0, none⟩ = some (.int .i64 N) ∧ W.cell? ⟨b, 1, none⟩ = some (.int .i64 B) ∧ W.cell? ⟨b, 2, none⟩ = some (.int .i64 Q) ∧ W.cell? ⟨b, 3, none⟩ = some (.int .i64 E) ∧ W.cell? ⟨b, 4, none⟩ = some (.int .i64 F) ∧ W.cell? ⟨b, 5, none⟩ = some (.int .u64 S) ∧ W.cell? ⟨b, 6, none⟩ = some ov ∧ W.cell? ⟨b, 7, none⟩ = some iv
theorem CaseC.below {W W' : World} {b : Nat} {N B Q E F S : Int} {ov iv : Value} (h : CaseC W b N B Q E F S ov iv) (hb : Below W.heap.size W W') : CaseC W' b N B Q E F S ov iv := by
  obtain ⟨h0, h1, h2, h3, h4, h5, h6, h7⟩ := h
  exact ⟨(hb.cell (cell_block_lt h0)).trans h0, (hb.cell (cell_block_lt h1)).trans h1, (hb.cell (cell_block_lt h2)).trans h2, (hb.cell (cell_block_lt h3)).trans h3, (hb.cell (cell_block_lt h4)).trans h4, (hb.cell (cell_block_lt h5)).trans h5, (hb.cell (cell_block_lt h6)).trans h6, (hb.cell (cell_block_lt h7)).trans h7⟩
theorem case_new (w : World) (t : TypeId) (N B Q E F S : Int) (ov iv : Value) : CaseC (w.alloc (.cells #[.int .i64 N, .int .i64 B, .int .i64 Q, .int .i64 E, .int .i64 F, .int .u64 S, ov, iv] t)) w.heap.size N B Q E F S ov iv := by
  refine ⟨?_, ?_, ?_, ?_, ?_, ?_, ?_, ?_⟩ <;> simp
theorem pr_natE {N B Q E F : Int} (h : May N B Q E F) : ∃ n b q e f A : Nat, N = (n : Int) ∧ B = (b : Int) ∧ Q = (q : Int) ∧ E = (e : Int) ∧ F = (f : Int) ∧ PrOk (n : Int) (b : Int) (q : Int) (e : Int) (f : Int) n q A ∧ MayD f e := by
  obtain ⟨n, b, q, A, h1, h2, h3, hp⟩ := pr_nat h
  obtain ⟨e, f, rfl, rfl, hd⟩ := may_nat h
  exact ⟨n, b, q, e, f, A, h1, h2, h3, rfl, rfl, hp, hd⟩

end Go.Proofs.YtkckbeekehecnaaGreat
