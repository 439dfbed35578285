/-
  degree: share, Below, Most, New; the document's Share and Below.
-/
import Derived.Test.YtbnedpjfgadkkaaDegB
import Derived.Test.YtbnedpjfgadkkaaDegN
import Derived.Test.YtbnedpjfgadkkaaParA
import Derived.Test.YtbnedpjfgadkkaaLStruct
namespace Go.Proofs.Ytbnedpjfgadkkaa
open Go.RowKit
set_option linter.unusedVariables false

/-- A table at a block: F and Eps. -/
structure IsDT (w : World) (a F E : Nat) : Prop where
  c0 : w.cell? ⟨a, 0, none⟩ = some (.int .i64 (F : Int))
  c1 : w.cell? ⟨a, 1, none⟩ = some (.int .i64 (E : Int))

theorem IsDT.kept {w w' : World} {a F E : Nat} (h : IsDT w a F E) (hk : w'.heap[a]? = w.heap[a]?) : IsDT w' a F E :=
  ⟨(World.cell?_of_block (a := ⟨a, 0, none⟩) hk).trans h.c0, (World.cell?_of_block (a := ⟨a, 1, none⟩) hk).trans h.c1⟩
theorem IsDT.below {w w' : World} {a F E : Nat} (h : IsDT w a F E) (hb : Below w.heap.size w w') : IsDT w' a F E := h.kept (hb.block a (cell_block_lt h.c0))
theorem IsDT.keeps {w w' : World} {a F E : Nat} {S : Nat → Prop} (h : IsDT w a F E) (hb : KeepsBut S w w') (hS : ¬ S a) : IsDT w' a F E := h.kept (hb.block a (cell_block_lt h.c0) hS)

set_option maxRecDepth 100000 in
set_option maxHeartbeats 1000000 in
/-- share. -/
theorem dshare_any (a F E i : Nat) (w : World) (h : IsDT w a F E) (hm : MayD F E) (h1 : 1 ≤ i) (h2 : i < F) :
    Calls Try.prog 50 #[.pointer (some ⟨a, 0, none⟩), .int .i64 (i : Nat)] w fun e w' => e = .returned (.tuple #[.int .u64 (part F E i : Nat), .int .u64 (whole F E i : Nat)]) ∧ Below w.heap.size w w' := by
  have h0 := h.c0
  have h01 := h.c1
  obtain ⟨x1, x2, f1, x3, x4, y1, y2, y3, i1, y4, z1, z2, z3, R⟩ := reck hm h1 h2
  have hf4 := hm.f4
  have he2 := hm.e2
  have b1 := part_lt hm h1 h2
  have g1 := u64w_mul R.ex1 (by have := R.bx1; omega)
  have g2 : IntKind.u64.wrap ((x1 : Int) - 1000) = x2 := u64w_of (by have := R.ex2; omega) (by have := R.ex2; have := R.bx1; omega)
  have g3 := u64w_sub1 R.ef1 (by have := R.ef1; omega)
  have g4 := u64w_mul R.ex3 (by have := R.bx3; omega)
  have g5 := u64w_mul R.ex4 (by have := R.bx4; omega)
  have g6 : IntKind.u64.wrap ((F : Int) + 1) = y1 := u64w_of (by have := R.ey1; omega) (by have := R.ey1; omega)
  have g7 := u64w_lmul (K := 1000) rfl R.ey2 (by have := R.ey1; have := R.ey2; omega)
  have g8 := u64w_mul R.ey3 (by have := R.by3; omega)
  have g9 := u64w_sub1 R.ei1 (by have := R.ei1; omega)
  have g10 := u64w_mul R.ey4 (by have := R.by4; omega)
  have g11 := u64w_add R.ep (by have := R.bz; omega)
  have g12 : IntKind.u64.wrap (1000 + (E : Int)) = z1 := u64w_of (by have := R.ez1; omega) (by have := R.ez1; omega)
  have g13 := u64w_mul R.ez2 (by have := R.bz2; omega)
  have g14 := u64w_mul R.ez3 (by have := R.bz3; omega)
  have g15 := u64w_mul R.ez (by have := R.bz; omega)
  have g16 := u64w F (by omega)
  have g17 := u64w E (by omega)
  have g18 := u64w i (by omega)
  generalize part F E i = P at *
  generalize whole F E i = W at *
  clear R b1 hf4 he2 h1 h2 hm h
  go_enter Try.func50, Try.ntmps50
  go_wp2_with fail
  go_region
  go_wp2
  go_ret2
  exact ⟨rfl, below0 _⟩

end Go.Proofs.Ytbnedpjfgadkkaa
