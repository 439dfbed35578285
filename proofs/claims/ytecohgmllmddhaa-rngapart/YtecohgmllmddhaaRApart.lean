/-
  RngApart.
-/
import Derived.Test.YtecohgmllmddhaaRngS
namespace Go.Proofs.Ytecohgmllmddhaa
open Go.RowKit

theorem rngApart_all (x y : Int) (w : World) (h : (Lit.int .u64 x).wf = true) (k : (Lit.int .u64 y).wf = true) : Calls Try.prog 7 #[.int .u64 x, .int .u64 y] w fun e w' => e = .returned (.bool true) ∧ Below w.heap.size w w' := rngApart_law x y w h k

end Go.Proofs.Ytecohgmllmddhaa
