/-
  The table of the remainders of all bytes, as crc.New lays it.
-/
import Derived.Test.YtecohgmllmddhaaCPrim
import Derived.Deep.RegionWith
import Derived.Deep.CutRange
namespace Go.Proofs.Ytecohgmllmddhaa
open Go.RowKit

/-- The remainder of one byte with 32 noughts behind it. -/
def rem8 (i : Nat) : Nat := (MathA.Ln 8 (BitVec.ofNat 32 (i * 16777216))).toNat

/-- The table, its first k cells filled. -/
def tab (k : Nat) : Array Value := (Array.range 256).map fun i => .int .u32 (if i < k then (rem8 i : Int) else 0)


theorem zeroT (w : World) : Sem.run Try.prog (zeroValue 111) w = .ok (.agg (tab 0)) w := by kernel_rfl

end Go.Proofs.Ytecohgmllmddhaa
