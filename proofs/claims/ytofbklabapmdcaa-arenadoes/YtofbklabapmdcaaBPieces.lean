/-
  The walk of the statement BlockPieces.
-/
import Derived.Test.YtofbklabapmdcaaBlkS
import Derived.Test.YtofbklabapmdcaaLSlice
import Derived.Test.YtofbklabapmdcaaLCopy
import Derived.Test.YtofbklabapmdcaaLPh
import Derived.Deep.QuietTactic
import Derived.BigQuiet
import Derived.Deep.RegionWith
import Derived.Deep.CutRange
namespace Go.Proofs.Ytofbklabapmdcaa
open Go.RowKit
set_option linter.unusedVariables false

theorem slice_mid_at (q o n c T S : Nat) (h : T + S ≤ c) (h2 : T < c) (W : World) : (Instr.slice 28 (.slice (some ⟨q, o, none⟩) n c) (some (.int .i64 T)) (some (.int .i64 ((T : Int) + (S : Int)))) none).run Try.prog W = .ok (.slice (some ⟨q, o + T, none⟩) S (c - T)) W := by
  rw [slice_mid W _ n c T S h, if_neg (by omega)]
  simp only [Option.map_some, Nat.mul_one, Addr.add_lit]

theorem Bs.mid_at {w : World} {q o n c : Nat} {l : List UInt8} (h : Bs w (.slice (some ⟨q, o, none⟩) n c) l) (T S : Nat) (hT : T + S ≤ n) (h2 : T < c) : Bs w (.slice (some ⟨q, o + T, none⟩) S (c - T)) ((l.drop T).take S) := by
  have h1 := h.mid T S hT
  rw [if_neg (by omega)] at h1
  simpa only [Option.map_some, Nat.mul_one, Addr.add_lit] using h1

theorem wrap_i64 (x : Int) (h1 : -9223372036854775808 ≤ x) (h2 : x ≤ 9223372036854775807) : IntKind.i64.wrap x = x := by
  simp [IntKind.wrap, IntKind.bits, IntKind.signed]
  omega

theorem xorTo_parts (x b : List UInt8) (A K : Nat) (hb : b.length = x.length) (h : A + K ≤ x.length) :
    xorTo x b A = xorL (x.take A) (b.take A) ++ ((x.drop A).take K ++ x.drop (A + K)) ∧ xorTo x b (A + K) = xorL (x.take A) (b.take A) ++ (xorL ((x.drop A).take K) ((b.drop A).take K) ++ x.drop (A + K)) := by
  constructor
  · unfold xorTo
    rw [← List.drop_drop, List.take_append_drop]
  · unfold xorTo
    rw [List.take_add, List.take_add]
    unfold xorL
    rw [List.zipWith_append (by simp; omega), List.append_assoc]

end Go.Proofs.Ytofbklabapmdcaa
