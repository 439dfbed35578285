/-
  No cell of these rows narrows 'for every input' (looked for: loops, veiled, ifaces, maps, wideKeys, modest, calm, conditions, laid).
  DERIVED. THE GIVEN ROWS OF THIS SEAT. 7 by the template 'for every input the law returns true; each argument reads behind the call as it read before'; 0 by the template 'total and deterministic' (their statements: YtkckbeekehecnaaTotals.lean).
  GIVEN WITH THE SEED: the statements are not yours to turn. If you find one false, say at which input.
  Laid BY PROGRAM, IN A SANDBOX (cutbox-rows.mjs): the forced cells as the released guide's own fill.sh prints them over the translation 7a2a1f501aa69aad… (all of the seat's roots in one cut). By AI agents, Wed Nov 11 2026. No macro, syntax, notation, axiom, sorry.
-/
import Derived.Test.YtkckbeekehecnaaChecked
import GoSem.Claim
import GoSem.ClaimJoined
import GoSem.ClaimMapViews
import Derived.JoinedTies
import Derived.KernelRfl
namespace Go.Proofs.Ytkckbeekehecnaa
/- THE CELL 'sum', in the pinned program and in every row, IS THE sha256 OF THE DUMP (.gsa) THAT YtkckbeekehecnaaProg.lean LOADS. Nothing in Lean hashes anything: it is a label: what it is worth is what the hold of that sum in a sandbox is worth. -/
noncomputable def Try.pinned : Pinned := { name := "ytkckbeekehecnaa", sum := "7a2a1f501aa69aad98da912c6c552175cadb53a8234c2e9baf7621b89fe5b42d", checked := Try.checked }
namespace Rows
def none {H : Type} : Left H := { results := [], args := [] }

/-- 'almonrylaw17.BatchSolves': WHATEVER THE INPUT: true; the input reads as it did. -/
def batchSolvesSpec : ChangeSpec := { name := "batchSolves", fn := fun _ => fun
  | [d] => { results := [.lit (.bool true)], args := [d] }
  | _ => none }
def batchSolvesRow : OpenClaim := { program := "ytkckbeekehecnaa", sum := "7a2a1f501aa69aad98da912c6c552175cadb53a8234c2e9baf7621b89fe5b42d", func := "almonry/almonrylaw17.BatchSolves", spec := "batchSolves", unfollowed := true, recurses := true, apart := false }
def BatchSolvesSaid : Prop := batchSolvesRow.holds Try.pinned (OpenSpec.ofChange batchSolvesSpec)

/-- ITS FALSE NEIGHBOUR: 'it returns false'. Refute it at one input. -/
def batchSolvesWrong : ChangeSpec := { name := "batchSolves", fn := fun _ => fun
  | [d] => { results := [.lit (.bool false)], args := [d] }
  | _ => none }
def BatchSolvesWrongFalsely : Prop := batchSolvesRow.holds Try.pinned (OpenSpec.ofChange batchSolvesWrong)

/-- 'almonrylaw17.BatchOdd': WHATEVER THE INPUT: true; the input reads as it did. -/
def batchOddSpec : ChangeSpec := { name := "batchOdd", fn := fun _ => fun
  | [d1, d2, d3] => { results := [.lit (.bool true)], args := [d1, d2, d3] }
  | _ => none }
def batchOddRow : OpenClaim := { program := "ytkckbeekehecnaa", sum := "7a2a1f501aa69aad98da912c6c552175cadb53a8234c2e9baf7621b89fe5b42d", func := "almonry/almonrylaw17.BatchOdd", spec := "batchOdd", unfollowed := true, recurses := true, apart := false }
def BatchOddSaid : Prop := batchOddRow.holds Try.pinned (OpenSpec.ofChange batchOddSpec)

/-- ITS FALSE NEIGHBOUR: 'it returns false'. Refute it at one input. -/
def batchOddWrong : ChangeSpec := { name := "batchOdd", fn := fun _ => fun
  | [d1, d2, d3] => { results := [.lit (.bool false)], args := [d1, d2, d3] }
  | _ => none }
def BatchOddWrongFalsely : Prop := batchOddRow.holds Try.pinned (OpenSpec.ofChange batchOddWrong)

/-- 'almonrylaw17.BatchOrder': WHATEVER THE INPUT: true; the input reads as it did. -/
def batchOrderSpec : ChangeSpec := { name := "batchOrder", fn := fun _ => fun
  | [d1, d2] => { results := [.lit (.bool true)], args := [d1, d2] }
  | _ => none }
def batchOrderRow : OpenClaim := { program := "ytkckbeekehecnaa", sum := "7a2a1f501aa69aad98da912c6c552175cadb53a8234c2e9baf7621b89fe5b42d", func := "almonry/almonrylaw17.BatchOrder", spec := "batchOrder", unfollowed := true, recurses := true, apart := false }
def BatchOrderSaid : Prop := batchOrderRow.holds Try.pinned (OpenSpec.ofChange batchOrderSpec)

/-- ITS FALSE NEIGHBOUR: 'it returns false'. Refute it at one input. -/
def batchOrderWrong : ChangeSpec := { name := "batchOrder", fn := fun _ => fun
  | [d1, d2] => { results := [.lit (.bool false)], args := [d1, d2] }
  | _ => none }
def BatchOrderWrongFalsely : Prop := batchOrderRow.holds Try.pinned (OpenSpec.ofChange batchOrderWrong)

/-- 'almonrylaw17.BatchTwice': WHATEVER THE INPUT: true; the input reads as it did. -/
def batchTwiceSpec : ChangeSpec := { name := "batchTwice", fn := fun _ => fun
  | [d] => { results := [.lit (.bool true)], args := [d] }
  | _ => none }
def batchTwiceRow : OpenClaim := { program := "ytkckbeekehecnaa", sum := "7a2a1f501aa69aad98da912c6c552175cadb53a8234c2e9baf7621b89fe5b42d", func := "almonry/almonrylaw17.BatchTwice", spec := "batchTwice", unfollowed := true, recurses := true, apart := false }
def BatchTwiceSaid : Prop := batchTwiceRow.holds Try.pinned (OpenSpec.ofChange batchTwiceSpec)

/-- ITS FALSE NEIGHBOUR: 'it returns false'. Refute it at one input. -/
def batchTwiceWrong : ChangeSpec := { name := "batchTwice", fn := fun _ => fun
  | [d] => { results := [.lit (.bool false)], args := [d] }
  | _ => none }
def BatchTwiceWrongFalsely : Prop := batchTwiceRow.holds Try.pinned (OpenSpec.ofChange batchTwiceWrong)

/-- 'almonrylaw18.RippleDoes': WHATEVER THE INPUT: true; the input reads as it did. -/
def rippleDoesSpec : ChangeSpec := { name := "rippleDoes", fn := fun _ => fun
  | [d1, d2] => { results := [.lit (.bool true)], args := [d1, d2] }
  | _ => none }
def rippleDoesRow : OpenClaim := { program := "ytkckbeekehecnaa", sum := "7a2a1f501aa69aad98da912c6c552175cadb53a8234c2e9baf7621b89fe5b42d", func := "almonry/almonrylaw18.RippleDoes", spec := "rippleDoes", apart := false }
def RippleDoesSaid : Prop := rippleDoesRow.holds Try.pinned (OpenSpec.ofChange rippleDoesSpec)

/-- ITS FALSE NEIGHBOUR: 'it returns false'. Refute it at one input. -/
def rippleDoesWrong : ChangeSpec := { name := "rippleDoes", fn := fun _ => fun
  | [d1, d2] => { results := [.lit (.bool false)], args := [d1, d2] }
  | _ => none }
def RippleDoesWrongFalsely : Prop := rippleDoesRow.holds Try.pinned (OpenSpec.ofChange rippleDoesWrong)

/-- 'almonrylaw18.RippleOnce': WHATEVER THE INPUT: true; the input reads as it did. -/
def rippleOnceSpec : ChangeSpec := { name := "rippleOnce", fn := fun _ => fun
  | [d1, d2] => { results := [.lit (.bool true)], args := [d1, d2] }
  | _ => none }
def rippleOnceRow : OpenClaim := { program := "ytkckbeekehecnaa", sum := "7a2a1f501aa69aad98da912c6c552175cadb53a8234c2e9baf7621b89fe5b42d", func := "almonry/almonrylaw18.RippleOnce", spec := "rippleOnce", apart := false }
def RippleOnceSaid : Prop := rippleOnceRow.holds Try.pinned (OpenSpec.ofChange rippleOnceSpec)

/-- ITS FALSE NEIGHBOUR: 'it returns false'. Refute it at one input. -/
def rippleOnceWrong : ChangeSpec := { name := "rippleOnce", fn := fun _ => fun
  | [d1, d2] => { results := [.lit (.bool false)], args := [d1, d2] }
  | _ => none }
def RippleOnceWrongFalsely : Prop := rippleOnceRow.holds Try.pinned (OpenSpec.ofChange rippleOnceWrong)

/-- 'almonrytop.WholePeel': WHATEVER THE INPUT: true; the input reads as it did. -/
def wholePeelSpec : ChangeSpec := { name := "wholePeel", fn := fun _ => fun
  | [d] => { results := [.lit (.bool true)], args := [d] }
  | _ => none }
def wholePeelRow : OpenClaim := { program := "ytkckbeekehecnaa", sum := "7a2a1f501aa69aad98da912c6c552175cadb53a8234c2e9baf7621b89fe5b42d", func := "almonry/almonrytop.WholePeel", spec := "wholePeel", unfollowed := true, recurses := true, apart := false }
def WholePeelSaid : Prop := wholePeelRow.holds Try.pinned (OpenSpec.ofChange wholePeelSpec)

/-- ITS FALSE NEIGHBOUR: 'it returns false'. Refute it at one input. -/
def wholePeelWrong : ChangeSpec := { name := "wholePeel", fn := fun _ => fun
  | [d] => { results := [.lit (.bool false)], args := [d] }
  | _ => none }
def WholePeelWrongFalsely : Prop := wholePeelRow.holds Try.pinned (OpenSpec.ofChange wholePeelWrong)

/- THE SECOND FORM. 'bulk': how many values and letters a reading holds, each counted each time it is reached (what is shared counts as often as it is met; a slice's spare places count too). A statement '..UptoSaid' is the law's where the arguments, and the package variables that the reading takes, are together of bulk at most 1048576: NARROWER than '..Said'. Prove '..Said' where nothing that the law and all that it calls make is longer than what came in: it says more and counts as full. Else prove '..UptoSaid'. A law counts once. -/
mutual
def uptoBulk {H : Type} : DataW H → Nat
  | .lit (.string bytes) => bytes.length + 1
  | .lit _ => 1
  | .nil => 1
  | .ptr d => uptoBulk d + 1
  | .slice elems spare => uptoBulkAll elems + uptoBulkAll spare + 1
  | .agg parts => uptoBulkAll parts + 1
  | .iface _ d => uptoBulk d + 1
  | .map entries => uptoBulkEntries entries + 1
  | .held _ => 1
def uptoBulkAll {H : Type} : List (DataW H) → Nat
  | [] => 0
  | d :: r => uptoBulk d + uptoBulkAll r
def uptoBulkEntries {H : Type} : List (Lit × DataW H) → Nat
  | [] => 0
  | x :: r => uptoBulkEntry x + uptoBulkEntries r
def uptoBulkEntry {H : Type} : Lit × DataW H → Nat
  | (.string bytes, d) => bytes.length + uptoBulk d + 1
  | (_, d) => uptoBulk d + 1
 end
def uptoSmall : (H : Type) → List (DataW H) → Bool := fun _ ds => decide (uptoBulkAll ds ≤ 1048576)
def OpenSpec.upto (s : _root_.Go.ChangeSpec) : _root_.Go.OpenSpec := { _root_.Go.OpenSpec.ofChange s with cond := some uptoSmall }

/-- 'almonrylaw17.BatchSolves', WHERE WHAT IT READS IS OF BULK AT MOST 1048576: true; the input reads as it did. -/
def batchSolvesUptoRow : OpenClaim := { program := "ytkckbeekehecnaa", sum := "7a2a1f501aa69aad98da912c6c552175cadb53a8234c2e9baf7621b89fe5b42d", func := "almonry/almonrylaw17.BatchSolves", spec := "batchSolves", unfollowed := true, recurses := true, apart := false, narrowed := true }
def BatchSolvesUptoSaid : Prop := batchSolvesUptoRow.holds Try.pinned (OpenSpec.upto batchSolvesSpec)

/-- 'almonrylaw17.BatchOdd', WHERE WHAT IT READS IS OF BULK AT MOST 1048576: true; the input reads as it did. -/
def batchOddUptoRow : OpenClaim := { program := "ytkckbeekehecnaa", sum := "7a2a1f501aa69aad98da912c6c552175cadb53a8234c2e9baf7621b89fe5b42d", func := "almonry/almonrylaw17.BatchOdd", spec := "batchOdd", unfollowed := true, recurses := true, apart := false, narrowed := true }
def BatchOddUptoSaid : Prop := batchOddUptoRow.holds Try.pinned (OpenSpec.upto batchOddSpec)

/-- 'almonrylaw17.BatchOrder', WHERE WHAT IT READS IS OF BULK AT MOST 1048576: true; the input reads as it did. -/
def batchOrderUptoRow : OpenClaim := { program := "ytkckbeekehecnaa", sum := "7a2a1f501aa69aad98da912c6c552175cadb53a8234c2e9baf7621b89fe5b42d", func := "almonry/almonrylaw17.BatchOrder", spec := "batchOrder", unfollowed := true, recurses := true, apart := false, narrowed := true }
def BatchOrderUptoSaid : Prop := batchOrderUptoRow.holds Try.pinned (OpenSpec.upto batchOrderSpec)

/-- 'almonrylaw17.BatchTwice', WHERE WHAT IT READS IS OF BULK AT MOST 1048576: true; the input reads as it did. -/
def batchTwiceUptoRow : OpenClaim := { program := "ytkckbeekehecnaa", sum := "7a2a1f501aa69aad98da912c6c552175cadb53a8234c2e9baf7621b89fe5b42d", func := "almonry/almonrylaw17.BatchTwice", spec := "batchTwice", unfollowed := true, recurses := true, apart := false, narrowed := true }
def BatchTwiceUptoSaid : Prop := batchTwiceUptoRow.holds Try.pinned (OpenSpec.upto batchTwiceSpec)

/-- 'almonrylaw18.RippleDoes', WHERE WHAT IT READS IS OF BULK AT MOST 1048576: true; the input reads as it did. -/
def rippleDoesUptoRow : OpenClaim := { program := "ytkckbeekehecnaa", sum := "7a2a1f501aa69aad98da912c6c552175cadb53a8234c2e9baf7621b89fe5b42d", func := "almonry/almonrylaw18.RippleDoes", spec := "rippleDoes", apart := false, narrowed := true }
def RippleDoesUptoSaid : Prop := rippleDoesUptoRow.holds Try.pinned (OpenSpec.upto rippleDoesSpec)

/-- 'almonrylaw18.RippleOnce', WHERE WHAT IT READS IS OF BULK AT MOST 1048576: true; the input reads as it did. -/
def rippleOnceUptoRow : OpenClaim := { program := "ytkckbeekehecnaa", sum := "7a2a1f501aa69aad98da912c6c552175cadb53a8234c2e9baf7621b89fe5b42d", func := "almonry/almonrylaw18.RippleOnce", spec := "rippleOnce", apart := false, narrowed := true }
def RippleOnceUptoSaid : Prop := rippleOnceUptoRow.holds Try.pinned (OpenSpec.upto rippleOnceSpec)

/-- 'almonrytop.WholePeel', WHERE WHAT IT READS IS OF BULK AT MOST 1048576: true; the input reads as it did. -/
def wholePeelUptoRow : OpenClaim := { program := "ytkckbeekehecnaa", sum := "7a2a1f501aa69aad98da912c6c552175cadb53a8234c2e9baf7621b89fe5b42d", func := "almonry/almonrytop.WholePeel", spec := "wholePeel", unfollowed := true, recurses := true, apart := false, narrowed := true }
def WholePeelUptoSaid : Prop := wholePeelUptoRow.holds Try.pinned (OpenSpec.upto wholePeelSpec)

end Rows
end Go.Proofs.Ytkckbeekehecnaa
