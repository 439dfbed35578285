/-
  No cell of these rows narrows 'for every input' (looked for: loops, veiled, ifaces, maps, wideKeys, modest, calm, conditions, laid).
  DERIVED. THE GIVEN ROWS OF THIS SEAT. 4 by the template 'for every input the law returns true; each argument reads behind the call as it read before'; 0 by the template 'total and deterministic' (their statements: YtpffbfagabelfaaTotals.lean).
  GIVEN WITH THE SEED: the statements are not yours to turn. If you find one false, say at which input.
  Laid BY PROGRAM, IN A SANDBOX (cutbox-rows.mjs): the forced cells as the released guide's own fill.sh prints them over the translation 15e7259509f557a0… (all of the seat's roots in one cut). By AI agents, Wed Nov 11 2026. No macro, syntax, notation, axiom, sorry.
-/
import Derived.Test.YtpffbfagabelfaaChecked
import GoSem.Claim
import GoSem.ClaimJoined
import GoSem.ClaimMapViews
import Derived.JoinedTies
import Derived.KernelRfl
namespace Go.Proofs.Ytpffbfagabelfaa
/- THE CELL 'sum', in the pinned program and in every row, IS THE sha256 OF THE DUMP (.gsa) THAT YtpffbfagabelfaaProg.lean LOADS. Nothing in Lean hashes anything: it is a label: what it is worth is what the hold of that sum in a sandbox is worth. -/
noncomputable def Try.pinned : Pinned := { name := "ytpffbfagabelfaa", sum := "15e7259509f557a073f9376b69d5b9417347cc25c23ac0eaf2d16b85f8debf7e", checked := Try.checked }
namespace Rows
def none {H : Type} : Left H := { results := [], args := [] }

/-- 'almonrylaw16.ClosureReaches': WHATEVER THE INPUT: true; the input reads as it did. -/
def closureReachesSpec : ChangeSpec := { name := "closureReaches", fn := fun _ => fun
  | [d1, d2] => { results := [.lit (.bool true)], args := [d1, d2] }
  | _ => none }
def closureReachesRow : OpenClaim := { program := "ytpffbfagabelfaa", sum := "15e7259509f557a073f9376b69d5b9417347cc25c23ac0eaf2d16b85f8debf7e", func := "almonry/almonrylaw16.ClosureReaches", spec := "closureReaches", unfollowed := true, recurses := true, apart := false }
def ClosureReachesSaid : Prop := closureReachesRow.holds Try.pinned (OpenSpec.ofChange closureReachesSpec)

/-- ITS FALSE NEIGHBOUR: 'it returns false'. Refute it at one input. -/
def closureReachesWrong : ChangeSpec := { name := "closureReaches", fn := fun _ => fun
  | [d1, d2] => { results := [.lit (.bool false)], args := [d1, d2] }
  | _ => none }
def ClosureReachesWrongFalsely : Prop := closureReachesRow.holds Try.pinned (OpenSpec.ofChange closureReachesWrong)

/-- 'almonrylaw16.ClosureOrder': WHATEVER THE INPUT: true; the input reads as it did. -/
def closureOrderSpec : ChangeSpec := { name := "closureOrder", fn := fun _ => fun
  | [d1, d2, d3] => { results := [.lit (.bool true)], args := [d1, d2, d3] }
  | _ => none }
def closureOrderRow : OpenClaim := { program := "ytpffbfagabelfaa", sum := "15e7259509f557a073f9376b69d5b9417347cc25c23ac0eaf2d16b85f8debf7e", func := "almonry/almonrylaw16.ClosureOrder", spec := "closureOrder", unfollowed := true, recurses := true, apart := false }
def ClosureOrderSaid : Prop := closureOrderRow.holds Try.pinned (OpenSpec.ofChange closureOrderSpec)

/-- ITS FALSE NEIGHBOUR: 'it returns false'. Refute it at one input. -/
def closureOrderWrong : ChangeSpec := { name := "closureOrder", fn := fun _ => fun
  | [d1, d2, d3] => { results := [.lit (.bool false)], args := [d1, d2, d3] }
  | _ => none }
def ClosureOrderWrongFalsely : Prop := closureOrderRow.holds Try.pinned (OpenSpec.ofChange closureOrderWrong)

/-- 'almonrylaw16.ClosureAgrees': WHATEVER THE INPUT: true; the input reads as it did. -/
def closureAgreesSpec : ChangeSpec := { name := "closureAgrees", fn := fun _ => fun
  | [d] => { results := [.lit (.bool true)], args := [d] }
  | _ => none }
def closureAgreesRow : OpenClaim := { program := "ytpffbfagabelfaa", sum := "15e7259509f557a073f9376b69d5b9417347cc25c23ac0eaf2d16b85f8debf7e", func := "almonry/almonrylaw16.ClosureAgrees", spec := "closureAgrees", unfollowed := true, recurses := true, apart := false }
def ClosureAgreesSaid : Prop := closureAgreesRow.holds Try.pinned (OpenSpec.ofChange closureAgreesSpec)

/-- ITS FALSE NEIGHBOUR: 'it returns false'. Refute it at one input. -/
def closureAgreesWrong : ChangeSpec := { name := "closureAgrees", fn := fun _ => fun
  | [d] => { results := [.lit (.bool false)], args := [d] }
  | _ => none }
def ClosureAgreesWrongFalsely : Prop := closureAgreesRow.holds Try.pinned (OpenSpec.ofChange closureAgreesWrong)

/-- 'almonrylaw16.ClosureTrue': WHATEVER THE INPUT: true; the input reads as it did. -/
def closureTrueSpec : ChangeSpec := { name := "closureTrue", fn := fun _ => fun
  | [d1, d2] => { results := [.lit (.bool true)], args := [d1, d2] }
  | _ => none }
def closureTrueRow : OpenClaim := { program := "ytpffbfagabelfaa", sum := "15e7259509f557a073f9376b69d5b9417347cc25c23ac0eaf2d16b85f8debf7e", func := "almonry/almonrylaw16.ClosureTrue", spec := "closureTrue", unfollowed := true, recurses := true, apart := false }
def ClosureTrueSaid : Prop := closureTrueRow.holds Try.pinned (OpenSpec.ofChange closureTrueSpec)

/-- ITS FALSE NEIGHBOUR: 'it returns false'. Refute it at one input. -/
def closureTrueWrong : ChangeSpec := { name := "closureTrue", fn := fun _ => fun
  | [d1, d2] => { results := [.lit (.bool false)], args := [d1, d2] }
  | _ => none }
def ClosureTrueWrongFalsely : Prop := closureTrueRow.holds Try.pinned (OpenSpec.ofChange closureTrueWrong)

/- THE SECOND FORM. 'bulk': how many values and letters a reading holds, each counted each time it is reached (what is shared counts as often as it is met; a slice's spare places count too). A statement '..UptoSaid' is the law's where the arguments, and the package variables that the reading takes, are together of bulk at most 1048576: NARROWER than '..Said'. Prove '..Said' where nothing that the law and all that it calls make is longer than what came in: it says more and counts as full. Else prove '..UptoSaid'. A law counts once. -/
mutual
def uptoBulk {H : Type} : DataW H → Nat
  | .lit (.string bytes) => bytes.length + 1
  | .lit _ => 1
  | .nil => 1
  | .ptr d => uptoBulk d + 1
  | .slice elems spare => uptoBulkAll elems + uptoBulkAll spare + 1
  | .agg parts => uptoBulkAll parts + 1
  | .iface _ d => uptoBulk d + 1
  | .map entries => uptoBulkEntries entries + 1
  | .held _ => 1
def uptoBulkAll {H : Type} : List (DataW H) → Nat
  | [] => 0
  | d :: r => uptoBulk d + uptoBulkAll r
def uptoBulkEntries {H : Type} : List (Lit × DataW H) → Nat
  | [] => 0
  | x :: r => uptoBulkEntry x + uptoBulkEntries r
def uptoBulkEntry {H : Type} : Lit × DataW H → Nat
  | (.string bytes, d) => bytes.length + uptoBulk d + 1
  | (_, d) => uptoBulk d + 1
 end
def uptoSmall : (H : Type) → List (DataW H) → Bool := fun _ ds => decide (uptoBulkAll ds ≤ 1048576)
def OpenSpec.upto (s : _root_.Go.ChangeSpec) : _root_.Go.OpenSpec := { _root_.Go.OpenSpec.ofChange s with cond := some uptoSmall }

/-- 'almonrylaw16.ClosureReaches', WHERE WHAT IT READS IS OF BULK AT MOST 1048576: true; the input reads as it did. -/
def closureReachesUptoRow : OpenClaim := { program := "ytpffbfagabelfaa", sum := "15e7259509f557a073f9376b69d5b9417347cc25c23ac0eaf2d16b85f8debf7e", func := "almonry/almonrylaw16.ClosureReaches", spec := "closureReaches", unfollowed := true, recurses := true, apart := false, narrowed := true }
def ClosureReachesUptoSaid : Prop := closureReachesUptoRow.holds Try.pinned (OpenSpec.upto closureReachesSpec)

/-- 'almonrylaw16.ClosureOrder', WHERE WHAT IT READS IS OF BULK AT MOST 1048576: true; the input reads as it did. -/
def closureOrderUptoRow : OpenClaim := { program := "ytpffbfagabelfaa", sum := "15e7259509f557a073f9376b69d5b9417347cc25c23ac0eaf2d16b85f8debf7e", func := "almonry/almonrylaw16.ClosureOrder", spec := "closureOrder", unfollowed := true, recurses := true, apart := false, narrowed := true }
def ClosureOrderUptoSaid : Prop := closureOrderUptoRow.holds Try.pinned (OpenSpec.upto closureOrderSpec)

/-- 'almonrylaw16.ClosureAgrees', WHERE WHAT IT READS IS OF BULK AT MOST 1048576: true; the input reads as it did. -/
def closureAgreesUptoRow : OpenClaim := { program := "ytpffbfagabelfaa", sum := "15e7259509f557a073f9376b69d5b9417347cc25c23ac0eaf2d16b85f8debf7e", func := "almonry/almonrylaw16.ClosureAgrees", spec := "closureAgrees", unfollowed := true, recurses := true, apart := false, narrowed := true }
def ClosureAgreesUptoSaid : Prop := closureAgreesUptoRow.holds Try.pinned (OpenSpec.upto closureAgreesSpec)

/-- 'almonrylaw16.ClosureTrue', WHERE WHAT IT READS IS OF BULK AT MOST 1048576: true; the input reads as it did. -/
def closureTrueUptoRow : OpenClaim := { program := "ytpffbfagabelfaa", sum := "15e7259509f557a073f9376b69d5b9417347cc25c23ac0eaf2d16b85f8debf7e", func := "almonry/almonrylaw16.ClosureTrue", spec := "closureTrue", unfollowed := true, recurses := true, apart := false, narrowed := true }
def ClosureTrueUptoSaid : Prop := closureTrueUptoRow.holds Try.pinned (OpenSpec.upto closureTrueSpec)

end Rows
end Go.Proofs.Ytpffbfagabelfaa
