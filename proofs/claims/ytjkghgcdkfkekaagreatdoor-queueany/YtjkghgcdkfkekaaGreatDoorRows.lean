/-
  NARROWER THAN 'FOR EVERY INPUT', by the rows' own cells (each row's printed sentence says how): WalNothing: laid · QueuePlays: laid · QueuePower: laid · QueueAny: laid.
  DERIVED. THE GIVEN ROWS OF THIS SEAT. 4 by the template 'for every input the law returns true; each argument reads behind the call as it read before'; 0 by the template 'total and deterministic' (their statements: YtjkghgcdkfkekaaGreatDoorTotals.lean).
  GIVEN WITH THE SEED: the statements are not yours to turn. If you find one false, say at which input.
  Laid BY PROGRAM, IN A SANDBOX (cutbox-rows.mjs): the forced cells as the released guide's own fill.sh prints them over the translation dc2b3445501b1a5a… (all of the seat's roots in one cut). By AI agents, Wed Nov 11 2026. No macro, syntax, notation, axiom, sorry.
-/
import Derived.Test.YtjkghgcdkfkekaaGreatDoorChecked
import GoSem.Claim
import GoSem.ClaimJoined
import GoSem.ClaimMapViews
import Derived.JoinedTies
import Derived.KernelRfl
namespace Go.Proofs.YtjkghgcdkfkekaaGreatDoor
/- THE CELL 'sum', in the pinned program and in every row, IS THE sha256 OF THE DUMP (.gsa) THAT YtjkghgcdkfkekaaGreatDoorProg.lean LOADS. Nothing in Lean hashes anything: it is a label: what it is worth is what the hold of that sum in a sandbox is worth. -/
noncomputable def Tryz.pinned : Pinned := { name := "ytjkghgcdkfkekaagreatdoor", sum := "dc2b3445501b1a5ac12fdb1ef8514ba408708bd36575b6892d6d38ac667219bc", checked := Tryz.checked }
namespace Rows
def none {H : Type} : Left H := { results := [], args := [] }

/- WHAT THE LISTED PACKAGE-LEVEL VARIABLES READ AS WHEN THE CALL BEGINS. Each datum BY PROGRAM (the guide's laid-datum.mjs) off the statement by which the dump's own 'gosem.cut.vars' lays the variable. In a bare row this is a premise. The card (YtjkghgcdkfkekaaGreatDoorCards.lean) ties it to the program's text. -/
def laid_farebox_sum_fourTurns {H : Type} : DataW H := .agg [.lit (.int .u32 0), .lit (.int .u32 274646895), .lit (.int .u32 549293790), .lit (.int .u32 820201905), .lit (.int .u32 1098587580), .lit (.int .u32 1361435347), .lit (.int .u32 1640403810), .lit (.int .u32 1905808397), .lit (.int .u32 2197175160), .lit (.int .u32 2460548119), .lit (.int .u32 2722870694), .lit (.int .u32 2987750089), .lit (.int .u32 3280807620), .lit (.int .u32 3553878443), .lit (.int .u32 3811616794), .lit (.int .u32 4084100981)]
def laid_errors_errorType {H : Type} : DataW H := .iface "internal/reflectlite.rtype" (.agg [.ptr (.lit (.string [101, 114, 114, 111, 114]))])

/-- 'fareboxlaw09.WalNothing': WHATEVER THE INPUT: true; the input reads as it did. -/
def walNothingSpec : ChangeSpec := { name := "walNothing", fn := fun _ => fun
  | [d1, d2, d3] => { results := [.lit (.bool true)], args := [d1, d2, d3] }
  | _ => none }
def walNothingRow : OpenClaim := { program := "ytjkghgcdkfkekaagreatdoor", sum := "dc2b3445501b1a5ac12fdb1ef8514ba408708bd36575b6892d6d38ac667219bc", func := "farebox/fareboxlaw09.WalNothing", spec := "walNothing", inPlace := ["internal/reflectlite.TypeOf"], unfollowed := true, recurses := true, named := ["farebox/sum.fourTurns"], apart := false, laid := [("farebox/sum.fourTurns", laid_farebox_sum_fourTurns)] }
def WalNothingSaid : Prop := walNothingRow.holds Tryz.pinned (OpenSpec.ofChange walNothingSpec)

/-- ITS FALSE NEIGHBOUR: 'it returns false'. Refute it at one input. -/
def walNothingWrong : ChangeSpec := { name := "walNothing", fn := fun _ => fun
  | [d1, d2, d3] => { results := [.lit (.bool false)], args := [d1, d2, d3] }
  | _ => none }
def WalNothingWrongFalsely : Prop := walNothingRow.holds Tryz.pinned (OpenSpec.ofChange walNothingWrong)

/-- 'fareboxlaw10.QueuePlays': WHATEVER THE INPUT: true; the input reads as it did. -/
def queuePlaysSpec : ChangeSpec := { name := "queuePlays", fn := fun _ => fun
  | [d1, d2, d3] => { results := [.lit (.bool true)], args := [d1, d2, d3] }
  | _ => none }
def queuePlaysRow : OpenClaim := { program := "ytjkghgcdkfkekaagreatdoor", sum := "dc2b3445501b1a5ac12fdb1ef8514ba408708bd36575b6892d6d38ac667219bc", func := "farebox/fareboxlaw10.QueuePlays", spec := "queuePlays", inPlace := ["internal/reflectlite.TypeOf", "internal/reflectlite.ValueOf", "(internal/reflectlite.Value).Type", "(internal/reflectlite.Value).IsNil", "(internal/reflectlite.Value).Elem", "(internal/reflectlite.Value).Set"], unfollowed := true, recurses := true, named := ["farebox/sum.fourTurns", "errors.errorType"], apart := false, laid := [("errors.errorType", laid_errors_errorType), ("farebox/sum.fourTurns", laid_farebox_sum_fourTurns)] }
def QueuePlaysSaid : Prop := queuePlaysRow.holds Tryz.pinned (OpenSpec.ofChange queuePlaysSpec)

/-- ITS FALSE NEIGHBOUR: 'it returns false'. Refute it at one input. -/
def queuePlaysWrong : ChangeSpec := { name := "queuePlays", fn := fun _ => fun
  | [d1, d2, d3] => { results := [.lit (.bool false)], args := [d1, d2, d3] }
  | _ => none }
def QueuePlaysWrongFalsely : Prop := queuePlaysRow.holds Tryz.pinned (OpenSpec.ofChange queuePlaysWrong)

/-- 'fareboxlaw10.QueuePower': WHATEVER THE INPUT: true; the input reads as it did. -/
def queuePowerSpec : ChangeSpec := { name := "queuePower", fn := fun _ => fun
  | [d1, d2, d3, d4] => { results := [.lit (.bool true)], args := [d1, d2, d3, d4] }
  | _ => none }
def queuePowerRow : OpenClaim := { program := "ytjkghgcdkfkekaagreatdoor", sum := "dc2b3445501b1a5ac12fdb1ef8514ba408708bd36575b6892d6d38ac667219bc", func := "farebox/fareboxlaw10.QueuePower", spec := "queuePower", inPlace := ["internal/reflectlite.TypeOf", "internal/reflectlite.ValueOf", "(internal/reflectlite.Value).Type", "(internal/reflectlite.Value).IsNil", "(internal/reflectlite.Value).Elem", "(internal/reflectlite.Value).Set"], unfollowed := true, recurses := true, named := ["farebox/sum.fourTurns", "errors.errorType"], apart := false, laid := [("errors.errorType", laid_errors_errorType), ("farebox/sum.fourTurns", laid_farebox_sum_fourTurns)] }
def QueuePowerSaid : Prop := queuePowerRow.holds Tryz.pinned (OpenSpec.ofChange queuePowerSpec)

/-- ITS FALSE NEIGHBOUR: 'it returns false'. Refute it at one input. -/
def queuePowerWrong : ChangeSpec := { name := "queuePower", fn := fun _ => fun
  | [d1, d2, d3, d4] => { results := [.lit (.bool false)], args := [d1, d2, d3, d4] }
  | _ => none }
def QueuePowerWrongFalsely : Prop := queuePowerRow.holds Tryz.pinned (OpenSpec.ofChange queuePowerWrong)

/-- 'fareboxlaw10.QueueAny': WHATEVER THE INPUT: true; the input reads as it did. -/
def queueAnySpec : ChangeSpec := { name := "queueAny", fn := fun _ => fun
  | [d1, d2, d3] => { results := [.lit (.bool true)], args := [d1, d2, d3] }
  | _ => none }
def queueAnyRow : OpenClaim := { program := "ytjkghgcdkfkekaagreatdoor", sum := "dc2b3445501b1a5ac12fdb1ef8514ba408708bd36575b6892d6d38ac667219bc", func := "farebox/fareboxlaw10.QueueAny", spec := "queueAny", inPlace := ["internal/reflectlite.TypeOf", "internal/reflectlite.ValueOf", "(internal/reflectlite.Value).Type", "(internal/reflectlite.Value).IsNil", "(internal/reflectlite.Value).Elem", "(internal/reflectlite.Value).Set"], unfollowed := true, recurses := true, named := ["farebox/sum.fourTurns", "errors.errorType"], apart := false, laid := [("errors.errorType", laid_errors_errorType), ("farebox/sum.fourTurns", laid_farebox_sum_fourTurns)] }
def QueueAnySaid : Prop := queueAnyRow.holds Tryz.pinned (OpenSpec.ofChange queueAnySpec)

/-- ITS FALSE NEIGHBOUR: 'it returns false'. Refute it at one input. -/
def queueAnyWrong : ChangeSpec := { name := "queueAny", fn := fun _ => fun
  | [d1, d2, d3] => { results := [.lit (.bool false)], args := [d1, d2, d3] }
  | _ => none }
def QueueAnyWrongFalsely : Prop := queueAnyRow.holds Tryz.pinned (OpenSpec.ofChange queueAnyWrong)

/- THE SECOND FORM. 'bulk': how many values and letters a reading holds, each counted each time it is reached (what is shared counts as often as it is met; a slice's spare places count too). A statement '..UptoSaid' is the law's where the arguments, and the package variables that the reading takes, are together of bulk at most 1048576: NARROWER than '..Said'. Prove '..Said' where nothing that the law and all that it calls make is longer than what came in: it says more and counts as full. Else prove '..UptoSaid'. A law counts once. -/
mutual
def uptoBulk {H : Type} : DataW H → Nat
  | .lit (.string bytes) => bytes.length + 1
  | .lit _ => 1
  | .nil => 1
  | .ptr d => uptoBulk d + 1
  | .slice elems spare => uptoBulkAll elems + uptoBulkAll spare + 1
  | .agg parts => uptoBulkAll parts + 1
  | .iface _ d => uptoBulk d + 1
  | .map entries => uptoBulkEntries entries + 1
  | .held _ => 1
def uptoBulkAll {H : Type} : List (DataW H) → Nat
  | [] => 0
  | d :: r => uptoBulk d + uptoBulkAll r
def uptoBulkEntries {H : Type} : List (Lit × DataW H) → Nat
  | [] => 0
  | x :: r => uptoBulkEntry x + uptoBulkEntries r
def uptoBulkEntry {H : Type} : Lit × DataW H → Nat
  | (.string bytes, d) => bytes.length + uptoBulk d + 1
  | (_, d) => uptoBulk d + 1
 end
def uptoSmall : (H : Type) → List (DataW H) → Bool := fun _ ds => decide (uptoBulkAll ds ≤ 1048576)
def OpenSpec.upto (s : _root_.Go.ChangeSpec) : _root_.Go.OpenSpec := { _root_.Go.OpenSpec.ofChange s with cond := some uptoSmall }

/-- 'fareboxlaw09.WalNothing', WHERE WHAT IT READS IS OF BULK AT MOST 1048576: true; the input reads as it did. -/
def walNothingUptoRow : OpenClaim := { program := "ytjkghgcdkfkekaagreatdoor", sum := "dc2b3445501b1a5ac12fdb1ef8514ba408708bd36575b6892d6d38ac667219bc", func := "farebox/fareboxlaw09.WalNothing", spec := "walNothing", inPlace := ["internal/reflectlite.TypeOf"], unfollowed := true, recurses := true, named := ["farebox/sum.fourTurns"], apart := false, laid := [("farebox/sum.fourTurns", laid_farebox_sum_fourTurns)], narrowed := true }
def WalNothingUptoSaid : Prop := walNothingUptoRow.holds Tryz.pinned (OpenSpec.upto walNothingSpec)

/-- 'fareboxlaw10.QueuePlays', WHERE WHAT IT READS IS OF BULK AT MOST 1048576: true; the input reads as it did. -/
def queuePlaysUptoRow : OpenClaim := { program := "ytjkghgcdkfkekaagreatdoor", sum := "dc2b3445501b1a5ac12fdb1ef8514ba408708bd36575b6892d6d38ac667219bc", func := "farebox/fareboxlaw10.QueuePlays", spec := "queuePlays", inPlace := ["internal/reflectlite.TypeOf", "internal/reflectlite.ValueOf", "(internal/reflectlite.Value).Type", "(internal/reflectlite.Value).IsNil", "(internal/reflectlite.Value).Elem", "(internal/reflectlite.Value).Set"], unfollowed := true, recurses := true, named := ["farebox/sum.fourTurns", "errors.errorType"], apart := false, laid := [("errors.errorType", laid_errors_errorType), ("farebox/sum.fourTurns", laid_farebox_sum_fourTurns)], narrowed := true }
def QueuePlaysUptoSaid : Prop := queuePlaysUptoRow.holds Tryz.pinned (OpenSpec.upto queuePlaysSpec)

/-- 'fareboxlaw10.QueuePower', WHERE WHAT IT READS IS OF BULK AT MOST 1048576: true; the input reads as it did. -/
def queuePowerUptoRow : OpenClaim := { program := "ytjkghgcdkfkekaagreatdoor", sum := "dc2b3445501b1a5ac12fdb1ef8514ba408708bd36575b6892d6d38ac667219bc", func := "farebox/fareboxlaw10.QueuePower", spec := "queuePower", inPlace := ["internal/reflectlite.TypeOf", "internal/reflectlite.ValueOf", "(internal/reflectlite.Value).Type", "(internal/reflectlite.Value).IsNil", "(internal/reflectlite.Value).Elem", "(internal/reflectlite.Value).Set"], unfollowed := true, recurses := true, named := ["farebox/sum.fourTurns", "errors.errorType"], apart := false, laid := [("errors.errorType", laid_errors_errorType), ("farebox/sum.fourTurns", laid_farebox_sum_fourTurns)], narrowed := true }
def QueuePowerUptoSaid : Prop := queuePowerUptoRow.holds Tryz.pinned (OpenSpec.upto queuePowerSpec)

/-- 'fareboxlaw10.QueueAny', WHERE WHAT IT READS IS OF BULK AT MOST 1048576: true; the input reads as it did. -/
def queueAnyUptoRow : OpenClaim := { program := "ytjkghgcdkfkekaagreatdoor", sum := "dc2b3445501b1a5ac12fdb1ef8514ba408708bd36575b6892d6d38ac667219bc", func := "farebox/fareboxlaw10.QueueAny", spec := "queueAny", inPlace := ["internal/reflectlite.TypeOf", "internal/reflectlite.ValueOf", "(internal/reflectlite.Value).Type", "(internal/reflectlite.Value).IsNil", "(internal/reflectlite.Value).Elem", "(internal/reflectlite.Value).Set"], unfollowed := true, recurses := true, named := ["farebox/sum.fourTurns", "errors.errorType"], apart := false, laid := [("errors.errorType", laid_errors_errorType), ("farebox/sum.fourTurns", laid_farebox_sum_fourTurns)], narrowed := true }
def QueueAnyUptoSaid : Prop := queueAnyUptoRow.holds Tryz.pinned (OpenSpec.upto queueAnySpec)

end Rows
end Go.Proofs.YtjkghgcdkfkekaaGreatDoor
