/-
  No cell of these rows narrows 'for every input' (looked for: loops, veiled, ifaces, maps, wideKeys, modest, calm, conditions, laid).
  DERIVED. THE GIVEN ROWS OF THIS SEAT. 5 by the template 'for every input the law returns true; each argument reads behind the call as it read before'; 0 by the template 'total and deterministic' (their statements: YtdbnppbfoohjjaaTotals.lean).
  GIVEN WITH THE SEED: the statements are not yours to turn. If you find one false, say at which input.
  Laid BY PROGRAM, IN A SANDBOX (cutbox-rows.mjs): the forced cells as the released guide's own fill.sh prints them over the translation 7d80c153322360c9… (all of the seat's roots in one cut). By AI agents, Wed Nov 11 2026. No macro, syntax, notation, axiom, sorry.
-/
import Derived.Test.YtdbnppbfoohjjaaChecked
import GoSem.Claim
import GoSem.ClaimJoined
import GoSem.ClaimMapViews
import Derived.JoinedTies
import Derived.KernelRfl
namespace Go.Proofs.Ytdbnppbfoohjjaa
/- THE CELL 'sum', in the pinned program and in every row, IS THE sha256 OF THE DUMP (.gsa) THAT YtdbnppbfoohjjaaProg.lean LOADS. Nothing in Lean hashes anything: it is a label: what it is worth is what the hold of that sum in a sandbox is worth. -/
noncomputable def Try.pinned : Pinned := { name := "ytdbnppbfoohjjaa", sum := "7d80c153322360c93d08bda6ce93ca7f006489de53ebaf49582530b8c4d4c839", checked := Try.checked }
namespace Rows
def none {H : Type} : Left H := { results := [], args := [] }

/-- 'fareboxlaw19.CapsHold': WHATEVER THE INPUT: true; the input reads as it did. -/
def capsHoldSpec : ChangeSpec := { name := "capsHold", fn := fun _ => fun
  | [d1, d2, d3] => { results := [.lit (.bool true)], args := [d1, d2, d3] }
  | _ => none }
def capsHoldRow : OpenClaim := { program := "ytdbnppbfoohjjaa", sum := "7d80c153322360c93d08bda6ce93ca7f006489de53ebaf49582530b8c4d4c839", func := "farebox/fareboxlaw19.CapsHold", spec := "capsHold", inPlace := ["math.Float64bits"], unfollowed := true, recurses := true, apart := false }
def CapsHoldSaid : Prop := capsHoldRow.holds Try.pinned (OpenSpec.ofChange capsHoldSpec)

/-- ITS FALSE NEIGHBOUR: 'it returns false'. Refute it at one input. -/
def capsHoldWrong : ChangeSpec := { name := "capsHold", fn := fun _ => fun
  | [d1, d2, d3] => { results := [.lit (.bool false)], args := [d1, d2, d3] }
  | _ => none }
def CapsHoldWrongFalsely : Prop := capsHoldRow.holds Try.pinned (OpenSpec.ofChange capsHoldWrong)

/-- 'fareboxlaw19.CapsLess': WHATEVER THE INPUT: true; the input reads as it did. -/
def capsLessSpec : ChangeSpec := { name := "capsLess", fn := fun _ => fun
  | [d1, d2, d3, d4, d5] => { results := [.lit (.bool true)], args := [d1, d2, d3, d4, d5] }
  | _ => none }
def capsLessRow : OpenClaim := { program := "ytdbnppbfoohjjaa", sum := "7d80c153322360c93d08bda6ce93ca7f006489de53ebaf49582530b8c4d4c839", func := "farebox/fareboxlaw19.CapsLess", spec := "capsLess", inPlace := ["math.Float64bits"], unfollowed := true, recurses := true, apart := false }
def CapsLessSaid : Prop := capsLessRow.holds Try.pinned (OpenSpec.ofChange capsLessSpec)

/-- ITS FALSE NEIGHBOUR: 'it returns false'. Refute it at one input. -/
def capsLessWrong : ChangeSpec := { name := "capsLess", fn := fun _ => fun
  | [d1, d2, d3, d4, d5] => { results := [.lit (.bool false)], args := [d1, d2, d3, d4, d5] }
  | _ => none }
def CapsLessWrongFalsely : Prop := capsLessRow.holds Try.pinned (OpenSpec.ofChange capsLessWrong)

/-- 'fareboxlaw20.RefundAsks': WHATEVER THE INPUT: true; the input reads as it did. -/
def refundAsksSpec : ChangeSpec := { name := "refundAsks", fn := fun _ => fun
  | [d1, d2, d3, d4] => { results := [.lit (.bool true)], args := [d1, d2, d3, d4] }
  | _ => none }
def refundAsksRow : OpenClaim := { program := "ytdbnppbfoohjjaa", sum := "7d80c153322360c93d08bda6ce93ca7f006489de53ebaf49582530b8c4d4c839", func := "farebox/fareboxlaw20.RefundAsks", spec := "refundAsks", inPlace := ["math.Float64bits"], unfollowed := true, recurses := true, apart := false }
def RefundAsksSaid : Prop := refundAsksRow.holds Try.pinned (OpenSpec.ofChange refundAsksSpec)

/-- ITS FALSE NEIGHBOUR: 'it returns false'. Refute it at one input. -/
def refundAsksWrong : ChangeSpec := { name := "refundAsks", fn := fun _ => fun
  | [d1, d2, d3, d4] => { results := [.lit (.bool false)], args := [d1, d2, d3, d4] }
  | _ => none }
def RefundAsksWrongFalsely : Prop := refundAsksRow.holds Try.pinned (OpenSpec.ofChange refundAsksWrong)

/-- 'fareboxlaw20.RefundLess': WHATEVER THE INPUT: true; the input reads as it did. -/
def refundLessSpec : ChangeSpec := { name := "refundLess", fn := fun _ => fun
  | [d1, d2, d3, d4] => { results := [.lit (.bool true)], args := [d1, d2, d3, d4] }
  | _ => none }
def refundLessRow : OpenClaim := { program := "ytdbnppbfoohjjaa", sum := "7d80c153322360c93d08bda6ce93ca7f006489de53ebaf49582530b8c4d4c839", func := "farebox/fareboxlaw20.RefundLess", spec := "refundLess", inPlace := ["math.Float64bits"], unfollowed := true, recurses := true, apart := false }
def RefundLessSaid : Prop := refundLessRow.holds Try.pinned (OpenSpec.ofChange refundLessSpec)

/-- ITS FALSE NEIGHBOUR: 'it returns false'. Refute it at one input. -/
def refundLessWrong : ChangeSpec := { name := "refundLess", fn := fun _ => fun
  | [d1, d2, d3, d4] => { results := [.lit (.bool false)], args := [d1, d2, d3, d4] }
  | _ => none }
def RefundLessWrongFalsely : Prop := refundLessRow.holds Try.pinned (OpenSpec.ofChange refundLessWrong)

/-- 'fareboxlaw20.RefundMixed': WHATEVER THE INPUT: true; the input reads as it did. -/
def refundMixedSpec : ChangeSpec := { name := "refundMixed", fn := fun _ => fun
  | [d1, d2, d3] => { results := [.lit (.bool true)], args := [d1, d2, d3] }
  | _ => none }
def refundMixedRow : OpenClaim := { program := "ytdbnppbfoohjjaa", sum := "7d80c153322360c93d08bda6ce93ca7f006489de53ebaf49582530b8c4d4c839", func := "farebox/fareboxlaw20.RefundMixed", spec := "refundMixed", inPlace := ["math.Float64bits"], unfollowed := true, recurses := true, apart := false }
def RefundMixedSaid : Prop := refundMixedRow.holds Try.pinned (OpenSpec.ofChange refundMixedSpec)

/-- ITS FALSE NEIGHBOUR: 'it returns false'. Refute it at one input. -/
def refundMixedWrong : ChangeSpec := { name := "refundMixed", fn := fun _ => fun
  | [d1, d2, d3] => { results := [.lit (.bool false)], args := [d1, d2, d3] }
  | _ => none }
def RefundMixedWrongFalsely : Prop := refundMixedRow.holds Try.pinned (OpenSpec.ofChange refundMixedWrong)

/- THE SECOND FORM. 'bulk': how many values and letters a reading holds, each counted each time it is reached (what is shared counts as often as it is met; a slice's spare places count too). A statement '..UptoSaid' is the law's where the arguments, and the package variables that the reading takes, are together of bulk at most 1048576: NARROWER than '..Said'. Prove '..Said' where nothing that the law and all that it calls make is longer than what came in: it says more and counts as full. Else prove '..UptoSaid'. A law counts once. -/
mutual
def uptoBulk {H : Type} : DataW H → Nat
  | .lit (.string bytes) => bytes.length + 1
  | .lit _ => 1
  | .nil => 1
  | .ptr d => uptoBulk d + 1
  | .slice elems spare => uptoBulkAll elems + uptoBulkAll spare + 1
  | .agg parts => uptoBulkAll parts + 1
  | .iface _ d => uptoBulk d + 1
  | .map entries => uptoBulkEntries entries + 1
  | .held _ => 1
def uptoBulkAll {H : Type} : List (DataW H) → Nat
  | [] => 0
  | d :: r => uptoBulk d + uptoBulkAll r
def uptoBulkEntries {H : Type} : List (Lit × DataW H) → Nat
  | [] => 0
  | x :: r => uptoBulkEntry x + uptoBulkEntries r
def uptoBulkEntry {H : Type} : Lit × DataW H → Nat
  | (.string bytes, d) => bytes.length + uptoBulk d + 1
  | (_, d) => uptoBulk d + 1
 end
def uptoSmall : (H : Type) → List (DataW H) → Bool := fun _ ds => decide (uptoBulkAll ds ≤ 1048576)
def OpenSpec.upto (s : _root_.Go.ChangeSpec) : _root_.Go.OpenSpec := { _root_.Go.OpenSpec.ofChange s with cond := some uptoSmall }

/-- 'fareboxlaw19.CapsHold', WHERE WHAT IT READS IS OF BULK AT MOST 1048576: true; the input reads as it did. -/
def capsHoldUptoRow : OpenClaim := { program := "ytdbnppbfoohjjaa", sum := "7d80c153322360c93d08bda6ce93ca7f006489de53ebaf49582530b8c4d4c839", func := "farebox/fareboxlaw19.CapsHold", spec := "capsHold", inPlace := ["math.Float64bits"], unfollowed := true, recurses := true, apart := false, narrowed := true }
def CapsHoldUptoSaid : Prop := capsHoldUptoRow.holds Try.pinned (OpenSpec.upto capsHoldSpec)

/-- 'fareboxlaw19.CapsLess', WHERE WHAT IT READS IS OF BULK AT MOST 1048576: true; the input reads as it did. -/
def capsLessUptoRow : OpenClaim := { program := "ytdbnppbfoohjjaa", sum := "7d80c153322360c93d08bda6ce93ca7f006489de53ebaf49582530b8c4d4c839", func := "farebox/fareboxlaw19.CapsLess", spec := "capsLess", inPlace := ["math.Float64bits"], unfollowed := true, recurses := true, apart := false, narrowed := true }
def CapsLessUptoSaid : Prop := capsLessUptoRow.holds Try.pinned (OpenSpec.upto capsLessSpec)

/-- 'fareboxlaw20.RefundAsks', WHERE WHAT IT READS IS OF BULK AT MOST 1048576: true; the input reads as it did. -/
def refundAsksUptoRow : OpenClaim := { program := "ytdbnppbfoohjjaa", sum := "7d80c153322360c93d08bda6ce93ca7f006489de53ebaf49582530b8c4d4c839", func := "farebox/fareboxlaw20.RefundAsks", spec := "refundAsks", inPlace := ["math.Float64bits"], unfollowed := true, recurses := true, apart := false, narrowed := true }
def RefundAsksUptoSaid : Prop := refundAsksUptoRow.holds Try.pinned (OpenSpec.upto refundAsksSpec)

/-- 'fareboxlaw20.RefundLess', WHERE WHAT IT READS IS OF BULK AT MOST 1048576: true; the input reads as it did. -/
def refundLessUptoRow : OpenClaim := { program := "ytdbnppbfoohjjaa", sum := "7d80c153322360c93d08bda6ce93ca7f006489de53ebaf49582530b8c4d4c839", func := "farebox/fareboxlaw20.RefundLess", spec := "refundLess", inPlace := ["math.Float64bits"], unfollowed := true, recurses := true, apart := false, narrowed := true }
def RefundLessUptoSaid : Prop := refundLessUptoRow.holds Try.pinned (OpenSpec.upto refundLessSpec)

/-- 'fareboxlaw20.RefundMixed', WHERE WHAT IT READS IS OF BULK AT MOST 1048576: true; the input reads as it did. -/
def refundMixedUptoRow : OpenClaim := { program := "ytdbnppbfoohjjaa", sum := "7d80c153322360c93d08bda6ce93ca7f006489de53ebaf49582530b8c4d4c839", func := "farebox/fareboxlaw20.RefundMixed", spec := "refundMixed", inPlace := ["math.Float64bits"], unfollowed := true, recurses := true, apart := false, narrowed := true }
def RefundMixedUptoSaid : Prop := refundMixedUptoRow.holds Try.pinned (OpenSpec.upto refundMixedSpec)

end Rows
end Go.Proofs.Ytdbnppbfoohjjaa
