/-
  No cell of these rows narrows 'for every input' (looked for: loops, veiled, ifaces, maps, wideKeys, modest, calm, conditions, laid).
  DERIVED. THE GIVEN ROWS OF THIS SEAT. 5 by the template 'for every input the law returns true; each argument reads behind the call as it read before'; 0 by the template 'total and deterministic' (their statements: YthgkdpepgnoepaaTotals.lean).
  GIVEN WITH THE SEED: the statements are not yours to turn. If you find one false, say at which input.
  Laid BY PROGRAM, IN A SANDBOX (cutbox-rows.mjs): the forced cells as the released guide's own fill.sh prints them over the translation b39d800fc2c7673d… (all of the seat's roots in one cut). By AI agents, Wed Nov 11 2026. No macro, syntax, notation, axiom, sorry.
-/
import Derived.Test.YthgkdpepgnoepaaChecked
import GoSem.Claim
import GoSem.ClaimJoined
import GoSem.ClaimMapViews
import Derived.JoinedTies
import Derived.KernelRfl
namespace Go.Proofs.Ythgkdpepgnoepaa
/- THE CELL 'sum', in the pinned program and in every row, IS THE sha256 OF THE DUMP (.gsa) THAT YthgkdpepgnoepaaProg.lean LOADS. Nothing in Lean hashes anything: it is a label: what it is worth is what the hold of that sum in a sandbox is worth. -/
noncomputable def Try.pinned : Pinned := { name := "ythgkdpepgnoepaa", sum := "b39d800fc2c7673d3315892dc8657aed9557b6cd08423b789087c139461e655b", checked := Try.checked }
namespace Rows
def none {H : Type} : Left H := { results := [], args := [] }

/-- 'fareboxlaw07.TariffRights': WHATEVER THE INPUT: true; the input reads as it did. -/
def tariffRightsSpec : ChangeSpec := { name := "tariffRights", fn := fun _ => fun
  | [d] => { results := [.lit (.bool true)], args := [d] }
  | _ => none }
def tariffRightsRow : OpenClaim := { program := "ythgkdpepgnoepaa", sum := "b39d800fc2c7673d3315892dc8657aed9557b6cd08423b789087c139461e655b", func := "farebox/fareboxlaw07.TariffRights", spec := "tariffRights", inPlace := ["math.Float64bits", "math/bits.Add64"], unfollowed := true, recurses := true, apart := false }
def TariffRightsSaid : Prop := tariffRightsRow.holds Try.pinned (OpenSpec.ofChange tariffRightsSpec)

/-- ITS FALSE NEIGHBOUR: 'it returns false'. Refute it at one input. -/
def tariffRightsWrong : ChangeSpec := { name := "tariffRights", fn := fun _ => fun
  | [d] => { results := [.lit (.bool false)], args := [d] }
  | _ => none }
def TariffRightsWrongFalsely : Prop := tariffRightsRow.holds Try.pinned (OpenSpec.ofChange tariffRightsWrong)

/-- 'fareboxlaw07.TariffAsks': WHATEVER THE INPUT: true; the input reads as it did. -/
def tariffAsksSpec : ChangeSpec := { name := "tariffAsks", fn := fun _ => fun
  | [d1, d2, d3, d4, d5] => { results := [.lit (.bool true)], args := [d1, d2, d3, d4, d5] }
  | _ => none }
def tariffAsksRow : OpenClaim := { program := "ythgkdpepgnoepaa", sum := "b39d800fc2c7673d3315892dc8657aed9557b6cd08423b789087c139461e655b", func := "farebox/fareboxlaw07.TariffAsks", spec := "tariffAsks", inPlace := ["math.Float64bits", "math/bits.Add64"], unfollowed := true, recurses := true, apart := false }
def TariffAsksSaid : Prop := tariffAsksRow.holds Try.pinned (OpenSpec.ofChange tariffAsksSpec)

/-- ITS FALSE NEIGHBOUR: 'it returns false'. Refute it at one input. -/
def tariffAsksWrong : ChangeSpec := { name := "tariffAsks", fn := fun _ => fun
  | [d1, d2, d3, d4, d5] => { results := [.lit (.bool false)], args := [d1, d2, d3, d4, d5] }
  | _ => none }
def TariffAsksWrongFalsely : Prop := tariffAsksRow.holds Try.pinned (OpenSpec.ofChange tariffAsksWrong)

/-- 'fareboxlaw07.TariffCopies': WHATEVER THE INPUT: true; the input reads as it did. -/
def tariffCopiesSpec : ChangeSpec := { name := "tariffCopies", fn := fun _ => fun
  | [d] => { results := [.lit (.bool true)], args := [d] }
  | _ => none }
def tariffCopiesRow : OpenClaim := { program := "ythgkdpepgnoepaa", sum := "b39d800fc2c7673d3315892dc8657aed9557b6cd08423b789087c139461e655b", func := "farebox/fareboxlaw07.TariffCopies", spec := "tariffCopies", inPlace := ["math.Float64bits", "math/bits.Add64"], unfollowed := true, recurses := true, apart := false }
def TariffCopiesSaid : Prop := tariffCopiesRow.holds Try.pinned (OpenSpec.ofChange tariffCopiesSpec)

/-- ITS FALSE NEIGHBOUR: 'it returns false'. Refute it at one input. -/
def tariffCopiesWrong : ChangeSpec := { name := "tariffCopies", fn := fun _ => fun
  | [d] => { results := [.lit (.bool false)], args := [d] }
  | _ => none }
def TariffCopiesWrongFalsely : Prop := tariffCopiesRow.holds Try.pinned (OpenSpec.ofChange tariffCopiesWrong)

/-- 'fareboxlaw07.TariffWider': WHATEVER THE INPUT: true; the input reads as it did. -/
def tariffWiderSpec : ChangeSpec := { name := "tariffWider", fn := fun _ => fun
  | [d1, d2, d3, d4, d5] => { results := [.lit (.bool true)], args := [d1, d2, d3, d4, d5] }
  | _ => none }
def tariffWiderRow : OpenClaim := { program := "ythgkdpepgnoepaa", sum := "b39d800fc2c7673d3315892dc8657aed9557b6cd08423b789087c139461e655b", func := "farebox/fareboxlaw07.TariffWider", spec := "tariffWider", inPlace := ["math.Float64bits", "math/bits.Add64"], unfollowed := true, recurses := true, apart := false }
def TariffWiderSaid : Prop := tariffWiderRow.holds Try.pinned (OpenSpec.ofChange tariffWiderSpec)

/-- ITS FALSE NEIGHBOUR: 'it returns false'. Refute it at one input. -/
def tariffWiderWrong : ChangeSpec := { name := "tariffWider", fn := fun _ => fun
  | [d1, d2, d3, d4, d5] => { results := [.lit (.bool false)], args := [d1, d2, d3, d4, d5] }
  | _ => none }
def TariffWiderWrongFalsely : Prop := tariffWiderRow.holds Try.pinned (OpenSpec.ofChange tariffWiderWrong)

/-- 'fareboxlaw07.TariffRates': WHATEVER THE INPUT: true; the input reads as it did. -/
def tariffRatesSpec : ChangeSpec := { name := "tariffRates", fn := fun _ => fun
  | [d1, d2, d3, d4] => { results := [.lit (.bool true)], args := [d1, d2, d3, d4] }
  | _ => none }
def tariffRatesRow : OpenClaim := { program := "ythgkdpepgnoepaa", sum := "b39d800fc2c7673d3315892dc8657aed9557b6cd08423b789087c139461e655b", func := "farebox/fareboxlaw07.TariffRates", spec := "tariffRates", inPlace := ["math.Float64bits", "math/bits.Add64"], unfollowed := true, recurses := true, apart := false }
def TariffRatesSaid : Prop := tariffRatesRow.holds Try.pinned (OpenSpec.ofChange tariffRatesSpec)

/-- ITS FALSE NEIGHBOUR: 'it returns false'. Refute it at one input. -/
def tariffRatesWrong : ChangeSpec := { name := "tariffRates", fn := fun _ => fun
  | [d1, d2, d3, d4] => { results := [.lit (.bool false)], args := [d1, d2, d3, d4] }
  | _ => none }
def TariffRatesWrongFalsely : Prop := tariffRatesRow.holds Try.pinned (OpenSpec.ofChange tariffRatesWrong)

/- THE SECOND FORM. 'bulk': how many values and letters a reading holds, each counted each time it is reached (what is shared counts as often as it is met; a slice's spare places count too). A statement '..UptoSaid' is the law's where the arguments, and the package variables that the reading takes, are together of bulk at most 1048576: NARROWER than '..Said'. Prove '..Said' where nothing that the law and all that it calls make is longer than what came in: it says more and counts as full. Else prove '..UptoSaid'. A law counts once. -/
mutual
def uptoBulk {H : Type} : DataW H → Nat
  | .lit (.string bytes) => bytes.length + 1
  | .lit _ => 1
  | .nil => 1
  | .ptr d => uptoBulk d + 1
  | .slice elems spare => uptoBulkAll elems + uptoBulkAll spare + 1
  | .agg parts => uptoBulkAll parts + 1
  | .iface _ d => uptoBulk d + 1
  | .map entries => uptoBulkEntries entries + 1
  | .held _ => 1
def uptoBulkAll {H : Type} : List (DataW H) → Nat
  | [] => 0
  | d :: r => uptoBulk d + uptoBulkAll r
def uptoBulkEntries {H : Type} : List (Lit × DataW H) → Nat
  | [] => 0
  | x :: r => uptoBulkEntry x + uptoBulkEntries r
def uptoBulkEntry {H : Type} : Lit × DataW H → Nat
  | (.string bytes, d) => bytes.length + uptoBulk d + 1
  | (_, d) => uptoBulk d + 1
 end
def uptoSmall : (H : Type) → List (DataW H) → Bool := fun _ ds => decide (uptoBulkAll ds ≤ 1048576)
def OpenSpec.upto (s : _root_.Go.ChangeSpec) : _root_.Go.OpenSpec := { _root_.Go.OpenSpec.ofChange s with cond := some uptoSmall }

/-- 'fareboxlaw07.TariffRights', WHERE WHAT IT READS IS OF BULK AT MOST 1048576: true; the input reads as it did. -/
def tariffRightsUptoRow : OpenClaim := { program := "ythgkdpepgnoepaa", sum := "b39d800fc2c7673d3315892dc8657aed9557b6cd08423b789087c139461e655b", func := "farebox/fareboxlaw07.TariffRights", spec := "tariffRights", inPlace := ["math.Float64bits", "math/bits.Add64"], unfollowed := true, recurses := true, apart := false, narrowed := true }
def TariffRightsUptoSaid : Prop := tariffRightsUptoRow.holds Try.pinned (OpenSpec.upto tariffRightsSpec)

/-- 'fareboxlaw07.TariffAsks', WHERE WHAT IT READS IS OF BULK AT MOST 1048576: true; the input reads as it did. -/
def tariffAsksUptoRow : OpenClaim := { program := "ythgkdpepgnoepaa", sum := "b39d800fc2c7673d3315892dc8657aed9557b6cd08423b789087c139461e655b", func := "farebox/fareboxlaw07.TariffAsks", spec := "tariffAsks", inPlace := ["math.Float64bits", "math/bits.Add64"], unfollowed := true, recurses := true, apart := false, narrowed := true }
def TariffAsksUptoSaid : Prop := tariffAsksUptoRow.holds Try.pinned (OpenSpec.upto tariffAsksSpec)

/-- 'fareboxlaw07.TariffCopies', WHERE WHAT IT READS IS OF BULK AT MOST 1048576: true; the input reads as it did. -/
def tariffCopiesUptoRow : OpenClaim := { program := "ythgkdpepgnoepaa", sum := "b39d800fc2c7673d3315892dc8657aed9557b6cd08423b789087c139461e655b", func := "farebox/fareboxlaw07.TariffCopies", spec := "tariffCopies", inPlace := ["math.Float64bits", "math/bits.Add64"], unfollowed := true, recurses := true, apart := false, narrowed := true }
def TariffCopiesUptoSaid : Prop := tariffCopiesUptoRow.holds Try.pinned (OpenSpec.upto tariffCopiesSpec)

/-- 'fareboxlaw07.TariffWider', WHERE WHAT IT READS IS OF BULK AT MOST 1048576: true; the input reads as it did. -/
def tariffWiderUptoRow : OpenClaim := { program := "ythgkdpepgnoepaa", sum := "b39d800fc2c7673d3315892dc8657aed9557b6cd08423b789087c139461e655b", func := "farebox/fareboxlaw07.TariffWider", spec := "tariffWider", inPlace := ["math.Float64bits", "math/bits.Add64"], unfollowed := true, recurses := true, apart := false, narrowed := true }
def TariffWiderUptoSaid : Prop := tariffWiderUptoRow.holds Try.pinned (OpenSpec.upto tariffWiderSpec)

/-- 'fareboxlaw07.TariffRates', WHERE WHAT IT READS IS OF BULK AT MOST 1048576: true; the input reads as it did. -/
def tariffRatesUptoRow : OpenClaim := { program := "ythgkdpepgnoepaa", sum := "b39d800fc2c7673d3315892dc8657aed9557b6cd08423b789087c139461e655b", func := "farebox/fareboxlaw07.TariffRates", spec := "tariffRates", inPlace := ["math.Float64bits", "math/bits.Add64"], unfollowed := true, recurses := true, apart := false, narrowed := true }
def TariffRatesUptoSaid : Prop := tariffRatesUptoRow.holds Try.pinned (OpenSpec.upto tariffRatesSpec)

end Rows
end Go.Proofs.Ythgkdpepgnoepaa
