/-
  No cell of these rows narrows 'for every input' (looked for: loops, veiled, ifaces, maps, wideKeys, modest, calm, conditions, laid).
  DERIVED. THE GIVEN ROWS OF THIS SEAT. 5 by the template 'for every input the law returns true; each argument reads behind the call as it read before'; 0 by the template 'total and deterministic' (their statements: YtjgbllfppomcmaaGreatTotals.lean).
  GIVEN WITH THE SEED: the statements are not yours to turn. If you find one false, say at which input.
  Laid BY PROGRAM, IN A SANDBOX (cutbox-rows.mjs): the forced cells as the released guide's own fill.sh prints them over the translation 069bd659cb7b5659… (all of the seat's roots in one cut). By AI agents, Wed Nov 11 2026. No macro, syntax, notation, axiom, sorry.
-/
import Derived.Test.YtjgbllfppomcmaaGreatChecked
import GoSem.Claim
import GoSem.ClaimJoined
import GoSem.ClaimMapViews
import Derived.JoinedTies
import Derived.KernelRfl
namespace Go.Proofs.YtjgbllfppomcmaaGreat
/- THE CELL 'sum', in the pinned program and in every row, IS THE sha256 OF THE DUMP (.gsa) THAT YtjgbllfppomcmaaGreatProg.lean LOADS. Nothing in Lean hashes anything: it is a label: what it is worth is what the hold of that sum in a sandbox is worth. -/
noncomputable def Tryz.pinned : Pinned := { name := "ytjgbllfppomcmaagreat", sum := "069bd659cb7b565972d2db4ebc0f71fabb56aed7b08667ba479612a2bbd8987f", checked := Tryz.checked }
namespace Rows
def none {H : Type} : Left H := { results := [], args := [] }

/-- 'fareboxlaw21.ChargeBills': WHATEVER THE INPUT: true; the input reads as it did. -/
def chargeBillsSpec : ChangeSpec := { name := "chargeBills", fn := fun _ => fun
  | [d1, d2, d3] => { results := [.lit (.bool true)], args := [d1, d2, d3] }
  | _ => none }
def chargeBillsRow : OpenClaim := { program := "ytjgbllfppomcmaagreat", sum := "069bd659cb7b565972d2db4ebc0f71fabb56aed7b08667ba479612a2bbd8987f", func := "farebox/fareboxlaw21.ChargeBills", spec := "chargeBills", inPlace := ["math.Float64bits", "math/bits.Add64"], unfollowed := true, recurses := true, apart := false }
def ChargeBillsSaid : Prop := chargeBillsRow.holds Tryz.pinned (OpenSpec.ofChange chargeBillsSpec)

/-- ITS FALSE NEIGHBOUR: 'it returns false'. Refute it at one input. -/
def chargeBillsWrong : ChangeSpec := { name := "chargeBills", fn := fun _ => fun
  | [d1, d2, d3] => { results := [.lit (.bool false)], args := [d1, d2, d3] }
  | _ => none }
def ChargeBillsWrongFalsely : Prop := chargeBillsRow.holds Tryz.pinned (OpenSpec.ofChange chargeBillsWrong)

/-- 'fareboxlaw21.ChargeRefunds': WHATEVER THE INPUT: true; the input reads as it did. -/
def chargeRefundsSpec : ChangeSpec := { name := "chargeRefunds", fn := fun _ => fun
  | [d1, d2, d3] => { results := [.lit (.bool true)], args := [d1, d2, d3] }
  | _ => none }
def chargeRefundsRow : OpenClaim := { program := "ytjgbllfppomcmaagreat", sum := "069bd659cb7b565972d2db4ebc0f71fabb56aed7b08667ba479612a2bbd8987f", func := "farebox/fareboxlaw21.ChargeRefunds", spec := "chargeRefunds", inPlace := ["math.Float64bits", "math/bits.Add64"], unfollowed := true, recurses := true, apart := false }
def ChargeRefundsSaid : Prop := chargeRefundsRow.holds Tryz.pinned (OpenSpec.ofChange chargeRefundsSpec)

/-- ITS FALSE NEIGHBOUR: 'it returns false'. Refute it at one input. -/
def chargeRefundsWrong : ChangeSpec := { name := "chargeRefunds", fn := fun _ => fun
  | [d1, d2, d3] => { results := [.lit (.bool false)], args := [d1, d2, d3] }
  | _ => none }
def ChargeRefundsWrongFalsely : Prop := chargeRefundsRow.holds Tryz.pinned (OpenSpec.ofChange chargeRefundsWrong)

/-- 'fareboxlaw21.ChargeCaps': WHATEVER THE INPUT: true; the input reads as it did. -/
def chargeCapsSpec : ChangeSpec := { name := "chargeCaps", fn := fun _ => fun
  | [d1, d2, d3, d4] => { results := [.lit (.bool true)], args := [d1, d2, d3, d4] }
  | _ => none }
def chargeCapsRow : OpenClaim := { program := "ytjgbllfppomcmaagreat", sum := "069bd659cb7b565972d2db4ebc0f71fabb56aed7b08667ba479612a2bbd8987f", func := "farebox/fareboxlaw21.ChargeCaps", spec := "chargeCaps", inPlace := ["math.Float64bits", "math/bits.Add64"], unfollowed := true, recurses := true, apart := false }
def ChargeCapsSaid : Prop := chargeCapsRow.holds Tryz.pinned (OpenSpec.ofChange chargeCapsSpec)

/-- ITS FALSE NEIGHBOUR: 'it returns false'. Refute it at one input. -/
def chargeCapsWrong : ChangeSpec := { name := "chargeCaps", fn := fun _ => fun
  | [d1, d2, d3, d4] => { results := [.lit (.bool false)], args := [d1, d2, d3, d4] }
  | _ => none }
def ChargeCapsWrongFalsely : Prop := chargeCapsRow.holds Tryz.pinned (OpenSpec.ofChange chargeCapsWrong)

/-- 'fareboxlaw21.ChargeAlike': WHATEVER THE INPUT: true; the input reads as it did. -/
def chargeAlikeSpec : ChangeSpec := { name := "chargeAlike", fn := fun _ => fun
  | [d1, d2, d3] => { results := [.lit (.bool true)], args := [d1, d2, d3] }
  | _ => none }
def chargeAlikeRow : OpenClaim := { program := "ytjgbllfppomcmaagreat", sum := "069bd659cb7b565972d2db4ebc0f71fabb56aed7b08667ba479612a2bbd8987f", func := "farebox/fareboxlaw21.ChargeAlike", spec := "chargeAlike", inPlace := ["math.Float64bits", "math/bits.Add64"], unfollowed := true, recurses := true, apart := false }
def ChargeAlikeSaid : Prop := chargeAlikeRow.holds Tryz.pinned (OpenSpec.ofChange chargeAlikeSpec)

/-- ITS FALSE NEIGHBOUR: 'it returns false'. Refute it at one input. -/
def chargeAlikeWrong : ChangeSpec := { name := "chargeAlike", fn := fun _ => fun
  | [d1, d2, d3] => { results := [.lit (.bool false)], args := [d1, d2, d3] }
  | _ => none }
def ChargeAlikeWrongFalsely : Prop := chargeAlikeRow.holds Tryz.pinned (OpenSpec.ofChange chargeAlikeWrong)

/-- 'fareboxlaw21.ChargeBuses': WHATEVER THE INPUT: true; the input reads as it did. -/
def chargeBusesSpec : ChangeSpec := { name := "chargeBuses", fn := fun _ => fun
  | [d1, d2, d3] => { results := [.lit (.bool true)], args := [d1, d2, d3] }
  | _ => none }
def chargeBusesRow : OpenClaim := { program := "ytjgbllfppomcmaagreat", sum := "069bd659cb7b565972d2db4ebc0f71fabb56aed7b08667ba479612a2bbd8987f", func := "farebox/fareboxlaw21.ChargeBuses", spec := "chargeBuses", inPlace := ["math.Float64bits", "math/bits.Add64"], unfollowed := true, recurses := true, apart := false }
def ChargeBusesSaid : Prop := chargeBusesRow.holds Tryz.pinned (OpenSpec.ofChange chargeBusesSpec)

/-- ITS FALSE NEIGHBOUR: 'it returns false'. Refute it at one input. -/
def chargeBusesWrong : ChangeSpec := { name := "chargeBuses", fn := fun _ => fun
  | [d1, d2, d3] => { results := [.lit (.bool false)], args := [d1, d2, d3] }
  | _ => none }
def ChargeBusesWrongFalsely : Prop := chargeBusesRow.holds Tryz.pinned (OpenSpec.ofChange chargeBusesWrong)

/- THE SECOND FORM. 'bulk': how many values and letters a reading holds, each counted each time it is reached (what is shared counts as often as it is met; a slice's spare places count too). A statement '..UptoSaid' is the law's where the arguments, and the package variables that the reading takes, are together of bulk at most 1048576: NARROWER than '..Said'. Prove '..Said' where nothing that the law and all that it calls make is longer than what came in: it says more and counts as full. Else prove '..UptoSaid'. A law counts once. -/
mutual
def uptoBulk {H : Type} : DataW H → Nat
  | .lit (.string bytes) => bytes.length + 1
  | .lit _ => 1
  | .nil => 1
  | .ptr d => uptoBulk d + 1
  | .slice elems spare => uptoBulkAll elems + uptoBulkAll spare + 1
  | .agg parts => uptoBulkAll parts + 1
  | .iface _ d => uptoBulk d + 1
  | .map entries => uptoBulkEntries entries + 1
  | .held _ => 1
def uptoBulkAll {H : Type} : List (DataW H) → Nat
  | [] => 0
  | d :: r => uptoBulk d + uptoBulkAll r
def uptoBulkEntries {H : Type} : List (Lit × DataW H) → Nat
  | [] => 0
  | x :: r => uptoBulkEntry x + uptoBulkEntries r
def uptoBulkEntry {H : Type} : Lit × DataW H → Nat
  | (.string bytes, d) => bytes.length + uptoBulk d + 1
  | (_, d) => uptoBulk d + 1
 end
def uptoSmall : (H : Type) → List (DataW H) → Bool := fun _ ds => decide (uptoBulkAll ds ≤ 1048576)
def OpenSpec.upto (s : _root_.Go.ChangeSpec) : _root_.Go.OpenSpec := { _root_.Go.OpenSpec.ofChange s with cond := some uptoSmall }

/-- 'fareboxlaw21.ChargeBills', WHERE WHAT IT READS IS OF BULK AT MOST 1048576: true; the input reads as it did. -/
def chargeBillsUptoRow : OpenClaim := { program := "ytjgbllfppomcmaagreat", sum := "069bd659cb7b565972d2db4ebc0f71fabb56aed7b08667ba479612a2bbd8987f", func := "farebox/fareboxlaw21.ChargeBills", spec := "chargeBills", inPlace := ["math.Float64bits", "math/bits.Add64"], unfollowed := true, recurses := true, apart := false, narrowed := true }
def ChargeBillsUptoSaid : Prop := chargeBillsUptoRow.holds Tryz.pinned (OpenSpec.upto chargeBillsSpec)

/-- 'fareboxlaw21.ChargeRefunds', WHERE WHAT IT READS IS OF BULK AT MOST 1048576: true; the input reads as it did. -/
def chargeRefundsUptoRow : OpenClaim := { program := "ytjgbllfppomcmaagreat", sum := "069bd659cb7b565972d2db4ebc0f71fabb56aed7b08667ba479612a2bbd8987f", func := "farebox/fareboxlaw21.ChargeRefunds", spec := "chargeRefunds", inPlace := ["math.Float64bits", "math/bits.Add64"], unfollowed := true, recurses := true, apart := false, narrowed := true }
def ChargeRefundsUptoSaid : Prop := chargeRefundsUptoRow.holds Tryz.pinned (OpenSpec.upto chargeRefundsSpec)

/-- 'fareboxlaw21.ChargeCaps', WHERE WHAT IT READS IS OF BULK AT MOST 1048576: true; the input reads as it did. -/
def chargeCapsUptoRow : OpenClaim := { program := "ytjgbllfppomcmaagreat", sum := "069bd659cb7b565972d2db4ebc0f71fabb56aed7b08667ba479612a2bbd8987f", func := "farebox/fareboxlaw21.ChargeCaps", spec := "chargeCaps", inPlace := ["math.Float64bits", "math/bits.Add64"], unfollowed := true, recurses := true, apart := false, narrowed := true }
def ChargeCapsUptoSaid : Prop := chargeCapsUptoRow.holds Tryz.pinned (OpenSpec.upto chargeCapsSpec)

/-- 'fareboxlaw21.ChargeAlike', WHERE WHAT IT READS IS OF BULK AT MOST 1048576: true; the input reads as it did. -/
def chargeAlikeUptoRow : OpenClaim := { program := "ytjgbllfppomcmaagreat", sum := "069bd659cb7b565972d2db4ebc0f71fabb56aed7b08667ba479612a2bbd8987f", func := "farebox/fareboxlaw21.ChargeAlike", spec := "chargeAlike", inPlace := ["math.Float64bits", "math/bits.Add64"], unfollowed := true, recurses := true, apart := false, narrowed := true }
def ChargeAlikeUptoSaid : Prop := chargeAlikeUptoRow.holds Tryz.pinned (OpenSpec.upto chargeAlikeSpec)

/-- 'fareboxlaw21.ChargeBuses', WHERE WHAT IT READS IS OF BULK AT MOST 1048576: true; the input reads as it did. -/
def chargeBusesUptoRow : OpenClaim := { program := "ytjgbllfppomcmaagreat", sum := "069bd659cb7b565972d2db4ebc0f71fabb56aed7b08667ba479612a2bbd8987f", func := "farebox/fareboxlaw21.ChargeBuses", spec := "chargeBuses", inPlace := ["math.Float64bits", "math/bits.Add64"], unfollowed := true, recurses := true, apart := false, narrowed := true }
def ChargeBusesUptoSaid : Prop := chargeBusesUptoRow.holds Tryz.pinned (OpenSpec.upto chargeBusesSpec)

end Rows
end Go.Proofs.YtjgbllfppomcmaaGreat
