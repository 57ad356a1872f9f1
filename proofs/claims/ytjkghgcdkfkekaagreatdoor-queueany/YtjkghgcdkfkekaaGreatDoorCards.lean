/-
  DERIVED. GIVEN WITH THE SEED: THE CARDS: each row of YtjkghgcdkfkekaaGreatDoorRows.lean that lists a variable, with what it lists TIED to the program's text (the seventh form; the later family's looks); each row that meets fmt, with fmt's text TOLD by the authors' own Lean function (tested against real Go, not proved from fmt's source: count such statements apart). THE CARD IS WHAT COUNTS. Prove the row's statement (the work); the ties are given (YtjkghgcdkfkekaaGreatDoorTie.lean); close each card by the builder's one call (the guide's Derived/Test/ToyasCard.lean, 'card_holds'). Laid BY PROGRAM, IN A SANDBOX (cutbox-door.mjs). By AI agents, Wed Nov 11 2026. No macro, syntax, notation, axiom, sorry.
-/
import Derived.Test.YtjkghgcdkfkekaaGreatDoorRows
import GoSem.ClaimSeven
namespace Go.Proofs.YtjkghgcdkfkekaaGreatDoor
namespace Rows

/-- THE TIED CARD OF 'fareboxlaw09.WalNothing'. -/
def walNothingCard : Claim7 := { stood := { row := walNothingRow, standIns := [], harness := (true, "460e531e54a3ff9b007eb94d50815d1d66820e1d3dd2a8d5d10d17f0ff1a85bb"), looks := true }, kinds := [], alts := [], laidByText := true, laidKinds := [.data], laidTests := true, laidLooks := .later }
def WalNothingCardSaid : Prop := Claim7.holds Tryz.pinned (.plain (OpenSpec.ofChange walNothingSpec)) walNothingCard

/-- THE TIED CARD OF 'fareboxlaw10.QueuePlays'. -/
def queuePlaysCard : Claim7 := { stood := { row := queuePlaysRow, standIns := [], harness := (true, "460e531e54a3ff9b007eb94d50815d1d66820e1d3dd2a8d5d10d17f0ff1a85bb"), looks := true }, kinds := [], alts := [], laidByText := true, laidKinds := [.handle, .data], laidTests := true, laidLooks := .later }
def QueuePlaysCardSaid : Prop := Claim7.holds Tryz.pinned (.plain (OpenSpec.ofChange queuePlaysSpec)) queuePlaysCard

/-- THE TIED CARD OF 'fareboxlaw10.QueuePower'. -/
def queuePowerCard : Claim7 := { stood := { row := queuePowerRow, standIns := [], harness := (true, "460e531e54a3ff9b007eb94d50815d1d66820e1d3dd2a8d5d10d17f0ff1a85bb"), looks := true }, kinds := [], alts := [], laidByText := true, laidKinds := [.handle, .data], laidTests := true, laidLooks := .later }
def QueuePowerCardSaid : Prop := Claim7.holds Tryz.pinned (.plain (OpenSpec.ofChange queuePowerSpec)) queuePowerCard

/-- THE TIED CARD OF 'fareboxlaw10.QueueAny'. -/
def queueAnyCard : Claim7 := { stood := { row := queueAnyRow, standIns := [], harness := (true, "460e531e54a3ff9b007eb94d50815d1d66820e1d3dd2a8d5d10d17f0ff1a85bb"), looks := true }, kinds := [], alts := [], laidByText := true, laidKinds := [.handle, .data], laidTests := true, laidLooks := .later }
def QueueAnyCardSaid : Prop := Claim7.holds Tryz.pinned (.plain (OpenSpec.ofChange queueAnySpec)) queueAnyCard

/-- THE SECOND FORM's CARD OF 'fareboxlaw09.WalNothing'. -/
def walNothingUptoCard : Claim7 := { stood := { row := walNothingUptoRow, standIns := [], harness := (true, "460e531e54a3ff9b007eb94d50815d1d66820e1d3dd2a8d5d10d17f0ff1a85bb"), looks := true }, kinds := [], alts := [], laidByText := true, laidKinds := [.data], laidTests := true, laidLooks := .later }
def WalNothingUptoCardSaid : Prop := Claim7.holds Tryz.pinned (.plain (OpenSpec.upto walNothingSpec)) walNothingUptoCard

/-- THE SECOND FORM's CARD OF 'fareboxlaw10.QueuePlays'. -/
def queuePlaysUptoCard : Claim7 := { stood := { row := queuePlaysUptoRow, standIns := [], harness := (true, "460e531e54a3ff9b007eb94d50815d1d66820e1d3dd2a8d5d10d17f0ff1a85bb"), looks := true }, kinds := [], alts := [], laidByText := true, laidKinds := [.handle, .data], laidTests := true, laidLooks := .later }
def QueuePlaysUptoCardSaid : Prop := Claim7.holds Tryz.pinned (.plain (OpenSpec.upto queuePlaysSpec)) queuePlaysUptoCard

/-- THE SECOND FORM's CARD OF 'fareboxlaw10.QueuePower'. -/
def queuePowerUptoCard : Claim7 := { stood := { row := queuePowerUptoRow, standIns := [], harness := (true, "460e531e54a3ff9b007eb94d50815d1d66820e1d3dd2a8d5d10d17f0ff1a85bb"), looks := true }, kinds := [], alts := [], laidByText := true, laidKinds := [.handle, .data], laidTests := true, laidLooks := .later }
def QueuePowerUptoCardSaid : Prop := Claim7.holds Tryz.pinned (.plain (OpenSpec.upto queuePowerSpec)) queuePowerUptoCard

/-- THE SECOND FORM's CARD OF 'fareboxlaw10.QueueAny'. -/
def queueAnyUptoCard : Claim7 := { stood := { row := queueAnyUptoRow, standIns := [], harness := (true, "460e531e54a3ff9b007eb94d50815d1d66820e1d3dd2a8d5d10d17f0ff1a85bb"), looks := true }, kinds := [], alts := [], laidByText := true, laidKinds := [.handle, .data], laidTests := true, laidLooks := .later }
def QueueAnyUptoCardSaid : Prop := Claim7.holds Tryz.pinned (.plain (OpenSpec.upto queueAnySpec)) queueAnyUptoCard
end Rows
end Go.Proofs.YtjkghgcdkfkekaaGreatDoor
