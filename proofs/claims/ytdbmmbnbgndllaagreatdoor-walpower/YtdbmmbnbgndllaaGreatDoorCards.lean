/-
  DERIVED. GIVEN WITH THE SEED: THE CARDS: each row of YtdbmmbnbgndllaaGreatDoorRows.lean that lists a variable, with what it lists TIED to the program's text (the seventh form; the later family's looks); each row that meets fmt, with fmt's text TOLD by the authors' own Lean function (tested against real Go, not proved from fmt's source: count such statements apart). THE CARD IS WHAT COUNTS. Prove the row's statement (the work); the ties are given (YtdbmmbnbgndllaaGreatDoorTie.lean); close each card by the builder's one call (the guide's Derived/Test/ToyasCard.lean, 'card_holds'). Laid BY PROGRAM, IN A SANDBOX (cutbox-door.mjs). By AI agents, Wed Nov 11 2026. No macro, syntax, notation, axiom, sorry.
-/
import Derived.Test.YtdbmmbnbgndllaaGreatDoorRows
import GoSem.ClaimSeven
namespace Go.Proofs.YtdbmmbnbgndllaaGreatDoor
namespace Rows

/-- THE TIED CARD OF 'fareboxlaw09.WalRooms'. -/
def walRoomsCard : Claim7 := { stood := { row := walRoomsRow, standIns := [], harness := (true, "09fe24ddf0b2e94532bff732c03490d18ec26c32eb9877780b256a53ddfc7fb9"), looks := true }, kinds := [], alts := [], laidByText := true, laidKinds := [.data], laidTests := true, laidLooks := .later }
def WalRoomsCardSaid : Prop := Claim7.holds Tryz.pinned (.plain (OpenSpec.ofChange walRoomsSpec)) walRoomsCard

/-- THE TIED CARD OF 'fareboxlaw09.WalPlays'. -/
def walPlaysCard : Claim7 := { stood := { row := walPlaysRow, standIns := [], harness := (true, "09fe24ddf0b2e94532bff732c03490d18ec26c32eb9877780b256a53ddfc7fb9"), looks := true }, kinds := [], alts := [], laidByText := true, laidKinds := [.handle, .data], laidTests := true, laidLooks := .later }
def WalPlaysCardSaid : Prop := Claim7.holds Tryz.pinned (.plain (OpenSpec.ofChange walPlaysSpec)) walPlaysCard

/-- THE TIED CARD OF 'fareboxlaw09.WalBack'. -/
def walBackCard : Claim7 := { stood := { row := walBackRow, standIns := [], harness := (true, "09fe24ddf0b2e94532bff732c03490d18ec26c32eb9877780b256a53ddfc7fb9"), looks := true }, kinds := [], alts := [], laidByText := true, laidKinds := [.data], laidTests := true, laidLooks := .later }
def WalBackCardSaid : Prop := Claim7.holds Tryz.pinned (.plain (OpenSpec.ofChange walBackSpec)) walBackCard

/-- THE TIED CARD OF 'fareboxlaw09.WalPower'. -/
def walPowerCard : Claim7 := { stood := { row := walPowerRow, standIns := [], harness := (true, "09fe24ddf0b2e94532bff732c03490d18ec26c32eb9877780b256a53ddfc7fb9"), looks := true }, kinds := [], alts := [], laidByText := true, laidKinds := [.handle, .data], laidTests := true, laidLooks := .later }
def WalPowerCardSaid : Prop := Claim7.holds Tryz.pinned (.plain (OpenSpec.ofChange walPowerSpec)) walPowerCard

/-- THE TIED CARD OF 'fareboxlaw09.WalNothing'. -/
def walNothingCard : Claim7 := { stood := { row := walNothingRow, standIns := [], harness := (true, "09fe24ddf0b2e94532bff732c03490d18ec26c32eb9877780b256a53ddfc7fb9"), looks := true }, kinds := [], alts := [], laidByText := true, laidKinds := [.data], laidTests := true, laidLooks := .later }
def WalNothingCardSaid : Prop := Claim7.holds Tryz.pinned (.plain (OpenSpec.ofChange walNothingSpec)) walNothingCard

/-- THE TIED CARD OF 'fareboxlaw10.QueueSectors'. -/
def queueSectorsCard : Claim7 := { stood := { row := queueSectorsRow, standIns := [], harness := (true, "09fe24ddf0b2e94532bff732c03490d18ec26c32eb9877780b256a53ddfc7fb9"), looks := true }, kinds := [], alts := [], laidByText := true, laidKinds := [.handle, .data], laidTests := true, laidLooks := .later }
def QueueSectorsCardSaid : Prop := Claim7.holds Tryz.pinned (.plain (OpenSpec.ofChange queueSectorsSpec)) queueSectorsCard

/-- THE SECOND FORM's CARD OF 'fareboxlaw09.WalRooms'. -/
def walRoomsUptoCard : Claim7 := { stood := { row := walRoomsUptoRow, standIns := [], harness := (true, "09fe24ddf0b2e94532bff732c03490d18ec26c32eb9877780b256a53ddfc7fb9"), looks := true }, kinds := [], alts := [], laidByText := true, laidKinds := [.data], laidTests := true, laidLooks := .later }
def WalRoomsUptoCardSaid : Prop := Claim7.holds Tryz.pinned (.plain (OpenSpec.upto walRoomsSpec)) walRoomsUptoCard

/-- THE SECOND FORM's CARD OF 'fareboxlaw09.WalPlays'. -/
def walPlaysUptoCard : Claim7 := { stood := { row := walPlaysUptoRow, standIns := [], harness := (true, "09fe24ddf0b2e94532bff732c03490d18ec26c32eb9877780b256a53ddfc7fb9"), looks := true }, kinds := [], alts := [], laidByText := true, laidKinds := [.handle, .data], laidTests := true, laidLooks := .later }
def WalPlaysUptoCardSaid : Prop := Claim7.holds Tryz.pinned (.plain (OpenSpec.upto walPlaysSpec)) walPlaysUptoCard

/-- THE SECOND FORM's CARD OF 'fareboxlaw09.WalBack'. -/
def walBackUptoCard : Claim7 := { stood := { row := walBackUptoRow, standIns := [], harness := (true, "09fe24ddf0b2e94532bff732c03490d18ec26c32eb9877780b256a53ddfc7fb9"), looks := true }, kinds := [], alts := [], laidByText := true, laidKinds := [.data], laidTests := true, laidLooks := .later }
def WalBackUptoCardSaid : Prop := Claim7.holds Tryz.pinned (.plain (OpenSpec.upto walBackSpec)) walBackUptoCard

/-- THE SECOND FORM's CARD OF 'fareboxlaw09.WalPower'. -/
def walPowerUptoCard : Claim7 := { stood := { row := walPowerUptoRow, standIns := [], harness := (true, "09fe24ddf0b2e94532bff732c03490d18ec26c32eb9877780b256a53ddfc7fb9"), looks := true }, kinds := [], alts := [], laidByText := true, laidKinds := [.handle, .data], laidTests := true, laidLooks := .later }
def WalPowerUptoCardSaid : Prop := Claim7.holds Tryz.pinned (.plain (OpenSpec.upto walPowerSpec)) walPowerUptoCard

/-- THE SECOND FORM's CARD OF 'fareboxlaw09.WalNothing'. -/
def walNothingUptoCard : Claim7 := { stood := { row := walNothingUptoRow, standIns := [], harness := (true, "09fe24ddf0b2e94532bff732c03490d18ec26c32eb9877780b256a53ddfc7fb9"), looks := true }, kinds := [], alts := [], laidByText := true, laidKinds := [.data], laidTests := true, laidLooks := .later }
def WalNothingUptoCardSaid : Prop := Claim7.holds Tryz.pinned (.plain (OpenSpec.upto walNothingSpec)) walNothingUptoCard

/-- THE SECOND FORM's CARD OF 'fareboxlaw10.QueueSectors'. -/
def queueSectorsUptoCard : Claim7 := { stood := { row := queueSectorsUptoRow, standIns := [], harness := (true, "09fe24ddf0b2e94532bff732c03490d18ec26c32eb9877780b256a53ddfc7fb9"), looks := true }, kinds := [], alts := [], laidByText := true, laidKinds := [.handle, .data], laidTests := true, laidLooks := .later }
def QueueSectorsUptoCardSaid : Prop := Claim7.holds Tryz.pinned (.plain (OpenSpec.upto queueSectorsSpec)) queueSectorsUptoCard
end Rows
end Go.Proofs.YtdbmmbnbgndllaaGreatDoor
