/-
  DERIVED. GIVEN WITH THE SEED: THE CARDS: each row of YtgklgbomfipagaaDoorRows.lean that lists a variable, with what it lists TIED to the program's text (the seventh form; the later family's looks); each row that meets fmt, with fmt's text TOLD by the authors' own Lean function (tested against real Go, not proved from fmt's source: count such statements apart). THE CARD IS WHAT COUNTS. Prove the row's statement (the work); the ties are given (YtgklgbomfipagaaDoorTie.lean); close each card by the builder's one call (the guide's Derived/Test/ToyasCard.lean, 'card_holds'). Laid BY PROGRAM, IN A SANDBOX (cutbox-door.mjs). By AI agents, Wed Nov 11 2026. No macro, syntax, notation, axiom, sorry.
-/
import Derived.Test.YtgklgbomfipagaaDoorRows
import GoSem.ClaimSeven
namespace Go.Proofs.YtgklgbomfipagaaDoor
namespace Rows

/-- THE TIED CARD OF 'fareboxlaw04.SealMacs'. -/
def sealMacsCard : Claim7 := { stood := { row := sealMacsRow, standIns := [], harness := (true, "2b2d2cd8c944ee08e60680d59e74ae9a27bf1bb002cb9133c82e14b05ebfd73e"), looks := false }, kinds := [], alts := [], laidByText := true, laidKinds := [.data, .data, .data, .data], laidTests := true, laidLooks := .later }
def SealMacsCardSaid : Prop := Claim7.holds Tryd.pinned (.plain (OpenSpec.ofChange sealMacsSpec)) sealMacsCard

/-- THE TIED CARD OF 'fareboxlaw04.SealKeys'. -/
def sealKeysCard : Claim7 := { stood := { row := sealKeysRow, standIns := [], harness := (true, "2b2d2cd8c944ee08e60680d59e74ae9a27bf1bb002cb9133c82e14b05ebfd73e"), looks := false }, kinds := [], alts := [], laidByText := true, laidKinds := [.data, .data, .data, .data], laidTests := true, laidLooks := .later }
def SealKeysCardSaid : Prop := Claim7.holds Tryd.pinned (.plain (OpenSpec.ofChange sealKeysSpec)) sealKeysCard

/-- THE TIED CARD OF 'fareboxlaw04.SealOpens'. -/
def sealOpensCard : Claim7 := { stood := { row := sealOpensRow, standIns := [], harness := (true, "2b2d2cd8c944ee08e60680d59e74ae9a27bf1bb002cb9133c82e14b05ebfd73e"), looks := false }, kinds := [], alts := [], laidByText := true, laidKinds := [.data, .data, .data, .data], laidTests := true, laidLooks := .later }
def SealOpensCardSaid : Prop := Claim7.holds Tryd.pinned (.plain (OpenSpec.ofChange sealOpensSpec)) sealOpensCard

/-- THE TIED CARD OF 'fareboxlaw04.SealBack'. -/
def sealBackCard : Claim7 := { stood := { row := sealBackRow, standIns := [], harness := (true, "2b2d2cd8c944ee08e60680d59e74ae9a27bf1bb002cb9133c82e14b05ebfd73e"), looks := false }, kinds := [], alts := [], laidByText := true, laidKinds := [.data, .data], laidTests := true, laidLooks := .later }
def SealBackCardSaid : Prop := Claim7.holds Tryd.pinned (.plain (OpenSpec.ofChange sealBackSpec)) sealBackCard

/-- THE TIED CARD OF 'fareboxlaw04.SealPads'. -/
def sealPadsCard : Claim7 := { stood := { row := sealPadsRow, standIns := [], harness := (true, "2b2d2cd8c944ee08e60680d59e74ae9a27bf1bb002cb9133c82e14b05ebfd73e"), looks := false }, kinds := [], alts := [], laidByText := true, laidKinds := [.data, .data], laidTests := true, laidLooks := .later }
def SealPadsCardSaid : Prop := Claim7.holds Tryd.pinned (.plain (OpenSpec.ofChange sealPadsSpec)) sealPadsCard

/-- THE TIED CARD OF 'fareboxlaw04.SealApart'. -/
def sealApartCard : Claim7 := { stood := { row := sealApartRow, standIns := [], harness := (true, "2b2d2cd8c944ee08e60680d59e74ae9a27bf1bb002cb9133c82e14b05ebfd73e"), looks := false }, kinds := [], alts := [], laidByText := true, laidKinds := [.data, .data], laidTests := true, laidLooks := .later }
def SealApartCardSaid : Prop := Claim7.holds Tryd.pinned (.plain (OpenSpec.ofChange sealApartSpec)) sealApartCard

/-- THE SECOND FORM's CARD OF 'fareboxlaw04.SealMacs'. -/
def sealMacsUptoCard : Claim7 := { stood := { row := sealMacsUptoRow, standIns := [], harness := (true, "2b2d2cd8c944ee08e60680d59e74ae9a27bf1bb002cb9133c82e14b05ebfd73e"), looks := false }, kinds := [], alts := [], laidByText := true, laidKinds := [.data, .data, .data, .data], laidTests := true, laidLooks := .later }
def SealMacsUptoCardSaid : Prop := Claim7.holds Tryd.pinned (.plain (OpenSpec.upto sealMacsSpec)) sealMacsUptoCard

/-- THE SECOND FORM's CARD OF 'fareboxlaw04.SealKeys'. -/
def sealKeysUptoCard : Claim7 := { stood := { row := sealKeysUptoRow, standIns := [], harness := (true, "2b2d2cd8c944ee08e60680d59e74ae9a27bf1bb002cb9133c82e14b05ebfd73e"), looks := false }, kinds := [], alts := [], laidByText := true, laidKinds := [.data, .data, .data, .data], laidTests := true, laidLooks := .later }
def SealKeysUptoCardSaid : Prop := Claim7.holds Tryd.pinned (.plain (OpenSpec.upto sealKeysSpec)) sealKeysUptoCard

/-- THE SECOND FORM's CARD OF 'fareboxlaw04.SealOpens'. -/
def sealOpensUptoCard : Claim7 := { stood := { row := sealOpensUptoRow, standIns := [], harness := (true, "2b2d2cd8c944ee08e60680d59e74ae9a27bf1bb002cb9133c82e14b05ebfd73e"), looks := false }, kinds := [], alts := [], laidByText := true, laidKinds := [.data, .data, .data, .data], laidTests := true, laidLooks := .later }
def SealOpensUptoCardSaid : Prop := Claim7.holds Tryd.pinned (.plain (OpenSpec.upto sealOpensSpec)) sealOpensUptoCard

/-- THE SECOND FORM's CARD OF 'fareboxlaw04.SealBack'. -/
def sealBackUptoCard : Claim7 := { stood := { row := sealBackUptoRow, standIns := [], harness := (true, "2b2d2cd8c944ee08e60680d59e74ae9a27bf1bb002cb9133c82e14b05ebfd73e"), looks := false }, kinds := [], alts := [], laidByText := true, laidKinds := [.data, .data], laidTests := true, laidLooks := .later }
def SealBackUptoCardSaid : Prop := Claim7.holds Tryd.pinned (.plain (OpenSpec.upto sealBackSpec)) sealBackUptoCard

/-- THE SECOND FORM's CARD OF 'fareboxlaw04.SealPads'. -/
def sealPadsUptoCard : Claim7 := { stood := { row := sealPadsUptoRow, standIns := [], harness := (true, "2b2d2cd8c944ee08e60680d59e74ae9a27bf1bb002cb9133c82e14b05ebfd73e"), looks := false }, kinds := [], alts := [], laidByText := true, laidKinds := [.data, .data], laidTests := true, laidLooks := .later }
def SealPadsUptoCardSaid : Prop := Claim7.holds Tryd.pinned (.plain (OpenSpec.upto sealPadsSpec)) sealPadsUptoCard

/-- THE SECOND FORM's CARD OF 'fareboxlaw04.SealApart'. -/
def sealApartUptoCard : Claim7 := { stood := { row := sealApartUptoRow, standIns := [], harness := (true, "2b2d2cd8c944ee08e60680d59e74ae9a27bf1bb002cb9133c82e14b05ebfd73e"), looks := false }, kinds := [], alts := [], laidByText := true, laidKinds := [.data, .data], laidTests := true, laidLooks := .later }
def SealApartUptoCardSaid : Prop := Claim7.holds Tryd.pinned (.plain (OpenSpec.upto sealApartSpec)) sealApartUptoCard
end Rows
end Go.Proofs.YtgklgbomfipagaaDoor
