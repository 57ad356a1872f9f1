/-
  DERIVED. GIVEN WITH THE SEED: THE CARDS: each row of YtphkjeeblihfgaaDoorRows.lean that lists a variable, with what it lists TIED to the program's text (the seventh form; the later family's looks); each row that meets fmt, with fmt's text TOLD by the authors' own Lean function (tested against real Go, not proved from fmt's source: count such statements apart). THE CARD IS WHAT COUNTS. Prove the row's statement (the work); the ties are given (YtphkjeeblihfgaaDoorTie.lean); close each card by the builder's one call (the guide's Derived/Test/ToyasCard.lean, 'card_holds'). Laid BY PROGRAM, IN A SANDBOX (cutbox-door.mjs). By AI agents, Wed Nov 11 2026. No macro, syntax, notation, axiom, sorry.
-/
import Derived.Test.YtphkjeeblihfgaaDoorRows
import GoSem.ClaimSeven
namespace Go.Proofs.YtphkjeeblihfgaaDoor
namespace Rows

/-- THE TIED CARD OF 'fareboxlaw12.LinkSecrets'. -/
def linkSecretsCard : Claim7 := { stood := { row := linkSecretsRow, standIns := [], harness := (true, "5d05d9b362398c29ef38a6340f76dd7d23e27f8dcd8288af41e9208bea047ed4"), looks := true }, kinds := [], alts := [], laidByText := true, laidKinds := [.data, .data, .data, .data], laidTests := true, laidLooks := .later }
def LinkSecretsCardSaid : Prop := Claim7.holds Tryd.pinned (.plain (OpenSpec.ofChange linkSecretsSpec)) linkSecretsCard

/-- THE TIED CARD OF 'fareboxlaw12.LinkTakes'. -/
def linkTakesCard : Claim7 := { stood := { row := linkTakesRow, standIns := [], harness := (true, "5d05d9b362398c29ef38a6340f76dd7d23e27f8dcd8288af41e9208bea047ed4"), looks := true }, kinds := [], alts := [], laidByText := true, laidKinds := [.data, .data], laidTests := true, laidLooks := .later }
def LinkTakesCardSaid : Prop := Claim7.holds Tryd.pinned (.plain (OpenSpec.ofChange linkTakesSpec)) linkTakesCard

/-- THE TIED CARD OF 'fareboxlaw12.LinkBack'. -/
def linkBackCard : Claim7 := { stood := { row := linkBackRow, standIns := [], harness := (true, "5d05d9b362398c29ef38a6340f76dd7d23e27f8dcd8288af41e9208bea047ed4"), looks := true }, kinds := [], alts := [], laidByText := true, laidKinds := [.data, .data], laidTests := true, laidLooks := .later }
def LinkBackCardSaid : Prop := Claim7.holds Tryd.pinned (.plain (OpenSpec.ofChange linkBackSpec)) linkBackCard

/-- THE TIED CARD OF 'fareboxlaw12.LinkOnce'. -/
def linkOnceCard : Claim7 := { stood := { row := linkOnceRow, standIns := [], harness := (true, "5d05d9b362398c29ef38a6340f76dd7d23e27f8dcd8288af41e9208bea047ed4"), looks := true }, kinds := [], alts := [], laidByText := true, laidKinds := [.data, .data], laidTests := true, laidLooks := .later }
def LinkOnceCardSaid : Prop := Claim7.holds Tryd.pinned (.plain (OpenSpec.ofChange linkOnceSpec)) linkOnceCard

/-- THE SECOND FORM's CARD OF 'fareboxlaw12.LinkSecrets'. -/
def linkSecretsUptoCard : Claim7 := { stood := { row := linkSecretsUptoRow, standIns := [], harness := (true, "5d05d9b362398c29ef38a6340f76dd7d23e27f8dcd8288af41e9208bea047ed4"), looks := true }, kinds := [], alts := [], laidByText := true, laidKinds := [.data, .data, .data, .data], laidTests := true, laidLooks := .later }
def LinkSecretsUptoCardSaid : Prop := Claim7.holds Tryd.pinned (.plain (OpenSpec.upto linkSecretsSpec)) linkSecretsUptoCard

/-- THE SECOND FORM's CARD OF 'fareboxlaw12.LinkTakes'. -/
def linkTakesUptoCard : Claim7 := { stood := { row := linkTakesUptoRow, standIns := [], harness := (true, "5d05d9b362398c29ef38a6340f76dd7d23e27f8dcd8288af41e9208bea047ed4"), looks := true }, kinds := [], alts := [], laidByText := true, laidKinds := [.data, .data], laidTests := true, laidLooks := .later }
def LinkTakesUptoCardSaid : Prop := Claim7.holds Tryd.pinned (.plain (OpenSpec.upto linkTakesSpec)) linkTakesUptoCard

/-- THE SECOND FORM's CARD OF 'fareboxlaw12.LinkBack'. -/
def linkBackUptoCard : Claim7 := { stood := { row := linkBackUptoRow, standIns := [], harness := (true, "5d05d9b362398c29ef38a6340f76dd7d23e27f8dcd8288af41e9208bea047ed4"), looks := true }, kinds := [], alts := [], laidByText := true, laidKinds := [.data, .data], laidTests := true, laidLooks := .later }
def LinkBackUptoCardSaid : Prop := Claim7.holds Tryd.pinned (.plain (OpenSpec.upto linkBackSpec)) linkBackUptoCard

/-- THE SECOND FORM's CARD OF 'fareboxlaw12.LinkOnce'. -/
def linkOnceUptoCard : Claim7 := { stood := { row := linkOnceUptoRow, standIns := [], harness := (true, "5d05d9b362398c29ef38a6340f76dd7d23e27f8dcd8288af41e9208bea047ed4"), looks := true }, kinds := [], alts := [], laidByText := true, laidKinds := [.data, .data], laidTests := true, laidLooks := .later }
def LinkOnceUptoCardSaid : Prop := Claim7.holds Tryd.pinned (.plain (OpenSpec.upto linkOnceSpec)) linkOnceUptoCard
end Rows
end Go.Proofs.YtphkjeeblihfgaaDoor
