/-
  DERIVED. GIVEN WITH THE SEED: THE CARDS: each row of YtchdjfhenjbcnaaDoorRows.lean that lists a variable, with what it lists TIED to the program's text (the seventh form; the later family's looks); each row that meets fmt, with fmt's text TOLD by the authors' own Lean function (tested against real Go, not proved from fmt's source: count such statements apart). THE CARD IS WHAT COUNTS. Prove the row's statement (the work); the ties are given (YtchdjfhenjbcnaaDoorTie.lean); close each card by the builder's one call (the guide's Derived/Test/ToyasCard.lean, 'card_holds'). Laid BY PROGRAM, IN A SANDBOX (cutbox-door.mjs). By AI agents, Wed Nov 11 2026. No macro, syntax, notation, axiom, sorry.
-/
import Derived.Test.YtchdjfhenjbcnaaDoorRows
import GoSem.ClaimSeven
namespace Go.Proofs.YtchdjfhenjbcnaaDoor
namespace Rows

/-- THE TIED CARD OF 'fareboxlaw03.HashSums'. -/
def hashSumsCard : Claim7 := { stood := { row := hashSumsRow, standIns := [], harness := (true, "995e4f63635c5f1fa37a50520eddde5e19f98119103a81b042a81ef6834ec64a"), looks := false }, kinds := [], alts := [], laidByText := true, laidKinds := [.data, .data, .data, .data], laidTests := true, laidLooks := .later }
def HashSumsCardSaid : Prop := Claim7.holds Tryd.pinned (.plain (OpenSpec.ofChange hashSumsSpec)) hashSumsCard

/-- THE TIED CARD OF 'fareboxlaw03.HashPlays'. -/
def hashPlaysCard : Claim7 := { stood := { row := hashPlaysRow, standIns := [], harness := (true, "995e4f63635c5f1fa37a50520eddde5e19f98119103a81b042a81ef6834ec64a"), looks := false }, kinds := [], alts := [], laidByText := true, laidKinds := [.data, .data, .data, .data], laidTests := true, laidLooks := .later }
def HashPlaysCardSaid : Prop := Claim7.holds Tryd.pinned (.plain (OpenSpec.ofChange hashPlaysSpec)) hashPlaysCard

/-- THE TIED CARD OF 'fareboxlaw03.HashPieces'. -/
def hashPiecesCard : Claim7 := { stood := { row := hashPiecesRow, standIns := [], harness := (true, "995e4f63635c5f1fa37a50520eddde5e19f98119103a81b042a81ef6834ec64a"), looks := false }, kinds := [], alts := [], laidByText := true, laidKinds := [.data, .data], laidTests := true, laidLooks := .later }
def HashPiecesCardSaid : Prop := Claim7.holds Tryd.pinned (.plain (OpenSpec.ofChange hashPiecesSpec)) hashPiecesCard

/-- THE TIED CARD OF 'fareboxlaw03.HashApart'. -/
def hashApartCard : Claim7 := { stood := { row := hashApartRow, standIns := [], harness := (true, "995e4f63635c5f1fa37a50520eddde5e19f98119103a81b042a81ef6834ec64a"), looks := false }, kinds := [], alts := [], laidByText := true, laidKinds := [.data, .data], laidTests := true, laidLooks := .later }
def HashApartCardSaid : Prop := Claim7.holds Tryd.pinned (.plain (OpenSpec.ofChange hashApartSpec)) hashApartCard

/-- THE SECOND FORM's CARD OF 'fareboxlaw03.HashSums'. -/
def hashSumsUptoCard : Claim7 := { stood := { row := hashSumsUptoRow, standIns := [], harness := (true, "995e4f63635c5f1fa37a50520eddde5e19f98119103a81b042a81ef6834ec64a"), looks := false }, kinds := [], alts := [], laidByText := true, laidKinds := [.data, .data, .data, .data], laidTests := true, laidLooks := .later }
def HashSumsUptoCardSaid : Prop := Claim7.holds Tryd.pinned (.plain (OpenSpec.upto hashSumsSpec)) hashSumsUptoCard

/-- THE SECOND FORM's CARD OF 'fareboxlaw03.HashPlays'. -/
def hashPlaysUptoCard : Claim7 := { stood := { row := hashPlaysUptoRow, standIns := [], harness := (true, "995e4f63635c5f1fa37a50520eddde5e19f98119103a81b042a81ef6834ec64a"), looks := false }, kinds := [], alts := [], laidByText := true, laidKinds := [.data, .data, .data, .data], laidTests := true, laidLooks := .later }
def HashPlaysUptoCardSaid : Prop := Claim7.holds Tryd.pinned (.plain (OpenSpec.upto hashPlaysSpec)) hashPlaysUptoCard

/-- THE SECOND FORM's CARD OF 'fareboxlaw03.HashPieces'. -/
def hashPiecesUptoCard : Claim7 := { stood := { row := hashPiecesUptoRow, standIns := [], harness := (true, "995e4f63635c5f1fa37a50520eddde5e19f98119103a81b042a81ef6834ec64a"), looks := false }, kinds := [], alts := [], laidByText := true, laidKinds := [.data, .data], laidTests := true, laidLooks := .later }
def HashPiecesUptoCardSaid : Prop := Claim7.holds Tryd.pinned (.plain (OpenSpec.upto hashPiecesSpec)) hashPiecesUptoCard

/-- THE SECOND FORM's CARD OF 'fareboxlaw03.HashApart'. -/
def hashApartUptoCard : Claim7 := { stood := { row := hashApartUptoRow, standIns := [], harness := (true, "995e4f63635c5f1fa37a50520eddde5e19f98119103a81b042a81ef6834ec64a"), looks := false }, kinds := [], alts := [], laidByText := true, laidKinds := [.data, .data], laidTests := true, laidLooks := .later }
def HashApartUptoCardSaid : Prop := Claim7.holds Tryd.pinned (.plain (OpenSpec.upto hashApartSpec)) hashApartUptoCard
end Rows
end Go.Proofs.YtchdjfhenjbcnaaDoor
