/-
  DERIVED. GIVEN WITH THE SEED: THE CARDS: each row of YtighehbeeflhpabDoorRows.lean that lists a variable, with what it lists TIED to the program's text (the seventh form; the later family's looks); each row that meets fmt, with fmt's text TOLD by the authors' own Lean function (tested against real Go, not proved from fmt's source: count such statements apart). THE CARD IS WHAT COUNTS. Prove the row's statement (the work); the ties are given (YtighehbeeflhpabDoorTie.lean); close each card by the builder's one call (the guide's Derived/Test/ToyasCard.lean, 'card_holds'). Laid BY PROGRAM, IN A SANDBOX (cutbox-door.mjs). By AI agents, Wed Nov 11 2026. No macro, syntax, notation, axiom, sorry.
-/
import Derived.Test.YtighehbeeflhpabDoorRows
import GoSem.ClaimSeven
namespace Go.Proofs.YtighehbeeflhpabDoor
namespace Rows

/-- THE TIED CARD OF 'fareboxlaw05.MoneyBack'. -/
def moneyBackCard : Claim7 := { stood := { row := moneyBackRow, standIns := [], harness := (true, "9a7492f581a463ef5f08e429cdf641625dd3d73bd1c5166c5b83fe2127c7ae0d"), looks := false }, kinds := [], alts := [], laidByText := true, laidKinds := [.data, .data, .data], laidTests := true, laidLooks := .later }
def MoneyBackCardSaid : Prop := Claim7.holds Tryd.pinned (.plain (OpenSpec.ofChange moneyBackSpec)) moneyBackCard

/-- THE TIED CARD OF 'fareboxlaw05.MoneyTurns'. -/
def moneyTurnsCard : Claim7 := { stood := { row := moneyTurnsRow, standIns := [], harness := (true, "9a7492f581a463ef5f08e429cdf641625dd3d73bd1c5166c5b83fe2127c7ae0d"), looks := false }, kinds := [], alts := [], laidByText := true, laidKinds := [.data, .data, .data], laidTests := true, laidLooks := .later }
def MoneyTurnsCardSaid : Prop := Claim7.holds Tryd.pinned (.plain (OpenSpec.ofChange moneyTurnsSpec)) moneyTurnsCard

/-- THE TIED CARD OF 'fareboxlaw05.MoneyBits'. -/
def moneyBitsCard : Claim7 := { stood := { row := moneyBitsRow, standIns := [], harness := (true, "9a7492f581a463ef5f08e429cdf641625dd3d73bd1c5166c5b83fe2127c7ae0d"), looks := false }, kinds := [], alts := [], laidByText := true, laidKinds := [.data, .data, .data], laidTests := true, laidLooks := .later }
def MoneyBitsCardSaid : Prop := Claim7.holds Tryd.pinned (.plain (OpenSpec.ofChange moneyBitsSpec)) moneyBitsCard

/-- THE SECOND FORM's CARD OF 'fareboxlaw05.MoneyBack'. -/
def moneyBackUptoCard : Claim7 := { stood := { row := moneyBackUptoRow, standIns := [], harness := (true, "9a7492f581a463ef5f08e429cdf641625dd3d73bd1c5166c5b83fe2127c7ae0d"), looks := false }, kinds := [], alts := [], laidByText := true, laidKinds := [.data, .data, .data], laidTests := true, laidLooks := .later }
def MoneyBackUptoCardSaid : Prop := Claim7.holds Tryd.pinned (.plain (OpenSpec.upto moneyBackSpec)) moneyBackUptoCard

/-- THE SECOND FORM's CARD OF 'fareboxlaw05.MoneyTurns'. -/
def moneyTurnsUptoCard : Claim7 := { stood := { row := moneyTurnsUptoRow, standIns := [], harness := (true, "9a7492f581a463ef5f08e429cdf641625dd3d73bd1c5166c5b83fe2127c7ae0d"), looks := false }, kinds := [], alts := [], laidByText := true, laidKinds := [.data, .data, .data], laidTests := true, laidLooks := .later }
def MoneyTurnsUptoCardSaid : Prop := Claim7.holds Tryd.pinned (.plain (OpenSpec.upto moneyTurnsSpec)) moneyTurnsUptoCard

/-- THE SECOND FORM's CARD OF 'fareboxlaw05.MoneyBits'. -/
def moneyBitsUptoCard : Claim7 := { stood := { row := moneyBitsUptoRow, standIns := [], harness := (true, "9a7492f581a463ef5f08e429cdf641625dd3d73bd1c5166c5b83fe2127c7ae0d"), looks := false }, kinds := [], alts := [], laidByText := true, laidKinds := [.data, .data, .data], laidTests := true, laidLooks := .later }
def MoneyBitsUptoCardSaid : Prop := Claim7.holds Tryd.pinned (.plain (OpenSpec.upto moneyBitsSpec)) moneyBitsUptoCard
end Rows
end Go.Proofs.YtighehbeeflhpabDoor
