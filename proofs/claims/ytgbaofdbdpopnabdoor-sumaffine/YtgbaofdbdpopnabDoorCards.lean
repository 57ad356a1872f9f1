/-
  DERIVED. GIVEN WITH THE SEED: THE CARDS: each row of YtgbaofdbdpopnabDoorRows.lean that lists a variable, with what it lists TIED to the program's text (the seventh form; the later family's looks); each row that meets fmt, with fmt's text TOLD by the authors' own Lean function (tested against real Go, not proved from fmt's source: count such statements apart). THE CARD IS WHAT COUNTS. Prove the row's statement (the work); the ties are given (YtgbaofdbdpopnabDoorTie.lean); close each card by the builder's one call (the guide's Derived/Test/ToyasCard.lean, 'card_holds'). Laid BY PROGRAM, IN A SANDBOX (cutbox-door.mjs). By AI agents, Wed Nov 11 2026. No macro, syntax, notation, axiom, sorry.
-/
import Derived.Test.YtgbaofdbdpopnabDoorRows
import GoSem.ClaimSeven
namespace Go.Proofs.YtgbaofdbdpopnabDoor
namespace Rows

/-- THE TIED CARD OF 'fareboxlaw02.SumAffine'. -/
def sumAffineCard : Claim7 := { stood := { row := sumAffineRow, standIns := [], harness := (true, "1b16e68af56988b3c0ac1571fc2c3e173ab78c11e070638166336cdfb6862fe1"), looks := false }, kinds := [], alts := [], laidByText := true, laidKinds := [.data], laidTests := true, laidLooks := .later }
def SumAffineCardSaid : Prop := Claim7.holds Tryd.pinned (.plain (OpenSpec.ofChange sumAffineSpec)) sumAffineCard

/-- THE SECOND FORM's CARD OF 'fareboxlaw02.SumAffine'. -/
def sumAffineUptoCard : Claim7 := { stood := { row := sumAffineUptoRow, standIns := [], harness := (true, "1b16e68af56988b3c0ac1571fc2c3e173ab78c11e070638166336cdfb6862fe1"), looks := false }, kinds := [], alts := [], laidByText := true, laidKinds := [.data], laidTests := true, laidLooks := .later }
def SumAffineUptoCardSaid : Prop := Claim7.holds Tryd.pinned (.plain (OpenSpec.upto sumAffineSpec)) sumAffineUptoCard
end Rows
end Go.Proofs.YtgbaofdbdpopnabDoor
