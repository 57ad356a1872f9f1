/-
  DERIVED. GIVEN WITH THE SEED: THE CARDS: each row of YtabhfeocelljdaaDoorRows.lean that lists a variable, with what it lists TIED to the program's text (the seventh form; the later family's looks); each row that meets fmt, with fmt's text TOLD by the authors' own Lean function (tested against real Go, not proved from fmt's source: count such statements apart). THE CARD IS WHAT COUNTS. Prove the row's statement (the work); the ties are given (YtabhfeocelljdaaDoorTie.lean); close each card by the builder's one call (the guide's Derived/Test/ToyasCard.lean, 'card_holds'). Laid BY PROGRAM, IN A SANDBOX (cutbox-door.mjs). By AI agents, Wed Nov 11 2026. No macro, syntax, notation, axiom, sorry.
-/
import Derived.Test.YtabhfeocelljdaaDoorRows
import GoSem.ClaimSeven
namespace Go.Proofs.YtabhfeocelljdaaDoor
namespace Rows

/-- THE TIED CARD OF 'fareboxlaw12.LinkDrains'. -/
def linkDrainsCard : Claim7 := { stood := { row := linkDrainsRow, standIns := [], harness := (true, "ef859772d55990d2fde309ff7cab6fffc0d1f704c933ceb265602304877acfef"), looks := true }, kinds := [], alts := [], laidByText := true, laidKinds := [.data, .data], laidTests := true, laidLooks := .later }
def LinkDrainsCardSaid : Prop := Claim7.holds Tryd.pinned (.plain (OpenSpec.ofChange linkDrainsSpec)) linkDrainsCard

/-- THE SECOND FORM's CARD OF 'fareboxlaw12.LinkDrains'. -/
def linkDrainsUptoCard : Claim7 := { stood := { row := linkDrainsUptoRow, standIns := [], harness := (true, "ef859772d55990d2fde309ff7cab6fffc0d1f704c933ceb265602304877acfef"), looks := true }, kinds := [], alts := [], laidByText := true, laidKinds := [.data, .data], laidTests := true, laidLooks := .later }
def LinkDrainsUptoCardSaid : Prop := Claim7.holds Tryd.pinned (.plain (OpenSpec.upto linkDrainsSpec)) linkDrainsUptoCard
end Rows
end Go.Proofs.YtabhfeocelljdaaDoor
