/-
  DERIVED. GIVEN WITH THE SEED: THE CARDS: each row of YtabhfeocelljdaaGreatDoorRows.lean that lists a variable, with what it lists TIED to the program's text (the seventh form; the later family's looks); each row that meets fmt, with fmt's text TOLD by the authors' own Lean function (tested against real Go, not proved from fmt's source: count such statements apart). THE CARD IS WHAT COUNTS. Prove the row's statement (the work); the ties are given (YtabhfeocelljdaaGreatDoorTie.lean); close each card by the builder's one call (the guide's Derived/Test/ToyasCard.lean, 'card_holds'). Laid BY PROGRAM, IN A SANDBOX (cutbox-door.mjs). By AI agents, Wed Nov 11 2026. No macro, syntax, notation, axiom, sorry.
-/
import Derived.Test.YtabhfeocelljdaaGreatDoorRows
import GoSem.ClaimSeven
namespace Go.Proofs.YtabhfeocelljdaaGreatDoor
namespace Rows

/-- THE TIED CARD OF 'fareboxlaw12.LinkFrames'. -/
def linkFramesCard : Claim7 := { stood := { row := linkFramesRow, standIns := [], harness := (true, "1be4c4dea28c36f081cfab562b069780971f72eb9b453e1db628771ad9c9db55"), looks := true }, kinds := [], alts := [], laidByText := true, laidKinds := [.data, .data, .data, .data], laidTests := true, laidLooks := .later }
def LinkFramesCardSaid : Prop := Claim7.holds Tryz.pinned (.plain (OpenSpec.ofChange linkFramesSpec)) linkFramesCard

/-- THE TIED CARD OF 'fareboxlaw12.LinkSends'. -/
def linkSendsCard : Claim7 := { stood := { row := linkSendsRow, standIns := [], harness := (true, "1be4c4dea28c36f081cfab562b069780971f72eb9b453e1db628771ad9c9db55"), looks := true }, kinds := [], alts := [], laidByText := true, laidKinds := [.data, .data, .data, .data], laidTests := true, laidLooks := .later }
def LinkSendsCardSaid : Prop := Claim7.holds Tryz.pinned (.plain (OpenSpec.ofChange linkSendsSpec)) linkSendsCard

/-- THE SECOND FORM's CARD OF 'fareboxlaw12.LinkFrames'. -/
def linkFramesUptoCard : Claim7 := { stood := { row := linkFramesUptoRow, standIns := [], harness := (true, "1be4c4dea28c36f081cfab562b069780971f72eb9b453e1db628771ad9c9db55"), looks := true }, kinds := [], alts := [], laidByText := true, laidKinds := [.data, .data, .data, .data], laidTests := true, laidLooks := .later }
def LinkFramesUptoCardSaid : Prop := Claim7.holds Tryz.pinned (.plain (OpenSpec.upto linkFramesSpec)) linkFramesUptoCard

/-- THE SECOND FORM's CARD OF 'fareboxlaw12.LinkSends'. -/
def linkSendsUptoCard : Claim7 := { stood := { row := linkSendsUptoRow, standIns := [], harness := (true, "1be4c4dea28c36f081cfab562b069780971f72eb9b453e1db628771ad9c9db55"), looks := true }, kinds := [], alts := [], laidByText := true, laidKinds := [.data, .data, .data, .data], laidTests := true, laidLooks := .later }
def LinkSendsUptoCardSaid : Prop := Claim7.holds Tryz.pinned (.plain (OpenSpec.upto linkSendsSpec)) linkSendsUptoCard
end Rows
end Go.Proofs.YtabhfeocelljdaaGreatDoor
