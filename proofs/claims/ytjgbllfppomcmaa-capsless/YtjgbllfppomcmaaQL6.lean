import Derived.Test.YtjgbllfppomcmaaQLX
/- The law's own Lent. -/
namespace Go.Proofs.Ytjgbllfppomcmaa
open Go.RowKit

/-- A lent tariff. -/
structure Lt (w w' : World) (A' : Ad) (t : Tf) (gS gP gB : Nat) : Prop where
  oS : OwnT w w' A'.aS A'.cS gS 3 (stV (t.st ++ [markS]))
  oP : OwnT w w' A'.aP A'.cP gP 5 (spV (t.sp ++ [markP]))
  oB : OwnT w w' A'.aB A'.cB gB 2 (bdV (t.bd ++ [markB]))
  n1 : gS ≠ gP
  n2 : gS ≠ gB
  n3 : gP ≠ gB
  fr : Fr (fun _ => False) w w'

theorem CAt.old {w w' : World} {ao : Option Addr} {vs : List Value} {S : Nat → Prop} (h : CAt w ao vs) (hf : Fr S w w') (hS : ∀ q, q < w.heap.size → ¬ S q) : CAt w' ao vs :=
  fun hl => by
    obtain ⟨b, off, e, hc⟩ := h hl
    exact ⟨b, off, e, fun j hj => (hf.cell (a := ⟨b, off + j, none⟩) (World.block_lt_of_cell? _ _ (hc j hj)) (hS _ (World.block_lt_of_cell? _ _ (hc j hj)))).trans (hc j hj)⟩

end Go.Proofs.Ytjgbllfppomcmaa

