import Derived.Test.YtjgbllfppomcmaaQL7
import Derived.Laws.MakeOwn
/- A tariff that was lent, on its way through a walk; rows just made. -/
namespace Go.Proofs.Ytjgbllfppomcmaa
open Go.RowKit

theorem KRow.made0 (w : World) (z : Array Value) (n k s : Nat) (hs : s = n * k) (hn : n ≤ maxLen) (e : TypeId) : KRow (w.alloc (.cells (madeCells z s) e)) (some ⟨w.heap.size, 0, none⟩) n w.heap.size k [] := by
  subst hs
  refine ⟨Nat.zero_le _, hn, fun _ => rfl, fun j hj => ⟨?_, World.frozen?_alloc_new _ _ _ _⟩, fun j hj => absurd hj (by simp), fun u hu => by cases hu⟩
  rw [World.cell?_alloc_new, Array.getElem?_eq_getElem (by rw [size_madeCells]; exact hj)]
  rfl

theorem KRow.front {w : World} {ao : Option Addr} {cap g k : Nat} {vs us : List Value} (h : KRow w ao cap g k (vs ++ us)) (hc : 0 < cap) : CAt w ao vs := fun _ =>
  ⟨g, 0, h.ad hc, fun j hj => by rw [Nat.zero_add, h.cells j (by rw [List.length_append]; omega), List.getElem_append_left hj]⟩

theorem Kp.frame {S : Nat → Prop} {w w' : World} {A' : Ad} {t : Tf} {gS gP gB : Nat} (h : Kp w A' t gS gP gB) (hf : Fr S w w') (h1 : ¬ S gS) (h2 : ¬ S gP) (h3 : ¬ S gB) : Kp w' A' t gS gP gB :=
  ⟨h.rS.stay (fun hc => hf.block _ (h.rS.lt (by omega) hc) h1), h.rP.stay (fun hc => hf.block _ (h.rP.lt (by omega) hc) h2), h.rB.stay (fun hc => hf.block _ (h.rB.lt (by omega) hc) h3), h.pS, h.pP, h.pB, h.n1, h.n2, h.n3⟩

theorem Kp.tat {w w' : World} {A A' : Ad} {t : Tf} {gS gP gB : Nat} (h : Kp w' A' t gS gP gB) (hT : TAt w A t) : TAt w' A' t :=
  ⟨KRow.front (us := stC markS) (by have := h.rS; simpa [stV] using this) h.pS, KRow.front (us := spC markP) (by have := h.rP; simpa [spV] using this) h.pP, KRow.front (us := bdC markB) (by have := h.rB; simpa [bdV] using this) h.pB, hT.lS, hT.lP, hT.lB, hT.off⟩

end Go.Proofs.Ytjgbllfppomcmaa

