import Derived.Test.YtjgbllfppomcmaaQL6
import Derived.Test.YtjgbllfppomcmaaQV8
/- The law's own Kept: a lent tariff is as it was, and its marks are; then its owner writes over it. -/
namespace Go.Proofs.Ytjgbllfppomcmaa
open Go.RowKit

def Room (w : World) (g m : Nat) : Prop := ∀ j, j < m → (∃ v, w.cell? ⟨g, j, none⟩ = some v) ∧ w.frozen? ⟨g, j, none⟩ = false

theorem KRow.room' {w : World} {ao : Option Addr} {cap g k : Nat} {vs : List Value} (h : KRow w ao cap g k vs) : Room w g (cap * k) := fun j hj => ⟨Option.isSome_iff_exists.1 (h.room j hj).1, (h.room j hj).2⟩

theorem Room.frame {S : Nat → Prop} {w w' : World} {g m : Nat} (h : Room w g m) (hf : Fr S w w') (hS : ¬ S g) : Room w' g m := fun j hj => by
  obtain ⟨⟨v, hv⟩, hz⟩ := h j hj
  have hlt := World.block_lt_of_cell? _ _ hv
  exact ⟨⟨v, (hf.cell hlt hS).trans hv⟩, (hf.frozen (a := ⟨g, j, none⟩) hlt hS).trans hz⟩

theorem Room.set {w : World} {g m : Nat} (h : Room w g m) (i : Nat) (v : Value) : Room (w.setCell ⟨g, i, none⟩ v) g m := fun j hj => by
  obtain ⟨⟨u, hu⟩, hz⟩ := h j hj
  refine ⟨?_, by rw [World.frozen?_setCell]; exact hz⟩
  by_cases e : j = i
  · subst e; exact ⟨v, World.cell?_setCell_same _ _ _ hu⟩
  · exact ⟨u, by rw [World.cell?_setCell_other _ _ _ _ (by intro hh; injection hh with _ h2; exact e h2.symm)]; exact hu⟩

theorem Room.any {w : World} {g m : Nat} (h : Room w g m) (b i : Nat) (v : Value) : Room (w.setCell ⟨b, i, none⟩ v) g m := by
  by_cases e : b = g
  · subst e; exact h.set i v
  · exact h.frame (S := fun q => q = b) (Fr.setCell (S := fun q => q = b) (Fr.refl _ w) (p := ⟨b, i, none⟩) (fun _ => rfl) v) (fun t => e t.symm)

/-- Three of them. -/
def R3 (w : World) (gS gP gB mS mP mB : Nat) : Prop := Room w gS mS ∧ Room w gP mP ∧ Room w gB mB
theorem R3.any {w : World} {gS gP gB mS mP mB : Nat} (h : R3 w gS gP gB mS mP mB) (b i : Nat) (v : Value) : R3 (w.setCell ⟨b, i, none⟩ v) gS gP gB mS mP mB := ⟨h.1.any b i v, h.2.1.any b i v, h.2.2.any b i v⟩

/-- The mark behind a list. -/
theorem mark_at {α : Type} (f : α → List Value) (k : Nat) (hf : ∀ x, (f x).length = k) (hk : 0 < k) (l : List α) (x : α) {w : World} {ao : Option Addr} {cap g : Nat} (h : KRow w ao cap g k ((l ++ [x]).flatMap f)) {v : Value} (hv : (f x)[0]? = some v) : w.cell? ⟨g, l.length * k, none⟩ = some v := by
  have h1 := flat_get f k hf (l ++ [x]) l.length (by simp) 0 hk
  rw [Nat.add_zero] at h1
  have hl := flat_length f k hf (l ++ [x])
  rw [List.length_append, Nat.add_mul] at hl
  simp only [List.length_cons, List.length_nil, Nat.zero_add, Nat.one_mul] at hl
  have h2 := h.cells (l.length * k) (by omega)
  rw [h2]
  rw [List.getElem?_eq_getElem (by omega)] at h1
  rw [h1]
  simp only [List.getElem_concat_length]
  exact hv

theorem OwnT.cat {w0 w : World} {ao : Option Addr} {cap g k : Nat} {vs us : List Value} (h : OwnT w0 w ao cap g k (vs ++ us)) : CAt w ao vs := fun hl => by
  refine ⟨g, 0, h.row.ad h.pos, fun j hj => ?_⟩
  rw [Nat.zero_add, h.row.cells j (by rw [List.length_append]; omega), List.getElem_append_left hj]

theorem Lt.tat {w w' : World} {A A' : Ad} {t : Tf} {gS gP gB : Nat} (h : Lt w w' A' t gS gP gB) (hT : TAt w A t) : TAt w' A' t :=
  ⟨OwnT.cat (us := stC markS) (by have := h.oS; simpa [stV] using this), OwnT.cat (us := spC markP) (by have := h.oP; simpa [spV] using this), OwnT.cat (us := bdC markB) (by have := h.oB; simpa [bdV] using this), hT.lS, hT.lP, hT.lB, hT.off⟩

/-- What Kept wants of a lent tariff, in whatever later world. -/
structure Kp (w : World) (A' : Ad) (t : Tf) (gS gP gB : Nat) : Prop where
  rS : KRow w A'.aS A'.cS gS 3 (stV (t.st ++ [markS]))
  rP : KRow w A'.aP A'.cP gP 5 (spV (t.sp ++ [markP]))
  rB : KRow w A'.aB A'.cB gB 2 (bdV (t.bd ++ [markB]))
  pS : 0 < A'.cS
  pP : 0 < A'.cP
  pB : 0 < A'.cB
  n1 : gS ≠ gP
  n2 : gS ≠ gB
  n3 : gP ≠ gB

theorem Lt.kp {w w' : World} {A' : Ad} {t : Tf} {gS gP gB : Nat} (h : Lt w w' A' t gS gP gB) : Kp w' A' t gS gP gB := ⟨h.oS.row, h.oP.row, h.oB.row, h.oS.pos, h.oP.pos, h.oB.pos, h.n1, h.n2, h.n3⟩
theorem Kp.keep {w w' : World} {A' : Ad} {t : Tf} {gS gP gB : Nat} (h : Kp w A' t gS gP gB) (hf : Fr (fun _ => False) w w') : Kp w' A' t gS gP gB := ⟨h.rS.keep (by omega) hf, h.rP.keep (by omega) hf, h.rB.keep (by omega) hf, h.pS, h.pP, h.pB, h.n1, h.n2, h.n3⟩

end Go.Proofs.Ytjgbllfppomcmaa

