import Derived.Test.YtdbnppbfoohjjaaQL6
import Derived.Test.YtdbnppbfoohjjaaQV8
/- The law's own Kept: a lent tariff is as it was, and its marks are; then its owner writes over it. -/
namespace Go.Proofs.Ytdbnppbfoohjjaa
open Go.RowKit

def Room (w : World) (g m : Nat) : Prop := ∀ j, j < m → (∃ v, w.cell? ⟨g, j, none⟩ = some v) ∧ w.frozen? ⟨g, j, none⟩ = false

theorem KRow.room' {w : World} {ao : Option Addr} {cap g k : Nat} {vs : List Value} (h : KRow w ao cap g k vs) : Room w g (cap * k) := fun j hj => ⟨Option.isSome_iff_exists.1 (h.room j hj).1, (h.room j hj).2⟩

theorem Room.frame {S : Nat → Prop} {w w' : World} {g m : Nat} (h : Room w g m) (hf : Fr S w w') (hS : ¬ S g) : Room w' g m := fun j hj => by
  obtain ⟨⟨v, hv⟩, hz⟩ := h j hj
  have hlt := World.block_lt_of_cell? _ _ hv
  exact ⟨⟨v, (hf.cell hlt hS).trans hv⟩, (hf.frozen (a := ⟨g, j, none⟩) hlt hS).trans hz⟩

theorem Room.set {w : World} {g m : Nat} (h : Room w g m) (i : Nat) (v : Value) : Room (w.setCell ⟨g, i, none⟩ v) g m := fun j hj => by
  obtain ⟨⟨u, hu⟩, hz⟩ := h j hj
  refine ⟨?_, by rw [World.frozen?_setCell]; exact hz⟩
  by_cases e : j = i
  · subst e; exact ⟨v, World.cell?_setCell_same _ _ _ hu⟩
  · exact ⟨u, by rw [World.cell?_setCell_other _ _ _ _ (by intro hh; injection hh with _ h2; exact e h2.symm)]; exact hu⟩

theorem Room.any {w : World} {g m : Nat} (h : Room w g m) (b i : Nat) (v : Value) : Room (w.setCell ⟨b, i, none⟩ v) g m := by
  by_cases e : b = g
  · subst e; exact h.set i v
  · exact h.frame (S := fun q => q = b) (Fr.setCell (S := fun q => q = b) (Fr.refl _ w) (p := ⟨b, i, none⟩) (fun _ => rfl) v) (fun t => e t.symm)

/-- Three of them. -/
def R3 (w : World) (gS gP gB mS mP mB : Nat) : Prop := Room w gS mS ∧ Room w gP mP ∧ Room w gB mB
theorem R3.any {w : World} {gS gP gB mS mP mB : Nat} (h : R3 w gS gP gB mS mP mB) (b i : Nat) (v : Value) : R3 (w.setCell ⟨b, i, none⟩ v) gS gP gB mS mP mB := ⟨h.1.any b i v, h.2.1.any b i v, h.2.2.any b i v⟩

/-- The mark behind a list. -/
theorem mark_at {α : Type} (f : α → List Value) (k : Nat) (hf : ∀ x, (f x).length = k) (hk : 0 < k) (l : List α) (x : α) {w : World} {ao : Option Addr} {cap g : Nat} (h : KRow w ao cap g k ((l ++ [x]).flatMap f)) {v : Value} (hv : (f x)[0]? = some v) : w.cell? ⟨g, l.length * k, none⟩ = some v := by
  have h1 := flat_get f k hf (l ++ [x]) l.length (by simp) 0 hk
  rw [Nat.add_zero] at h1
  have hl := flat_length f k hf (l ++ [x])
  rw [List.length_append, Nat.add_mul] at hl
  simp only [List.length_cons, List.length_nil, Nat.zero_add, Nat.one_mul] at hl
  have h2 := h.cells (l.length * k) (by omega)
  rw [h2]
  rw [List.getElem?_eq_getElem (by omega)] at h1
  rw [h1]
  simp only [List.getElem_concat_length]
  exact hv

theorem OwnT.cat {w0 w : World} {ao : Option Addr} {cap g k : Nat} {vs us : List Value} (h : OwnT w0 w ao cap g k (vs ++ us)) : CAt w ao vs := fun hl => by
  refine ⟨g, 0, h.row.ad h.pos, fun j hj => ?_⟩
  rw [Nat.zero_add, h.row.cells j (by rw [List.length_append]; omega), List.getElem_append_left hj]

theorem Lt.tat {w w' : World} {A A' : Ad} {t : Tf} {gS gP gB : Nat} (h : Lt w w' A' t gS gP gB) (hT : TAt w A t) : TAt w' A' t :=
  ⟨OwnT.cat (us := stC markS) (by have := h.oS; simpa [stV] using this), OwnT.cat (us := spC markP) (by have := h.oP; simpa [spV] using this), OwnT.cat (us := bdC markB) (by have := h.oB; simpa [bdV] using this), hT.lS, hT.lP, hT.lB, hT.off⟩

/-- What Kept wants of a lent tariff, in whatever later world. -/
structure Kp (w : World) (A' : Ad) (t : Tf) (gS gP gB : Nat) : Prop where
  rS : KRow w A'.aS A'.cS gS 3 (stV (t.st ++ [markS]))
  rP : KRow w A'.aP A'.cP gP 5 (spV (t.sp ++ [markP]))
  rB : KRow w A'.aB A'.cB gB 2 (bdV (t.bd ++ [markB]))
  pS : 0 < A'.cS
  pP : 0 < A'.cP
  pB : 0 < A'.cB
  n1 : gS ≠ gP
  n2 : gS ≠ gB
  n3 : gP ≠ gB

theorem Lt.kp {w w' : World} {A' : Ad} {t : Tf} {gS gP gB : Nat} (h : Lt w w' A' t gS gP gB) : Kp w' A' t gS gP gB := ⟨h.oS.row, h.oP.row, h.oB.row, h.oS.pos, h.oP.pos, h.oB.pos, h.n1, h.n2, h.n3⟩
theorem Kp.keep {w w' : World} {A' : Ad} {t : Tf} {gS gP gB : Nat} (h : Kp w A' t gS gP gB) (hf : Fr (fun _ => False) w w') : Kp w' A' t gS gP gB := ⟨h.rS.keep (by omega) hf, h.rP.keep (by omega) hf, h.rB.keep (by omega) hf, h.pS, h.pP, h.pB, h.n1, h.n2, h.n3⟩

set_option maxHeartbeats 4000000 in
set_option maxRecDepth 100000 in
theorem kept_anyT (w : World) (A' A : Ad) (t : Tf) (gS gP gB : Nat) (h' : TAt w A' t) (h : TAt w A t) (hk : Kp w A' t gS gP gB) :
    Calls Try.prog 18 #[tv A' t, tv A t] w fun e w' => e = .returned (.bool true) ∧ Fr (fun q => q = gS ∨ q = gP ∨ q = gB) w w' := by
  obtain ⟨B, hB⟩ : ∃ B, w.heap.size = B := ⟨_, rfl⟩
  obtain ⟨W0, hW0⟩ : ∃ W0, W0 = (w.alloc (.cells (tc A' t) 27)).alloc (.cells (tc A t) 27) := ⟨_, rfl⟩
  have HF0 : Hid (Fr (fun _ => False) w W0) := hide (by rw [hW0]; exact ((Fr.refl _ w).alloc _).alloc _)
  have HB0 : Hid (TB W0 B A' t) := hide (by rw [hW0, ← hB]; exact (TB.new w A' t).keep ((Fr.refl _ _).alloc _))
  have HB1 : Hid (TB W0 (B + 1) A t) := hide (by rw [hW0, ← hB, ← heap_alloc w (.cells (tc A' t) 27)]; exact TB.new _ A t)
  have R := same_anyT W0 A' A t (h'.keep (unhide HF0)) (h.keep (unhide HF0))
  have HK := hide (hk.keep (unhide HF0))
  have lS := h.lS
  have lP := h.lP
  have lB := h.lB
  have hgw : gS < w.heap.size ∧ gP < w.heap.size ∧ gB < w.heap.size := ⟨hk.rS.lt (by omega) hk.pS, hk.rP.lt (by omega) hk.pP, hk.rB.lt (by omega) hk.pB⟩
  rw [hB] at hgw
  have HGW := hide hgw
  clear h h' hk hgw
  unfold tv
  go_enter Try.func18, Try.ntmps18
  go_wp2_with (first | refine wpList_load_tariff rfl (.tmp 2) rfl (g := B) (A := A') (t := t) rfl (by rw [← hW0]; exact unhide HB0) ?_ | refine wpList_load_tariff rfl (.tmp 3) rfl (g := B + 1) (A := A) (t := t) rfl (by rw [← hW0]; exact unhide HB1) ?_)
  rw [← hW0]
  refine R.mono ?_
  rintro e w1 ⟨rfl, hF⟩
  have HF1 := hide ((unhide HF0).trans hF (fun _ _ t => t))
  have HB := hide ((unhide HB0).keep hF)
  have HK1 := hide ((unhide HK).keep hF)
  clear R hF HB0 HB1 HK HF0 hW0
  obtain ⟨aS, cS, aP, cP, aB, cB⟩ := A'
  have eS := (unhide HK1).rS.ad (unhide HK1).pS
  have eP := (unhide HK1).rP.ad (unhide HK1).pP
  have eBb := (unhide HK1).rB.ad (unhide HK1).pB
  simp only at eS eP eBb
  subst eS eP eBb
  have cc0 : w1.cell? ⟨B, 0, none⟩ = some (.slice (some ⟨gS, 0, none⟩) t.st.length cS) := (unhide HB).cell 0
  have cc1 : w1.cell? ⟨B, 1, none⟩ = some (.slice (some ⟨gP, 0, none⟩) t.sp.length cP) := (unhide HB).cell 1
  have cc2 : w1.cell? ⟨B, 2, none⟩ = some (.slice (some ⟨gB, 0, none⟩) t.bd.length cB) := (unhide HB).cell 2
  have mS : w1.cell? ⟨gS, t.st.length * 3, none⟩ = some (.int .i64 (-7)) := mark_at stC 3 (fun _ => rfl) (by omega) t.st markS (unhide HK1).rS rfl
  have mP : w1.cell? ⟨gP, t.sp.length * 5, none⟩ = some (.int .i64 (-7)) := mark_at spC 5 (fun _ => rfl) (by omega) t.sp markP (unhide HK1).rP rfl
  have mB : w1.cell? ⟨gB, t.bd.length * 2, none⟩ = some (.int .i64 (-7)) := mark_at bdC 2 (fun _ => rfl) (by omega) t.bd markB (unhide HK1).rB rfl
  have rS := (unhide HK1).rS.room'
  have rP := (unhide HK1).rP.room'
  have rB := (unhide HK1).rB.room'
  have qS : t.st.length + 1 ≤ cS := by have := (unhide HK1).rS.le; rw [stV_length, List.length_append] at this; simp at this; omega
  have qP : t.sp.length + 1 ≤ cP := by have := (unhide HK1).rP.le; rw [spV_length, List.length_append] at this; simp at this; omega
  have qB : t.bd.length + 1 ≤ cB := by have := (unhide HK1).rB.le; rw [bdV_length, List.length_append] at this; simp at this; omega
  have HR := hide (And.intro rS (And.intro rP rB))
  have HNN := hide (And.intro (unhide HK1).n1 (And.intro (unhide HK1).n2 (unhide HK1).n3))
  simp only at HR
  clear rS rP rB HK1 HB
  go_wp2
  clear cc0 cc1 cc2 mS mP mB
  go_loopw [10] (fun iv wq => ∃ (i : Nat), i ≤ t.st.length + 1 ∧ iv = .int .i64 i ∧ Hid (Fr (fun q => q = gS ∨ q = gP ∨ q = gB) w1 wq ∧ R3 wq gS gP gB (cS * 3) (cP * 5) (cB * 2))) (fun iv _ => t.st.length + 1 - (intOf iv).toNat)
  case atStart => exact ⟨0, Nat.zero_le _, rfl, hide ⟨Fr.refl _ _, unhide HR⟩⟩
  case round =>
    obtain ⟨i, hi, rfl, HI0⟩ := hrel
    by_cases hil : i < t.st.length + 1
    · have hm : i * 3 + 3 ≤ cS * 3 := by omega
      obtain ⟨⟨z0, a0⟩, f0⟩ := (unhide HI0).2.1 (i * 3) (by omega)
      obtain ⟨⟨z1, a1⟩, f1⟩ := (unhide HI0).2.1 (i * 3 + 1) (by omega)
      obtain ⟨⟨z2, a2⟩, f2⟩ := (unhide HI0).2.1 (i * 3 + 2) (by omega)
      have HN := hide (And.intro ((((unhide HI0).1.setCell (p := ⟨gS, i * 3, none⟩) (fun _ => by simp) (.int .i64 (-9))).setCell (p := ⟨gS, i * 3 + 1, none⟩) (fun _ => by simp) (.int .i64 0)).setCell (p := ⟨gS, i * 3 + 2, none⟩) (fun _ => by simp) (.int .i64 0)) ((((unhide HI0).2.any gS (i * 3) (.int .i64 (-9))).any gS (i * 3 + 1) (.int .i64 0)).any gS (i * 3 + 2) (.int .i64 0)))
      clear HI0
      go_wp2
      exact ⟨⟨i + 1, by omega, by go_num, unhide HN⟩, by simp [intOf]; omega⟩
    · obtain rfl : i = t.st.length + 1 := by omega
      have HST1 := HI0
      clear HI0
      go_wp2
      go_loopw [11] (fun iv wq => ∃ (i : Nat), i ≤ t.sp.length + 1 ∧ iv = .int .i64 i ∧ Hid (Fr (fun q => q = gS ∨ q = gP ∨ q = gB) w1 wq ∧ R3 wq gS gP gB (cS * 3) (cP * 5) (cB * 2))) (fun iv _ => t.sp.length + 1 - (intOf iv).toNat)
      case atStart => exact ⟨0, Nat.zero_le _, rfl, HST1⟩
      case round =>
        obtain ⟨i, hi, rfl, HI1⟩ := hrel
        by_cases hil : i < t.sp.length + 1
        · have hm : i * 5 + 5 ≤ cP * 5 := by omega
          obtain ⟨⟨z0, a0⟩, f0⟩ := (unhide HI1).2.2.1 (i * 5) (by omega)
          obtain ⟨⟨z1, a1⟩, f1⟩ := (unhide HI1).2.2.1 (i * 5 + 1) (by omega)
          obtain ⟨⟨z2, a2⟩, f2⟩ := (unhide HI1).2.2.1 (i * 5 + 2) (by omega)
          obtain ⟨⟨z3, a3⟩, f3⟩ := (unhide HI1).2.2.1 (i * 5 + 3) (by omega)
          obtain ⟨⟨z4, a4⟩, f4⟩ := (unhide HI1).2.2.1 (i * 5 + 4) (by omega)
          have HN := hide (And.intro ((((((unhide HI1).1.setCell (p := ⟨gP, i * 5, none⟩) (fun _ => by simp) (.int .i64 (-9))).setCell (p := ⟨gP, i * 5 + 1, none⟩) (fun _ => by simp) (.int .i64 0)).setCell (p := ⟨gP, i * 5 + 2, none⟩) (fun _ => by simp) (.int .i64 0)).setCell (p := ⟨gP, i * 5 + 3, none⟩) (fun _ => by simp) (.int .i64 0)).setCell (p := ⟨gP, i * 5 + 4, none⟩) (fun _ => by simp) (.int .i64 0)) ((((((unhide HI1).2.any gP (i * 5) (.int .i64 (-9))).any gP (i * 5 + 1) (.int .i64 0)).any gP (i * 5 + 2) (.int .i64 0)).any gP (i * 5 + 3) (.int .i64 0)).any gP (i * 5 + 4) (.int .i64 0)))
          clear HI1
          go_wp2
          exact ⟨⟨i + 1, by omega, by go_num, unhide HN⟩, by simp [intOf]; omega⟩
        · obtain rfl : i = t.sp.length + 1 := by omega
          have HST2 := HI1
          clear HI1
          go_wp2
          go_loopw [12] (fun iv wq => ∃ (i : Nat), i ≤ t.bd.length + 1 ∧ iv = .int .i64 i ∧ Hid (Fr (fun q => q = gS ∨ q = gP ∨ q = gB) w1 wq ∧ R3 wq gS gP gB (cS * 3) (cP * 5) (cB * 2))) (fun iv _ => t.bd.length + 1 - (intOf iv).toNat)
          case atStart => exact ⟨0, Nat.zero_le _, rfl, HST2⟩
          case round =>
            obtain ⟨i, hi, rfl, HI2⟩ := hrel
            by_cases hil : i < t.bd.length + 1
            · have hm : i * 2 + 2 ≤ cB * 2 := by omega
              obtain ⟨⟨z0, a0⟩, f0⟩ := (unhide HI2).2.2.2 (i * 2) (by omega)
              obtain ⟨⟨z1, a1⟩, f1⟩ := (unhide HI2).2.2.2 (i * 2 + 1) (by omega)
              have HN := hide (And.intro (((unhide HI2).1.setCell (p := ⟨gB, i * 2, none⟩) (fun _ => by simp) (.int .i64 (-9))).setCell (p := ⟨gB, i * 2 + 1, none⟩) (fun _ => by simp) (.int .i64 0)) (((unhide HI2).2.any gB (i * 2) (.int .i64 (-9))).any gB (i * 2 + 1) (.int .i64 0)))
              clear HI2
              go_wp2
              exact ⟨⟨i + 1, by omega, by go_num, unhide HN⟩, by simp [intOf]; omega⟩
            · obtain rfl : i = t.bd.length + 1 := by omega
              have HFz := hide (((unhide HF1).mono (T := (fun q => q = gS ∨ q = gP ∨ q = gB)) (fun _ _ t => t.elim)).trans (unhide HI2).1 (fun _ _ t => t))
              clear HI2
              go_wp2
              go_ret
              exact ⟨rfl, unhide HFz⟩

end Go.Proofs.Ytdbnppbfoohjjaa

