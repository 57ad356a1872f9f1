/- A copy in new memory: copied, Clone. -/
import Derived.Test.YthgkdpepgnoepaaL6
namespace Go.Proofs.Ythgkdpepgnoepaa
open Go.RowKit

/-- A list that was copied. -/
structure Cp (w w' : World) (ao : Option Addr) (cap g k : Nat) (vs : List Value) : Prop where
  row : KRow w' ao cap g k vs
  new : 0 < cap → w.heap.size ≤ g
  fr : Fr (fun _ => False) w w'

theorem copied0_any (w : World) (ao : Option Addr) (cap : Nat) (l : List Stn) (h : CAt w ao (stV l)) (hl : (l.length + 1) * 24 ≤ 140737488355328) :
    Calls Try.prog 47 #[.slice ao l.length cap] w fun e w' => ∃ ao' cap' g', e = .returned (.slice ao' l.length cap') ∧ Cp w w' ao' cap' g' 3 (stV l) := by
  obtain ⟨info, hi, hzz⟩ := Option.map_eq_some_iff.1 info35
  simp only [Prod.mk.injEq] at hzz
  obtain ⟨hz, hs, hy⟩ := hzz
  have hsrc := CAt.src h 22 35 3 l.length cap (by omega) Try.underlying22 (stV_length _) (stV_one _)
  have HI := hide hi
  have HS := hide hsrc
  have hb : (0 + l.length) * 24 ≤ 140737488355328 := by omega
  clear h hi hsrc
  go_enter Try.func47, Try.ntmps47
  go_wp2_with (at_builtin; refine wpList_append_krow _ rfl (.const (.slice none 0 0)) (.tmp 3) 22 22 rfl 35 info _ 3 (by omega) Try.underlying22 (unhide HI) hz rfl hs rfl (KRow.nil w 0 3) rfl _ _ l.length rfl (unhide HS) (by rw [hy]; exact hb) (by omega) ?_)
  intro ao' cap' w' g' hrow hgr
  have HC : Hid (Cp w w' ao' cap' g' 3 (stV l)) := hide (by
    refine ⟨hrow, fun hc => ?_, ?_⟩
    · rcases hgr with ⟨_, e2, _⟩ | ⟨e1, _, _⟩
      · omega
      · exact e1
    · rcases hgr with ⟨_, _, hF⟩ | ⟨_, _, hF⟩
      · exact hF.mono (fun _ _ t => by omega)
      · exact hF)
  clear hrow hgr
  go_wp2
  go_ret
  exact ⟨ao', cap', ⟨g', rfl, unhide HC⟩⟩

theorem copied1_any (w : World) (ao : Option Addr) (cap : Nat) (l : List Spn) (h : CAt w ao (spV l)) (hl : (l.length + 1) * 40 ≤ 140737488355328) :
    Calls Try.prog 48 #[.slice ao l.length cap] w fun e w' => ∃ ao' cap' g', e = .returned (.slice ao' l.length cap') ∧ Cp w w' ao' cap' g' 5 (spV l) := by
  obtain ⟨info, hi, hzz⟩ := Option.map_eq_some_iff.1 info39
  simp only [Prod.mk.injEq] at hzz
  obtain ⟨hz, hs, hy⟩ := hzz
  have hsrc := CAt.src h 23 39 5 l.length cap (by omega) Try.underlying23 (spV_length _) (spV_one _)
  have HI := hide hi
  have HS := hide hsrc
  have hb : (0 + l.length) * 40 ≤ 140737488355328 := by omega
  clear h hi hsrc
  go_enter Try.func48, Try.ntmps48
  go_wp2_with (at_builtin; refine wpList_append_krow _ rfl (.const (.slice none 0 0)) (.tmp 3) 23 23 rfl 39 info _ 5 (by omega) Try.underlying23 (unhide HI) hz rfl hs rfl (KRow.nil w 0 5) rfl _ _ l.length rfl (unhide HS) (by rw [hy]; exact hb) (by omega) ?_)
  intro ao' cap' w' g' hrow hgr
  have HC : Hid (Cp w w' ao' cap' g' 5 (spV l)) := hide (by
    refine ⟨hrow, fun hc => ?_, ?_⟩
    · rcases hgr with ⟨_, e2, _⟩ | ⟨e1, _, _⟩
      · omega
      · exact e1
    · rcases hgr with ⟨_, _, hF⟩ | ⟨_, _, hF⟩
      · exact hF.mono (fun _ _ t => by omega)
      · exact hF)
  clear hrow hgr
  go_wp2
  go_ret
  exact ⟨ao', cap', ⟨g', rfl, unhide HC⟩⟩

theorem copied2_any (w : World) (ao : Option Addr) (cap : Nat) (l : List (Int × Int)) (h : CAt w ao (bdV l)) (hl : (l.length + 1) * 16 ≤ 140737488355328) :
    Calls Try.prog 49 #[.slice ao l.length cap] w fun e w' => ∃ ao' cap' g', e = .returned (.slice ao' l.length cap') ∧ Cp w w' ao' cap' g' 2 (bdV l) := by
  obtain ⟨info, hi, hzz⟩ := Option.map_eq_some_iff.1 info46
  simp only [Prod.mk.injEq] at hzz
  obtain ⟨hz, hs, hy⟩ := hzz
  have hsrc := CAt.src h 24 46 2 l.length cap (by omega) Try.underlying24 (bdV_length _) (bdV_one _)
  have HI := hide hi
  have HS := hide hsrc
  have hb : (0 + l.length) * 16 ≤ 140737488355328 := by omega
  clear h hi hsrc
  go_enter Try.func49, Try.ntmps49
  go_wp2_with (at_builtin; refine wpList_append_krow _ rfl (.const (.slice none 0 0)) (.tmp 3) 24 24 rfl 46 info _ 2 (by omega) Try.underlying24 (unhide HI) hz rfl hs rfl (KRow.nil w 0 2) rfl _ _ l.length rfl (unhide HS) (by rw [hy]; exact hb) (by omega) ?_)
  intro ao' cap' w' g' hrow hgr
  have HC : Hid (Cp w w' ao' cap' g' 2 (bdV l)) := hide (by
    refine ⟨hrow, fun hc => ?_, ?_⟩
    · rcases hgr with ⟨_, e2, _⟩ | ⟨e1, _, _⟩
      · omega
      · exact e1
    · rcases hgr with ⟨_, _, hF⟩ | ⟨_, _, hF⟩
      · exact hF.mono (fun _ _ t => by omega)
      · exact hF)
  clear hrow hgr
  go_wp2
  go_ret
  exact ⟨ao', cap', ⟨g', rfl, unhide HC⟩⟩

/-- A tariff that was copied. -/
structure Cl (w w' : World) (A' : Ad) (t : Tf) (gS gP gB : Nat) : Prop where
  rS : KRow w' A'.aS A'.cS gS 3 (stV t.st)
  rP : KRow w' A'.aP A'.cP gP 5 (spV t.sp)
  rB : KRow w' A'.aB A'.cB gB 2 (bdV t.bd)
  nS : 0 < A'.cS → w.heap.size ≤ gS
  nP : 0 < A'.cP → w.heap.size ≤ gP
  nB : 0 < A'.cB → w.heap.size ≤ gB
  n1 : 0 < A'.cS → 0 < A'.cP → gS ≠ gP
  n2 : 0 < A'.cS → 0 < A'.cB → gS ≠ gB
  n3 : 0 < A'.cP → 0 < A'.cB → gP ≠ gB
  fr : Fr (fun _ => False) w w'

set_option maxHeartbeats 2000000 in
theorem clone_any (w : World) (A : Ad) (t : Tf) (h : TAt w A t) : Calls Try.prog 19 #[tv A t] w fun e w' => ∃ A' gS gP gB, e = .returned (tv A' t) ∧ Cl w w' A' t gS gP gB := by
  obtain ⟨B, HBE⟩ : ∃ B, Hid (B = w.heap.size) := ⟨_, rfl⟩
  obtain ⟨W0, hW0⟩ : ∃ W0, W0 = (w.alloc (.cells (tc A t) 27)).alloc (.cells #[.slice none 0 0, .slice none 0 0, .slice none 0 0, .float .f64 0, .int .i64 0, .int .i64 0, .int .i64 0, .int .i64 0, .int .i64 0, .int .i64 0, .int .i64 0, .int .i64 0, .int .i64 0, .int .i64 0] 27) := ⟨_, rfl⟩
  have hF0 : Fr (fun q => q = B) w W0 := by rw [hW0]; exact ((Fr.refl _ w).alloc _).alloc _
  have hb0 : TB W0 B A t := by rw [hW0, unhide HBE]; exact (TB.new w A t).keep ((Fr.refl _ _).alloc _)
  have hG0 : W0.heap[B + 1]? = some (.cells #[.slice none 0 0, .slice none 0 0, .slice none 0 0, .float .f64 0, .int .i64 0, .int .i64 0, .int .i64 0, .int .i64 0, .int .i64 0, .int .i64 0, .int .i64 0, .int .i64 0, .int .i64 0, .int .i64 0] 27 (0, 0)) := by rw [hW0, unhide HBE, ← heap_alloc w (.cells (tc A t) 27)]; exact heap_new _ _
  have HN : Hid (∀ q, q < w.heap.size → ¬ q = B) := hide (fun q hq => by rw [unhide HBE]; omega)
  have HS := hide (And.intro hF0 (And.intro hb0 hG0))
  have H := hide h
  have c0 : W0.cell? ⟨B, 0, none⟩ = some (.slice A.aS t.st.length A.cS) := hb0.cell 0
  clear hF0 hb0 h hG0
  unfold tc at hW0
  unfold tv tc
  go_enter Try.func19, Try.ntmps19
  go_wp2_with fail
  rw [← hW0, ← unhide HBE]
  clear hW0
  refine (copied0_any W0 A.aS A.cS t.st ((unhide H).st.old (unhide HS).1 (unhide HN)) (unhide H).lS).mono ?_
  rintro e w1 ⟨ao0, cap0, g0, rfl, hc⟩
  have HS1 : Hid (Fr (fun q => q = B) w (w1.setCell ⟨B, 0, none⟩ (.slice ao0 t.st.length cap0)) ∧ TB (w1.setCell ⟨B, 0, none⟩ (.slice ao0 t.st.length cap0)) B { A with aS := ao0, cS := cap0 } t ∧ (w1.setCell ⟨B, 0, none⟩ (.slice ao0 t.st.length cap0)).heap[B + 1]? = some (.cells #[.slice none 0 0, .slice none 0 0, .slice none 0 0, .float .f64 0, .int .i64 0, .int .i64 0, .int .i64 0, .int .i64 0, .int .i64 0, .int .i64 0, .int .i64 0, .int .i64 0, .int .i64 0, .int .i64 0] 27 (0, 0)) ∧ KRow (w1.setCell ⟨B, 0, none⟩ (.slice ao0 t.st.length cap0)) ao0 cap0 g0 3 (stV t.st) ∧ (0 < cap0 → B + 1 < g0)) := hide (by
    have hlt := (unhide HS).2.1.lt
    have hlt2 := (Array.getElem?_eq_some_iff.1 (unhide HS).2.2).1
    have hg : 0 < cap0 → B + 1 < g0 := fun hp => by have := hc.new hp; omega
    refine ⟨?_, TB.put ((unhide HS).2.1.keep hc.fr) 0 _ rfl, ?_, hc.row.stay (fun hp => Below.heap_setCell _ _ _ _ (by have := hg hp; show g0 ≠ B; omega)), hg⟩
    · exact Fr.setCell (S := fun q => q = B) ((unhide HS).1.trans hc.fr (fun _ _ t => t.elim)) (p := ⟨B, 0, none⟩) (fun _ => rfl) _
    · rw [Below.heap_setCell _ _ _ _ (by show B + 1 ≠ B; omega), hc.fr.block _ hlt2 (fun t => t)]
      exact (unhide HS).2.2)
  have k0 : w1.cell? ⟨B, 0, none⟩ = some (.slice A.aS t.st.length A.cS) := ((unhide HS).2.1.keep hc.fr).cell 0
  have f0 := ((unhide HS).2.1.keep hc.fr).frozen 0
  have c1 : (w1.setCell ⟨B, 0, none⟩ (.slice ao0 t.st.length cap0)).cell? ⟨B, 1, none⟩ = some (.slice A.aP t.sp.length A.cP) := (unhide HS1).2.1.cell 1
  clear hc c0
  go_wp2_with fail
  generalize w1.setCell ⟨B, 0, none⟩ (.slice ao0 t.st.length cap0) = W1 at *
  clear k0 f0
  refine (copied1_any W1 A.aP A.cP t.sp ((unhide H).sp.old (unhide HS1).1 (unhide HN)) (unhide H).lP).mono ?_
  rintro e w2 ⟨ao1, cap1, g1, rfl, hc⟩
  have HS2 : Hid (Fr (fun q => q = B) w (w2.setCell ⟨B, 1, none⟩ (.slice ao1 t.sp.length cap1)) ∧ TB (w2.setCell ⟨B, 1, none⟩ (.slice ao1 t.sp.length cap1)) B { A with aS := ao0, cS := cap0, aP := ao1, cP := cap1 } t ∧ (w2.setCell ⟨B, 1, none⟩ (.slice ao1 t.sp.length cap1)).heap[B + 1]? = some (.cells #[.slice none 0 0, .slice none 0 0, .slice none 0 0, .float .f64 0, .int .i64 0, .int .i64 0, .int .i64 0, .int .i64 0, .int .i64 0, .int .i64 0, .int .i64 0, .int .i64 0, .int .i64 0, .int .i64 0] 27 (0, 0)) ∧ KRow (w2.setCell ⟨B, 1, none⟩ (.slice ao1 t.sp.length cap1)) ao0 cap0 g0 3 (stV t.st) ∧ KRow (w2.setCell ⟨B, 1, none⟩ (.slice ao1 t.sp.length cap1)) ao1 cap1 g1 5 (spV t.sp) ∧ (0 < cap0 → B + 1 < g0 ∧ g0 < W1.heap.size) ∧ (0 < cap1 → W1.heap.size ≤ g1)) := hide (by
    obtain ⟨i1, i2, i3, i4, i5⟩ := unhide HS1
    have hlt := i2.lt
    have hlt2 := (Array.getElem?_eq_some_iff.1 i3).1
    refine ⟨?_, TB.put (i2.keep hc.fr) 1 _ rfl, ?_, (i4.keep (by omega) hc.fr).stay (fun hp => Below.heap_setCell _ _ _ _ (by have := i5 hp; show g0 ≠ B; omega)), hc.row.stay (fun hp => Below.heap_setCell _ _ _ _ (by have := hc.new hp; show g1 ≠ B; omega)), fun hp => ⟨i5 hp, i4.lt (by omega) hp⟩, hc.new⟩
    · exact Fr.setCell (S := fun q => q = B) (i1.trans hc.fr (fun _ _ t => t.elim)) (p := ⟨B, 1, none⟩) (fun _ => rfl) _
    · rw [Below.heap_setCell _ _ _ _ (by show B + 1 ≠ B; omega), hc.fr.block _ hlt2 (fun t => t)]
      exact i3)
  have HWS : Hid (W1.heap.size ≤ (w2.setCell ⟨B, 1, none⟩ (.slice ao1 t.sp.length cap1)).heap.size) := hide (by simpa [World.setCell] using hc.fr.size)
  have k1 : w2.cell? ⟨B, 1, none⟩ = some (.slice A.aP t.sp.length A.cP) := ((unhide HS1).2.1.keep hc.fr).cell 1
  have f1 := ((unhide HS1).2.1.keep hc.fr).frozen 1
  have c2 : (w2.setCell ⟨B, 1, none⟩ (.slice ao1 t.sp.length cap1)).cell? ⟨B, 2, none⟩ = some (.slice A.aB t.bd.length A.cB) := (unhide HS2).2.1.cell 2
  clear hc c1
  go_wp2_with fail
  generalize w2.setCell ⟨B, 1, none⟩ (.slice ao1 t.sp.length cap1) = W2 at *
  clear k1 f1
  refine (copied2_any W2 A.aB A.cB t.bd ((unhide H).bd.old (unhide HS2).1 (unhide HN)) (unhide H).lB).mono ?_
  rintro e w3 ⟨ao2, cap2, g2, rfl, hc⟩
  have HS3 : Hid (Fr (fun q => q = B) w (w3.setCell ⟨B, 2, none⟩ (.slice ao2 t.bd.length cap2)) ∧ TB (w3.setCell ⟨B, 2, none⟩ (.slice ao2 t.bd.length cap2)) B { A with aS := ao0, cS := cap0, aP := ao1, cP := cap1, aB := ao2, cB := cap2 } t ∧ (w3.setCell ⟨B, 2, none⟩ (.slice ao2 t.bd.length cap2)).heap[B + 1]? = some (.cells #[.slice none 0 0, .slice none 0 0, .slice none 0 0, .float .f64 0, .int .i64 0, .int .i64 0, .int .i64 0, .int .i64 0, .int .i64 0, .int .i64 0, .int .i64 0, .int .i64 0, .int .i64 0, .int .i64 0] 27 (0, 0)) ∧ KRow (w3.setCell ⟨B, 2, none⟩ (.slice ao2 t.bd.length cap2)) ao0 cap0 g0 3 (stV t.st) ∧ KRow (w3.setCell ⟨B, 2, none⟩ (.slice ao2 t.bd.length cap2)) ao1 cap1 g1 5 (spV t.sp) ∧ KRow (w3.setCell ⟨B, 2, none⟩ (.slice ao2 t.bd.length cap2)) ao2 cap2 g2 2 (bdV t.bd) ∧ (0 < cap0 → B + 1 < g0 ∧ g0 < W1.heap.size) ∧ (0 < cap1 → W1.heap.size ≤ g1 ∧ g1 < W2.heap.size) ∧ (0 < cap2 → W2.heap.size ≤ g2)) := hide (by
    obtain ⟨i1, i2, i3, i4, i5, i6, i7⟩ := unhide HS2
    have hlt := i2.lt
    have hlt2 := (Array.getElem?_eq_some_iff.1 i3).1
    have hB1 := (unhide HS1).2.1.lt
    refine ⟨?_, TB.put (i2.keep hc.fr) 2 _ rfl, ?_, (i4.keep (by omega) hc.fr).stay (fun hp => Below.heap_setCell _ _ _ _ (by have := i6 hp; show g0 ≠ B; omega)), (i5.keep (by omega) hc.fr).stay (fun hp => Below.heap_setCell _ _ _ _ (by have := i7 hp; show g1 ≠ B; omega)), hc.row.stay (fun hp => Below.heap_setCell _ _ _ _ (by have := hc.new hp; show g2 ≠ B; omega)), i6, fun hp => ⟨i7 hp, i5.lt (by omega) hp⟩, hc.new⟩
    · exact Fr.setCell (S := fun q => q = B) (i1.trans hc.fr (fun _ _ t => t.elim)) (p := ⟨B, 2, none⟩) (fun _ => rfl) _
    · rw [Below.heap_setCell _ _ _ _ (by show B + 1 ≠ B; omega), hc.fr.block _ hlt2 (fun t => t)]
      exact i3)
  have k2 : w3.cell? ⟨B, 2, none⟩ = some (.slice A.aB t.bd.length A.cB) := ((unhide HS2).2.1.keep hc.fr).cell 2
  have f2 := ((unhide HS2).2.1.keep hc.fr).frozen 2
  clear hc c2
  go_wp2_with (first | refine wpList_load_tariff rfl (.tmp 1) rfl (g := B) (A := { A with aS := ao0, cS := cap0, aP := ao1, cP := cap1, aB := ao2, cB := cap2 }) (t := t) rfl (unhide HS3).2.1 ?_ | refine wpList_store_tariff rfl (.tmp 2) (.tmp 15) rfl (g := B + 1) (A := { A with aS := ao0, cS := cap0, aP := ao1, cP := cap1, aB := ao2, cB := cap2 }) (t := t) rfl rfl _ (unhide HS3).2.2.1 rfl ?_)
  refine bodyPost_ret (results_tariff rfl _ _ (g := B + 1) (A := { A with aS := ao0, cS := cap0, aP := ao1, cP := cap1, aB := ao2, cB := cap2 }) (t := t) rfl (TB.set (unhide HS3).2.2.1 _ _)) rfl ⟨_, g0, g1, g2, rfl, ?_⟩
  obtain ⟨i1, i2, i3, i4, i5, i6, i7, i8, i9⟩ := unhide HS3
  have hs := (Fr.refl (fun q => q = B + 1) (w3.setCell ⟨B, 2, none⟩ (.slice ao2 t.bd.length cap2))).setRow (g := B + 1) (fun _ => rfl) (tc { A with aS := ao0, cS := cap0, aP := ao1, cP := cap1, aB := ao2, cB := cap2 } t)
  have eB := unhide HBE
  have b1 := (Array.getElem?_eq_some_iff.1 (unhide HS1).2.2.1).1
  have b2 := (Array.getElem?_eq_some_iff.1 (unhide HS2).2.2.1).1
  refine ⟨i4.stay (fun hp => hs.block _ (i4.lt (by omega) hp) (by have := i7 hp; omega)), i5.stay (fun hp => hs.block _ (i5.lt (by omega) hp) (by have := i8 hp; omega)), i6.stay (fun hp => hs.block _ (i6.lt (by omega) hp) (by have := i9 hp; omega)), fun hp => by have := i7 hp; omega, fun hp => by have := i8 hp; omega, fun hp => by have := i9 hp; omega, fun hp hq => by have := i7 hp; have := i8 hq; omega, fun hp hq => by have := i7 hp; have := i9 hq; have e2 : W1.heap.size ≤ W2.heap.size := unhide HWS; omega, fun hp hq => by have := i8 hp; have := i9 hq; omega, ?_⟩
  exact (i1.mono (T := fun _ => False) (fun q hq e => by omega)).trans hs (fun q hq e => by omega)

end Go.Proofs.Ythgkdpepgnoepaa
