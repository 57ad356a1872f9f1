/- Which tariffs may be, and the first thing wrong; what is handed in stays (the walk of TariffRights). -/
import Derived.Test.YthgkdpepgnoepaaU3
import Derived.Test.YthgkdpepgnoepaaV6
import Derived.Test.YthgkdpepgnoepaaL7
namespace Go.Proofs.Ythgkdpepgnoepaa
open Go.RowKit

set_option maxHeartbeats 2000000 in
set_option maxRecDepth 100000 in
theorem rights_walk (w : World) (A : Ad) (t : Tf) (h : TAt w A t) : Calls Try.prog 3 #[tv A t] w fun e w' => e = .returned (.bool true) ∧ Fr (fun _ => False) w w' := by
  obtain ⟨B, HBE⟩ : ∃ B, Hid (w.heap.size = B) := ⟨_, rfl⟩
  have R0 := awake_any (w.alloc (.cells (tc A t) 27))
  have HB0 : Hid (TB (w.alloc (.cells (tc A t) 27)) B A t) := hide (by rw [← unhide HBE]; exact TB.new w A t)
  have HF0 := hide ((Fr.refl (fun _ => False) w).alloc (.cells (tc A t) 27))
  have H := hide h
  clear h
  unfold tv
  go_enter Try.func3, Try.ntmps3
  go_wp2_with fail
  rw [unhide HBE]
  refine R0.mono ?_
  rintro e w1 ⟨rfl, hF⟩
  have HB1 := hide ((unhide HB0).keep hF)
  have HF1 := hide ((unhide HF0).trans hF (fun _ _ t => t))
  clear hF HB0 HF0 R0
  go_wp2_with (refine wpList_load_tariff rfl (.tmp 1) rfl (g := B) (A := A) (t := t) rfl (unhide HB1) ?_)
  refine (lent_any w1 A t ((unhide H).keep (unhide HF1))).mono ?_
  rintro e w2 ⟨A', gS, gP, gB, rfl, hL⟩
  obtain ⟨M, HME⟩ : ∃ M, Hid (w2.heap.size = M) := ⟨_, rfl⟩
  have HG : Hid ((w2.alloc (.cells #[.slice none 0 0, .slice none 0 0, .slice none 0 0, .float .f64 0, .int .i64 0, .int .i64 0, .int .i64 0, .int .i64 0, .int .i64 0, .int .i64 0, .int .i64 0, .int .i64 0, .int .i64 0, .int .i64 0] 27)).heap[M]? = some (.cells #[.slice none 0 0, .slice none 0 0, .slice none 0 0, .float .f64 0, .int .i64 0, .int .i64 0, .int .i64 0, .int .i64 0, .int .i64 0, .int .i64 0, .int .i64 0, .int .i64 0, .int .i64 0, .int .i64 0] 27 (0, 0))) := hide (by rw [← unhide HME]; exact heap_new _ _)
  obtain ⟨w3, HW3⟩ : ∃ w3, Hid (w3 = (w2.alloc (.cells #[.slice none 0 0, .slice none 0 0, .slice none 0 0, .float .f64 0, .int .i64 0, .int .i64 0, .int .i64 0, .int .i64 0, .int .i64 0, .int .i64 0, .int .i64 0, .int .i64 0, .int .i64 0, .int .i64 0] 27)).setRow M (tc A' t)) := ⟨_, rfl⟩
  have hF23 : Fr (fun _ => False) w2 w3 := by rw [unhide HW3]; exact ((Fr.refl _ w2).alloc _).setRow (fun h => absurd h (by have := unhide HME; omega)) _
  have HB3 : Hid (TB w3 B A t) := hide (((unhide HB1).keep hL.fr).keep hF23)
  have HI3 : Hid (TB w3 M A' t) := hide (by rw [unhide HW3]; exact TB.set (unhide HG) A' t)
  have HF3 := hide (((unhide HF1).trans hL.fr (fun _ _ t => t)).trans hF23 (fun _ _ t => t))
  have HT3 : Hid (TAt w3 A' t) := hide ((hL.tat ((unhide H).keep (unhide HF1))).keep hF23)
  have HK3 := hide (hL.kp.keep hF23)
  have HQ : Hid (w.heap.size ≤ gS ∧ w.heap.size ≤ gP ∧ w.heap.size ≤ gB ∧ B ≠ gS ∧ B ≠ gP ∧ B ≠ gB) := hide (by
    have a0 := (unhide HF1).size
    have a1 := hL.oS.new
    have a2 := hL.oP.new
    have a3 := hL.oB.new
    have a4 := (unhide HB1).lt
    exact ⟨by omega, by omega, by omega, by omega, by omega, by omega⟩)
  clear hL hF23 HB1 HF1
  go_wp2_with (first | (rw [unhide HME]; refine wpList_store_tariff rfl (.tmp 4) (.tmp 9) rfl (g := M) (A := A') (t := t) rfl rfl _ (unhide HG) rfl ?_; rw [← unhide HW3]) | refine wpList_load_tariff rfl (.tmp 4) rfl (g := M) (A := A') (t := t) rfl (unhide HI3) ?_)
  refine (right_walk w3 A' t (unhide HT3)).mono ?_
  rintro e w4 ⟨rfl, hF⟩
  obtain ⟨r, HRE⟩ : ∃ r, Hid (rightE t = r) := ⟨_, rfl⟩
  rw [unhide HRE]
  have HB4 := hide ((unhide HB3).keep hF)
  have HI4 := hide ((unhide HI3).keep hF)
  have HF4 := hide ((unhide HF3).trans hF (fun _ _ t => t))
  have HT4 := hide ((unhide HT3).keep hF)
  have HK4 := hide ((unhide HK3).keep hF)
  clear hF HB3 HI3 HF3 HT3 HK3 HG HW3
  go_wp2_with (first | refine wpList_load_tariff rfl (.tmp 4) rfl (g := M) (A := A') (t := t) rfl (unhide HI4) ?_ | refine wpList_load_tariff rfl (.tmp 1) rfl (g := B) (A := A) (t := t) rfl (unhide HB4) ?_)
  refine (kept_any w4 A' A t gS gP gB (unhide HT4) ((unhide H).keep (unhide HF4)) (unhide HK4)).mono ?_
  rintro e w5 ⟨rfl, hF⟩
  have HB5 := hide ((unhide HB4).frame hF (by have := unhide HQ; omega))
  have HF5 : Hid (Fr (fun _ => False) w w5) := hide ((unhide HF4).trans hF (fun q hq hh => by have := unhide HQ; omega))
  clear hF HB4 HI4 HF4 HT4 HK4
  have R := rright_walk w5 A t ((unhide H).keep (unhide HF5))
  rw [unhide HRE] at R
  have b0 : w5.cell? ⟨B, 0, none⟩ = some (.slice A.aS t.st.length A.cS) := (unhide HB5).cell 0
  have b1 : w5.cell? ⟨B, 1, none⟩ = some (.slice A.aP t.sp.length A.cP) := (unhide HB5).cell 1
  have b2 : w5.cell? ⟨B, 2, none⟩ = some (.slice A.aB t.bd.length A.cB) := (unhide HB5).cell 2
  have b3 : w5.cell? ⟨B, 3, none⟩ = some (.float .f64 t.off) := (unhide HB5).cell 3
  have b4 : w5.cell? ⟨B, 4, none⟩ = some (.int .i64 t.bus) := (unhide HB5).cell 4
  have b5 : w5.cell? ⟨B, 5, none⟩ = some (.int .i64 t.busDaily) := (unhide HB5).cell 5
  have b6 : w5.cell? ⟨B, 6, none⟩ = some (.int .i64 t.busWeekly) := (unhide HB5).cell 6
  have b7 : w5.cell? ⟨B, 7, none⟩ = some (.int .i64 t.hopper) := (unhide HB5).cell 7
  have b8 : w5.cell? ⟨B, 8, none⟩ = some (.int .i64 t.most) := (unhide HB5).cell 8
  have b9 : w5.cell? ⟨B, 9, none⟩ = some (.int .i64 t.longest) := (unhide HB5).cell 9
  have b10 : w5.cell? ⟨B, 10, none⟩ = some (.int .i64 t.change) := (unhide HB5).cell 10
  have b11 : w5.cell? ⟨B, 11, none⟩ = some (.int .i64 t.passback) := (unhide HB5).cell 11
  have b12 : w5.cell? ⟨B, 12, none⟩ = some (.int .i64 t.delay) := (unhide HB5).cell 12
  have b13 : w5.cell? ⟨B, 13, none⟩ = some (.int .i64 t.threshold) := (unhide HB5).cell 13
  clear HB5
  unfold tv tc at R
  go_wp2_with fail
  refine R.mono ?_
  rintro e w6 ⟨rfl, hF⟩
  have HF6 := hide ((unhide HF5).trans hF (fun _ _ t => t))
  clear hF R b0 b1 b2 b3 b4 b5 b6 b7 b8 b9 b10 b11 b12 b13
  go_wp2
  go_ret
  exact ⟨by first | rfl | simp, unhide HF6⟩

end Go.Proofs.Ythgkdpepgnoepaa
