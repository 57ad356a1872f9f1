import Derived.Test.YtjgbllfppomcmaaCP1
import Derived.Deep.RegionHeld3
import Derived.Deep.Cut
import Derived.Deep.CutBlock
/- The program's capped: below a day's cap, below a week's. -/
namespace Go.Proofs.Ytjgbllfppomcmaa
open Go.RowKit

set_option maxHeartbeats 1000000 in
theorem capped_anyD (w : World) (A : Ad) (t : Tf) (h : TAt w A t) (d : Dy) (hr : -4611686018427387904 ≤ d.rail + d.bus ∧ d.rail + d.bus ≤ 4611686018427387904) :
    Calls Try.prog 15 #[tv A t, .agg (dyC d), .func (.func 18) #[] #[]] w fun e w' => e = .returned (.int .i64 (capV t d (·.daily))) ∧ Fr (fun _ => False) w w' := by
  have HX : Hid (capV t d (·.daily) = if (spanOf t d.low d.high).isSome = true then imax d.bus (imin (d.rail + d.bus) ((spanOf t d.low d.high).getD ⟨0, 0, 0, 0, 0⟩).daily) else d.rail + d.bus) := rfl
  have RS := hide (fun (u : World) (hu : Fr (fun _ => False) w u) => span_any u A t (h.keep hu) d.low d.high)
  generalize capV t d (·.daily) = z at *
  generalize (spanOf t d.low d.high).getD ⟨0, 0, 0, 0, 0⟩ = sp at *
  generalize (spanOf t d.low d.high).isSome = sb at *
  obtain ⟨v, hv⟩ : ∃ v, v = (w.alloc (.cells (tc A t) 27)).alloc (.cells (dyC d) 43) := ⟨_, rfl⟩
  have HFV : Hid (Fr (fun _ => False) w v) := hide (by rw [hv]; exact ((Fr.refl _ w).alloc _).alloc _)
  have hTB : TB v w.heap.size A t := by rw [hv]; exact (TB.new w A t).keep ((Fr.refl _ _).alloc _)
  have hD : Bx v (w.heap.size + 1) (dyC d) 43 := by
    rw [hv, ← heap_alloc w (.cells (tc A t) 27)]; exact Bx.new _ _ _
  obtain ⟨B, hB⟩ : ∃ B, B = w.heap.size := ⟨_, rfl⟩
  rw [← hB] at hTB hD
  obtain ⟨dd, b, c, e, f, x, y⟩ := d
  simp only [] at *
  simp only [dyC] at hD hv ⊢
  have HC : Hid (∀ u, Fr (fun _ => False) v u → u.cell? ⟨B + 1, 1, none⟩ = some (.int .i64 b) ∧ u.cell? ⟨B + 1, 2, none⟩ = some (.int .i64 c) ∧ u.cell? ⟨B + 1, 5, none⟩ = some (.int .i64 x) ∧ u.cell? ⟨B + 1, 6, none⟩ = some (.int .i64 y)) := hide (fun u hf => have k := hD.keep hf; ⟨k.cell 1, k.cell 2, k.cell 5, k.cell 6⟩)
  obtain ⟨_, _, c5, c6⟩ := unhide HC v (Fr.refl _ _)
  have hBl : B + 1 < v.heap.size := hD.lt
  have HTB := hide hTB
  have HV := hide hv
  have HB := hide hB
  have HR := hide hr
  clear hv hB hTB hD h hr
  unfold tv at *
  unfold tc at HV ⊢
  go_enter Try.func15, Try.ntmps15
  go_upto_region 1 with (fail)
  rw [← unhide HV, ← unhide HB]
  clear HV
  go_wp2_with (refine wpList_load_tariff rfl (.tmp 3) rfl (g := B) (A := A) (t := t) rfl (unhide HTB) ?_)
  refine (unhide RS v (unhide HFV)).mono ?_
  rintro e w1 ⟨rfl, hF⟩
  have HF1 := hide hF
  have HFW := hide ((unhide HFV).trans hF (fun _ _ t => t))
  clear hF RS c5 c6
  obtain ⟨p0, p1, p2, p3, p4⟩ := sp
  simp only [spA] at *
  go_upto_region 2 with (fail)
  obtain ⟨v1, hv1⟩ : ∃ v1, v1 = w1.alloc (.cells #[.int .i64 p0, .int .i64 p1, .int .i64 p2, .int .i64 p3, .int .i64 p4] 57) := ⟨_, rfl⟩
  have hFa : Fr (fun _ => False) w1 v1 := by rw [hv1]; exact (Fr.refl _ _).alloc _
  have hE1 : Bx v1 w1.heap.size #[.int .i64 p0, .int .i64 p1, .int .i64 p2, .int .i64 p3, .int .i64 p4] 57 := by rw [hv1]; exact Bx.new _ _ _
  obtain ⟨E, hE⟩ : ∃ E, E = w1.heap.size := ⟨_, rfl⟩
  rw [← hv1, ← hE]
  rw [← hE] at hE1
  have HFX := hide ((unhide HFW).trans hFa (fun _ _ t => t))
  have HFV1 := hide ((unhide HF1).trans hFa (fun _ _ t => t))
  have HS := hide hE1
  clear hv1 hFa HFW hE HF1 hE1 HTB
  obtain ⟨c1, c2, _, _⟩ := unhide HC v1 (unhide HFV1)
  have hr := unhide HR
  cases sb with
  | false =>
    have HZ : Hid (z = b + c) := hide (by rw [unhide HX]; simp)
    clear HX HC HS
    go_wp2
    go_ret
    exact ⟨by rw [unhide HZ]; rfl, unhide HFX⟩
  | true =>
    have HZ : Hid (z = imax c (imin (b + c) p3)) := hide (by rw [unhide HX]; simp)
    have HW1 : Hid (IntKind.wrap .i64 (b + c) = b + c) := hide (by rw [IntKind.wrap_i64]; omega)
    have RC := hide (fun (u : World) => day1_any u ⟨p0, p1, p2, p3, p4⟩)
    simp only [spA] at RC
    have HCB : Hid (∀ u, Fr (fun _ => False) v1 u → u.cell? ⟨B + 1, 1, none⟩ = some (.int .i64 b) ∧ u.cell? ⟨B + 1, 2, none⟩ = some (.int .i64 c) ∧ u.cell? ⟨E, 0, none⟩ = some (.int .i64 p0) ∧ u.cell? ⟨E, 1, none⟩ = some (.int .i64 p1) ∧ u.cell? ⟨E, 2, none⟩ = some (.int .i64 p2) ∧ u.cell? ⟨E, 3, none⟩ = some (.int .i64 p3) ∧ u.cell? ⟨E, 4, none⟩ = some (.int .i64 p4)) := hide (fun u hf => by
      have k := (unhide HS).keep hf
      obtain ⟨g1, g2, _, _⟩ := unhide HC u ((unhide HFV1).trans hf (fun _ _ t => t))
      exact ⟨g1, g2, k.cell 0, k.cell 1, k.cell 2, k.cell 3, k.cell 4⟩)
    clear HX HC HS c1 c2
    obtain ⟨c1, c2, s0, s1, s2, s3, s4⟩ := unhide HCB v1 (Fr.refl _ _)
    have k1 := run_min
    have k2 := run_max
    go_wp2_with fail
    go_region_held3 (fun u => u.cell? ⟨B + 1, 1, none⟩ = some (.int .i64 b) ∧ u.cell? ⟨B + 1, 2, none⟩ = some (.int .i64 c) ∧ u.cell? ⟨E, 0, none⟩ = some (.int .i64 p0) ∧ u.cell? ⟨E, 1, none⟩ = some (.int .i64 p1) ∧ u.cell? ⟨E, 2, none⟩ = some (.int .i64 p2) ∧ u.cell? ⟨E, 3, none⟩ = some (.int .i64 p3) ∧ u.cell? ⟨E, 4, none⟩ = some (.int .i64 p4))
      ((refine unhide HCB _ ?_; repeat (first | (with_reducible exact Fr.refl _ _) | (with_reducible refine Fr.drew ?_) | (with_reducible refine Fr.trans ?_ (unhide HA) (fun _ _ t => t)))))
      ((go_at_call 18; refine (unhide RC _).mono ?_; rintro e wa ⟨rfl, hA⟩; have HA := hide hA; clear hA))
    go_wp2_with fail
    go_ret
    exact ⟨by rw [unhide HZ]; show Ending.returned (Value.int .i64 (imax c (imin (IntKind.wrap .i64 (b + c)) p3))) = _; rw [unhide HW1], (unhide HFX).trans (by repeat (first | (with_reducible exact Fr.refl _ _) | (with_reducible refine Fr.drew ?_) | (with_reducible refine Fr.trans ?_ (unhide HA) (fun _ _ t => t)))) (fun _ _ t => t)⟩

set_option maxHeartbeats 1000000 in
theorem capped_anyW (w : World) (A : Ad) (t : Tf) (h : TAt w A t) (d : Dy) (hr : -4611686018427387904 ≤ d.rail + d.bus ∧ d.rail + d.bus ≤ 4611686018427387904) :
    Calls Try.prog 15 #[tv A t, .agg (dyC d), .func (.func 16) #[] #[]] w fun e w' => e = .returned (.int .i64 (capV t d (·.weekly))) ∧ Fr (fun _ => False) w w' := by
  have HX : Hid (capV t d (·.weekly) = if (spanOf t d.low d.high).isSome = true then imax d.bus (imin (d.rail + d.bus) ((spanOf t d.low d.high).getD ⟨0, 0, 0, 0, 0⟩).weekly) else d.rail + d.bus) := rfl
  have RS := hide (fun (u : World) (hu : Fr (fun _ => False) w u) => span_any u A t (h.keep hu) d.low d.high)
  generalize capV t d (·.weekly) = z at *
  generalize (spanOf t d.low d.high).getD ⟨0, 0, 0, 0, 0⟩ = sp at *
  generalize (spanOf t d.low d.high).isSome = sb at *
  obtain ⟨v, hv⟩ : ∃ v, v = (w.alloc (.cells (tc A t) 27)).alloc (.cells (dyC d) 43) := ⟨_, rfl⟩
  have HFV : Hid (Fr (fun _ => False) w v) := hide (by rw [hv]; exact ((Fr.refl _ w).alloc _).alloc _)
  have hTB : TB v w.heap.size A t := by rw [hv]; exact (TB.new w A t).keep ((Fr.refl _ _).alloc _)
  have hD : Bx v (w.heap.size + 1) (dyC d) 43 := by
    rw [hv, ← heap_alloc w (.cells (tc A t) 27)]; exact Bx.new _ _ _
  obtain ⟨B, hB⟩ : ∃ B, B = w.heap.size := ⟨_, rfl⟩
  rw [← hB] at hTB hD
  obtain ⟨dd, b, c, e, f, x, y⟩ := d
  simp only [] at *
  simp only [dyC] at hD hv ⊢
  have HC : Hid (∀ u, Fr (fun _ => False) v u → u.cell? ⟨B + 1, 1, none⟩ = some (.int .i64 b) ∧ u.cell? ⟨B + 1, 2, none⟩ = some (.int .i64 c) ∧ u.cell? ⟨B + 1, 5, none⟩ = some (.int .i64 x) ∧ u.cell? ⟨B + 1, 6, none⟩ = some (.int .i64 y)) := hide (fun u hf => have k := hD.keep hf; ⟨k.cell 1, k.cell 2, k.cell 5, k.cell 6⟩)
  obtain ⟨_, _, c5, c6⟩ := unhide HC v (Fr.refl _ _)
  have hBl : B + 1 < v.heap.size := hD.lt
  have HTB := hide hTB
  have HV := hide hv
  have HB := hide hB
  have HR := hide hr
  clear hv hB hTB hD h hr
  unfold tv at *
  unfold tc at HV ⊢
  go_enter Try.func15, Try.ntmps15
  go_upto_region 1 with (fail)
  rw [← unhide HV, ← unhide HB]
  clear HV
  go_wp2_with (refine wpList_load_tariff rfl (.tmp 3) rfl (g := B) (A := A) (t := t) rfl (unhide HTB) ?_)
  refine (unhide RS v (unhide HFV)).mono ?_
  rintro e w1 ⟨rfl, hF⟩
  have HF1 := hide hF
  have HFW := hide ((unhide HFV).trans hF (fun _ _ t => t))
  clear hF RS c5 c6
  obtain ⟨p0, p1, p2, p3, p4⟩ := sp
  simp only [spA] at *
  go_upto_region 2 with (fail)
  obtain ⟨v1, hv1⟩ : ∃ v1, v1 = w1.alloc (.cells #[.int .i64 p0, .int .i64 p1, .int .i64 p2, .int .i64 p3, .int .i64 p4] 57) := ⟨_, rfl⟩
  have hFa : Fr (fun _ => False) w1 v1 := by rw [hv1]; exact (Fr.refl _ _).alloc _
  have hE1 : Bx v1 w1.heap.size #[.int .i64 p0, .int .i64 p1, .int .i64 p2, .int .i64 p3, .int .i64 p4] 57 := by rw [hv1]; exact Bx.new _ _ _
  obtain ⟨E, hE⟩ : ∃ E, E = w1.heap.size := ⟨_, rfl⟩
  rw [← hv1, ← hE]
  rw [← hE] at hE1
  have HFX := hide ((unhide HFW).trans hFa (fun _ _ t => t))
  have HFV1 := hide ((unhide HF1).trans hFa (fun _ _ t => t))
  have HS := hide hE1
  clear hv1 hFa HFW hE HF1 hE1 HTB
  obtain ⟨c1, c2, _, _⟩ := unhide HC v1 (unhide HFV1)
  have hr := unhide HR
  cases sb with
  | false =>
    have HZ : Hid (z = b + c) := hide (by rw [unhide HX]; simp)
    clear HX HC HS
    go_wp2
    go_ret
    exact ⟨by rw [unhide HZ]; rfl, unhide HFX⟩
  | true =>
    have HZ : Hid (z = imax c (imin (b + c) p4)) := hide (by rw [unhide HX]; simp)
    have HW1 : Hid (IntKind.wrap .i64 (b + c) = b + c) := hide (by rw [IntKind.wrap_i64]; omega)
    have RC := hide (fun (u : World) => week1_any u ⟨p0, p1, p2, p3, p4⟩)
    simp only [spA] at RC
    have HCB : Hid (∀ u, Fr (fun _ => False) v1 u → u.cell? ⟨B + 1, 1, none⟩ = some (.int .i64 b) ∧ u.cell? ⟨B + 1, 2, none⟩ = some (.int .i64 c) ∧ u.cell? ⟨E, 0, none⟩ = some (.int .i64 p0) ∧ u.cell? ⟨E, 1, none⟩ = some (.int .i64 p1) ∧ u.cell? ⟨E, 2, none⟩ = some (.int .i64 p2) ∧ u.cell? ⟨E, 3, none⟩ = some (.int .i64 p3) ∧ u.cell? ⟨E, 4, none⟩ = some (.int .i64 p4)) := hide (fun u hf => by
      have k := (unhide HS).keep hf
      obtain ⟨g1, g2, _, _⟩ := unhide HC u ((unhide HFV1).trans hf (fun _ _ t => t))
      exact ⟨g1, g2, k.cell 0, k.cell 1, k.cell 2, k.cell 3, k.cell 4⟩)
    clear HX HC HS c1 c2
    obtain ⟨c1, c2, s0, s1, s2, s3, s4⟩ := unhide HCB v1 (Fr.refl _ _)
    have k1 := run_min
    have k2 := run_max
    go_wp2_with fail
    go_region_held3 (fun u => u.cell? ⟨B + 1, 1, none⟩ = some (.int .i64 b) ∧ u.cell? ⟨B + 1, 2, none⟩ = some (.int .i64 c) ∧ u.cell? ⟨E, 0, none⟩ = some (.int .i64 p0) ∧ u.cell? ⟨E, 1, none⟩ = some (.int .i64 p1) ∧ u.cell? ⟨E, 2, none⟩ = some (.int .i64 p2) ∧ u.cell? ⟨E, 3, none⟩ = some (.int .i64 p3) ∧ u.cell? ⟨E, 4, none⟩ = some (.int .i64 p4))
      ((refine unhide HCB _ ?_; repeat (first | (with_reducible exact Fr.refl _ _) | (with_reducible refine Fr.drew ?_) | (with_reducible refine Fr.trans ?_ (unhide HA) (fun _ _ t => t)))))
      ((go_at_call 16; refine (unhide RC _).mono ?_; rintro e wa ⟨rfl, hA⟩; have HA := hide hA; clear hA))
    go_wp2_with fail
    go_ret
    exact ⟨by rw [unhide HZ]; show Ending.returned (Value.int .i64 (imax c (imin (IntKind.wrap .i64 (b + c)) p4))) = _; rw [unhide HW1], (unhide HFX).trans (by repeat (first | (with_reducible exact Fr.refl _ _) | (with_reducible refine Fr.drew ?_) | (with_reducible refine Fr.trans ?_ (unhide HA) (fun _ _ t => t)))) (fun _ _ t => t)⟩

end Go.Proofs.Ytjgbllfppomcmaa

