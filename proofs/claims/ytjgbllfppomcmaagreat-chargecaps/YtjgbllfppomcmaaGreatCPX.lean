import Derived.Test.YtjgbllfppomcmaaGreatCP0
import Derived.Test.YtjgbllfppomcmaaGreatQVZ
import Derived.Deep.RegionHeld3
import Derived.Deep.Cut
import Derived.Deep.CutBlock
import Derived.Deep.RegionHeldLaw
/- The program's sumOf, isOn, widen, capped, and the closures that tell a cap. -/
namespace Go.Proofs.YtjgbllfppomcmaaGreat
open Go.RowKit

/-- Where a kind is added up. -/
def sumP (g : Nat) (k : Int) : Option Addr := if k = 1 then some ⟨g, 1, none⟩ else if k = 2 ∨ k = 3 then some ⟨g, 4, none⟩ else if k = 4 then some ⟨g, 2, none⟩ else none

theorem sumOf_any (w : World) (g : Nat) (d : Dy) (h : Bx w g (dyC d) 70) (k : Int) :
    Calls Tryz.prog 143 #[.pointer (some ⟨g, 0, none⟩), .int .i64 k] w fun e w' => e = .returned (.pointer (sumP g k)) ∧ w' = w := by
  have HL := h.lt
  by_cases h1 : k = 1
  · subst h1
    go_enter Tryz.func143, Tryz.ntmps143
    go_wp2
    go_ret
    exact ⟨rfl, rfl⟩
  · by_cases h2 : k = 2
    · subst h2
      go_enter Tryz.func143, Tryz.ntmps143
      go_wp2
      go_ret
      exact ⟨rfl, rfl⟩
    · by_cases h3 : k = 3
      · subst h3
        go_enter Tryz.func143, Tryz.ntmps143
        go_wp2
        go_ret
        exact ⟨rfl, rfl⟩
      · by_cases h4 : k = 4
        · subst h4
          go_enter Tryz.func143, Tryz.ntmps143
          go_wp2
          go_ret
          exact ⟨rfl, rfl⟩
        · have e : sumP g k = none := by unfold sumP; rw [if_neg h1, if_neg (by omega), if_neg h4]
          rw [e]
          clear e
          go_enter Tryz.func143, Tryz.ntmps143
          go_wp2
          go_ret
          exact ⟨rfl, rfl⟩

theorem isOn_any (w : World) (day st : Int) : Calls Tryz.prog 144 #[.int .i64 day, .int .i64 st] w fun e w' => e = .returned (.bool (onB day st)) ∧ w' = w := by
  have R := hide (cday_any w st)
  have HE : Hid (onB day st = (decide (dayE st = 0) && decide (dayV st = day))) := rfl
  generalize onB day st = b at *
  generalize dayE st = e at *
  generalize dayV st = v at *
  by_cases he : e = 0
  · subst he
    by_cases hv : v = day
    · have hb : b = true := by rw [unhide HE]; simp [hv]
      subst hb
      have hq : (v == day) = true := by simp [hv]
      go_enter Tryz.func144, Tryz.ntmps144
      go_wp2_with fail
      refine (unhide R).mono ?_
      rintro e w1 ⟨rfl, rfl⟩
      go_wp2
      go_ret
      exact ⟨rfl, rfl⟩
    · have hb : b = false := by rw [unhide HE]; simp [hv]
      subst hb
      have hq : (v == day) = false := by simp [hv]
      go_enter Tryz.func144, Tryz.ntmps144
      go_wp2_with fail
      refine (unhide R).mono ?_
      rintro e w1 ⟨rfl, rfl⟩
      go_wp2
      go_ret
      exact ⟨rfl, rfl⟩
  · have hb : b = false := by rw [unhide HE]; simp [he]
    subst hb
    go_enter Tryz.func144, Tryz.ntmps144
    go_wp2_with fail
    refine (unhide R).mono ?_
    rintro e w1 ⟨rfl, rfl⟩
    go_wp2
    go_ret
    exact ⟨rfl, rfl⟩

theorem widen_any (w : World) (g : Nat) (d : Dy) (h : Bx w g (dyC d) 70) (lo hi : Int) :
    Calls Tryz.prog 116 #[.pointer (some ⟨g, 0, none⟩), .int .i64 lo, .int .i64 hi] w fun e w' => e = .returned (.tuple #[]) ∧ Bx w' g (dyC (widD d lo hi)) 70 ∧ Fr (fun k => k = g) w w' := by
  obtain ⟨a, b, c, e, f, x, y⟩ := d
  have c5 : w.cell? ⟨g, 5, none⟩ = some (.int .i64 x) := h.cell 5
  have c6 : w.cell? ⟨g, 6, none⟩ = some (.int .i64 y) := h.cell 6
  have f5 := h.frozen 5
  have f6 := h.frozen 6
  have HB := hide h
  have k2 := run_max
  have HX : Hid (∀ n, lowW x lo = n → ∀ u, u = (w.setCell ⟨g, 5, none⟩ (.int .i64 n)).setCell ⟨g, 6, none⟩ (.int .i64 (imax y hi)) → Bx u g (dyC (widD ⟨a, b, c, e, f, x, y⟩ lo hi)) 70 ∧ Fr (fun k => k = g) w u) := hide (fun n hn u hu => by
    subst hu
    refine ⟨?_,  ((Fr.refl (fun k => k = g) w).setCell (p := ⟨g, 5, none⟩) (fun _ => rfl) _).setCell (p := ⟨g, 6, none⟩) (fun _ => rfl) _⟩
    have e1 := ((unhide HB).setCell 5 (.int .i64 n)).setCell 6 (.int .i64 (imax y hi))
    rw [← hn] at e1 ⊢
    exact e1)
  have HY : Hid (∀ n, lowW x lo = n → n = x → ∀ u, u = w.setCell ⟨g, 6, none⟩ (.int .i64 (imax y hi)) → Bx u g (dyC (widD ⟨a, b, c, e, f, x, y⟩ lo hi)) 70 ∧ Fr (fun k => k = g) w u) := hide (fun n hn hx u hu => by
    subst hu
    refine ⟨?_, (Fr.refl (fun k => k = g) w).setCell (p := ⟨g, 6, none⟩) (fun _ => rfl) _⟩
    have e1 := (unhide HB).setCell 6 (.int .i64 (imax y hi))
    rw [hx] at hn
    unfold widD
    rw [hn]
    exact e1)
  have HN : Hid (lowW x lo = if x = 0 then lo else if 0 < lo ∧ lo < x then lo else x) := rfl
  clear h
  by_cases h0 : x = 0
  · subst h0
    have HN' := hide ((unhide HN).trans (if_pos rfl))
    clear HN
    go_enter Tryz.func116, Tryz.ntmps116
    go_wp2
    refine bodyPost_end (results_none rfl _ _ _) rfl ?_
    exact ⟨rfl, unhide HX _ (unhide HN') _ rfl⟩
  · have HN1 := hide ((unhide HN).trans (if_neg h0))
    clear HN
    by_cases h1 : 0 < lo
    · by_cases h2 : lo < x
      · have HN' := hide ((unhide HN1).trans (if_pos ⟨h1, h2⟩))
        clear HN1
        go_enter Tryz.func116, Tryz.ntmps116
        go_wp2
        refine bodyPost_end (results_none rfl _ _ _) rfl ?_
        exact ⟨rfl, unhide HX _ (unhide HN') _ rfl⟩
      · have HN' := hide ((unhide HN1).trans (if_neg (fun k => h2 k.2)))
        clear HN1
        go_enter Tryz.func116, Tryz.ntmps116
        go_wp2
        refine bodyPost_end (results_none rfl _ _ _) rfl ?_
        exact ⟨rfl, unhide HY _ (unhide HN') rfl _ rfl⟩
    · have HN' := hide ((unhide HN1).trans (if_neg (fun k => h1 k.1)))
      clear HN1
      go_enter Tryz.func116, Tryz.ntmps116
      go_wp2
      refine bodyPost_end (results_none rfl _ _ _) rfl ?_
      exact ⟨rfl, unhide HY _ (unhide HN') rfl _ rfl⟩

theorem day1_any (w : World) (s : Spn) : Calls Tryz.prog 113 #[spA s] w fun e w' => e = .returned (.int .i64 s.daily) ∧ Fr (fun _ => False) w w' := by
  obtain ⟨a, b, c, d, e⟩ := s
  unfold spA
  simp only []
  go_enter Tryz.func113, Tryz.ntmps113
  go_wp2
  go_ret
  exact ⟨rfl, (Fr.refl _ _).alloc _⟩

theorem week1_any (w : World) (s : Spn) : Calls Tryz.prog 117 #[spA s] w fun e w' => e = .returned (.int .i64 s.weekly) ∧ Fr (fun _ => False) w w' := by
  obtain ⟨a, b, c, d, e⟩ := s
  unfold spA
  simp only []
  go_enter Tryz.func117, Tryz.ntmps117
  go_wp2
  go_ret
  exact ⟨rfl, (Fr.refl _ _).alloc _⟩

end Go.Proofs.YtjgbllfppomcmaaGreat

/- The program's capped: below a day's cap, below a week's. -/
namespace Go.Proofs.YtjgbllfppomcmaaGreat
open Go.RowKit

set_option maxHeartbeats 1000000 in
theorem capped_anyD (w : World) (A : Ad) (t : Tf) (h : TAt w A t) (d : Dy) (hr : -4611686018427387904 ≤ d.rail + d.bus ∧ d.rail + d.bus ≤ 4611686018427387904) :
    Calls Tryz.prog 112 #[tv A t, .agg (dyC d), .func (.func 113) #[] #[]] w fun e w' => e = .returned (.int .i64 (capV t d (·.daily))) ∧ Fr (fun _ => False) w w' := by
  have HX : Hid (capV t d (·.daily) = if (spanOf t d.low d.high).isSome = true then imax d.bus (imin (d.rail + d.bus) ((spanOf t d.low d.high).getD ⟨0, 0, 0, 0, 0⟩).daily) else d.rail + d.bus) := rfl
  have RS := hide (fun (u : World) (hu : Fr (fun _ => False) w u) => span_any u A t (h.keep hu) d.low d.high)
  generalize capV t d (·.daily) = z at *
  generalize (spanOf t d.low d.high).getD ⟨0, 0, 0, 0, 0⟩ = sp at *
  generalize (spanOf t d.low d.high).isSome = sb at *
  obtain ⟨v, hv⟩ : ∃ v, v = (w.alloc (.cells (tc A t) 27)).alloc (.cells (dyC d) 70) := ⟨_, rfl⟩
  have HFV : Hid (Fr (fun _ => False) w v) := hide (by rw [hv]; exact ((Fr.refl _ w).alloc _).alloc _)
  have hTB : TB v w.heap.size A t := by rw [hv]; exact (TB.new w A t).keep ((Fr.refl _ _).alloc _)
  have hD : Bx v (w.heap.size + 1) (dyC d) 70 := by
    rw [hv, ← heap_alloc w (.cells (tc A t) 27)]; exact Bx.new _ _ _
  obtain ⟨B, hB⟩ : ∃ B, B = w.heap.size := ⟨_, rfl⟩
  rw [← hB] at hTB hD
  obtain ⟨dd, b, c, e, f, x, y⟩ := d
  simp only [] at *
  simp only [dyC] at hD hv ⊢
  have HC : Hid (∀ u, Fr (fun _ => False) v u → u.cell? ⟨B + 1, 1, none⟩ = some (.int .i64 b) ∧ u.cell? ⟨B + 1, 2, none⟩ = some (.int .i64 c) ∧ u.cell? ⟨B + 1, 5, none⟩ = some (.int .i64 x) ∧ u.cell? ⟨B + 1, 6, none⟩ = some (.int .i64 y)) := hide (fun u hf => have k := hD.keep hf; ⟨k.cell 1, k.cell 2, k.cell 5, k.cell 6⟩)
  obtain ⟨_, _, c5, c6⟩ := unhide HC v (Fr.refl _ _)
  have hBl : B + 1 < v.heap.size := hD.lt
  have HTB := hide hTB
  have HV := hide hv
  have HB := hide hB
  have HR := hide hr
  clear hv hB hTB hD h hr
  unfold tv at *
  unfold tc at HV ⊢
  go_enter Tryz.func112, Tryz.ntmps112
  go_upto_region 1 with (fail)
  rw [← unhide HV, ← unhide HB]
  clear HV
  go_wp2_with (refine wpList_load_tariff rfl (.tmp 3) rfl (g := B) (A := A) (t := t) rfl (unhide HTB) ?_)
  refine (unhide RS v (unhide HFV)).mono ?_
  rintro e w1 ⟨rfl, hF⟩
  have HF1 := hide hF
  have HFW := hide ((unhide HFV).trans hF (fun _ _ t => t))
  clear hF RS c5 c6
  obtain ⟨p0, p1, p2, p3, p4⟩ := sp
  simp only [spA] at *
  go_upto_region 2 with (fail)
  obtain ⟨v1, hv1⟩ : ∃ v1, v1 = w1.alloc (.cells #[.int .i64 p0, .int .i64 p1, .int .i64 p2, .int .i64 p3, .int .i64 p4] 50) := ⟨_, rfl⟩
  have hFa : Fr (fun _ => False) w1 v1 := by rw [hv1]; exact (Fr.refl _ _).alloc _
  have hE1 : Bx v1 w1.heap.size #[.int .i64 p0, .int .i64 p1, .int .i64 p2, .int .i64 p3, .int .i64 p4] 50 := by rw [hv1]; exact Bx.new _ _ _
  obtain ⟨E, hE⟩ : ∃ E, E = w1.heap.size := ⟨_, rfl⟩
  rw [← hv1, ← hE]
  rw [← hE] at hE1
  have HFX := hide ((unhide HFW).trans hFa (fun _ _ t => t))
  have HFV1 := hide ((unhide HF1).trans hFa (fun _ _ t => t))
  have HS := hide hE1
  clear hv1 hFa HFW hE HF1 hE1 HTB
  obtain ⟨c1, c2, _, _⟩ := unhide HC v1 (unhide HFV1)
  have hr := unhide HR
  cases sb with
  | false =>
    have HZ : Hid (z = b + c) := hide (by rw [unhide HX]; simp)
    clear HX HC HS
    go_wp2
    go_ret
    exact ⟨by rw [unhide HZ]; rfl, unhide HFX⟩
  | true =>
    have HZ : Hid (z = imax c (imin (b + c) p3)) := hide (by rw [unhide HX]; simp)
    have HW1 : Hid (IntKind.wrap .i64 (b + c) = b + c) := hide (by rw [IntKind.wrap_i64]; omega)
    have RC := hide (fun (u : World) => day1_any u ⟨p0, p1, p2, p3, p4⟩)
    simp only [spA] at RC
    have HCB : Hid (∀ u, Fr (fun _ => False) v1 u → u.cell? ⟨B + 1, 1, none⟩ = some (.int .i64 b) ∧ u.cell? ⟨B + 1, 2, none⟩ = some (.int .i64 c) ∧ u.cell? ⟨E, 0, none⟩ = some (.int .i64 p0) ∧ u.cell? ⟨E, 1, none⟩ = some (.int .i64 p1) ∧ u.cell? ⟨E, 2, none⟩ = some (.int .i64 p2) ∧ u.cell? ⟨E, 3, none⟩ = some (.int .i64 p3) ∧ u.cell? ⟨E, 4, none⟩ = some (.int .i64 p4)) := hide (fun u hf => by
      have k := (unhide HS).keep hf
      obtain ⟨g1, g2, _, _⟩ := unhide HC u ((unhide HFV1).trans hf (fun _ _ t => t))
      exact ⟨g1, g2, k.cell 0, k.cell 1, k.cell 2, k.cell 3, k.cell 4⟩)
    clear HX HC HS c1 c2
    obtain ⟨c1, c2, s0, s1, s2, s3, s4⟩ := unhide HCB v1 (Fr.refl _ _)
    have k1 := run_min
    have k2 := run_max
    go_wp2_with fail
    go_region_held3 (fun u => u.cell? ⟨B + 1, 1, none⟩ = some (.int .i64 b) ∧ u.cell? ⟨B + 1, 2, none⟩ = some (.int .i64 c) ∧ u.cell? ⟨E, 0, none⟩ = some (.int .i64 p0) ∧ u.cell? ⟨E, 1, none⟩ = some (.int .i64 p1) ∧ u.cell? ⟨E, 2, none⟩ = some (.int .i64 p2) ∧ u.cell? ⟨E, 3, none⟩ = some (.int .i64 p3) ∧ u.cell? ⟨E, 4, none⟩ = some (.int .i64 p4))
      ((refine unhide HCB _ ?_; repeat (first | (with_reducible exact Fr.refl _ _) | (with_reducible refine Fr.drew ?_) | (with_reducible refine Fr.trans ?_ (unhide HA) (fun _ _ t => t)))))
      ((go_at_call 113; refine (unhide RC _).mono ?_; rintro e wa ⟨rfl, hA⟩; have HA := hide hA; clear hA))
    go_wp2_with fail
    go_ret
    exact ⟨by rw [unhide HZ]; show Ending.returned (Value.int .i64 (imax c (imin (IntKind.wrap .i64 (b + c)) p3))) = _; rw [unhide HW1], (unhide HFX).trans (by repeat (first | (with_reducible exact Fr.refl _ _) | (with_reducible refine Fr.drew ?_) | (with_reducible refine Fr.trans ?_ (unhide HA) (fun _ _ t => t)))) (fun _ _ t => t)⟩

set_option maxHeartbeats 1000000 in
theorem capped_anyW (w : World) (A : Ad) (t : Tf) (h : TAt w A t) (d : Dy) (hr : -4611686018427387904 ≤ d.rail + d.bus ∧ d.rail + d.bus ≤ 4611686018427387904) :
    Calls Tryz.prog 112 #[tv A t, .agg (dyC d), .func (.func 117) #[] #[]] w fun e w' => e = .returned (.int .i64 (capV t d (·.weekly))) ∧ Fr (fun _ => False) w w' := by
  have HX : Hid (capV t d (·.weekly) = if (spanOf t d.low d.high).isSome = true then imax d.bus (imin (d.rail + d.bus) ((spanOf t d.low d.high).getD ⟨0, 0, 0, 0, 0⟩).weekly) else d.rail + d.bus) := rfl
  have RS := hide (fun (u : World) (hu : Fr (fun _ => False) w u) => span_any u A t (h.keep hu) d.low d.high)
  generalize capV t d (·.weekly) = z at *
  generalize (spanOf t d.low d.high).getD ⟨0, 0, 0, 0, 0⟩ = sp at *
  generalize (spanOf t d.low d.high).isSome = sb at *
  obtain ⟨v, hv⟩ : ∃ v, v = (w.alloc (.cells (tc A t) 27)).alloc (.cells (dyC d) 70) := ⟨_, rfl⟩
  have HFV : Hid (Fr (fun _ => False) w v) := hide (by rw [hv]; exact ((Fr.refl _ w).alloc _).alloc _)
  have hTB : TB v w.heap.size A t := by rw [hv]; exact (TB.new w A t).keep ((Fr.refl _ _).alloc _)
  have hD : Bx v (w.heap.size + 1) (dyC d) 70 := by
    rw [hv, ← heap_alloc w (.cells (tc A t) 27)]; exact Bx.new _ _ _
  obtain ⟨B, hB⟩ : ∃ B, B = w.heap.size := ⟨_, rfl⟩
  rw [← hB] at hTB hD
  obtain ⟨dd, b, c, e, f, x, y⟩ := d
  simp only [] at *
  simp only [dyC] at hD hv ⊢
  have HC : Hid (∀ u, Fr (fun _ => False) v u → u.cell? ⟨B + 1, 1, none⟩ = some (.int .i64 b) ∧ u.cell? ⟨B + 1, 2, none⟩ = some (.int .i64 c) ∧ u.cell? ⟨B + 1, 5, none⟩ = some (.int .i64 x) ∧ u.cell? ⟨B + 1, 6, none⟩ = some (.int .i64 y)) := hide (fun u hf => have k := hD.keep hf; ⟨k.cell 1, k.cell 2, k.cell 5, k.cell 6⟩)
  obtain ⟨_, _, c5, c6⟩ := unhide HC v (Fr.refl _ _)
  have hBl : B + 1 < v.heap.size := hD.lt
  have HTB := hide hTB
  have HV := hide hv
  have HB := hide hB
  have HR := hide hr
  clear hv hB hTB hD h hr
  unfold tv at *
  unfold tc at HV ⊢
  go_enter Tryz.func112, Tryz.ntmps112
  go_upto_region 1 with (fail)
  rw [← unhide HV, ← unhide HB]
  clear HV
  go_wp2_with (refine wpList_load_tariff rfl (.tmp 3) rfl (g := B) (A := A) (t := t) rfl (unhide HTB) ?_)
  refine (unhide RS v (unhide HFV)).mono ?_
  rintro e w1 ⟨rfl, hF⟩
  have HF1 := hide hF
  have HFW := hide ((unhide HFV).trans hF (fun _ _ t => t))
  clear hF RS c5 c6
  obtain ⟨p0, p1, p2, p3, p4⟩ := sp
  simp only [spA] at *
  go_upto_region 2 with (fail)
  obtain ⟨v1, hv1⟩ : ∃ v1, v1 = w1.alloc (.cells #[.int .i64 p0, .int .i64 p1, .int .i64 p2, .int .i64 p3, .int .i64 p4] 50) := ⟨_, rfl⟩
  have hFa : Fr (fun _ => False) w1 v1 := by rw [hv1]; exact (Fr.refl _ _).alloc _
  have hE1 : Bx v1 w1.heap.size #[.int .i64 p0, .int .i64 p1, .int .i64 p2, .int .i64 p3, .int .i64 p4] 50 := by rw [hv1]; exact Bx.new _ _ _
  obtain ⟨E, hE⟩ : ∃ E, E = w1.heap.size := ⟨_, rfl⟩
  rw [← hv1, ← hE]
  rw [← hE] at hE1
  have HFX := hide ((unhide HFW).trans hFa (fun _ _ t => t))
  have HFV1 := hide ((unhide HF1).trans hFa (fun _ _ t => t))
  have HS := hide hE1
  clear hv1 hFa HFW hE HF1 hE1 HTB
  obtain ⟨c1, c2, _, _⟩ := unhide HC v1 (unhide HFV1)
  have hr := unhide HR
  cases sb with
  | false =>
    have HZ : Hid (z = b + c) := hide (by rw [unhide HX]; simp)
    clear HX HC HS
    go_wp2
    go_ret
    exact ⟨by rw [unhide HZ]; rfl, unhide HFX⟩
  | true =>
    have HZ : Hid (z = imax c (imin (b + c) p4)) := hide (by rw [unhide HX]; simp)
    have HW1 : Hid (IntKind.wrap .i64 (b + c) = b + c) := hide (by rw [IntKind.wrap_i64]; omega)
    have RC := hide (fun (u : World) => week1_any u ⟨p0, p1, p2, p3, p4⟩)
    simp only [spA] at RC
    have HCB : Hid (∀ u, Fr (fun _ => False) v1 u → u.cell? ⟨B + 1, 1, none⟩ = some (.int .i64 b) ∧ u.cell? ⟨B + 1, 2, none⟩ = some (.int .i64 c) ∧ u.cell? ⟨E, 0, none⟩ = some (.int .i64 p0) ∧ u.cell? ⟨E, 1, none⟩ = some (.int .i64 p1) ∧ u.cell? ⟨E, 2, none⟩ = some (.int .i64 p2) ∧ u.cell? ⟨E, 3, none⟩ = some (.int .i64 p3) ∧ u.cell? ⟨E, 4, none⟩ = some (.int .i64 p4)) := hide (fun u hf => by
      have k := (unhide HS).keep hf
      obtain ⟨g1, g2, _, _⟩ := unhide HC u ((unhide HFV1).trans hf (fun _ _ t => t))
      exact ⟨g1, g2, k.cell 0, k.cell 1, k.cell 2, k.cell 3, k.cell 4⟩)
    clear HX HC HS c1 c2
    obtain ⟨c1, c2, s0, s1, s2, s3, s4⟩ := unhide HCB v1 (Fr.refl _ _)
    have k1 := run_min
    have k2 := run_max
    go_wp2_with fail
    go_region_held3 (fun u => u.cell? ⟨B + 1, 1, none⟩ = some (.int .i64 b) ∧ u.cell? ⟨B + 1, 2, none⟩ = some (.int .i64 c) ∧ u.cell? ⟨E, 0, none⟩ = some (.int .i64 p0) ∧ u.cell? ⟨E, 1, none⟩ = some (.int .i64 p1) ∧ u.cell? ⟨E, 2, none⟩ = some (.int .i64 p2) ∧ u.cell? ⟨E, 3, none⟩ = some (.int .i64 p3) ∧ u.cell? ⟨E, 4, none⟩ = some (.int .i64 p4))
      ((refine unhide HCB _ ?_; repeat (first | (with_reducible exact Fr.refl _ _) | (with_reducible refine Fr.drew ?_) | (with_reducible refine Fr.trans ?_ (unhide HA) (fun _ _ t => t)))))
      ((go_at_call 117; refine (unhide RC _).mono ?_; rintro e wa ⟨rfl, hA⟩; have HA := hide hA; clear hA))
    go_wp2_with fail
    go_ret
    exact ⟨by rw [unhide HZ]; show Ending.returned (Value.int .i64 (imax c (imin (IntKind.wrap .i64 (b + c)) p4))) = _; rw [unhide HW1], (unhide HFX).trans (by repeat (first | (with_reducible exact Fr.refl _ _) | (with_reducible refine Fr.drew ?_) | (with_reducible refine Fr.trans ?_ (unhide HA) (fun _ _ t => t)))) (fun _ _ t => t)⟩

end Go.Proofs.YtjgbllfppomcmaaGreat

/- The program's adding: the closure that lays a journey down in a day. -/
namespace Go.Proofs.YtjgbllfppomcmaaGreat
open Go.RowKit

/-- One of a day's sums, one journey's fare more. -/
def sumK (d : Dy) (k f : Int) : Dy := if k = 1 then ⟨d.day, d.rail + f, d.bus, d.cap, d.most, d.low, d.high⟩ else if k = 4 then ⟨d.day, d.rail, d.bus + f, d.cap, d.most, d.low, d.high⟩ else ⟨d.day, d.rail, d.bus, d.cap, d.most + f, d.low, d.high⟩
theorem putD_whole (t : Tf) (d : Dy) (p : Jn × Int) (h : p.1.kind = 1) : putD t d p = widD (sumK d p.1.kind p.2) (imin (zF t p) (zT t p)) (imax (zF t p) (zT t p)) := by
  unfold putD sumK
  rw [if_pos h, if_pos h]
theorem putD_other (t : Tf) (d : Dy) (p : Jn × Int) (h : ¬ p.1.kind = 1) : putD t d p = sumK d p.1.kind p.2 := by
  unfold putD sumK
  rw [if_neg h, if_neg h]

/-- Sums that stay far from what an int holds. -/
def DyIn (d : Dy) (n : Int) : Prop := (0 ≤ d.rail ∧ d.rail ≤ n) ∧ (0 ≤ d.bus ∧ d.bus ≤ n) ∧ (0 ≤ d.most ∧ d.most ≤ n)

theorem sumP_none {g : Nat} {k : Int} (h : jk k = false) : sumP g k = none := by
  have h1 : ¬ (1 ≤ k ∧ k ≤ 4) := by
    intro e
    have : jk k = true := by unfold jk; simp [e]
    rw [h] at this
    cases this
  unfold sumP
  rw [if_neg (by omega), if_neg (by omega), if_neg (by omega)]
theorem sumP_some (g : Nat) (d : Dy) (k f : Int) {n : Int} (hd : DyIn d n) (h : jk k = true) : ∃ c x, sumP g k = some ⟨g, c, none⟩ ∧ (dyC d)[c]? = some (.int .i64 x) ∧ 0 ≤ x ∧ x ≤ n ∧ (dyC d).setIfInBounds c (.int .i64 (x + f)) = dyC (sumK d k f) := by
  have hk : 1 ≤ k ∧ k ≤ 4 := by
    unfold jk at h
    simpa using h
  obtain ⟨h1, h2, h3⟩ := hd
  by_cases k1 : k = 1
  · exact ⟨1, d.rail, by unfold sumP; rw [if_pos k1], rfl, h1.1, h1.2, by unfold sumK; rw [if_pos k1]; rfl⟩
  · by_cases k4 : k = 4
    · exact ⟨2, d.bus, by unfold sumP; rw [if_neg k1, if_neg (by omega), if_pos k4], rfl, h2.1, h2.2, by unfold sumK; rw [if_neg k1, if_pos k4]; rfl⟩
    · exact ⟨4, d.most, by unfold sumP; rw [if_neg k1, if_pos (by omega)], rfl, h3.1, h3.2, by unfold sumK; rw [if_neg k1, if_neg k4]; rfl⟩

theorem adding_any (w : World) (A : Ad) (t : Tf) (g : Nat) : Calls Tryz.prog 111 #[tv A t, .pointer (some ⟨g, 0, none⟩)] w fun e w' => ∃ B P, e = .returned (.func (.func 142) #[] #[.pointer (some ⟨P, 0, none⟩), .pointer (some ⟨B, 0, none⟩)]) ∧ w.heap.size ≤ B ∧ w.heap.size ≤ P ∧ TB w' B A t ∧ Bx w' P #[.pointer (some ⟨g, 0, none⟩)] 149 ∧ Fr (fun _ => False) w w' := by
  obtain ⟨v, hv⟩ : ∃ v, v = (w.alloc (.cells (tc A t) 27)).alloc (.cells #[.pointer (some ⟨g, 0, none⟩)] 149) := ⟨_, rfl⟩
  have HFV : Hid (Fr (fun _ => False) w v) := hide (by rw [hv]; exact ((Fr.refl _ w).alloc _).alloc _)
  have HTB : Hid (TB v w.heap.size A t) := hide (by rw [hv]; exact (TB.new w A t).keep ((Fr.refl _ _).alloc _))
  have HP : Hid (Bx v (w.heap.size + 1) #[.pointer (some ⟨g, 0, none⟩)] 149) := hide (by
    rw [hv, ← heap_alloc w (.cells (tc A t) 27)]; exact Bx.new _ _ _)
  obtain ⟨B, hB⟩ : ∃ B, B = w.heap.size := ⟨_, rfl⟩
  have HB := hide hB
  rw [← hB] at HTB HP
  have HV := hide hv
  clear hv hB
  unfold tv
  unfold tc at HV ⊢
  go_enter Tryz.func111, Tryz.ntmps111
  go_upto_region 1 with (fail)
  rw [← unhide HV, ← unhide HB]
  clear HV
  go_wp2
  go_ret
  exact ⟨B, B + 1, rfl, by rw [unhide HB]; omega, by rw [unhide HB]; omega, unhide HTB, unhide HP, unhide HFV⟩

set_option maxHeartbeats 1000000 in
theorem add1_any (w : World) (A : Ad) (t : Tf) (B P g : Nat) (hT : TB w B A t) (hP : Bx w P #[.pointer (some ⟨g, 0, none⟩)] 149) (hPg : P ≠ g) (hBg : B ≠ g) (d : Dy) (hD : Bx w g (dyC d) 70) (hk : ∀ u, Fr (fun q => q = g) w u → TAt u A t) (p : Jn × Int) (hb : DyIn d 1152921504606846976) :
    Calls Tryz.prog 142 #[.agg (pC p), .pointer (some ⟨P, 0, none⟩), .pointer (some ⟨B, 0, none⟩)] w fun e w' => e = .returned (.int .i64 (pjE t d.day p)) ∧ (pjE t d.day p = 0 → Bx w' g (dyC (putD t d p)) 70) ∧ Fr (fun q => q = g) w w' := by
  have HE : Hid (pjE t d.day p = if jk p.1.kind = true then (if price p.2 = true then (if onB d.day p.1.st = true then (if p.1.kind = 1 then (if (stationOf t p.1.fr).isSome = true ∧ (stationOf t p.1.to).isSome = true then 0 else 1) else 0) else 60) else 50) else 1) := rfl
  have HW1 : Hid (p.1.kind = 1 → putD t d p = widD (sumK d p.1.kind p.2) (imin ((stationOf t p.1.fr).getD ⟨0, 0, 0⟩).zone ((stationOf t p.1.to).getD ⟨0, 0, 0⟩).zone) (imax ((stationOf t p.1.fr).getD ⟨0, 0, 0⟩).zone ((stationOf t p.1.to).getD ⟨0, 0, 0⟩).zone)) := hide (putD_whole t d p)
  have HW2 := hide (putD_other t d p)
  have RS := hide (fun (u : World) (hu : Fr (fun q => q = g) w u) => station_any u A t (hk u hu) p.1.fr)
  have RS2 := hide (fun (u : World) (hu : Fr (fun q => q = g) w u) => station_any u A t (hk u hu) p.1.to)
  have RO := hide (fun (u : World) (h : Bx u g (dyC d) 70) => sumOf_any u g d h p.1.kind)
  have RI := hide (fun (u : World) => isOn_any u d.day p.1.st)
  have HSP := hide (fun (h : jk p.1.kind = true) => sumP_some g d p.1.kind p.2 hb h)
  have HSN := hide (fun (h : jk p.1.kind = false) => sumP_none (g := g) h)
  generalize putD t d p = pd at *
  generalize pjE t d.day p = pe at *
  obtain ⟨v, hv⟩ : ∃ v, v = w.alloc (.cells (pC p) 126) := ⟨_, rfl⟩
  obtain ⟨C, hC⟩ : ∃ C, C = w.heap.size := ⟨_, rfl⟩
  have hFa : Fr (fun _ => False) w v := by rw [hv]; exact (Fr.refl _ w).alloc _
  have HFV : Hid (Fr (fun q => q = g) w v) := hide (hFa.mono (fun _ _ t => t.elim))
  have HJ : Hid (Bx v C (pC p) 126) := hide (by rw [hv, hC]; exact Bx.new _ _ _)
  have HTB := hide (hT.keep hFa)
  have HP := hide (hP.keep hFa)
  have HD := hide (hD.keep hFa)
  have HCg : Hid (C ≠ g) := hide (by rw [hC]; have := hD.lt; omega)
  have HPg := hide hPg
  have HBg := hide hBg
  have HV := hide hv
  have HC := hide hC
  clear hv hC hFa hT hP hD hk hb hPg hBg
  obtain ⟨⟨k, f, o, s, n, r⟩, m⟩ := p
  simp only [pC] at *
  generalize stationOf t f = sf at *
  generalize stationOf t o = so at *
  have hdd : (dyC d)[0]? = some (.int .i64 d.day) := rfl
  generalize d.day = day at *
  have hj := unhide HJ
  have j0 : v.cell? ⟨C, 0, none⟩ = some (.int .i64 k) := hj.cell 0
  have j1 : v.cell? ⟨C, 1, none⟩ = some (.int .i64 f) := hj.cell 1
  have j2 : v.cell? ⟨C, 2, none⟩ = some (.int .i64 o) := hj.cell 2
  have j3 : v.cell? ⟨C, 3, none⟩ = some (.int .i64 s) := hj.cell 3
  have j6 : v.cell? ⟨C, 6, none⟩ = some (.int .i64 m) := hj.cell 6
  have hp := unhide HP
  have q0 : v.cell? ⟨P, 0, none⟩ = some (.pointer (some ⟨g, 0, none⟩)) := hp.cell 0
  have hd := unhide HD
  have hgl : g < v.heap.size := hd.lt
  clear hj hp
  go_enter Tryz.func142, Tryz.ntmps142
  go_upto_region 1 with (fail)
  rw [← unhide HV, ← unhide HC]
  clear HV
  go_wp2_with fail
  refine (unhide RO v hd).mono ?_
  rintro e w1 ⟨rfl, rfl⟩
  clear RO
  cases hjk : jk k with
  | false =>
    rw [unhide HSN hjk]
    have HX : Hid (pe = 1) := hide (by rw [unhide HE, if_neg (by simp [hjk])])
    clear HSN HSP hjk HE RS RS2 RI HW1 HW2 hd
    go_wp2
    go_ret
    exact ⟨by rw [unhide HX]; rfl, fun e => absurd (e.symm.trans (unhide HX)) (by decide), unhide HFV⟩
  | true =>
    obtain ⟨c, x, e1, e2, e3, e4, e5⟩ := unhide HSP hjk
    rw [e1]
    have HX : Hid (pe = if price m = true then (if onB day s = true then (if k = 1 then (if sf.isSome = true ∧ so.isSome = true then 0 else 1) else 0) else 60) else 50) := hide (by rw [unhide HE, if_pos hjk])
    have c0 : w1.cell? ⟨g, c, none⟩ = some (.int .i64 x) := (hd.cell c).trans e2
    have cf : w1.frozen? ⟨g, c, none⟩ = false := hd.frozen c
    have d0 : w1.cell? ⟨g, 0, none⟩ = some (.int .i64 day) := (hd.cell 0).trans hdd
    have HD1 : Hid (∀ u, u = w1.setCell ⟨g, c, none⟩ (.int .i64 (x + m)) → Bx u g (dyC (sumK d k m)) 70) := hide (fun u hu => by rw [hu, ← e5]; exact hd.setCell c _)
    clear HSN HSP hjk HE hd e1 e2 e5 HD
    rcases price_cases m with ⟨hpr, hm0, hm1⟩ | ⟨hpr, hm0 | ⟨hm0, hm1⟩⟩
    · have HX2 : Hid (pe = if onB day s = true then (if k = 1 then (if sf.isSome = true ∧ so.isSome = true then 0 else 1) else 0) else 60) := hide (by rw [unhide HX, if_pos hpr])
      have hm0' : ¬ m < 0 := by omega
      have hm1' : ¬ m > 1048576 := by omega
      clear HX
      go_upto_region 6 with (fail)
      generalize onB day s = ob at *
      have HM : Hid (IntKind.wrap .i64 (x + m) = x + m) := hide (by rw [IntKind.wrap_i64]; omega)
      clear hpr hm0 hm1 hm0' hm1' e3 e4
      have HKP : Hid (∀ u, Fr (fun _ => False) w1 u → u.cell? ⟨P, 0, none⟩ = some (.pointer (some ⟨g, 0, none⟩)) ∧ u.cell? ⟨g, 0, none⟩ = some (.int .i64 day) ∧ u.cell? ⟨C, 3, none⟩ = some (.int .i64 s)) := hide (fun u hf => ⟨((unhide HP).keep hf).cell 0, (hf.cell (a := ⟨g, 0, none⟩) hgl (fun t => t)).trans d0, ((unhide HJ).keep hf).cell 3⟩)
      go_region_held3 (fun u => u.cell? ⟨P, 0, none⟩ = some (.pointer (some ⟨g, 0, none⟩)) ∧ u.cell? ⟨g, 0, none⟩ = some (.int .i64 day) ∧ u.cell? ⟨C, 3, none⟩ = some (.int .i64 s))
        ((refine unhide HKP _ ?_; repeat (first | (with_reducible exact Fr.refl _ _) | (with_reducible refine Fr.drew ?_))))
        ((go_at_call 144; refine (unhide RI _).mono ?_; rintro e wa ⟨rfl, rfl⟩))
      cases ob with
      | false =>
        have HX3 : Hid (pe = 60) := hide (by rw [unhide HX2]; rfl)
        go_wp2
        go_ret
        exact ⟨by rw [unhide HX3]; rfl, fun e => absurd (e.symm.trans (unhide HX3)) (by decide), (unhide HFV).drew⟩
      | true =>
        have HX3 : Hid (pe = if k = 1 then (if sf.isSome = true ∧ so.isSome = true then 0 else 1) else 0) := hide (by rw [unhide HX2]; rfl)
        clear HX2
        go_upto_region 8 with (fail)
        obtain ⟨u, hu⟩ : ∃ u, u = w1.drew := ⟨_, rfl⟩
        rw [← hu]
        have hFu : Fr (fun _ => False) w1 u := by rw [hu]; exact (Fr.refl _ _).drew
        have c0 : u.cell? ⟨g, c, none⟩ = some (.int .i64 x) := by rw [hu]; exact c0
        have cf : u.frozen? ⟨g, c, none⟩ = false := by rw [hu]; exact cf
        have j6 : u.cell? ⟨C, 6, none⟩ = some (.int .i64 m) := by rw [hu]; exact j6
        go_region_law (fail)
        all_goals
          rw [unhide HM]
          obtain ⟨u3, hu3⟩ : ∃ u3, u3 = (w1.setCell ⟨g, c, none⟩ (.int .i64 (x + m))).drew.drew := ⟨_, rfl⟩
          rw [← hu3]
          have HB3 : Hid (Bx u3 g (dyC (sumK d k m)) 70) := hide (by rw [hu3]; exact (unhide HD1 _ rfl).drew.drew)
          have hf3 : Fr (fun q => q = g) w1 u3 := by rw [hu3]; exact (((Fr.refl (fun q => q = g) w1).setCell (p := ⟨g, c, none⟩) (fun _ => rfl) _).drew).drew
          have HF3 : Hid (Fr (fun q => q = g) w u3) := hide ((unhide HFV).trans hf3 (fun _ _ t => t))
          have HJ3 := hide ((unhide HJ).frame hf3 (unhide HCg))
          have HP3 := hide ((unhide HP).frame hf3 (unhide HPg))
          have HTB3 := hide ((unhide HTB).frame hf3 (unhide HBg))
          clear hu3 hf3 HD1 HM c0 cf hu hFu HFV HJ HP HTB d0 hgl j0 j1 j2 j3 j6 q0 RI
          have j0 : u3.cell? ⟨C, 0, none⟩ = some (.int .i64 k) := (unhide HJ3).cell 0
          have j1 : u3.cell? ⟨C, 1, none⟩ = some (.int .i64 f) := (unhide HJ3).cell 1
          by_cases hk1 : k = 1
          · subst hk1
            have HX4 : Hid (pe = if sf.isSome = true ∧ so.isSome = true then 0 else 1) := hide (by rw [unhide HX3, if_pos rfl])
            have HW := hide (unhide HW1 rfl)
            clear HX3 HW1 HW2
            go_wp2_with (refine wpList_load_tariff rfl (.tmp 2) rfl (g := B) (A := A) (t := t) rfl (unhide HTB3) ?_)
            refine (unhide RS u3 (unhide HF3)).mono ?_
            rintro e u4 ⟨rfl, hF⟩
            have HF4 := hide ((unhide HF3).trans hF (fun _ _ t => t.elim))
            have HB4 := hide ((unhide HB3).keep hF)
            have HJ4 := hide ((unhide HJ3).keep hF)
            have HP4 := hide ((unhide HP3).keep hF)
            have HTB4 := hide ((unhide HTB3).keep hF)
            clear hF HF3 HB3 HJ3 HP3 HTB3 RS j0 j1
            generalize sf.isSome = b1 at *
            generalize sf.getD ⟨0, 0, 0⟩ = s1 at *
            obtain ⟨a1, z1, g1⟩ := s1
            simp only [stA] at *
            go_upto_region 12 with (fail)
            obtain ⟨u5, hu5⟩ : ∃ u5, u5 = u4.alloc (.cells #[.int .i64 a1, .int .i64 z1, .int .i64 g1] 59) := ⟨_, rfl⟩
            obtain ⟨E, hE⟩ : ∃ E, E = u4.heap.size := ⟨_, rfl⟩
            rw [← hu5, ← hE]
            have hF : Fr (fun _ => False) u4 u5 := by rw [hu5]; exact (Fr.refl _ _).alloc _
            have HE1 : Hid (Bx u5 E #[.int .i64 a1, .int .i64 z1, .int .i64 g1] 59) := hide (by rw [hu5, hE]; exact Bx.new _ _ _)
            have HGE : Hid (E ≠ g) := hide (by rw [hE]; have := (unhide HB4).lt; omega)
            have HF5 := hide ((unhide HF4).trans hF (fun _ _ t => t.elim))
            have HB5 := hide ((unhide HB4).keep hF)
            have HJ5 := hide ((unhide HJ4).keep hF)
            have HP5 := hide ((unhide HP4).keep hF)
            have HTB5 := hide ((unhide HTB4).keep hF)
            clear hF HF4 HB4 HJ4 HP4 HTB4 hu5 hE
            have j2 : u5.cell? ⟨C, 2, none⟩ = some (.int .i64 o) := (unhide HJ5).cell 2
            go_wp2_with (refine wpList_load_tariff rfl (.tmp 2) rfl (g := B) (A := A) (t := t) rfl (unhide HTB5) ?_)
            refine (unhide RS2 u5 (unhide HF5)).mono ?_
            rintro e u6 ⟨rfl, hF⟩
            have HF6 := hide ((unhide HF5).trans hF (fun _ _ t => t.elim))
            have HB6 := hide ((unhide HB5).keep hF)
            have HP6 := hide ((unhide HP5).keep hF)
            have HE6 := hide ((unhide HE1).keep hF)
            clear hF HF5 HB5 HJ5 HP5 HTB5 HE1 RS2 j2
            generalize so.isSome = b2 at *
            generalize so.getD ⟨0, 0, 0⟩ = s2 at *
            obtain ⟨a2, z2, g2⟩ := s2
            simp only at *
            go_upto_region 13 with (fail)
            obtain ⟨u7, hu7⟩ : ∃ u7, u7 = u6.alloc (.cells #[.int .i64 a2, .int .i64 z2, .int .i64 g2] 59) := ⟨_, rfl⟩
            obtain ⟨H, hH⟩ : ∃ H, H = u6.heap.size := ⟨_, rfl⟩
            rw [← hu7, ← hH]
            have hF : Fr (fun _ => False) u6 u7 := by rw [hu7]; exact (Fr.refl _ _).alloc _
            have HH7 : Hid (Bx u7 H #[.int .i64 a2, .int .i64 z2, .int .i64 g2] 59) := hide (by rw [hu7, hH]; exact Bx.new _ _ _)
            have HF7 := hide ((unhide HF6).trans hF (fun _ _ t => t.elim))
            have HB7 := hide ((unhide HB6).keep hF)
            have HP7 := hide ((unhide HP6).keep hF)
            have HE7 := hide ((unhide HE6).keep hF)
            clear hF HF6 HB6 HP6 HE6 hu7 hH
            have p0 : u7.cell? ⟨P, 0, none⟩ = some (.pointer (some ⟨g, 0, none⟩)) := (unhide HP7).cell 0
            have z1' : u7.cell? ⟨E, 1, none⟩ = some (.int .i64 z1) := (unhide HE7).cell 1
            have z2' : u7.cell? ⟨H, 1, none⟩ = some (.int .i64 z2) := (unhide HH7).cell 1
            have k1 := run_min
            have k2 := run_max
            cases b1 with
            | false =>
              have HX5 : Hid (pe = 1) := hide (by rw [unhide HX4]; simp)
              go_wp2
              go_ret
              exact ⟨by rw [unhide HX5]; rfl, fun e => absurd (e.symm.trans (unhide HX5)) (by decide), unhide HF7⟩
            | true =>
              cases b2 with
              | false =>
                have HX5 : Hid (pe = 1) := hide (by rw [unhide HX4]; simp)
                go_wp2
                go_ret
                exact ⟨by rw [unhide HX5]; rfl, fun e => absurd (e.symm.trans (unhide HX5)) (by decide), unhide HF7⟩
              | true =>
                have HX5 : Hid (pe = 0) := hide (by rw [unhide HX4]; simp)
                go_wp2_with fail
                refine (widen_any u7 g (sumK d 1 m) (unhide HB7) _ _).mono ?_
                rintro e u8 ⟨rfl, hB8, hF8⟩
                have HB8 : Hid (Bx u8 g (dyC pd) 70) := hide (by rw [unhide HW]; exact hB8)
                have HF8 := hide ((unhide HF7).trans hF8 (fun _ _ t => t))
                clear hB8 hF8 p0 z1' z2' k1 k2
                go_wp2
                go_ret
                exact ⟨by rw [unhide HX5]; rfl, fun _ => unhide HB8, unhide HF8⟩
          · have HX4 : Hid (pe = 0) := hide (by rw [unhide HX3, if_neg hk1])
            have HW := hide (unhide HW2 hk1)
            clear HX3 HW1 HW2
            go_wp2
            go_ret
            exact ⟨by rw [unhide HX4]; rfl, fun e => by rw [unhide HW]; exact unhide HB3, unhide HF3⟩
    · have HX2 : Hid (pe = 50) := hide (by rw [unhide HX, if_neg (by simp [hpr])])
      have hm0' : m < 0 := by omega
      clear HX RS RS2 RI HW1 HW2 HD1 e3 e4
      go_wp2
      go_ret
      exact ⟨by rw [unhide HX2]; rfl, fun e => absurd (e.symm.trans (unhide HX2)) (by decide), unhide HFV⟩
    · have HX2 : Hid (pe = 50) := hide (by rw [unhide HX, if_neg (by simp [hpr])])
      have hm0' : ¬ m < 0 := by omega
      have hm1' : m > 1048576 := by omega
      clear HX RS RS2 RI HW1 HW2 HD1 e3 e4
      go_wp2
      go_ret
      exact ⟨by rw [unhide HX2]; rfl, fun e => absurd (e.symm.trans (unhide HX2)) (by decide), unhide HFV⟩

end Go.Proofs.YtjgbllfppomcmaaGreat

