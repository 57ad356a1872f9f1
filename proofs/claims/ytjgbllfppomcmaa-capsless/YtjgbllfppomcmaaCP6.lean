import Derived.Test.YtjgbllfppomcmaaCP5
import Derived.Test.YtjgbllfppomcmaaCP4
/- The program's right: may a day be taken into a week? -/
namespace Go.Proofs.Ytjgbllfppomcmaa
open Go.RowKit

set_option maxHeartbeats 1000000 in
theorem capsRight_any (w : World) (A : Ad) (t : Tf) (h : TAt w A t) (d : Dy) : Calls Try.prog 13 #[tv A t, .agg (dyC d)] w fun e w' => e = .returned (.int .i64 (dayRE t d)) ∧ Fr (fun _ => False) w w' := by
  have HX : Hid (dayRE t d = if [d.rail, d.bus, d.cap, d.most].all totB = true ∧ ¬ d.cap < d.bus then (if zonB t d.low d.high = true then 0 else 1) else 50) := hide (by simp [dayRE, totsB])
  have RZ := hide (fun (u : World) (hu : Fr (fun _ => False) w u) => areZones_any u A t (h.keep hu) d.low d.high)
  have RT := hide (fun (u : World) => areTotals_any _ _ 4 [d.rail, d.bus, d.cap, d.most] (ints4 u d.rail d.bus d.cap d.most) (by simp) 4 rfl)
  generalize dayRE t d = z at *
  generalize zonB t d.low d.high = zb at *
  obtain ⟨v, hv⟩ : ∃ v, v = (w.alloc (.cells (tc A t) 27)).alloc (.cells (dyC d) 43) := ⟨_, rfl⟩
  have HFV : Hid (Fr (fun _ => False) w v) := hide (by rw [hv]; exact ((Fr.refl _ w).alloc _).alloc _)
  have hTB : TB v w.heap.size A t := by rw [hv]; exact (TB.new w A t).keep ((Fr.refl _ _).alloc _)
  have hD : Bx v (w.heap.size + 1) (dyC d) 43 := by
    rw [hv, ← heap_alloc w (.cells (tc A t) 27)]; exact Bx.new _ _ _
  obtain ⟨B, hB⟩ : ∃ B, B = w.heap.size := ⟨_, rfl⟩
  rw [← hB] at hTB hD
  have HTB := hide hTB
  have HD := hide hD
  have HV := hide hv
  have HB := hide hB
  clear hv hB hTB hD h
  obtain ⟨d0, d1, d2, d3, d4, d5, d6⟩ := d
  simp only [dyC] at *
  have c1 : v.cell? ⟨B + 1, 1, none⟩ = some (.int .i64 d1) := (unhide HD).cell 1
  have c2 : v.cell? ⟨B + 1, 2, none⟩ = some (.int .i64 d2) := (unhide HD).cell 2
  have c3 : v.cell? ⟨B + 1, 3, none⟩ = some (.int .i64 d3) := (unhide HD).cell 3
  have c4 : v.cell? ⟨B + 1, 4, none⟩ = some (.int .i64 d4) := (unhide HD).cell 4
  unfold tv
  unfold tc at HV ⊢
  go_enter Try.func13, Try.ntmps13
  go_upto_region 1 with (fail)
  rw [← unhide HV, ← unhide HB]
  clear HV
  go_wp2_with fail
  refine (unhide RT v).mono ?_
  rintro e w1 ⟨rfl, rfl⟩
  obtain ⟨u, hu⟩ : ∃ u, u = v.alloc (.cells #[.int .i64 d1, .int .i64 d2, .int .i64 d3, .int .i64 d4] 3) := ⟨_, rfl⟩
  have hF : Fr (fun _ => False) v u := by rw [hu]; exact (Fr.refl _ _).alloc _
  have HF1 := hide ((unhide HFV).trans hF (fun _ _ t => t))
  have HTB1 := hide ((unhide HTB).keep hF)
  have HD1 := hide ((unhide HD).keep hF)
  rw [← hu]
  clear hF HFV HTB HD c1 c2 c3 c4 hu RT
  generalize [d1, d2, d3, d4].all totB = tb at *
  have c2 : u.cell? ⟨B + 1, 2, none⟩ = some (.int .i64 d2) := (unhide HD1).cell 2
  have c3 : u.cell? ⟨B + 1, 3, none⟩ = some (.int .i64 d3) := (unhide HD1).cell 3
  have c5 : u.cell? ⟨B + 1, 5, none⟩ = some (.int .i64 d5) := (unhide HD1).cell 5
  have c6 : u.cell? ⟨B + 1, 6, none⟩ = some (.int .i64 d6) := (unhide HD1).cell 6
  cases tb with
  | false =>
    have HZ : Hid (z = 50) := hide (by rw [unhide HX]; simp)
    clear HX RZ
    go_wp2
    go_ret
    exact ⟨by rw [unhide HZ]; rfl, unhide HF1⟩
  | true =>
    by_cases hlt : d3 < d2
    · have HZ : Hid (z = 50) := hide (by rw [unhide HX, if_neg (fun k => by have := k.2; omega)])
      clear HX RZ
      go_wp2
      go_ret
      exact ⟨by rw [unhide HZ]; rfl, unhide HF1⟩
    · have HZ : Hid (z = if zb = true then 0 else 1) := hide (by rw [unhide HX, if_pos ⟨rfl, by omega⟩])
      clear HX
      go_wp2_with (refine wpList_load_tariff rfl (.tmp 2) rfl (g := B) (A := A) (t := t) rfl (unhide HTB1) ?_)
      refine (unhide RZ u (unhide HF1)).mono ?_
      rintro e w1 ⟨rfl, hF⟩
      have HF2 := hide ((unhide HF1).trans hF (fun _ _ t => t))
      clear hF RZ
      cases zb with
      | false =>
        go_wp2
        go_ret
        exact ⟨by rw [unhide HZ]; rfl, unhide HF2⟩
      | true =>
        go_wp2
        go_ret
        exact ⟨by rw [unhide HZ]; rfl, unhide HF2⟩

theorem totB_iff (n : Int) : totB n = true ↔ 0 ≤ n ∧ n ≤ 1099511627776 := by simp [totB]
theorem dayRE_zero {t : Tf} {d : Dy} (h : dayRE t d = 0) : (0 ≤ d.rail ∧ d.rail ≤ 1099511627776) ∧ (0 ≤ d.bus ∧ d.bus ≤ 1099511627776) ∧ (0 ≤ d.cap ∧ d.cap ≤ 1099511627776) ∧ (0 ≤ d.most ∧ d.most ≤ 1099511627776) ∧ d.bus ≤ d.cap ∧ zonB t d.low d.high = true := by
  unfold dayRE at h
  split at h
  · rename_i h1
    split at h
    · rename_i h2
      obtain ⟨h3, h4⟩ := h1
      unfold totsB at h3
      simp only [Bool.and_eq_true, totB_iff] at h3
      exact ⟨h3.1, h3.2.1, h3.2.2.1, h3.2.2.2, by omega, h2⟩
    · exact absurd h (by decide)
  · exact absurd h (by decide)

theorem busWeekly_of {t : Tf} (h : rightE t = 0) : 0 ≤ t.busWeekly ∧ t.busWeekly ≤ 1048576 := by
  have h1 := (rightE_zero h).1
  unfold pricesOk at h1
  simp only [List.all_cons, Bool.and_eq_true] at h1
  exact (price_iff _).1 h1.1.2.2.1

theorem firstW_cons (t : Tf) (a : Option Dy) (d : Dy) (r : List Dy) (hf : ∀ x, a = some x → follB d x = true) (h : dayRE t d = 0) : firstW t a (d :: r) = firstW t (some d) r := by
  cases a with
  | none => show (if dayRE t d = 0 then _ else _) = _; rw [if_pos h]
  | some x => show (if follB d x = true then _ else _) = _; rw [if_pos (hf x rfl), if_pos h]
theorem firstW_day (t : Tf) (a : Option Dy) (d : Dy) (r : List Dy) (hf : ∀ x, a = some x → follB d x = true) (h : ¬ dayRE t d = 0) : firstW t a (d :: r) = dayRE t d := by
  cases a with
  | none => show (if dayRE t d = 0 then _ else _) = _; rw [if_neg h]
  | some x => show (if follB d x = true then _ else _) = _; rw [if_pos (hf x rfl), if_neg h]
theorem firstW_time (t : Tf) (x d : Dy) (r : List Dy) (hf : follB d x = false) : firstW t (some x) (d :: r) = 60 := by
  show (if follB d x = true then _ else _) = _; rw [if_neg (by simp [hf])]

/-- A week's day, one more. -/
theorem DyIn.week {s d : Dy} {n : Int} (h : DyIn s n) {t : Tf} (hd : dayRE t d = 0) : DyIn (addW s d) (n + 1099511627776) := by
  obtain ⟨h1, h2, h3, h4, h5, h6⟩ := dayRE_zero hd
  obtain ⟨g1, g2, g3⟩ := h
  unfold DyIn addW widD
  simp only []
  omega

end Go.Proofs.Ytjgbllfppomcmaa

