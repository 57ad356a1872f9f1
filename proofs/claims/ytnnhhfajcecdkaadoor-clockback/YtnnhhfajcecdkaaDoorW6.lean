/- A time is in its travel day's bounds alone; days and weeks follow one another; what was written is read (the walk of ClockBack). -/
import Derived.Test.YtnnhhfajcecdkaaDoorS6
namespace Go.Proofs.YtnnhhfajcecdkaaDoor
open Go.RowKit

theorem parse_none_walk (s : List UInt8) (h : parsed s = none) : rv (parsed s) = 0 ∧ re (parsed s) = 1 := by rw [h]; exact ⟨rfl, rfl⟩
theorem parse_some_walk (s : List UInt8) (m : Nat) (h : parsed s = some m) : rv (parsed s) = (m : Int) ∧ re (parsed s) = 0 ∧ text (m : Int) = s := by
  have h2 := parsed_some h
  exact ⟨by rw [h]; rfl, by rw [h]; rfl, by rw [text_nat m h2.1]; exact h2.2⟩

/-- What is asked of a time's day. -/
structure DayOf (t d q k : Int) : Prop where
  lo : 1440 * d + 270 ≤ t
  hi : t < 1440 * d + 1710
  d0 : -1 ≤ d
  d1 : d ≤ 1491308
  k0 : 0 ≤ k
  k1 : k ≤ 6
  qk : q * 7 + k = d

theorem dayOf (t : Int) (h : right t = true) : DayOf t (dayV t) (dayV t / 7) (dayV t % 7) := by
  have hb := (right_iff t).1 h
  have e : dayV t = (t - 270) / 1440 := by simp [dayV, h]
  constructor <;> (try rw [e]) <;> omega

theorem DayOf.tells {t d q k : Int} (h : DayOf t d q k) (x : Int) (h0 : -10 ≤ x) (h1 : x ≤ 10) : told (d + x) = true := by
  have h2 := h.d0
  have h3 := h.d1
  exact (told_iff _).2 ⟨by omega, by omega⟩

theorem DayOf.week {t d q k : Int} (h : DayOf t d q k) : weekV d = q ∧ wdayV d = k ∧ fromV d = 1440 * d + 270 ∧ toV d = 1440 * d + 1710 := by
  have h0 := h.tells 0 (by omega) (by omega)
  rw [Int.add_zero] at h0
  have h1 := h.k0
  have h2 := h.k1
  have h3 := h.qk
  refine ⟨?_, ?_, ?_, ?_⟩
  · simp only [weekV, h0, if_true]; omega
  · simp only [wdayV, h0, if_true]; omega
  · simp only [fromV, h0, if_true]
  · simp only [toV, h0, if_true]

theorem DayOf.next {t d q k : Int} (h : DayOf t d q k) : wdayV (d + 1) = (k + 1) % 7 ∧ weekV (d + 7) = q + 1 ∧ wdayV (d + 7) = k := by
  have h0 := h.tells 1 (by omega) (by omega)
  have h7 := h.tells 7 (by omega) (by omega)
  have h1 := h.k0
  have h2 := h.k1
  have h3 := h.qk
  refine ⟨?_, ?_, ?_⟩
  · simp only [wdayV, h0, if_true]; omega
  · simp only [weekV, h7, if_true]; omega
  · simp only [wdayV, h7, if_true]; omega

theorem DayOf.later {t d q k : Int} (h : DayOf t d q k) (x : Int) (hr : right (t + 1440 * x) = true) : dayV (t + 1440 * x) = d + x := by
  have h1 := h.lo
  have h2 := h.hi
  have e : dayV (t + 1440 * x) = (t + 1440 * x - 270) / 1440 := by simp [dayV, hr]
  rw [e]; omega

/-- No other day has it. -/
theorem DayOf.alone {t d q k : Int} (h : DayOf t d q k) (hr : 0 ≤ t) (o : Int) (h0 : fromV o ≤ t) (h1 : t < toV o) : o = d := by
  have h2 := h.lo
  have h3 := h.hi
  cases ho : told o with
  | false => simp only [toV, ho, Bool.false_eq_true, if_false] at h1; omega
  | true => simp only [fromV, toV, ho, if_true] at h0 h1; omega

set_option maxRecDepth 100000 in
set_option maxHeartbeats 8000000 in
theorem back_walk (w : World) (hE : Env w) (t : Int) (s : List UInt8) (hl : s.length ≤ 140737488355328) (other : Int) :
    Calls Tryd.prog 6 #[.int .i64 t, .string ⟨s.toArray⟩, .int .i64 other] w fun e w' => e = .returned (.bool true) ∧ Fr (fun _ => False) w w' := by
  have R0 := awake_any w hE
  have H1 := hide (fun (w' : World) (hf : Fr (fun _ => False) w w') => parse_any w' s hl (hE.frame hf))
  have HT := hide (fun (w' : World) (hf : Fr (fun _ => False) w w') (x : Int) => text_any w' x (hE.frame hf))
  have HP := hide (fun (w' : World) (hf : Fr (fun _ => False) w w') (y : List UInt8) (hy : y.length ≤ 140737488355328) => parse_any w' y hy (hE.frame hf))
  have RD := fun w => day_any w t
  clear hE
  cases hr : right t with
  | false =>
    have e1 : dayE t = 60 := by simp [dayE, hr]
    have e2 : text t = [] := text_not t hr
    have RR := fun w => right_any w t
    have HT2 := hide (fun (w' : World) (hf : Fr (fun _ => False) w w') => unhide HT w' hf t)
    rw [e2] at HT2
    rw [hr] at RR
    rw [e1] at RD
    generalize dayV t = dd at *
    clear e1 e2 hr HP
    cases hp : parsed s with
    | none =>
      obtain ⟨p1, p2⟩ := parse_none_walk s hp
      rw [p1, p2] at H1
      clear p1 p2 hp
      go_enter Tryd.func6, Tryd.ntmps6
      go_wp2_with fail
      refine R0.mono ?_
      rintro e w1 ⟨rfl, hF1⟩
      have HF1 := hide hF1
      clear R0 hF1
      go_wp2_with fail
      refine (unhide H1 w1 (unhide HF1)).mono ?_
      rintro e w2 ⟨rfl, hF⟩
      have HF2 := hide ((unhide HF1).trans hF (fun _ _ t => t))
      clear hF HF1
      have HF3 := HF2
      clear HF2
      go_wp2_with fail
      refine (RD w2).mono ?_
      rintro e w0 ⟨rfl, rfl⟩
      go_wp2_with fail
      refine (RR _).mono ?_
      rintro e w0 ⟨rfl, rfl⟩
      go_wp2_with fail
      refine (unhide HT2 _ (unhide HF3)).mono ?_
      rintro e w4 ⟨rfl, hF⟩
      have HF4 := hide ((unhide HF3).trans hF (fun _ _ t => t))
      clear hF HF3
      go_wp2
      go_ret
      exact ⟨by first | rfl | simp, unhide HF4⟩
    | some m =>
      obtain ⟨p1, p2, p3⟩ := parse_some_walk s m hp
      rw [p1, p2] at H1
      have HTm := hide (fun (w' : World) (hf : Fr (fun _ => False) w w') => unhide HT w' hf (m : Int))
      rw [p3] at HTm
      clear p1 p2 p3 hp
      go_enter Tryd.func6, Tryd.ntmps6
      go_wp2_with fail
      refine R0.mono ?_
      rintro e w1 ⟨rfl, hF1⟩
      have HF1 := hide hF1
      clear R0 hF1
      go_wp2_with fail
      refine (unhide H1 w1 (unhide HF1)).mono ?_
      rintro e w2 ⟨rfl, hF⟩
      have HF2 := hide ((unhide HF1).trans hF (fun _ _ t => t))
      clear hF HF1
      go_wp2_with fail
      refine (unhide HTm w2 (unhide HF2)).mono ?_
      rintro e w3 ⟨rfl, hF⟩
      have HF3 := hide ((unhide HF2).trans hF (fun _ _ t => t))
      clear hF HF2
      go_wp2_with fail
      refine (RD w3).mono ?_
      rintro e w0 ⟨rfl, rfl⟩
      go_wp2_with fail
      refine (RR _).mono ?_
      rintro e w0 ⟨rfl, rfl⟩
      go_wp2_with fail
      refine (unhide HT2 _ (unhide HF3)).mono ?_
      rintro e w4 ⟨rfl, hF⟩
      have HF4 := hide ((unhide HF3).trans hF (fun _ _ t => t))
      clear hF HF3
      go_wp2
      go_ret
      exact ⟨by first | rfl | simp, unhide HF4⟩
  | true =>
    have hb := (right_iff t).1 hr
    have e1 : dayE t = 0 := by simp [dayE, hr]
    have D := dayOf t hr
    obtain ⟨v1, v2, v3, v4⟩ := D.week
    obtain ⟨v5, v6, v7⟩ := D.next
    obtain ⟨u, hu⟩ := Int.eq_ofNat_of_zero_le hb.1
    have et : text t = textN u := by rw [hu]; exact text_nat u (by omega)
    have HT2 := hide (fun (w' : World) (hf : Fr (fun _ => False) w w') => unhide HT w' hf t)
    have HP2 := hide (fun (w' : World) (hf : Fr (fun _ => False) w w') => unhide HP w' hf (textN u) (by have := textN_le u (by omega); omega))
    rw [et] at HT2
    rw [parsed_text u (by omega), show rv (some u) = t by rw [hu]; rfl, show re (some u) = 0 from rfl] at HP2
    rw [e1] at RD
    have RB := fun w => bounds_any w (dayV t)
    have RW := fun w => week_any w (dayV t)
    have RK := fun w => wday_any w (dayV t)
    have RO := fun w => bounds_any w other
    have RX := fun w => day_any w (t + 1440)
    have RY := fun w => day_any w (t + 10080)
    have RX1 := fun w => wday_any w (dayV t + 1)
    have RY1 := fun w => week_any w (dayV t + 7)
    have RY2 := fun w => wday_any w (dayV t + 7)
    rw [v3, v4] at RB
    rw [v1] at RW
    rw [v2] at RK
    rw [v5] at RX1
    rw [v6] at RY1
    rw [v7] at RY2
    have HA := hide (D.alone hb.1 other)
    have HX := hide (D.later 1)
    have HY := hide (D.later 7)
    clear hu et v1 v2 v3 v4 v5 v6 v7 e1
    generalize textN u = TT at *
    generalize dayV t = d at *
    have b1 := D.lo
    have b2 := D.hi
    have b3 := D.d0
    have b4 := D.d1
    have b5 := D.k0
    have b6 := D.k1
    have hq0 : -1099511627776 ≤ d / 7 := by omega
    have hq1 : d / 7 ≤ 1099511627776 := by omega
    have hqk : (d / 7 * 7 + d % 7 != d) = false := by
      have := D.qk
      simpa using this
    generalize d / 7 = q at *
    generalize d % 7 = k at *
    clear D hr HP
    cases hp : parsed s with
    | none =>
      obtain ⟨p1, p2⟩ := parse_none_walk s hp
      rw [p1, p2] at H1
      clear p1 p2 hp
      by_cases ha : fromV other ≤ t
      · by_cases hbb : t < toV other
        · have ho : d = other := (unhide HA ha hbb).symm
          subst ho
          rw [show fromV d = 1440 * d + 270 by simp [fromV, (told_iff d).2 ⟨by omega, by omega⟩], show toV d = 1440 * d + 1710 by simp [toV, (told_iff d).2 ⟨by omega, by omega⟩]] at RO
          clear ha hbb
          cases hx : right (t + 1440) with
          | false =>
            have hy : right (t + 10080) = false := (right_not _).2 (fun h => (right_not _).1 hx ⟨by omega, by omega⟩)
            have x1 : dayE (t + 1440) = 60 := by simp [dayE, hx]
            have y1 : dayE (t + 10080) = 60 := by simp [dayE, hy]
            rw [x1] at RX
            rw [y1] at RY
            generalize dayV (t + 1440) = xx at *
            generalize dayV (t + 10080) = yy at *
            clear x1 y1 hx hy HX HY HA
            go_enter Tryd.func6, Tryd.ntmps6
            go_wp2_with fail
            refine R0.mono ?_
            rintro e w1 ⟨rfl, hF1⟩
            have HF1 := hide hF1
            clear R0 hF1
            go_wp2_with fail
            refine (unhide H1 w1 (unhide HF1)).mono ?_
            rintro e w2 ⟨rfl, hF⟩
            have HF2 := hide ((unhide HF1).trans hF (fun _ _ t => t))
            clear hF HF1
            have HF3 := HF2
            clear HF2
            go_wp2_with fail
            refine (RD w2).mono ?_
            rintro e w0 ⟨rfl, rfl⟩
            go_wp2_with fail
            refine (unhide HT2 _ (unhide HF3)).mono ?_
            rintro e w4 ⟨rfl, hF⟩
            have HF4 := hide ((unhide HF3).trans hF (fun _ _ t => t))
            clear hF HF3
            go_wp2_with fail
            refine (unhide HP2 w4 (unhide HF4)).mono ?_
            rintro e w5 ⟨rfl, hF⟩
            have HF5 := hide ((unhide HF4).trans hF (fun _ _ t => t))
            clear hF HF4
            go_wp2_with fail
            refine (RB w5).mono ?_
            rintro e w0 ⟨rfl, rfl⟩
            go_wp2_with fail
            refine (RO _).mono ?_
            rintro e w0 ⟨rfl, rfl⟩
            go_wp2_with fail
            refine (RW _).mono ?_
            rintro e w0 ⟨rfl, rfl⟩
            go_wp2_with fail
            refine (RK _).mono ?_
            rintro e w0 ⟨rfl, rfl⟩
            go_wp2_with fail
            refine (RX _).mono ?_
            rintro e w0 ⟨rfl, rfl⟩
            go_wp2_with fail
            refine (RY _).mono ?_
            rintro e w0 ⟨rfl, rfl⟩
            go_wp2
            go_ret
            exact ⟨by first | rfl | simp, unhide HF5⟩
          | true =>
            have x1 : dayE (t + 1440) = 0 := by simp [dayE, hx]
            have x2 : dayV (t + 1440) = d + 1 := unhide HX hx
            rw [x1, x2] at RX
            cases hy : right (t + 10080) with
            | false =>
              have y1 : dayE (t + 10080) = 60 := by simp [dayE, hy]
              rw [y1] at RY
              generalize dayV (t + 10080) = yy at *
              clear x1 x2 y1 hx hy HX HY HA
              go_enter Tryd.func6, Tryd.ntmps6
              go_wp2_with fail
              refine R0.mono ?_
              rintro e w1 ⟨rfl, hF1⟩
              have HF1 := hide hF1
              clear R0 hF1
              go_wp2_with fail
              refine (unhide H1 w1 (unhide HF1)).mono ?_
              rintro e w2 ⟨rfl, hF⟩
              have HF2 := hide ((unhide HF1).trans hF (fun _ _ t => t))
              clear hF HF1
              have HF3 := HF2
              clear HF2
              go_wp2_with fail
              refine (RD w2).mono ?_
              rintro e w0 ⟨rfl, rfl⟩
              go_wp2_with fail
              refine (unhide HT2 _ (unhide HF3)).mono ?_
              rintro e w4 ⟨rfl, hF⟩
              have HF4 := hide ((unhide HF3).trans hF (fun _ _ t => t))
              clear hF HF3
              go_wp2_with fail
              refine (unhide HP2 w4 (unhide HF4)).mono ?_
              rintro e w5 ⟨rfl, hF⟩
              have HF5 := hide ((unhide HF4).trans hF (fun _ _ t => t))
              clear hF HF4
              go_wp2_with fail
              refine (RB w5).mono ?_
              rintro e w0 ⟨rfl, rfl⟩
              go_wp2_with fail
              refine (RO _).mono ?_
              rintro e w0 ⟨rfl, rfl⟩
              go_wp2_with fail
              refine (RW _).mono ?_
              rintro e w0 ⟨rfl, rfl⟩
              go_wp2_with fail
              refine (RK _).mono ?_
              rintro e w0 ⟨rfl, rfl⟩
              go_wp2_with fail
              refine (RX _).mono ?_
              rintro e w0 ⟨rfl, rfl⟩
              go_wp2_with fail
              refine (RY _).mono ?_
              rintro e w0 ⟨rfl, rfl⟩
              go_wp2_with fail
              refine (RX1 _).mono ?_
              rintro e w0 ⟨rfl, rfl⟩
              go_wp2
              go_ret
              exact ⟨by first | rfl | simp, unhide HF5⟩
            | true =>
              have y1 : dayE (t + 10080) = 0 := by simp [dayE, hy]
              have y2 : dayV (t + 10080) = d + 7 := unhide HY hy
              rw [y1, y2] at RY
              clear x1 x2 y1 y2 hx hy HX HY HA
              go_enter Tryd.func6, Tryd.ntmps6
              go_wp2_with fail
              refine R0.mono ?_
              rintro e w1 ⟨rfl, hF1⟩
              have HF1 := hide hF1
              clear R0 hF1
              go_wp2_with fail
              refine (unhide H1 w1 (unhide HF1)).mono ?_
              rintro e w2 ⟨rfl, hF⟩
              have HF2 := hide ((unhide HF1).trans hF (fun _ _ t => t))
              clear hF HF1
              have HF3 := HF2
              clear HF2
              go_wp2_with fail
              refine (RD w2).mono ?_
              rintro e w0 ⟨rfl, rfl⟩
              go_wp2_with fail
              refine (unhide HT2 _ (unhide HF3)).mono ?_
              rintro e w4 ⟨rfl, hF⟩
              have HF4 := hide ((unhide HF3).trans hF (fun _ _ t => t))
              clear hF HF3
              go_wp2_with fail
              refine (unhide HP2 w4 (unhide HF4)).mono ?_
              rintro e w5 ⟨rfl, hF⟩
              have HF5 := hide ((unhide HF4).trans hF (fun _ _ t => t))
              clear hF HF4
              go_wp2_with fail
              refine (RB w5).mono ?_
              rintro e w0 ⟨rfl, rfl⟩
              go_wp2_with fail
              refine (RO _).mono ?_
              rintro e w0 ⟨rfl, rfl⟩
              go_wp2_with fail
              refine (RW _).mono ?_
              rintro e w0 ⟨rfl, rfl⟩
              go_wp2_with fail
              refine (RK _).mono ?_
              rintro e w0 ⟨rfl, rfl⟩
              go_wp2_with fail
              refine (RX _).mono ?_
              rintro e w0 ⟨rfl, rfl⟩
              go_wp2_with fail
              refine (RY _).mono ?_
              rintro e w0 ⟨rfl, rfl⟩
              go_wp2_with fail
              refine (RX1 _).mono ?_
              rintro e w0 ⟨rfl, rfl⟩
              go_wp2_with fail
              refine (RY1 _).mono ?_
              rintro e w0 ⟨rfl, rfl⟩
              go_wp2_with fail
              refine (RY2 _).mono ?_
              rintro e w0 ⟨rfl, rfl⟩
              go_wp2
              go_ret
              exact ⟨by first | rfl | simp, unhide HF5⟩
        · generalize fromV other = fa at *
          generalize toV other = fb at *
          cases hx : right (t + 1440) with
          | false =>
            have hy : right (t + 10080) = false := (right_not _).2 (fun h => (right_not _).1 hx ⟨by omega, by omega⟩)
            have x1 : dayE (t + 1440) = 60 := by simp [dayE, hx]
            have y1 : dayE (t + 10080) = 60 := by simp [dayE, hy]
            rw [x1] at RX
            rw [y1] at RY
            generalize dayV (t + 1440) = xx at *
            generalize dayV (t + 10080) = yy at *
            clear x1 y1 hx hy HX HY HA
            go_enter Tryd.func6, Tryd.ntmps6
            go_wp2_with fail
            refine R0.mono ?_
            rintro e w1 ⟨rfl, hF1⟩
            have HF1 := hide hF1
            clear R0 hF1
            go_wp2_with fail
            refine (unhide H1 w1 (unhide HF1)).mono ?_
            rintro e w2 ⟨rfl, hF⟩
            have HF2 := hide ((unhide HF1).trans hF (fun _ _ t => t))
            clear hF HF1
            have HF3 := HF2
            clear HF2
            go_wp2_with fail
            refine (RD w2).mono ?_
            rintro e w0 ⟨rfl, rfl⟩
            go_wp2_with fail
            refine (unhide HT2 _ (unhide HF3)).mono ?_
            rintro e w4 ⟨rfl, hF⟩
            have HF4 := hide ((unhide HF3).trans hF (fun _ _ t => t))
            clear hF HF3
            go_wp2_with fail
            refine (unhide HP2 w4 (unhide HF4)).mono ?_
            rintro e w5 ⟨rfl, hF⟩
            have HF5 := hide ((unhide HF4).trans hF (fun _ _ t => t))
            clear hF HF4
            go_wp2_with fail
            refine (RB w5).mono ?_
            rintro e w0 ⟨rfl, rfl⟩
            go_wp2_with fail
            refine (RO _).mono ?_
            rintro e w0 ⟨rfl, rfl⟩
            go_wp2_with fail
            refine (RW _).mono ?_
            rintro e w0 ⟨rfl, rfl⟩
            go_wp2_with fail
            refine (RK _).mono ?_
            rintro e w0 ⟨rfl, rfl⟩
            go_wp2_with fail
            refine (RX _).mono ?_
            rintro e w0 ⟨rfl, rfl⟩
            go_wp2_with fail
            refine (RY _).mono ?_
            rintro e w0 ⟨rfl, rfl⟩
            go_wp2
            go_ret
            exact ⟨by first | rfl | simp, unhide HF5⟩
          | true =>
            have x1 : dayE (t + 1440) = 0 := by simp [dayE, hx]
            have x2 : dayV (t + 1440) = d + 1 := unhide HX hx
            rw [x1, x2] at RX
            cases hy : right (t + 10080) with
            | false =>
              have y1 : dayE (t + 10080) = 60 := by simp [dayE, hy]
              rw [y1] at RY
              generalize dayV (t + 10080) = yy at *
              clear x1 x2 y1 hx hy HX HY HA
              go_enter Tryd.func6, Tryd.ntmps6
              go_wp2_with fail
              refine R0.mono ?_
              rintro e w1 ⟨rfl, hF1⟩
              have HF1 := hide hF1
              clear R0 hF1
              go_wp2_with fail
              refine (unhide H1 w1 (unhide HF1)).mono ?_
              rintro e w2 ⟨rfl, hF⟩
              have HF2 := hide ((unhide HF1).trans hF (fun _ _ t => t))
              clear hF HF1
              have HF3 := HF2
              clear HF2
              go_wp2_with fail
              refine (RD w2).mono ?_
              rintro e w0 ⟨rfl, rfl⟩
              go_wp2_with fail
              refine (unhide HT2 _ (unhide HF3)).mono ?_
              rintro e w4 ⟨rfl, hF⟩
              have HF4 := hide ((unhide HF3).trans hF (fun _ _ t => t))
              clear hF HF3
              go_wp2_with fail
              refine (unhide HP2 w4 (unhide HF4)).mono ?_
              rintro e w5 ⟨rfl, hF⟩
              have HF5 := hide ((unhide HF4).trans hF (fun _ _ t => t))
              clear hF HF4
              go_wp2_with fail
              refine (RB w5).mono ?_
              rintro e w0 ⟨rfl, rfl⟩
              go_wp2_with fail
              refine (RO _).mono ?_
              rintro e w0 ⟨rfl, rfl⟩
              go_wp2_with fail
              refine (RW _).mono ?_
              rintro e w0 ⟨rfl, rfl⟩
              go_wp2_with fail
              refine (RK _).mono ?_
              rintro e w0 ⟨rfl, rfl⟩
              go_wp2_with fail
              refine (RX _).mono ?_
              rintro e w0 ⟨rfl, rfl⟩
              go_wp2_with fail
              refine (RY _).mono ?_
              rintro e w0 ⟨rfl, rfl⟩
              go_wp2_with fail
              refine (RX1 _).mono ?_
              rintro e w0 ⟨rfl, rfl⟩
              go_wp2
              go_ret
              exact ⟨by first | rfl | simp, unhide HF5⟩
            | true =>
              have y1 : dayE (t + 10080) = 0 := by simp [dayE, hy]
              have y2 : dayV (t + 10080) = d + 7 := unhide HY hy
              rw [y1, y2] at RY
              clear x1 x2 y1 y2 hx hy HX HY HA
              go_enter Tryd.func6, Tryd.ntmps6
              go_wp2_with fail
              refine R0.mono ?_
              rintro e w1 ⟨rfl, hF1⟩
              have HF1 := hide hF1
              clear R0 hF1
              go_wp2_with fail
              refine (unhide H1 w1 (unhide HF1)).mono ?_
              rintro e w2 ⟨rfl, hF⟩
              have HF2 := hide ((unhide HF1).trans hF (fun _ _ t => t))
              clear hF HF1
              have HF3 := HF2
              clear HF2
              go_wp2_with fail
              refine (RD w2).mono ?_
              rintro e w0 ⟨rfl, rfl⟩
              go_wp2_with fail
              refine (unhide HT2 _ (unhide HF3)).mono ?_
              rintro e w4 ⟨rfl, hF⟩
              have HF4 := hide ((unhide HF3).trans hF (fun _ _ t => t))
              clear hF HF3
              go_wp2_with fail
              refine (unhide HP2 w4 (unhide HF4)).mono ?_
              rintro e w5 ⟨rfl, hF⟩
              have HF5 := hide ((unhide HF4).trans hF (fun _ _ t => t))
              clear hF HF4
              go_wp2_with fail
              refine (RB w5).mono ?_
              rintro e w0 ⟨rfl, rfl⟩
              go_wp2_with fail
              refine (RO _).mono ?_
              rintro e w0 ⟨rfl, rfl⟩
              go_wp2_with fail
              refine (RW _).mono ?_
              rintro e w0 ⟨rfl, rfl⟩
              go_wp2_with fail
              refine (RK _).mono ?_
              rintro e w0 ⟨rfl, rfl⟩
              go_wp2_with fail
              refine (RX _).mono ?_
              rintro e w0 ⟨rfl, rfl⟩
              go_wp2_with fail
              refine (RY _).mono ?_
              rintro e w0 ⟨rfl, rfl⟩
              go_wp2_with fail
              refine (RX1 _).mono ?_
              rintro e w0 ⟨rfl, rfl⟩
              go_wp2_with fail
              refine (RY1 _).mono ?_
              rintro e w0 ⟨rfl, rfl⟩
              go_wp2_with fail
              refine (RY2 _).mono ?_
              rintro e w0 ⟨rfl, rfl⟩
              go_wp2
              go_ret
              exact ⟨by first | rfl | simp, unhide HF5⟩
      · generalize fromV other = fa at *
        generalize toV other = fb at *
        cases hx : right (t + 1440) with
        | false =>
          have hy : right (t + 10080) = false := (right_not _).2 (fun h => (right_not _).1 hx ⟨by omega, by omega⟩)
          have x1 : dayE (t + 1440) = 60 := by simp [dayE, hx]
          have y1 : dayE (t + 10080) = 60 := by simp [dayE, hy]
          rw [x1] at RX
          rw [y1] at RY
          generalize dayV (t + 1440) = xx at *
          generalize dayV (t + 10080) = yy at *
          clear x1 y1 hx hy HX HY HA
          go_enter Tryd.func6, Tryd.ntmps6
          go_wp2_with fail
          refine R0.mono ?_
          rintro e w1 ⟨rfl, hF1⟩
          have HF1 := hide hF1
          clear R0 hF1
          go_wp2_with fail
          refine (unhide H1 w1 (unhide HF1)).mono ?_
          rintro e w2 ⟨rfl, hF⟩
          have HF2 := hide ((unhide HF1).trans hF (fun _ _ t => t))
          clear hF HF1
          have HF3 := HF2
          clear HF2
          go_wp2_with fail
          refine (RD w2).mono ?_
          rintro e w0 ⟨rfl, rfl⟩
          go_wp2_with fail
          refine (unhide HT2 _ (unhide HF3)).mono ?_
          rintro e w4 ⟨rfl, hF⟩
          have HF4 := hide ((unhide HF3).trans hF (fun _ _ t => t))
          clear hF HF3
          go_wp2_with fail
          refine (unhide HP2 w4 (unhide HF4)).mono ?_
          rintro e w5 ⟨rfl, hF⟩
          have HF5 := hide ((unhide HF4).trans hF (fun _ _ t => t))
          clear hF HF4
          go_wp2_with fail
          refine (RB w5).mono ?_
          rintro e w0 ⟨rfl, rfl⟩
          go_wp2_with fail
          refine (RO _).mono ?_
          rintro e w0 ⟨rfl, rfl⟩
          go_wp2_with fail
          refine (RW _).mono ?_
          rintro e w0 ⟨rfl, rfl⟩
          go_wp2_with fail
          refine (RK _).mono ?_
          rintro e w0 ⟨rfl, rfl⟩
          go_wp2_with fail
          refine (RX _).mono ?_
          rintro e w0 ⟨rfl, rfl⟩
          go_wp2_with fail
          refine (RY _).mono ?_
          rintro e w0 ⟨rfl, rfl⟩
          go_wp2
          go_ret
          exact ⟨by first | rfl | simp, unhide HF5⟩
        | true =>
          have x1 : dayE (t + 1440) = 0 := by simp [dayE, hx]
          have x2 : dayV (t + 1440) = d + 1 := unhide HX hx
          rw [x1, x2] at RX
          cases hy : right (t + 10080) with
          | false =>
            have y1 : dayE (t + 10080) = 60 := by simp [dayE, hy]
            rw [y1] at RY
            generalize dayV (t + 10080) = yy at *
            clear x1 x2 y1 hx hy HX HY HA
            go_enter Tryd.func6, Tryd.ntmps6
            go_wp2_with fail
            refine R0.mono ?_
            rintro e w1 ⟨rfl, hF1⟩
            have HF1 := hide hF1
            clear R0 hF1
            go_wp2_with fail
            refine (unhide H1 w1 (unhide HF1)).mono ?_
            rintro e w2 ⟨rfl, hF⟩
            have HF2 := hide ((unhide HF1).trans hF (fun _ _ t => t))
            clear hF HF1
            have HF3 := HF2
            clear HF2
            go_wp2_with fail
            refine (RD w2).mono ?_
            rintro e w0 ⟨rfl, rfl⟩
            go_wp2_with fail
            refine (unhide HT2 _ (unhide HF3)).mono ?_
            rintro e w4 ⟨rfl, hF⟩
            have HF4 := hide ((unhide HF3).trans hF (fun _ _ t => t))
            clear hF HF3
            go_wp2_with fail
            refine (unhide HP2 w4 (unhide HF4)).mono ?_
            rintro e w5 ⟨rfl, hF⟩
            have HF5 := hide ((unhide HF4).trans hF (fun _ _ t => t))
            clear hF HF4
            go_wp2_with fail
            refine (RB w5).mono ?_
            rintro e w0 ⟨rfl, rfl⟩
            go_wp2_with fail
            refine (RO _).mono ?_
            rintro e w0 ⟨rfl, rfl⟩
            go_wp2_with fail
            refine (RW _).mono ?_
            rintro e w0 ⟨rfl, rfl⟩
            go_wp2_with fail
            refine (RK _).mono ?_
            rintro e w0 ⟨rfl, rfl⟩
            go_wp2_with fail
            refine (RX _).mono ?_
            rintro e w0 ⟨rfl, rfl⟩
            go_wp2_with fail
            refine (RY _).mono ?_
            rintro e w0 ⟨rfl, rfl⟩
            go_wp2_with fail
            refine (RX1 _).mono ?_
            rintro e w0 ⟨rfl, rfl⟩
            go_wp2
            go_ret
            exact ⟨by first | rfl | simp, unhide HF5⟩
          | true =>
            have y1 : dayE (t + 10080) = 0 := by simp [dayE, hy]
            have y2 : dayV (t + 10080) = d + 7 := unhide HY hy
            rw [y1, y2] at RY
            clear x1 x2 y1 y2 hx hy HX HY HA
            go_enter Tryd.func6, Tryd.ntmps6
            go_wp2_with fail
            refine R0.mono ?_
            rintro e w1 ⟨rfl, hF1⟩
            have HF1 := hide hF1
            clear R0 hF1
            go_wp2_with fail
            refine (unhide H1 w1 (unhide HF1)).mono ?_
            rintro e w2 ⟨rfl, hF⟩
            have HF2 := hide ((unhide HF1).trans hF (fun _ _ t => t))
            clear hF HF1
            have HF3 := HF2
            clear HF2
            go_wp2_with fail
            refine (RD w2).mono ?_
            rintro e w0 ⟨rfl, rfl⟩
            go_wp2_with fail
            refine (unhide HT2 _ (unhide HF3)).mono ?_
            rintro e w4 ⟨rfl, hF⟩
            have HF4 := hide ((unhide HF3).trans hF (fun _ _ t => t))
            clear hF HF3
            go_wp2_with fail
            refine (unhide HP2 w4 (unhide HF4)).mono ?_
            rintro e w5 ⟨rfl, hF⟩
            have HF5 := hide ((unhide HF4).trans hF (fun _ _ t => t))
            clear hF HF4
            go_wp2_with fail
            refine (RB w5).mono ?_
            rintro e w0 ⟨rfl, rfl⟩
            go_wp2_with fail
            refine (RO _).mono ?_
            rintro e w0 ⟨rfl, rfl⟩
            go_wp2_with fail
            refine (RW _).mono ?_
            rintro e w0 ⟨rfl, rfl⟩
            go_wp2_with fail
            refine (RK _).mono ?_
            rintro e w0 ⟨rfl, rfl⟩
            go_wp2_with fail
            refine (RX _).mono ?_
            rintro e w0 ⟨rfl, rfl⟩
            go_wp2_with fail
            refine (RY _).mono ?_
            rintro e w0 ⟨rfl, rfl⟩
            go_wp2_with fail
            refine (RX1 _).mono ?_
            rintro e w0 ⟨rfl, rfl⟩
            go_wp2_with fail
            refine (RY1 _).mono ?_
            rintro e w0 ⟨rfl, rfl⟩
            go_wp2_with fail
            refine (RY2 _).mono ?_
            rintro e w0 ⟨rfl, rfl⟩
            go_wp2
            go_ret
            exact ⟨by first | rfl | simp, unhide HF5⟩
    | some m =>
      obtain ⟨p1, p2, p3⟩ := parse_some_walk s m hp
      rw [p1, p2] at H1
      have HTm := hide (fun (w' : World) (hf : Fr (fun _ => False) w w') => unhide HT w' hf (m : Int))
      rw [p3] at HTm
      clear p1 p2 p3 hp
      by_cases ha : fromV other ≤ t
      · by_cases hbb : t < toV other
        · have ho : d = other := (unhide HA ha hbb).symm
          subst ho
          rw [show fromV d = 1440 * d + 270 by simp [fromV, (told_iff d).2 ⟨by omega, by omega⟩], show toV d = 1440 * d + 1710 by simp [toV, (told_iff d).2 ⟨by omega, by omega⟩]] at RO
          clear ha hbb
          cases hx : right (t + 1440) with
          | false =>
            have hy : right (t + 10080) = false := (right_not _).2 (fun h => (right_not _).1 hx ⟨by omega, by omega⟩)
            have x1 : dayE (t + 1440) = 60 := by simp [dayE, hx]
            have y1 : dayE (t + 10080) = 60 := by simp [dayE, hy]
            rw [x1] at RX
            rw [y1] at RY
            generalize dayV (t + 1440) = xx at *
            generalize dayV (t + 10080) = yy at *
            clear x1 y1 hx hy HX HY HA
            go_enter Tryd.func6, Tryd.ntmps6
            go_wp2_with fail
            refine R0.mono ?_
            rintro e w1 ⟨rfl, hF1⟩
            have HF1 := hide hF1
            clear R0 hF1
            go_wp2_with fail
            refine (unhide H1 w1 (unhide HF1)).mono ?_
            rintro e w2 ⟨rfl, hF⟩
            have HF2 := hide ((unhide HF1).trans hF (fun _ _ t => t))
            clear hF HF1
            go_wp2_with fail
            refine (unhide HTm w2 (unhide HF2)).mono ?_
            rintro e w3 ⟨rfl, hF⟩
            have HF3 := hide ((unhide HF2).trans hF (fun _ _ t => t))
            clear hF HF2
            go_wp2_with fail
            refine (RD w3).mono ?_
            rintro e w0 ⟨rfl, rfl⟩
            go_wp2_with fail
            refine (unhide HT2 _ (unhide HF3)).mono ?_
            rintro e w4 ⟨rfl, hF⟩
            have HF4 := hide ((unhide HF3).trans hF (fun _ _ t => t))
            clear hF HF3
            go_wp2_with fail
            refine (unhide HP2 w4 (unhide HF4)).mono ?_
            rintro e w5 ⟨rfl, hF⟩
            have HF5 := hide ((unhide HF4).trans hF (fun _ _ t => t))
            clear hF HF4
            go_wp2_with fail
            refine (RB w5).mono ?_
            rintro e w0 ⟨rfl, rfl⟩
            go_wp2_with fail
            refine (RO _).mono ?_
            rintro e w0 ⟨rfl, rfl⟩
            go_wp2_with fail
            refine (RW _).mono ?_
            rintro e w0 ⟨rfl, rfl⟩
            go_wp2_with fail
            refine (RK _).mono ?_
            rintro e w0 ⟨rfl, rfl⟩
            go_wp2_with fail
            refine (RX _).mono ?_
            rintro e w0 ⟨rfl, rfl⟩
            go_wp2_with fail
            refine (RY _).mono ?_
            rintro e w0 ⟨rfl, rfl⟩
            go_wp2
            go_ret
            exact ⟨by first | rfl | simp, unhide HF5⟩
          | true =>
            have x1 : dayE (t + 1440) = 0 := by simp [dayE, hx]
            have x2 : dayV (t + 1440) = d + 1 := unhide HX hx
            rw [x1, x2] at RX
            cases hy : right (t + 10080) with
            | false =>
              have y1 : dayE (t + 10080) = 60 := by simp [dayE, hy]
              rw [y1] at RY
              generalize dayV (t + 10080) = yy at *
              clear x1 x2 y1 hx hy HX HY HA
              go_enter Tryd.func6, Tryd.ntmps6
              go_wp2_with fail
              refine R0.mono ?_
              rintro e w1 ⟨rfl, hF1⟩
              have HF1 := hide hF1
              clear R0 hF1
              go_wp2_with fail
              refine (unhide H1 w1 (unhide HF1)).mono ?_
              rintro e w2 ⟨rfl, hF⟩
              have HF2 := hide ((unhide HF1).trans hF (fun _ _ t => t))
              clear hF HF1
              go_wp2_with fail
              refine (unhide HTm w2 (unhide HF2)).mono ?_
              rintro e w3 ⟨rfl, hF⟩
              have HF3 := hide ((unhide HF2).trans hF (fun _ _ t => t))
              clear hF HF2
              go_wp2_with fail
              refine (RD w3).mono ?_
              rintro e w0 ⟨rfl, rfl⟩
              go_wp2_with fail
              refine (unhide HT2 _ (unhide HF3)).mono ?_
              rintro e w4 ⟨rfl, hF⟩
              have HF4 := hide ((unhide HF3).trans hF (fun _ _ t => t))
              clear hF HF3
              go_wp2_with fail
              refine (unhide HP2 w4 (unhide HF4)).mono ?_
              rintro e w5 ⟨rfl, hF⟩
              have HF5 := hide ((unhide HF4).trans hF (fun _ _ t => t))
              clear hF HF4
              go_wp2_with fail
              refine (RB w5).mono ?_
              rintro e w0 ⟨rfl, rfl⟩
              go_wp2_with fail
              refine (RO _).mono ?_
              rintro e w0 ⟨rfl, rfl⟩
              go_wp2_with fail
              refine (RW _).mono ?_
              rintro e w0 ⟨rfl, rfl⟩
              go_wp2_with fail
              refine (RK _).mono ?_
              rintro e w0 ⟨rfl, rfl⟩
              go_wp2_with fail
              refine (RX _).mono ?_
              rintro e w0 ⟨rfl, rfl⟩
              go_wp2_with fail
              refine (RY _).mono ?_
              rintro e w0 ⟨rfl, rfl⟩
              go_wp2_with fail
              refine (RX1 _).mono ?_
              rintro e w0 ⟨rfl, rfl⟩
              go_wp2
              go_ret
              exact ⟨by first | rfl | simp, unhide HF5⟩
            | true =>
              have y1 : dayE (t + 10080) = 0 := by simp [dayE, hy]
              have y2 : dayV (t + 10080) = d + 7 := unhide HY hy
              rw [y1, y2] at RY
              clear x1 x2 y1 y2 hx hy HX HY HA
              go_enter Tryd.func6, Tryd.ntmps6
              go_wp2_with fail
              refine R0.mono ?_
              rintro e w1 ⟨rfl, hF1⟩
              have HF1 := hide hF1
              clear R0 hF1
              go_wp2_with fail
              refine (unhide H1 w1 (unhide HF1)).mono ?_
              rintro e w2 ⟨rfl, hF⟩
              have HF2 := hide ((unhide HF1).trans hF (fun _ _ t => t))
              clear hF HF1
              go_wp2_with fail
              refine (unhide HTm w2 (unhide HF2)).mono ?_
              rintro e w3 ⟨rfl, hF⟩
              have HF3 := hide ((unhide HF2).trans hF (fun _ _ t => t))
              clear hF HF2
              go_wp2_with fail
              refine (RD w3).mono ?_
              rintro e w0 ⟨rfl, rfl⟩
              go_wp2_with fail
              refine (unhide HT2 _ (unhide HF3)).mono ?_
              rintro e w4 ⟨rfl, hF⟩
              have HF4 := hide ((unhide HF3).trans hF (fun _ _ t => t))
              clear hF HF3
              go_wp2_with fail
              refine (unhide HP2 w4 (unhide HF4)).mono ?_
              rintro e w5 ⟨rfl, hF⟩
              have HF5 := hide ((unhide HF4).trans hF (fun _ _ t => t))
              clear hF HF4
              go_wp2_with fail
              refine (RB w5).mono ?_
              rintro e w0 ⟨rfl, rfl⟩
              go_wp2_with fail
              refine (RO _).mono ?_
              rintro e w0 ⟨rfl, rfl⟩
              go_wp2_with fail
              refine (RW _).mono ?_
              rintro e w0 ⟨rfl, rfl⟩
              go_wp2_with fail
              refine (RK _).mono ?_
              rintro e w0 ⟨rfl, rfl⟩
              go_wp2_with fail
              refine (RX _).mono ?_
              rintro e w0 ⟨rfl, rfl⟩
              go_wp2_with fail
              refine (RY _).mono ?_
              rintro e w0 ⟨rfl, rfl⟩
              go_wp2_with fail
              refine (RX1 _).mono ?_
              rintro e w0 ⟨rfl, rfl⟩
              go_wp2_with fail
              refine (RY1 _).mono ?_
              rintro e w0 ⟨rfl, rfl⟩
              go_wp2_with fail
              refine (RY2 _).mono ?_
              rintro e w0 ⟨rfl, rfl⟩
              go_wp2
              go_ret
              exact ⟨by first | rfl | simp, unhide HF5⟩
        · generalize fromV other = fa at *
          generalize toV other = fb at *
          cases hx : right (t + 1440) with
          | false =>
            have hy : right (t + 10080) = false := (right_not _).2 (fun h => (right_not _).1 hx ⟨by omega, by omega⟩)
            have x1 : dayE (t + 1440) = 60 := by simp [dayE, hx]
            have y1 : dayE (t + 10080) = 60 := by simp [dayE, hy]
            rw [x1] at RX
            rw [y1] at RY
            generalize dayV (t + 1440) = xx at *
            generalize dayV (t + 10080) = yy at *
            clear x1 y1 hx hy HX HY HA
            go_enter Tryd.func6, Tryd.ntmps6
            go_wp2_with fail
            refine R0.mono ?_
            rintro e w1 ⟨rfl, hF1⟩
            have HF1 := hide hF1
            clear R0 hF1
            go_wp2_with fail
            refine (unhide H1 w1 (unhide HF1)).mono ?_
            rintro e w2 ⟨rfl, hF⟩
            have HF2 := hide ((unhide HF1).trans hF (fun _ _ t => t))
            clear hF HF1
            go_wp2_with fail
            refine (unhide HTm w2 (unhide HF2)).mono ?_
            rintro e w3 ⟨rfl, hF⟩
            have HF3 := hide ((unhide HF2).trans hF (fun _ _ t => t))
            clear hF HF2
            go_wp2_with fail
            refine (RD w3).mono ?_
            rintro e w0 ⟨rfl, rfl⟩
            go_wp2_with fail
            refine (unhide HT2 _ (unhide HF3)).mono ?_
            rintro e w4 ⟨rfl, hF⟩
            have HF4 := hide ((unhide HF3).trans hF (fun _ _ t => t))
            clear hF HF3
            go_wp2_with fail
            refine (unhide HP2 w4 (unhide HF4)).mono ?_
            rintro e w5 ⟨rfl, hF⟩
            have HF5 := hide ((unhide HF4).trans hF (fun _ _ t => t))
            clear hF HF4
            go_wp2_with fail
            refine (RB w5).mono ?_
            rintro e w0 ⟨rfl, rfl⟩
            go_wp2_with fail
            refine (RO _).mono ?_
            rintro e w0 ⟨rfl, rfl⟩
            go_wp2_with fail
            refine (RW _).mono ?_
            rintro e w0 ⟨rfl, rfl⟩
            go_wp2_with fail
            refine (RK _).mono ?_
            rintro e w0 ⟨rfl, rfl⟩
            go_wp2_with fail
            refine (RX _).mono ?_
            rintro e w0 ⟨rfl, rfl⟩
            go_wp2_with fail
            refine (RY _).mono ?_
            rintro e w0 ⟨rfl, rfl⟩
            go_wp2
            go_ret
            exact ⟨by first | rfl | simp, unhide HF5⟩
          | true =>
            have x1 : dayE (t + 1440) = 0 := by simp [dayE, hx]
            have x2 : dayV (t + 1440) = d + 1 := unhide HX hx
            rw [x1, x2] at RX
            cases hy : right (t + 10080) with
            | false =>
              have y1 : dayE (t + 10080) = 60 := by simp [dayE, hy]
              rw [y1] at RY
              generalize dayV (t + 10080) = yy at *
              clear x1 x2 y1 hx hy HX HY HA
              go_enter Tryd.func6, Tryd.ntmps6
              go_wp2_with fail
              refine R0.mono ?_
              rintro e w1 ⟨rfl, hF1⟩
              have HF1 := hide hF1
              clear R0 hF1
              go_wp2_with fail
              refine (unhide H1 w1 (unhide HF1)).mono ?_
              rintro e w2 ⟨rfl, hF⟩
              have HF2 := hide ((unhide HF1).trans hF (fun _ _ t => t))
              clear hF HF1
              go_wp2_with fail
              refine (unhide HTm w2 (unhide HF2)).mono ?_
              rintro e w3 ⟨rfl, hF⟩
              have HF3 := hide ((unhide HF2).trans hF (fun _ _ t => t))
              clear hF HF2
              go_wp2_with fail
              refine (RD w3).mono ?_
              rintro e w0 ⟨rfl, rfl⟩
              go_wp2_with fail
              refine (unhide HT2 _ (unhide HF3)).mono ?_
              rintro e w4 ⟨rfl, hF⟩
              have HF4 := hide ((unhide HF3).trans hF (fun _ _ t => t))
              clear hF HF3
              go_wp2_with fail
              refine (unhide HP2 w4 (unhide HF4)).mono ?_
              rintro e w5 ⟨rfl, hF⟩
              have HF5 := hide ((unhide HF4).trans hF (fun _ _ t => t))
              clear hF HF4
              go_wp2_with fail
              refine (RB w5).mono ?_
              rintro e w0 ⟨rfl, rfl⟩
              go_wp2_with fail
              refine (RO _).mono ?_
              rintro e w0 ⟨rfl, rfl⟩
              go_wp2_with fail
              refine (RW _).mono ?_
              rintro e w0 ⟨rfl, rfl⟩
              go_wp2_with fail
              refine (RK _).mono ?_
              rintro e w0 ⟨rfl, rfl⟩
              go_wp2_with fail
              refine (RX _).mono ?_
              rintro e w0 ⟨rfl, rfl⟩
              go_wp2_with fail
              refine (RY _).mono ?_
              rintro e w0 ⟨rfl, rfl⟩
              go_wp2_with fail
              refine (RX1 _).mono ?_
              rintro e w0 ⟨rfl, rfl⟩
              go_wp2
              go_ret
              exact ⟨by first | rfl | simp, unhide HF5⟩
            | true =>
              have y1 : dayE (t + 10080) = 0 := by simp [dayE, hy]
              have y2 : dayV (t + 10080) = d + 7 := unhide HY hy
              rw [y1, y2] at RY
              clear x1 x2 y1 y2 hx hy HX HY HA
              go_enter Tryd.func6, Tryd.ntmps6
              go_wp2_with fail
              refine R0.mono ?_
              rintro e w1 ⟨rfl, hF1⟩
              have HF1 := hide hF1
              clear R0 hF1
              go_wp2_with fail
              refine (unhide H1 w1 (unhide HF1)).mono ?_
              rintro e w2 ⟨rfl, hF⟩
              have HF2 := hide ((unhide HF1).trans hF (fun _ _ t => t))
              clear hF HF1
              go_wp2_with fail
              refine (unhide HTm w2 (unhide HF2)).mono ?_
              rintro e w3 ⟨rfl, hF⟩
              have HF3 := hide ((unhide HF2).trans hF (fun _ _ t => t))
              clear hF HF2
              go_wp2_with fail
              refine (RD w3).mono ?_
              rintro e w0 ⟨rfl, rfl⟩
              go_wp2_with fail
              refine (unhide HT2 _ (unhide HF3)).mono ?_
              rintro e w4 ⟨rfl, hF⟩
              have HF4 := hide ((unhide HF3).trans hF (fun _ _ t => t))
              clear hF HF3
              go_wp2_with fail
              refine (unhide HP2 w4 (unhide HF4)).mono ?_
              rintro e w5 ⟨rfl, hF⟩
              have HF5 := hide ((unhide HF4).trans hF (fun _ _ t => t))
              clear hF HF4
              go_wp2_with fail
              refine (RB w5).mono ?_
              rintro e w0 ⟨rfl, rfl⟩
              go_wp2_with fail
              refine (RO _).mono ?_
              rintro e w0 ⟨rfl, rfl⟩
              go_wp2_with fail
              refine (RW _).mono ?_
              rintro e w0 ⟨rfl, rfl⟩
              go_wp2_with fail
              refine (RK _).mono ?_
              rintro e w0 ⟨rfl, rfl⟩
              go_wp2_with fail
              refine (RX _).mono ?_
              rintro e w0 ⟨rfl, rfl⟩
              go_wp2_with fail
              refine (RY _).mono ?_
              rintro e w0 ⟨rfl, rfl⟩
              go_wp2_with fail
              refine (RX1 _).mono ?_
              rintro e w0 ⟨rfl, rfl⟩
              go_wp2_with fail
              refine (RY1 _).mono ?_
              rintro e w0 ⟨rfl, rfl⟩
              go_wp2_with fail
              refine (RY2 _).mono ?_
              rintro e w0 ⟨rfl, rfl⟩
              go_wp2
              go_ret
              exact ⟨by first | rfl | simp, unhide HF5⟩
      · generalize fromV other = fa at *
        generalize toV other = fb at *
        cases hx : right (t + 1440) with
        | false =>
          have hy : right (t + 10080) = false := (right_not _).2 (fun h => (right_not _).1 hx ⟨by omega, by omega⟩)
          have x1 : dayE (t + 1440) = 60 := by simp [dayE, hx]
          have y1 : dayE (t + 10080) = 60 := by simp [dayE, hy]
          rw [x1] at RX
          rw [y1] at RY
          generalize dayV (t + 1440) = xx at *
          generalize dayV (t + 10080) = yy at *
          clear x1 y1 hx hy HX HY HA
          go_enter Tryd.func6, Tryd.ntmps6
          go_wp2_with fail
          refine R0.mono ?_
          rintro e w1 ⟨rfl, hF1⟩
          have HF1 := hide hF1
          clear R0 hF1
          go_wp2_with fail
          refine (unhide H1 w1 (unhide HF1)).mono ?_
          rintro e w2 ⟨rfl, hF⟩
          have HF2 := hide ((unhide HF1).trans hF (fun _ _ t => t))
          clear hF HF1
          go_wp2_with fail
          refine (unhide HTm w2 (unhide HF2)).mono ?_
          rintro e w3 ⟨rfl, hF⟩
          have HF3 := hide ((unhide HF2).trans hF (fun _ _ t => t))
          clear hF HF2
          go_wp2_with fail
          refine (RD w3).mono ?_
          rintro e w0 ⟨rfl, rfl⟩
          go_wp2_with fail
          refine (unhide HT2 _ (unhide HF3)).mono ?_
          rintro e w4 ⟨rfl, hF⟩
          have HF4 := hide ((unhide HF3).trans hF (fun _ _ t => t))
          clear hF HF3
          go_wp2_with fail
          refine (unhide HP2 w4 (unhide HF4)).mono ?_
          rintro e w5 ⟨rfl, hF⟩
          have HF5 := hide ((unhide HF4).trans hF (fun _ _ t => t))
          clear hF HF4
          go_wp2_with fail
          refine (RB w5).mono ?_
          rintro e w0 ⟨rfl, rfl⟩
          go_wp2_with fail
          refine (RO _).mono ?_
          rintro e w0 ⟨rfl, rfl⟩
          go_wp2_with fail
          refine (RW _).mono ?_
          rintro e w0 ⟨rfl, rfl⟩
          go_wp2_with fail
          refine (RK _).mono ?_
          rintro e w0 ⟨rfl, rfl⟩
          go_wp2_with fail
          refine (RX _).mono ?_
          rintro e w0 ⟨rfl, rfl⟩
          go_wp2_with fail
          refine (RY _).mono ?_
          rintro e w0 ⟨rfl, rfl⟩
          go_wp2
          go_ret
          exact ⟨by first | rfl | simp, unhide HF5⟩
        | true =>
          have x1 : dayE (t + 1440) = 0 := by simp [dayE, hx]
          have x2 : dayV (t + 1440) = d + 1 := unhide HX hx
          rw [x1, x2] at RX
          cases hy : right (t + 10080) with
          | false =>
            have y1 : dayE (t + 10080) = 60 := by simp [dayE, hy]
            rw [y1] at RY
            generalize dayV (t + 10080) = yy at *
            clear x1 x2 y1 hx hy HX HY HA
            go_enter Tryd.func6, Tryd.ntmps6
            go_wp2_with fail
            refine R0.mono ?_
            rintro e w1 ⟨rfl, hF1⟩
            have HF1 := hide hF1
            clear R0 hF1
            go_wp2_with fail
            refine (unhide H1 w1 (unhide HF1)).mono ?_
            rintro e w2 ⟨rfl, hF⟩
            have HF2 := hide ((unhide HF1).trans hF (fun _ _ t => t))
            clear hF HF1
            go_wp2_with fail
            refine (unhide HTm w2 (unhide HF2)).mono ?_
            rintro e w3 ⟨rfl, hF⟩
            have HF3 := hide ((unhide HF2).trans hF (fun _ _ t => t))
            clear hF HF2
            go_wp2_with fail
            refine (RD w3).mono ?_
            rintro e w0 ⟨rfl, rfl⟩
            go_wp2_with fail
            refine (unhide HT2 _ (unhide HF3)).mono ?_
            rintro e w4 ⟨rfl, hF⟩
            have HF4 := hide ((unhide HF3).trans hF (fun _ _ t => t))
            clear hF HF3
            go_wp2_with fail
            refine (unhide HP2 w4 (unhide HF4)).mono ?_
            rintro e w5 ⟨rfl, hF⟩
            have HF5 := hide ((unhide HF4).trans hF (fun _ _ t => t))
            clear hF HF4
            go_wp2_with fail
            refine (RB w5).mono ?_
            rintro e w0 ⟨rfl, rfl⟩
            go_wp2_with fail
            refine (RO _).mono ?_
            rintro e w0 ⟨rfl, rfl⟩
            go_wp2_with fail
            refine (RW _).mono ?_
            rintro e w0 ⟨rfl, rfl⟩
            go_wp2_with fail
            refine (RK _).mono ?_
            rintro e w0 ⟨rfl, rfl⟩
            go_wp2_with fail
            refine (RX _).mono ?_
            rintro e w0 ⟨rfl, rfl⟩
            go_wp2_with fail
            refine (RY _).mono ?_
            rintro e w0 ⟨rfl, rfl⟩
            go_wp2_with fail
            refine (RX1 _).mono ?_
            rintro e w0 ⟨rfl, rfl⟩
            go_wp2
            go_ret
            exact ⟨by first | rfl | simp, unhide HF5⟩
          | true =>
            have y1 : dayE (t + 10080) = 0 := by simp [dayE, hy]
            have y2 : dayV (t + 10080) = d + 7 := unhide HY hy
            rw [y1, y2] at RY
            clear x1 x2 y1 y2 hx hy HX HY HA
            go_enter Tryd.func6, Tryd.ntmps6
            go_wp2_with fail
            refine R0.mono ?_
            rintro e w1 ⟨rfl, hF1⟩
            have HF1 := hide hF1
            clear R0 hF1
            go_wp2_with fail
            refine (unhide H1 w1 (unhide HF1)).mono ?_
            rintro e w2 ⟨rfl, hF⟩
            have HF2 := hide ((unhide HF1).trans hF (fun _ _ t => t))
            clear hF HF1
            go_wp2_with fail
            refine (unhide HTm w2 (unhide HF2)).mono ?_
            rintro e w3 ⟨rfl, hF⟩
            have HF3 := hide ((unhide HF2).trans hF (fun _ _ t => t))
            clear hF HF2
            go_wp2_with fail
            refine (RD w3).mono ?_
            rintro e w0 ⟨rfl, rfl⟩
            go_wp2_with fail
            refine (unhide HT2 _ (unhide HF3)).mono ?_
            rintro e w4 ⟨rfl, hF⟩
            have HF4 := hide ((unhide HF3).trans hF (fun _ _ t => t))
            clear hF HF3
            go_wp2_with fail
            refine (unhide HP2 w4 (unhide HF4)).mono ?_
            rintro e w5 ⟨rfl, hF⟩
            have HF5 := hide ((unhide HF4).trans hF (fun _ _ t => t))
            clear hF HF4
            go_wp2_with fail
            refine (RB w5).mono ?_
            rintro e w0 ⟨rfl, rfl⟩
            go_wp2_with fail
            refine (RO _).mono ?_
            rintro e w0 ⟨rfl, rfl⟩
            go_wp2_with fail
            refine (RW _).mono ?_
            rintro e w0 ⟨rfl, rfl⟩
            go_wp2_with fail
            refine (RK _).mono ?_
            rintro e w0 ⟨rfl, rfl⟩
            go_wp2_with fail
            refine (RX _).mono ?_
            rintro e w0 ⟨rfl, rfl⟩
            go_wp2_with fail
            refine (RY _).mono ?_
            rintro e w0 ⟨rfl, rfl⟩
            go_wp2_with fail
            refine (RX1 _).mono ?_
            rintro e w0 ⟨rfl, rfl⟩
            go_wp2_with fail
            refine (RY1 _).mono ?_
            rintro e w0 ⟨rfl, rfl⟩
            go_wp2_with fail
            refine (RY2 _).mono ?_
            rintro e w0 ⟨rfl, rfl⟩
            go_wp2
            go_ret
            exact ⟨by first | rfl | simp, unhide HF5⟩

end Go.Proofs.YtnnhhfajcecdkaaDoor
