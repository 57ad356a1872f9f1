/- Days and weeks go on as time does (the walk of ClockOrder). -/
import Derived.Test.YtnnhhfajcecdkaaDoorS6
namespace Go.Proofs.YtnnhhfajcecdkaaDoor
open Go.RowKit

theorem day_told (t : Int) (h : right t = true) : told (dayV t) = true ∧ dayV t = (t - 270) / 1440 := by
  have hb := (right_iff t).1 h
  have e : dayV t = (t - 270) / 1440 := by simp [dayV, h]
  exact ⟨(told_iff _).2 (by rw [e]; omega), e⟩

theorem order_walk (w : World) (hE : Env w) (t u : Int) : Calls Tryd.prog 7 #[.int .i64 t, .int .i64 u] w fun e w' => e = .returned (.bool true) ∧ Fr (fun _ => False) w w' := by
  have R0 := awake_any w hE
  have R1 := fun w => day_any w t
  have R2 := fun w => day_any w u
  have R3 := fun w => week_any w (dayV t)
  have R4 := fun w => week_any w (dayV u)
  clear hE
  cases ht : right t with
  | false =>
    have e1 : dayE t = 60 := by simp [dayE, ht]
    rw [e1] at R1
    clear e1 ht R3 R4
    generalize dayV t = x1 at *
    generalize dayV u = x2 at *
    generalize dayE u = x3 at *
    go_enter Tryd.func7, Tryd.ntmps7
    go_wp2_with fail
    refine R0.mono ?_
    rintro e w1 ⟨rfl, hF1⟩
    have HF1 := hide hF1
    clear R0 hF1
    go_wp2_with fail
    refine (R1 w1).mono ?_
    rintro e w1 ⟨rfl, rfl⟩
    go_wp2_with fail
    refine (R2 w1).mono ?_
    rintro e w1 ⟨rfl, rfl⟩
    go_wp2
    go_ret
    exact ⟨rfl, unhide HF1⟩
  | true =>
    have e1 : dayE t = 0 := by simp [dayE, ht]
    rw [e1] at R1
    cases hu : right u with
    | false =>
      have e2 : dayE u = 60 := by simp [dayE, hu]
      rw [e2] at R2
      clear e1 e2 ht hu R3 R4
      generalize dayV t = x1 at *
      generalize dayV u = x2 at *
      go_enter Tryd.func7, Tryd.ntmps7
      go_wp2_with fail
      refine R0.mono ?_
      rintro e w1 ⟨rfl, hF1⟩
      have HF1 := hide hF1
      clear R0 hF1
      go_wp2_with fail
      refine (R1 w1).mono ?_
      rintro e w1 ⟨rfl, rfl⟩
      go_wp2_with fail
      refine (R2 w1).mono ?_
      rintro e w1 ⟨rfl, rfl⟩
      go_wp2
      go_ret
      exact ⟨rfl, unhide HF1⟩
    | true =>
      have e2 : dayE u = 0 := by simp [dayE, hu]
      rw [e2] at R2
      have d1 := day_told t ht
      have d2 := day_told u hu
      have w1 : weekV (dayV t) = dayV t / 7 := by simp [weekV, d1.1]
      have w2 : weekV (dayV u) = dayV u / 7 := by simp [weekV, d2.1]
      by_cases hle : t ≤ u
      · have h1 : dayV t ≤ dayV u := by rw [d1.2, d2.2]; omega
        have h2 : weekV (dayV t) ≤ weekV (dayV u) := by rw [w1, w2]; omega
        clear e1 e2 ht hu d1 d2 w1 w2
        generalize weekV (dayV t) = y1 at *
        generalize weekV (dayV u) = y2 at *
        generalize dayV t = x1 at *
        generalize dayV u = x2 at *
        go_enter Tryd.func7, Tryd.ntmps7
        go_wp2_with fail
        refine R0.mono ?_
        rintro e w1 ⟨rfl, hF1⟩
        have HF1 := hide hF1
        clear R0 hF1
        go_wp2_with fail
        refine (R1 w1).mono ?_
        rintro e w1 ⟨rfl, rfl⟩
        go_wp2_with fail
        refine (R2 w1).mono ?_
        rintro e w1 ⟨rfl, rfl⟩
        go_wp2_with fail
        refine (R3 w1).mono ?_
        rintro e w1 ⟨rfl, rfl⟩
        go_wp2_with fail
        refine (R4 w1).mono ?_
        rintro e w1 ⟨rfl, rfl⟩
        go_wp2
        go_ret
        exact ⟨by first | rfl | (simp; omega), unhide HF1⟩
      · have h1 : dayV u ≤ dayV t := by rw [d1.2, d2.2]; omega
        have h2 : weekV (dayV u) ≤ weekV (dayV t) := by rw [w1, w2]; omega
        clear e1 e2 ht hu d1 d2 w1 w2
        generalize weekV (dayV t) = y1 at *
        generalize weekV (dayV u) = y2 at *
        generalize dayV t = x1 at *
        generalize dayV u = x2 at *
        go_enter Tryd.func7, Tryd.ntmps7
        go_wp2_with fail
        refine R0.mono ?_
        rintro e w1 ⟨rfl, hF1⟩
        have HF1 := hide hF1
        clear R0 hF1
        go_wp2_with fail
        refine (R1 w1).mono ?_
        rintro e w1 ⟨rfl, rfl⟩
        go_wp2_with fail
        refine (R2 w1).mono ?_
        rintro e w1 ⟨rfl, rfl⟩
        go_wp2_with fail
        refine (R3 w1).mono ?_
        rintro e w1 ⟨rfl, rfl⟩
        go_wp2_with fail
        refine (R4 w1).mono ?_
        rintro e w1 ⟨rfl, rfl⟩
        go_wp2
        go_ret
        exact ⟨by first | rfl | (simp; omega), unhide HF1⟩

end Go.Proofs.YtnnhhfajcecdkaaDoor
