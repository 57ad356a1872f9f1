/- Days stand side by side, and a week has seven (the walk of ClockWeeks). -/
import Derived.Test.YtnnhhfajcecdkaaDoorS6
namespace Go.Proofs.YtnnhhfajcecdkaaDoor
open Go.RowKit

theorem weekV_told (d : Int) (h : -1099511627776 ≤ d ∧ d ≤ 1099511627776) : weekV d = d / 7 := by
  unfold weekV
  rw [if_pos ((told_iff d).2 h)]
theorem wdayV_told (d : Int) (h : -1099511627776 ≤ d ∧ d ≤ 1099511627776) : wdayV d = d % 7 := by
  unfold wdayV
  rw [if_pos ((told_iff d).2 h)]
theorem fromV_told (d : Int) (h : -1099511627776 ≤ d ∧ d ≤ 1099511627776) : fromV d = 1440 * d + 270 := by
  unfold fromV
  rw [if_pos ((told_iff d).2 h)]
theorem toV_told (d : Int) (h : -1099511627776 ≤ d ∧ d ≤ 1099511627776) : toV d = 1440 * d + 1710 := by
  unfold toV
  rw [if_pos ((told_iff d).2 h)]

theorem weeks_walk (w : World) (hE : Env w) (d : Int) (hd : -9223372036854775808 ≤ d ∧ d ≤ 9223372036854775807) : Calls Tryd.prog 8 #[.int .i64 d] w fun e w' => e = .returned (.bool true) ∧ Fr (fun _ => False) w w' := by
  have R0 := awake_any w hE
  clear hE
  by_cases h0 : -1099511627000 ≤ d
  · by_cases h1 : d ≤ 1099511627000
    · have R1 := fun w => bounds_any w d
      have R2 := fun w => bounds_any w (d + 1)
      have R3 := fun w => wday_any w d
      have R4 := fun w => wday_any w (d - d % 7)
      have R5 := fun w => week_any w (d - d % 7)
      have R6 := fun w => week_any w d
      have R7 := fun w => week_any w (d - d % 7 + 6)
      have R8 := fun w => week_any w (d - d % 7 + 7)
      have R9 := fun w => week_any w (d - d % 7 - 1)
      have e2 : fromV (d + 1) = toV d := by rw [fromV_told _ (by omega), toV_told _ (by omega)]; omega
      rw [e2] at R2
      rw [wdayV_told d (by omega)] at R3
      rw [wdayV_told _ (by omega), show (d - d % 7) % 7 = 0 by omega] at R4
      rw [weekV_told _ (by omega), show (d - d % 7) / 7 = d / 7 by omega] at R5
      rw [weekV_told _ (by omega)] at R6
      rw [weekV_told _ (by omega), show (d - d % 7 + 6) / 7 = d / 7 by omega] at R7
      rw [weekV_told _ (by omega), show (d - d % 7 + 7) / 7 = d / 7 + 1 by omega] at R8
      rw [weekV_told _ (by omega), show (d - d % 7 - 1) / 7 = d / 7 - 1 by omega] at R9
      have hq0 : -1099511627776 ≤ d / 7 := by omega
      have hq1 : d / 7 ≤ 1099511627776 := by omega
      have hr0 : 0 ≤ d % 7 := by omega
      have hr1 : d % 7 < 7 := by omega
      clear e2
      generalize d / 7 = q at *
      generalize d % 7 = r at *
      generalize fromV d = x1 at *
      generalize toV d = x2 at *
      generalize toV (d + 1) = x3 at *
      go_enter Tryd.func8, Tryd.ntmps8
      go_wp2_with fail
      refine R0.mono ?_
      rintro e w1 ⟨rfl, hF1⟩
      have HF1 := hide hF1
      clear R0 hF1
      go_wp2_with fail
      refine (R1 w1).mono ?_
      rintro e w1 ⟨rfl, rfl⟩
      go_wp2_with fail
      refine (R2 w1).mono ?_
      rintro e w1 ⟨rfl, rfl⟩
      go_wp2_with fail
      refine (R3 w1).mono ?_
      rintro e w1 ⟨rfl, rfl⟩
      go_wp2_with fail
      refine (R4 w1).mono ?_
      rintro e w1 ⟨rfl, rfl⟩
      go_wp2_with fail
      refine (R5 w1).mono ?_
      rintro e w1 ⟨rfl, rfl⟩
      go_wp2_with fail
      refine (R6 w1).mono ?_
      rintro e w1 ⟨rfl, rfl⟩
      go_wp2_with fail
      refine (R7 w1).mono ?_
      rintro e w1 ⟨rfl, rfl⟩
      go_wp2_with fail
      refine (R6 w1).mono ?_
      rintro e w1 ⟨rfl, rfl⟩
      go_wp2_with fail
      refine (R8 w1).mono ?_
      rintro e w1 ⟨rfl, rfl⟩
      go_wp2_with fail
      refine (R6 w1).mono ?_
      rintro e w1 ⟨rfl, rfl⟩
      go_wp2_with fail
      refine (R9 w1).mono ?_
      rintro e w1 ⟨rfl, rfl⟩
      go_wp2_with fail
      refine (R6 w1).mono ?_
      rintro e w1 ⟨rfl, rfl⟩
      go_wp2
      go_ret
      exact ⟨by first | rfl | (simp; omega), unhide HF1⟩
    · go_enter Tryd.func8, Tryd.ntmps8
      go_wp2_with fail
      refine R0.mono ?_
      rintro e w1 ⟨rfl, hF1⟩
      have HF1 := hide hF1
      clear R0 hF1
      go_wp2
      go_ret
      exact ⟨rfl, unhide HF1⟩
  · go_enter Tryd.func8, Tryd.ntmps8
    go_wp2_with fail
    refine R0.mono ?_
    rintro e w1 ⟨rfl, hF1⟩
    have HF1 := hide hF1
    clear R0 hF1
    go_wp2
    go_ret
    exact ⟨rfl, unhide HF1⟩

end Go.Proofs.YtnnhhfajcecdkaaDoor
