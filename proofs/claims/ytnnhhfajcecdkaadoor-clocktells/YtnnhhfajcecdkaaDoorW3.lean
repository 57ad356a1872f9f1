/- Travel day, week and minutes are what the document says (the walk of ClockTells). -/
import Derived.Test.YtnnhhfajcecdkaaDoorS6
namespace Go.Proofs.YtnnhhfajcecdkaaDoor
open Go.RowKit

theorem tells_walk (w : World) (hE : Env w) (t d : Int) : Calls Tryd.prog 3 #[.int .i64 t, .int .i64 d] w fun e w' => e = .returned (.bool true) ∧ Fr (fun _ => False) w w' := by
  have R0 := awake_any w hE
  have R1 := fun w => right_any w t
  have R2 := fun w => day_any w t
  have R3 := fun w => bounds_any w d
  have R4 := fun w => rday_any w t
  have R5 := fun w => rbounds_any w d
  have R6 := fun w => rright_any w t
  have R7 := fun w => week_any w d
  have R8 := fun w => rweek_any w d
  have R9 := fun w => wday_any w d
  have R10 := fun w => rwday_any w d
  generalize right t = x1 at *
  generalize dayV t = x2 at *
  generalize dayE t = x3 at *
  generalize fromV d = x4 at *
  generalize toV d = x5 at *
  generalize weekV d = x6 at *
  generalize wdayV d = x7 at *
  clear hE
  go_enter Tryd.func3, Tryd.ntmps3
  go_wp2_with fail
  refine R0.mono ?_
  rintro e w1 ⟨rfl, hF1⟩
  have HF1 := hide hF1
  clear R0 hF1
  go_wp2_with fail
  refine (R1 w1).mono ?_
  rintro e w1 ⟨rfl, rfl⟩
  go_wp2_with fail
  refine (R2 w1).mono ?_
  rintro e w1 ⟨rfl, rfl⟩
  go_wp2_with fail
  refine (R3 w1).mono ?_
  rintro e w1 ⟨rfl, rfl⟩
  go_wp2_with fail
  refine (R4 w1).mono ?_
  rintro e w1 ⟨rfl, rfl⟩
  go_wp2_with fail
  refine (R5 w1).mono ?_
  rintro e w1 ⟨rfl, rfl⟩
  go_wp2_with fail
  refine (R6 w1).mono ?_
  rintro e w1 ⟨rfl, rfl⟩
  go_wp2_with fail
  refine (R7 w1).mono ?_
  rintro e w1 ⟨rfl, rfl⟩
  go_wp2_with fail
  refine (R8 w1).mono ?_
  rintro e w1 ⟨rfl, rfl⟩
  go_wp2_with fail
  refine (R9 w1).mono ?_
  rintro e w1 ⟨rfl, rfl⟩
  go_wp2_with fail
  refine (R10 w1).mono ?_
  rintro e w1 ⟨rfl, rfl⟩
  go_wp2
  go_ret
  exact ⟨rfl, unhide HF1⟩

end Go.Proofs.YtnnhhfajcecdkaaDoor
