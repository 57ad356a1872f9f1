/- The law's own examples (awake). -/
import Derived.Test.YtnnhhfajcecdkaaDoorS5
namespace Go.Proofs.YtnnhhfajcecdkaaDoor
open Go.RowKit

theorem textN_270 : textN 270 = [48, 32, 77, 111, 110, 32, 48, 52, 58, 51, 48] := by
  unfold textN
  rw [show 270 / 10080 = 0 by decide, Lib.decDigits_one (by decide)]
  decide

theorem textN_11581 : textN 11581 = [49, 32, 84, 117, 101, 32, 48, 49, 58, 48, 49] := by
  unfold textN
  rw [show 11581 / 10080 = 1 by decide, Lib.decDigits_one (by decide)]
  decide

theorem awake_any (w : World) (hE : Env w) : Calls Tryd.prog 9 #[] w fun e w' => e = .returned (.bool true) ∧ Fr (fun _ => False) w w' := by
  have R1 := day_any w 0
  have R2 := day_any w 1710
  have R3 := parse_any w [48, 32, 77, 111, 110, 32, 48, 52, 58, 51, 48] (by decide) hE
  have R4 := fun w => bounds_any w 0
  have R5 := fun w => wday_any w (-1)
  have H6 := hide (fun (w' : World) (hf : Fr (fun _ => False) w w') => text_any w' 11581 (hE.frame hf))
  rw [show dayV 0 = -1 by decide, show dayE 0 = 0 by decide] at R1
  rw [show dayV 1710 = 1 by decide, show dayE 1710 = 0 by decide] at R2
  have e3 : parsed [48, 32, 77, 111, 110, 32, 48, 52, 58, 51, 48] = some 270 := by rw [← textN_270]; exact parsed_text 270 (by decide)
  rw [e3, show rv (some 270) = 270 by decide, show re (some 270) = 0 by decide] at R3
  rw [show fromV 0 = 270 by decide, show toV 0 = 1710 by decide] at R4
  rw [show wdayV (-1) = 6 by decide] at R5
  have e6 : text 11581 = [49, 32, 84, 117, 101, 32, 48, 49, 58, 48, 49] := by rw [← textN_11581]; exact text_nat 11581 (by decide)
  rw [e6] at H6
  clear e3 e6 hE
  go_enter Tryd.func9, Tryd.ntmps9
  go_wp2_with fail
  refine R1.mono ?_
  rintro e w1 ⟨rfl, rfl⟩
  go_wp2_with fail
  refine R2.mono ?_
  rintro e w1 ⟨rfl, rfl⟩
  go_wp2_with fail
  refine R3.mono ?_
  rintro e w2 ⟨rfl, hF2⟩
  have HF2 := hide hF2
  clear hF2 R1 R2 R3
  go_wp2_with fail
  refine (R4 w2).mono ?_
  rintro e w3 ⟨rfl, rfl⟩
  go_wp2_with fail
  refine (R5 w3).mono ?_
  rintro e w4 ⟨rfl, rfl⟩
  go_wp2_with fail
  refine (unhide H6 w4 (unhide HF2)).mono ?_
  rintro e w5 ⟨rfl, hF5⟩
  have HF5 := hide ((unhide HF2).trans hF5 (fun _ _ t => t))
  clear hF5
  go_wp2
  go_ret
  exact ⟨rfl, unhide HF5⟩

end Go.Proofs.YtnnhhfajcecdkaaDoor
