/- Times are written and read as the document says (the walk of ClockTexts). -/
import Derived.Test.YtnnhhfajcecdkaaDoorS6
import Derived.Test.YtnnhhfajcecdkaaDoorR2
namespace Go.Proofs.YtnnhhfajcecdkaaDoor
open Go.RowKit

theorem texts_walk (w : World) (hE : Env w) (t : Int) (s : List UInt8) (hl : s.length ≤ 140737488355328) :
    Calls Tryd.prog 5 #[.int .i64 t, .string ⟨s.toArray⟩] w fun e w' => e = .returned (.bool true) ∧ Fr (fun _ => False) w w' := by
  have R0 := awake_any w hE
  have H1 := hide (fun (w' : World) (hf : Fr (fun _ => False) w w') => text_any w' t (hE.frame hf))
  have H2 := hide (fun (w' : World) (hf : Fr (fun _ => False) w w') => parse_any w' s hl (hE.frame hf))
  have R3 := fun w => rparse_any w s hl
  have R4 := fun w => rtext_any w t
  generalize rv (parsed s) = a at *
  generalize re (parsed s) = b at *
  generalize text t = T at *
  clear hE
  go_enter Tryd.func5, Tryd.ntmps5
  go_wp2_with fail
  refine R0.mono ?_
  rintro e w1 ⟨rfl, hF1⟩
  have HF1 := hide hF1
  clear R0 hF1
  go_wp2_with fail
  refine (unhide H1 w1 (unhide HF1)).mono ?_
  rintro e w2 ⟨rfl, hF2⟩
  have HF2 := hide ((unhide HF1).trans hF2 (fun _ _ t => t))
  clear hF2 HF1
  go_wp2_with fail
  refine (unhide H2 w2 (unhide HF2)).mono ?_
  rintro e w3 ⟨rfl, hF3⟩
  have HF3 := hide ((unhide HF2).trans hF3 (fun _ _ t => t))
  clear hF3 HF2
  go_wp2_with fail
  refine (R3 w3).mono ?_
  rintro e w4 ⟨rfl, hF4⟩
  have HF4 := hide ((unhide HF3).trans hF4 (fun _ _ t => t))
  clear hF4 HF3
  go_wp2_with fail
  refine (R4 w4).mono ?_
  rintro e w5 ⟨rfl, hF5⟩
  have HF5 := hide ((unhide HF4).trans hF5 (fun _ _ t => t))
  clear hF5 HF4
  go_wp2
  go_ret
  exact ⟨rfl, unhide HF5⟩

end Go.Proofs.YtnnhhfajcecdkaaDoor
