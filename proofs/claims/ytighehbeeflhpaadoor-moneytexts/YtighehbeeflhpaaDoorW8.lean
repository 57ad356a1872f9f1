/- Amounts are written and read as the document says (the walk of MoneyTexts). -/
import Derived.Test.YtighehbeeflhpaaDoorS6
import Derived.Test.YtighehbeeflhpaaDoorR7
namespace Go.Proofs.YtighehbeeflhpaaDoor
open Go.RowKit

set_option maxRecDepth 100000 in
theorem texts_walk (w : World) (hT : Pow w) (n : Int) (hn : -9223372036854775808 ≤ n ∧ n ≤ 9223372036854775807) (s : List UInt8) (hl : s.length ≤ 140737488355328) :
    Calls Tryd.prog 8 #[.int .i64 n, .string ⟨s.toArray⟩] w fun e w' => e = .returned (.bool true) ∧ Fr (fun _ => False) w w' := by
  have R0 := awake_any w hT
  have H1 := hide (fun (w' : World) (hf : Fr (fun _ => False) w w') => text_any w' n hn.1 hn.2 (tab_frame hT hf))
  have H2 := hide (fun (w' : World) (hf : Fr (fun _ => False) w w') => parse_any w' s hl (tab_frame hT hf))
  have R3 := fun w => rparse_any w s hl
  have R4 := fun w => rtext_any w n hn.1 hn.2
  generalize rv (parsed s) = a at *
  generalize re 1 (parsed s) = b at *
  generalize text n = T at *
  clear hT hn
  go_enter Tryd.func8, Tryd.ntmps8
  go_wp2_with fail
  refine R0.mono ?_
  rintro e w1 ⟨rfl, hF1⟩
  have HF1 := hide hF1
  clear R0 hF1
  go_wp2_with fail
  refine (unhide H1 w1 (unhide HF1)).mono ?_
  rintro e w2 ⟨rfl, hF2⟩
  have HF2 := hide ((unhide HF1).trans hF2 (fun _ _ t => t))
  clear hF2 HF1
  go_wp2_with fail
  refine (unhide H2 w2 (unhide HF2)).mono ?_
  rintro e w3 ⟨rfl, hF3⟩
  have HF3 := hide ((unhide HF2).trans hF3 (fun _ _ t => t))
  clear hF3 HF2
  go_wp2_with fail
  refine (R3 w3).mono ?_
  rintro e w3 ⟨rfl, rfl⟩
  go_wp2_with fail
  refine (R4 w3).mono ?_
  rintro e w3 ⟨rfl, rfl⟩
  go_wp2
  go_ret
  exact ⟨rfl, unhide HF3⟩

end Go.Proofs.YtighehbeeflhpaaDoor
