/- An amount times a rate is the document's (the walk of MoneyScales). -/
import Derived.Test.YtighehbeeflhpaaDoorS6
import Derived.Test.YtighehbeeflhpaaDoorR4
namespace Go.Proofs.YtighehbeeflhpaaDoor
open Go.RowKit

set_option maxRecDepth 100000 in
theorem scales_walk (w : World) (hT : Pow w) (n : Int) (f : Nat) (hf : f < 18446744073709551616) :
    Calls Tryd.prog 4 #[.int .i64 n, .float .f64 f] w fun e w' => e = .returned (.bool true) ∧ Fr (fun _ => False) w w' := by
  have R0 := awake_any w hT
  have R1 := fun w => rate_any w f
  have R2 := fun w => scale_any w n f hf
  have R3 := fun w => rscale_any w n f hf
  have R4 := fun w => rrate_any w f hf
  generalize rv (scaled n f) = a at *
  generalize scaleE n f = b at *
  generalize rate f = c at *
  clear hT
  go_enter Tryd.func4, Tryd.ntmps4
  go_wp2_with fail
  refine R0.mono ?_
  rintro e w1 ⟨rfl, hF1⟩
  have HF1 := hide hF1
  clear R0 hF1
  go_wp2_with fail
  refine (R1 w1).mono ?_
  rintro e w1 ⟨rfl, rfl⟩
  go_wp2_with fail
  refine (R2 w1).mono ?_
  rintro e w1 ⟨rfl, rfl⟩
  go_wp2_with fail
  refine (R3 w1).mono ?_
  rintro e w2 ⟨rfl, hF2⟩
  have HF2 := hide ((unhide HF1).trans hF2 (fun _ _ t => t))
  clear hF2 HF1
  go_wp2_with fail
  refine (R4 w2).mono ?_
  rintro e w2 ⟨rfl, rfl⟩
  go_wp2
  go_ret
  exact ⟨rfl, unhide HF2⟩

end Go.Proofs.YtighehbeeflhpaaDoor
