/- Sums and differences are the document's (the walk of MoneySums). -/
import Derived.Test.YtighehbeeflhpaaDoorS6
import Derived.Test.YtighehbeeflhpaaDoorR1
namespace Go.Proofs.YtighehbeeflhpaaDoor
open Go.RowKit

theorem IAt.later {w w' : World} {ao : Option Addr} {l : List Int} (h : IAt w ao l) (hf : Fr (fun _ => False) w w') : IAt w' ao l := by
  intro h0
  obtain ⟨b, off, e, hc⟩ := h h0
  exact ⟨b, off, e, fun j hj => (hf.cell (a := ⟨b, off + j, none⟩) (World.block_lt_of_cell? _ _ (hc j hj)) (fun t => t)).trans (hc j hj)⟩

set_option maxRecDepth 100000 in
theorem sums_walk (w : World) (hT : Pow w) (a b : Int) (hb0 : -9223372036854775808 ≤ b) (hb1 : b ≤ 9223372036854775807) (ao : Option Addr) (cap : Nat) (l : List Int) (h : IAt w ao l) (hl : l.length ≤ 140737488355328) :
    Calls Tryd.prog 3 #[.int .i64 a, .int .i64 b, .slice ao l.length cap] w fun e w' => e = .returned (.bool true) ∧ Fr (fun _ => False) w w' := by
  have R0 := awake_any w hT
  have R1 := fun w => add_any w a b
  have R2 := fun w => sub_any w a b hb0 hb1
  have R4 := fun w => right_any w a
  have R5 := fun w => radd_any w a b
  have R6 := fun w => rsub_any w a b hb0 hb1
  have R8 := fun w => rright_any w a
  simp only [tot_two] at R1
  have H3 := hide (fun (w' : World) (hf : Fr (fun _ => False) w w') => sum_any w' ao cap l (h.later hf) hl)
  have H7 := hide (fun (w' : World) (hf : Fr (fun _ => False) w w') => rsum_any w' ao cap l (h.later hf) hl)
  clear h hT
  generalize rv (radd a b) = x1 at *
  generalize re 50 (radd a b) = x2 at *
  generalize rv (dif a b) = x3 at *
  generalize re 50 (dif a b) = x4 at *
  generalize rv (tot 0 l) = x5 at *
  generalize re 50 (tot 0 l) = x6 at *
  generalize right a = x7 at *
  go_enter Tryd.func3, Tryd.ntmps3
  go_wp2_with fail
  refine R0.mono ?_
  rintro e w1 ⟨rfl, hF1⟩
  have HF1 := hide hF1
  clear R0 hF1
  go_wp2_with fail
  refine (R1 w1).mono ?_
  rintro e w2 ⟨rfl, hF2⟩
  have HF2 := hide ((unhide HF1).trans hF2 (fun _ _ t => t))
  clear hF2 HF1
  go_wp2_with fail
  refine (R2 w2).mono ?_
  rintro e w3 ⟨rfl, hF3⟩
  have HF3 := hide ((unhide HF2).trans hF3 (fun _ _ t => t))
  clear hF3 HF2
  go_wp2_with fail
  refine (unhide H3 w3 (unhide HF3)).mono ?_
  rintro e w4 ⟨rfl, rfl⟩
  go_wp2_with fail
  refine (R4 w4).mono ?_
  rintro e w4 ⟨rfl, rfl⟩
  go_wp2_with fail
  refine (R5 w4).mono ?_
  rintro e w4 ⟨rfl, rfl⟩
  go_wp2_with fail
  refine (R6 w4).mono ?_
  rintro e w4 ⟨rfl, rfl⟩
  go_wp2_with fail
  refine (unhide H7 w4 (unhide HF3)).mono ?_
  rintro e w4 ⟨rfl, rfl⟩
  go_wp2_with fail
  refine (R8 w4).mono ?_
  rintro e w4 ⟨rfl, rfl⟩
  go_wp2
  go_ret
  exact ⟨rfl, unhide HF3⟩

end Go.Proofs.YtighehbeeflhpaaDoor
