import Derived.Test.YtmnbfhgncooodaaGreatDoorQXG
/- The walk of QueueSectors. -/
namespace Go.Proofs.YtmnbfhgncooodaaGreatDoor
open Go.RowKit

set_option maxRecDepth 20000 in
theorem sectors_walk (w : World) (hT : TabAt w) (hE : ErrT w) (n : Int) :
    Calls Tryz.prog 4 #[.int .i64 n] w fun e w' => e = .returned (.bool true) ∧ Fr (fun _ => False) w w' := by
  have A := hide (awake10_any w hT hE)
  clear hT hE
  have H1 : Hid (∀ u, Calls Tryz.prog 17 #[.int .i64 n] u fun e w' => e = .returned (.int .i64 (qsecF n)) ∧ w' = u) := hide (fun u => qsec_any u n)
  have H2 : Hid (∀ u, Calls Tryz.prog 18 #[.int .i64 n] u fun e w' => e = .returned (.int .i64 (qsecF n)) ∧ w' = u) := hide (fun u => rqsec_any u n)
  generalize qsecF n = sf at *
  go_enter Tryz.func4, Tryz.ntmps4
  go_wp2_with fail
  refine (unhide A).mono ?_
  rintro e w1 ⟨rfl, hF⟩
  have HF := hide hF
  clear hF A
  go_wp2_with fail
  refine (unhide H1 _).mono ?_
  rintro e w1 ⟨rfl, rfl⟩
  go_wp2_with fail
  refine (unhide H2 _).mono ?_
  rintro e w1 ⟨rfl, rfl⟩
  go_wp2
  go_ret
  exact ⟨by simp, unhide HF⟩

end Go.Proofs.YtmnbfhgncooodaaGreatDoor

