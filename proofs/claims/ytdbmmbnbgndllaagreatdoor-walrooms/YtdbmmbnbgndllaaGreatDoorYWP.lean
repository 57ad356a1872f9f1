import Derived.Test.YtdbmmbnbgndllaaGreatDoorYWO
/- The walk of WalRooms. -/
namespace Go.Proofs.YtdbmmbnbgndllaaGreatDoor
open Go.RowKit

set_option maxRecDepth 20000 in
theorem rooms_walk (w : World) (hT : TabAt w) (n : Int) (ro : Option Addr) (rc : Nat) (rs : List Bs) (hR : RecsP (fun _ => True) w ro rc rs) :
    Calls Tryz.prog 3 #[.int .i64 n, .slice ro rs.length rc] w fun e w' => e = .returned (.bool true) ∧ Fr (fun _ => False) w w' := by
  have A := awake9_any w hT
  have HH := hide (And.intro A hR)
  clear A hT hR
  go_enter Tryz.func3, Tryz.ntmps3
  go_wp2_with fail
  refine (unhide HH).1.mono ?_
  rintro e w1 ⟨rfl, hF⟩
  have HF := hide hF
  clear hF
  have H1 : Hid (Calls Tryz.prog 10 #[.int .i64 n] w1 fun e w' => e = .returned (.int .i64 (roomF n)) ∧ w' = w1) := room_any w1 n
  have H2 : Hid (Calls Tryz.prog 11 #[.int .i64 n] w1 fun e w' => e = .returned (.int .i64 (roomF n)) ∧ w' = w1) := rroom_any w1 n
  have H3 : Hid (Calls Tryz.prog 12 #[.int .i64 n, .slice ro rs.length rc] w1 fun e w' => e = .returned (.bool (fitsF n rs)) ∧ w' = w1) := fits_any w1 n ro rc rs ((unhide HH).2.frame (unhide HF) (fun _ _ t => t)).recs
  have H4 : Hid (Calls Tryz.prog 13 #[.int .i64 n, .slice ro rs.length rc] w1 fun e w' => e = .returned (.bool (fitsF n rs)) ∧ w' = w1) := rfits_any w1 n ro rc rs ((unhide HH).2.frame (unhide HF) (fun _ _ t => t)).recs
  generalize roomF n = rf at *
  generalize fitsF n rs = ff at *
  go_wp2_with fail
  refine (unhide H1).mono ?_
  rintro e w2 ⟨rfl, rfl⟩
  go_wp2_with fail
  refine (unhide H2).mono ?_
  rintro e w3 ⟨rfl, rfl⟩
  go_wp2_with fail
  refine (unhide H3).mono ?_
  rintro e w3 ⟨rfl, rfl⟩
  go_wp2_with fail
  refine (unhide H4).mono ?_
  rintro e w3 ⟨rfl, rfl⟩
  go_wp2
  go_ret
  exact ⟨by simp, unhide HF⟩

end Go.Proofs.YtdbmmbnbgndllaaGreatDoor

