/- The walk of the law SumJoins. -/
import Derived.Test.YtgbaofdbdpopnaaDoorR2
namespace Go.Proofs.YtgbaofdbdpopnaaDoor
open Go.RowKit

theorem joinV_tuple (x y n : Int) : ∃ a b : Int, joinV x y n = .tuple #[.int .i64 a, .int .i64 b] := by
  unfold joinV
  split
  · exact ⟨_, _, rfl⟩
  · exact ⟨_, _, rfl⟩

theorem joins_walk (w : World) (hT : TabAt w) (x y n : Int) (hn : n ≤ 9223372036854775807) :
    Calls Tryd.prog 4 #[.int .i64 x, .int .i64 y, .int .i64 n] w fun e w' => e = .returned (.bool true) ∧ Fr (fun _ => False) w w' := by
  have HT := hide hT
  have HN := hide (show n < 9223372036854775808 by omega)
  obtain ⟨p, q, hpq⟩ := joinV_tuple x y n
  have HPQ := hide hpq
  clear hT hpq hn
  go_enter Tryd.func4, Tryd.ntmps4
  go_wp2_with fail
  refine (awake_any _ (unhide HT)).mono ?_
  rintro e w1 ⟨rfl, hF1⟩
  have HF1 := hide hF1
  clear hF1
  go_wp2_with fail
  refine (join_any w1 ((unhide HT).later (unhide HF1)) x y n (unhide HN)).mono ?_
  rw [unhide HPQ]
  rintro e w2 ⟨rfl, hF2⟩
  have HF2 := hide ((unhide HF1).trans hF2 (fun _ _ t => t))
  clear hF2 HF1
  go_wp2_with fail
  refine (rjoin_any w2 x y n (unhide HN)).mono ?_
  rw [unhide HPQ]
  rintro e w3 ⟨rfl, hF3⟩
  have HF3 := hide ((unhide HF2).trans hF3 (fun _ _ t => t))
  clear hF3 HF2
  go_wp2
  go_ret
  exact ⟨rfl, unhide HF3⟩

end Go.Proofs.YtgbaofdbdpopnaaDoor
