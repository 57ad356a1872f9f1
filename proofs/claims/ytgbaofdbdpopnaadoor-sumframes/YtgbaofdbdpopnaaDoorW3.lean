/- The walk of the law SumAdds. -/
import Derived.Test.YtgbaofdbdpopnaaDoorS8
import Derived.Test.YtgbaofdbdpopnaaDoorR1
import Derived.Test.YtgbaofdbdpopnaaDoorL1
namespace Go.Proofs.YtgbaofdbdpopnaaDoor
open Go.RowKit

theorem moreV_tuple (s : Int) (bs : List UInt8) : ∃ x y : Int, moreV s bs = .tuple #[.int .i64 x, .int .i64 y] := by
  unfold moreV
  split
  · exact ⟨_, _, rfl⟩
  · exact ⟨_, _, rfl⟩

/-- Lent bytes can be read. -/
theorem lent_bat {w : World} {g : Nat} {bs : List UInt8} (hsm : bs.length ≤ 140737488355328) (h : ∀ j, j < bs.length + 3 → w.cell? ⟨g, j, none⟩ = some (.int .u8 (lentF bs (bs.length + 3) j)) ∧ w.frozen? ⟨g, j, none⟩ = false) : BAt w (some ⟨g, 0, none⟩) (bs.length + 3) bs :=
  ⟨fun e => (by cases e), fun _ => ⟨g, 0, rfl, fun j hj => by rw [Nat.zero_add, (h j (by omega)).1, lentF_in _ _ _ hj]⟩, hsm⟩

set_option maxHeartbeats 1000000 in
theorem adds_walk (w : World) (hT : TabAt w) (s : Int) (ao : Option Addr) (cap : Nat) (bs : List UInt8) (hB : BAt w ao cap bs) :
    Calls Tryd.prog 3 #[.int .i64 s, .slice ao bs.length cap] w fun e w' => e = .returned (.bool true) ∧ Fr (fun _ => False) w w' := by
  have HT := hide hT
  have HB := hide hB
  have hsm := hB.2.2
  obtain ⟨x, y, hxy⟩ := moreV_tuple s bs
  have HXY := hide hxy
  clear hT hB hxy
  go_enter Tryd.func3, Tryd.ntmps3
  go_wp2_with fail
  refine (awake_any _ (unhide HT)).mono ?_
  rintro e w1 ⟨rfl, hF1⟩
  have HF1 := hide hF1
  clear hF1
  go_wp2_with fail
  refine (lent_any w1 ao cap bs ((unhide HB).later (unhide HF1))).mono ?_
  rintro e w2 ⟨g0, rfl, hF2, hg0, hrow⟩
  have HF2 := hide ((unhide HF1).trans hF2 (fun _ _ t => t))
  have hg : w.heap.size ≤ g0 := Nat.le_trans (unhide HF1).size hg0
  have HL := hide hrow
  have HB2 := hide (lent_bat hsm hrow)
  have HT2 := hide ((unhide HT).later (unhide HF2))
  clear hF2 hg0 hrow HF1
  go_wp2_with fail
  refine (sum_any w2 (unhide HT2) _ (bs.length + 3) bs (unhide HB2)).mono ?_
  rintro e w3 ⟨rfl, rfl⟩
  go_wp2_with fail
  refine (More_any w3 (unhide HT2) s _ (bs.length + 3) bs (unhide HB2)).mono ?_
  rw [unhide HXY]
  rintro e w4 ⟨rfl, rfl⟩
  go_wp2_with fail
  refine (back_any w4 ao cap bs ((unhide HB).later (unhide HF2)) g0 (fun b off e h0 => ?_) (unhide HL)).mono ?_
  · obtain ⟨b', off', e', hc⟩ := (unhide HB).2.1 h0
    rw [e] at e'
    injection e' with e'
    injection e' with e1 e2
    subst e1
    have h1 : b < w.heap.size := World.block_lt_of_cell? _ _ (hc 0 h0)
    omega
  rintro e w5 ⟨rfl, hF5⟩
  have HF5 := hide ((unhide HF2).trans hF5 (fun i hi t => by have t' : i = g0 := t; omega))
  clear hF5 HF2 HL HB2 HT2
  go_wp2_with fail
  refine (rmore_any w5 s ao cap bs ((unhide HB).later (unhide HF5))).mono ?_
  rw [unhide HXY]
  rintro e w6 ⟨rfl, rfl⟩
  go_wp2_with fail
  refine (rsum_any w6 ao cap bs ((unhide HB).later (unhide HF5))).mono ?_
  rintro e w7 ⟨rfl, rfl⟩
  go_wp2
  go_ret
  exact ⟨rfl, unhide HF5⟩

end Go.Proofs.YtgbaofdbdpopnaaDoor
