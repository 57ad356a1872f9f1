/- The walk of the law SumParts. -/
import Derived.Test.YtgbaofdbdpopnaaDoorS8
namespace Go.Proofs.YtgbaofdbdpopnaaDoor
open Go.RowKit

theorem moreV_nat {s : Nat} (hs : s < 4294967296) (bs : List UInt8) : moreV s bs = .tuple #[.int .i64 (moreF s bs), .int .i64 0] := by
  rw [moreV, if_pos (isS_of hs), Int.toNat_natCast]

set_option maxHeartbeats 2000000 in
theorem parts_walk (w : World) (hT : TabAt w) (ao : Option Addr) (ca : Nat) (a : List UInt8) (hA : BAt w ao ca a) (bo : Option Addr) (cb : Nat) (b : List UInt8) (hB : BAt w bo cb b) (co : Option Addr) (cc : Nat) (c : List UInt8) (hC : BAt w co cc c)
    (hfit : a.length + b.length + c.length ≤ 140737488355328) :
    Calls Tryd.prog 6 #[.slice ao a.length ca, .slice bo b.length cb, .slice co c.length cc] w fun e w' => e = .returned (.bool true) ∧ Fr (fun _ => False) w w' := by
  obtain ⟨i0, hi, hz0, hz1, hz2⟩ := info_parts Tryd.info5
  have HT := hide hT
  have HA := hide hA
  have HB := hide hB
  have HC := hide hC
  have hX := sumF_lt a
  have hY := sumF_lt b
  have hZ := sumF_lt c
  have hM := moreF_lt b hX
  have e1 : moreF (sumF a) b = joinF (sumF a) (sumF b) b.length := moreF_join _ _
  have e2 : sumF (a ++ b ++ c) = moreF (moreF (sumF a) b) c := by unfold sumF; rw [moreF_append, moreF_append]
  have e3 : moreF (moreF (sumF a) b) c = joinF (moreF (sumF a) b) (sumF c) c.length := moreF_join _ _
  have e4 : joinF (sumF a) (joinF (sumF b) (sumF c) c.length) (b.length + c.length) = joinF (moreF (sumF a) b) (sumF c) c.length := by rw [joinF_joinF, e1]
  have hJ := joinF_lt c.length hY hZ
  have E1 := hide e1
  have E2 := hide e2
  have E3 := hide e3
  have E4 := hide e4
  have hs := hfit
  have hbl : b.length ≤ 140737488355328 := by omega
  clear hT hA hB hC e1 e2 e3 e4 hfit
  go_enter Tryd.func6, Tryd.ntmps6
  go_wp2_with fail
  refine (awake_any _ (unhide HT)).mono ?_
  rintro e w1 ⟨rfl, hF1⟩
  have HF1 := hide hF1
  clear hF1
  go_wp2_with (at_builtin; refine wpList_append_row _ rfl (.tmp 27) (.tmp 28) 22 22 rfl 5 i0 Tryd.underlying22 hi hz0 hz1 hz2 (g := w1.heap.size) (bs := []) (cap := 0) rfl (Row.nil _ _) _ a rfl ?src1 ?fit1 ?next1)
  case src1 => exact src_slice Tryd.underlying22 _ ao ca a ((unhide HA).later (unhide HF1)).2.1
  case fit1 => simp; omega
  intro ao1 cap1 w2 g1 hrow hfr hg
  have HF2 := hide ((unhide HF1).trans hfr (fun i hi t => by omega))
  have hrow' : Row w2 (.slice ao1 a.length cap1) g1 a := by simpa using hrow
  have HR1 := hide (And.intro hrow' (show w.heap.size ≤ g1 by have := (unhide HF1).size; omega))
  clear hrow hrow' hfr hg
  go_wp2_with (at_builtin; refine wpList_append_row _ rfl (.tmp 30) (.tmp 31) 22 22 rfl 5 i0 Tryd.underlying22 hi hz0 hz1 hz2 (ao := ao1) (g := g1) (bs := a) (cap := cap1) rfl (unhide HR1).1 _ b rfl ?src2 ?fit2 ?next2)
  case src2 => exact src_slice Tryd.underlying22 _ bo cb b ((unhide HB).later (unhide HF2)).2.1
  case fit2 => omega
  intro ao2 cap2 w3 g2 hrow hfr hg
  have HF3 := hide ((unhide HF2).trans hfr (fun i hi t => by have := (unhide HR1).2; omega))
  have HR2 := hide (And.intro hrow (show w.heap.size ≤ g2 by have := (unhide HF2).size; have := (unhide HR1).2; omega))
  clear hrow hfr hg
  obtain ⟨ab, hab⟩ : ∃ l, a ++ b = l := ⟨_, rfl⟩
  have hlen : a.length + b.length = ab.length := by rw [← hab, List.length_append]
  rw [hab, hlen] at HR2
  rw [hlen]
  rw [hlen] at hs
  have HAB := hide hab
  clear hab hlen
  go_wp2_with (at_builtin; refine wpList_append_row _ rfl (.tmp 33) (.tmp 34) 22 22 rfl 5 i0 Tryd.underlying22 hi hz0 hz1 hz2 (ao := ao2) (g := g2) (bs := ab) (cap := cap2) rfl (unhide HR2).1 _ c rfl ?src3 ?fit3 ?next3)
  case src3 => exact src_slice Tryd.underlying22 _ co cc c ((unhide HC).later (unhide HF3)).2.1
  case fit3 => omega
  intro ao3 cap3 w4 g3 hrow hfr hg
  have HF4 := hide ((unhide HF3).trans hfr (fun i hi t => by have := (unhide HR2).2; omega))
  have HR3 := hide (hrow.bat (by rw [List.length_append]; omega)).2
  clear hrow hfr hg
  obtain ⟨abc, habc⟩ : ∃ l, ab ++ c = l := ⟨_, rfl⟩
  have hlen : ab.length + c.length = abc.length := by rw [← habc, List.length_append]
  rw [habc] at HR3
  rw [hlen]
  have E5 := hide (show sumF abc = moreF (moreF (sumF a) b) c by rw [← habc, ← unhide HAB]; exact unhide E2)
  clear habc hlen
  have HT4 := hide ((unhide HT).later (unhide HF4))
  have HA4 := hide ((unhide HA).later (unhide HF4))
  have HB4 := hide ((unhide HB).later (unhide HF4))
  have HC4 := hide ((unhide HC).later (unhide HF4))
  have HFX := HF4
  clear HF1 HF2 HF3 HF4 HR1 HR2 HT HA HB HC
  go_wp2_with fail
  refine (sum_any _ (unhide HT4) _ _ a (unhide HA4)).mono ?_
  rintro e w5 ⟨rfl, rfl⟩
  go_wp2_with fail
  refine (sum_any _ (unhide HT4) _ _ b (unhide HB4)).mono ?_
  rintro e w6 ⟨rfl, rfl⟩
  go_wp2_with fail
  refine (sum_any _ (unhide HT4) _ _ c (unhide HC4)).mono ?_
  rintro e w7 ⟨rfl, rfl⟩
  go_wp2_with fail
  refine (sum_any _ (unhide HT4) _ _ abc (unhide HR3)).mono ?_
  rw [unhide E5]
  rintro e w8 ⟨rfl, rfl⟩
  go_wp2_with fail
  refine (More_any _ (unhide HT4) _ _ _ b (unhide HB4)).mono ?_
  rw [moreV_nat hX]
  rintro e w9 ⟨rfl, rfl⟩
  go_wp2_with fail
  refine (More_any _ (unhide HT4) _ _ _ c (unhide HC4)).mono ?_
  rw [moreV_nat hM]
  rintro e w10 ⟨rfl, rfl⟩
  go_wp2_with fail
  refine (join_any _ (unhide HT4) _ _ b.length (by omega)).mono ?_
  rw [joinV_nat b.length hX hY, ← unhide E1]
  rintro e w11 ⟨rfl, hF⟩
  have HT5 := hide ((unhide HT4).later hF)
  have HF5 := hide ((unhide HFX).trans hF (fun _ _ t => t))
  clear hF HT4 HFX HA4 HB4 HC4 HR3
  go_wp2_with fail
  refine (join_any _ (unhide HT5) _ _ c.length (by omega)).mono ?_
  rw [joinV_nat c.length hM hZ, ← unhide E3]
  rintro e w12 ⟨rfl, hF⟩
  have HT6 := hide ((unhide HT5).later hF)
  have HF6 := hide ((unhide HF5).trans hF (fun _ _ t => t))
  clear hF HT5 HF5
  go_wp2_with fail
  refine (join_any _ (unhide HT6) _ _ c.length (by omega)).mono ?_
  rw [joinV_nat c.length hY hZ]
  rintro e w13 ⟨rfl, hF⟩
  have HT7 := hide ((unhide HT6).later hF)
  have HF7 := hide ((unhide HF6).trans hF (fun _ _ t => t))
  clear hF HT6 HF6
  go_wp2_with fail
  refine (join_any _ (unhide HT7) _ _ ((b.length : Int) + (c.length : Int)) (by omega)).mono ?_
  rw [← Int.natCast_add, joinV_nat (b.length + c.length) hX hJ, unhide E4, ← unhide E3]
  rintro e w14 ⟨rfl, hF⟩
  have HF8 := hide ((unhide HF7).trans hF (fun _ _ t => t))
  clear hF HT7 HF7
  go_wp2
  go_ret
  exact ⟨rfl, unhide HF8⟩

end Go.Proofs.YtgbaofdbdpopnaaDoor
