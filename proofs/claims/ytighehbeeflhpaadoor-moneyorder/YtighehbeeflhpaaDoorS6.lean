/- The law's own examples (awake). -/
import Derived.Test.YtighehbeeflhpaaDoorS5
namespace Go.Proofs.YtighehbeeflhpaaDoor
open Go.RowKit

theorem parsed_text (n : Int) (h : right n = true) : parsed (text n) = some n := by
  unfold parsed
  rw [cand_text, h]
  simp

theorem parsed_not (n : Int) (h : right n = false) : parsed (text n) = none := by
  unfold parsed
  rw [cand_text, h]
  simp

theorem text_m5 : text (-5) = [45, 48, 46, 48, 53] := by
  unfold text textU
  rw [if_pos (by decide), show ((-5 : Int).natAbs / 100) = 0 by decide, Lib.decDigits_one (by decide)]
  decide

theorem text_1234 : text 1234 = [49, 50, 46, 51, 52] := by
  unfold text textU
  rw [if_neg (by decide), show ((1234 : Int).natAbs / 100) = 12 by decide, Lib.decDigits_two (by decide) (by decide)]
  decide

set_option maxRecDepth 100000 in
theorem awake_any (w : World) (hT : Pow w) : Calls Tryd.prog 9 #[] w fun e w' => e = .returned (.bool true) ∧ Fr (fun _ => False) w w' := by
  have HT := hide hT
  clear hT
  have r1 : rv (scaled 251 4602678819172646912) = 126 := by decide
  have r2 : scaleE 251 4602678819172646912 = 0 := by decide
  have r3 : re 50 (tot 0 [9007199254740992, 1]) = 50 := by decide
  have r4 : splitL 10 3 = [4, 3, 3] := by decide
  have r5 : splitE 10 3 = 0 := by decide
  have r6 : parsed [45, 48, 46, 48, 53] = some (-5) := by rw [← text_m5]; exact parsed_text _ (by decide)
  have R1 := scale_any w 251 4602678819172646912 (by decide)
  rw [r1, r2] at R1
  have R7 := fun w => rate_any w 4602678819172646912
  have r7 : rate 4602678819172646912 = true := by decide
  have R8 := fun w => text_small w 1234 (by decide)
  rw [text_1234] at R8
  simp only [r7] at R7
  have HR := hide (And.intro r3 (And.intro r4 (And.intro r5 r6)))
  clear r1 r2 r3 r4 r5 r6 r7
  go_enter Tryd.func9, Tryd.ntmps9
  go_wp2_with fail
  refine R1.mono ?_
  rintro e w1 ⟨rfl, rfl⟩
  go_wp2_with fail
  refine (add_any w1 9007199254740992 1).mono ?_
  rintro e w2 ⟨rfl, hF2⟩
  have HF2 := hide hF2
  rw [(unhide HR).1]
  generalize rv (tot 0 [9007199254740992, 1]) = x
  clear hF2
  go_wp2_with fail
  refine (split_any w2 10 3).mono ?_
  rintro e w3 ⟨ao, cap, g, rfl, hV, hg, hF3⟩
  rw [(unhide HR).2.1] at hV ⊢
  rw [(unhide HR).2.2.1]
  have HF3 := hide ((unhide HF2).trans hF3 (fun _ _ t => t))
  have hcap : 0 < cap := by have := hV.le; simp [intsV] at this; omega
  obtain rfl := hV.ad hcap
  have cg : w3.cell? ⟨g, 0, none⟩ = some (.int .i64 4) := hV.cells 0 (by simp [intsV])
  have hlt := hV.lt hcap
  have HC := hide (And.intro cg hlt)
  clear hF3 hV hcap hg cg hlt
  go_wp2_with fail
  refine (parse_any w3 [45, 48, 46, 48, 53] (by decide) (tab_frame (unhide HT) (unhide HF3))).mono ?_
  rintro e w4 ⟨rfl, hF4⟩
  rw [(unhide HR).2.2.2]
  have cg := (hF4.cell (a := ⟨g, 0, none⟩) (unhide HC).2 (fun t => t)).trans (unhide HC).1
  have HF4 := hide ((unhide HF3).trans hF4 (fun _ _ t => t))
  clear hF4 HC HF3 HF2 HT
  have v1 : rv (some (-5)) = -5 := rfl
  have v2 : re 1 (some (-5)) = 0 := rfl
  rw [v1, v2]
  clear v1 v2
  go_wp2_with fail
  refine (R8 w4).mono ?_
  rintro e w5 ⟨rfl, rfl⟩
  go_wp2_with fail
  refine (R7 w5).mono ?_
  rintro e w6 ⟨rfl, rfl⟩
  go_wp2
  go_ret
  exact ⟨rfl, unhide HF4⟩

end Go.Proofs.YtighehbeeflhpaaDoor
