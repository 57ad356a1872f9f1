/- What was written is read; an amount has one text alone (the walk of MoneyBack). -/
import Derived.Test.YtighehbeeflhpabDoorS6
namespace Go.Proofs.YtighehbeeflhpabDoor
open Go.RowKit

theorem parsed_cases (s : List UInt8) : parsed s = none ∨ ∃ c, parsed s = some c ∧ right c = true ∧ text c = s := by
  unfold parsed
  by_cases h : (right (cand s) && decide (text (cand s) = s)) = true
  · rw [if_pos h]
    simp only [Bool.and_eq_true, decide_eq_true_eq] at h
    exact .inr ⟨_, rfl, h.1, h.2⟩
  · rw [if_neg h]
    exact .inl rfl

set_option maxRecDepth 100000 in
theorem back_walk (w : World) (hT : Pow w) (n : Int) (hn : -9223372036854775808 ≤ n ∧ n ≤ 9223372036854775807) (s : List UInt8) (hl : s.length ≤ 140737488355328) :
    Calls Tryd.prog 3 #[.int .i64 n, .string ⟨s.toArray⟩] w fun e w' => e = .returned (.bool true) ∧ Fr (fun _ => False) w w' := by
  have R0 := awake_any w hT
  have htl : (text n).length ≤ 140737488355328 := by
    unfold text textU
    have := dec_len (n.natAbs / 100) (by omega)
    split <;> simp <;> omega
  have H1 := hide (fun (w' : World) (hf : Fr (fun _ => False) w w') => text_any w' n hn.1 hn.2 (tab_frame hT hf))
  have H2 := hide (fun (w' : World) (hf : Fr (fun _ => False) w w') => parse_any w' (text n) htl (tab_frame hT hf))
  have R3 := fun w => right_any w n
  have H4 := hide (fun (w' : World) (hf : Fr (fun _ => False) w w') => parse_any w' s hl (tab_frame hT hf))
  have H5 := hide (fun (c : Int) (hc : right c = true) (w' : World) (hf : Fr (fun _ => False) w w') => text_any w' c (by have := (right_iff c).1 hc; omega) (by have := (right_iff c).1 hc; omega) (tab_frame hT hf))
  have hpt : (right n = true ∧ parsed (text n) = some n) ∨ (right n = false ∧ parsed (text n) = none) := by
    cases hr : right n with
    | true => exact .inl ⟨rfl, parsed_text n hr⟩
    | false => exact .inr ⟨rfl, parsed_not n hr⟩
  have hps := parsed_cases s
  generalize text n = T at *
  generalize right n = rn at *
  generalize parsed T = pT at *
  generalize parsed s = ps at *
  clear hT hn htl
  go_enter Tryd.func3, Tryd.ntmps3
  go_wp2_with fail
  refine R0.mono ?_
  rintro e w1 ⟨rfl, hF1⟩
  have HF1 := hide hF1
  clear R0 hF1
  go_wp2_with fail
  refine (unhide H1 w1 (unhide HF1)).mono ?_
  rintro e w2 ⟨rfl, hF2⟩
  have HF2 := hide ((unhide HF1).trans hF2 (fun _ _ t => t))
  clear hF2 HF1
  go_wp2_with fail
  refine (unhide H2 w2 (unhide HF2)).mono ?_
  rintro e w3 ⟨rfl, hF3⟩
  have HF3 := hide ((unhide HF2).trans hF3 (fun _ _ t => t))
  clear hF3 HF2
  go_wp2_with fail
  refine (R3 w3).mono ?_
  rintro e w3 ⟨rfl, rfl⟩
  go_wp2_with fail
  refine (unhide H4 w3 (unhide HF3)).mono ?_
  rintro e w4 ⟨rfl, hF4⟩
  have HF4 := hide ((unhide HF3).trans hF4 (fun _ _ t => t))
  clear hF4 HF3 R3
  rcases hps with rfl | ⟨c, rfl, hc, htc⟩
  · rcases hpt with ⟨rfl, rfl⟩ | ⟨rfl, rfl⟩
    · have v1 : rv (some n) = n := rfl
      have v2 : re 1 (some n) = 0 := rfl
      have v3 : rv none = 0 := rfl
      have v4 : re 1 none = 1 := rfl
      rw [v1, v2, v3, v4]
      clear v1 v2 v3 v4
      go_wp2
      go_ret
      exact ⟨rfl, unhide HF4⟩
    · have v3 : rv none = 0 := rfl
      have v4 : re 1 none = 1 := rfl
      rw [v3, v4]
      clear v3 v4
      go_wp2
      go_ret
      exact ⟨rfl, unhide HF4⟩
  · have R5 := unhide H5 c hc w4 (unhide HF4)
    rw [htc] at R5
    clear hc htc H1 H2 H4 H5
    have v3 : rv (some c) = c := rfl
    have v4 : re 1 (some c) = 0 := rfl
    rcases hpt with ⟨rfl, rfl⟩ | ⟨rfl, rfl⟩
    · have v1 : rv (some n) = n := rfl
      have v2 : re 1 (some n) = 0 := rfl
      rw [v1, v2, v3, v4]
      clear v1 v2 v3 v4
      go_wp2_with fail
      refine R5.mono ?_
      rintro e w5 ⟨rfl, hF5⟩
      have HF5 := hide ((unhide HF4).trans hF5 (fun _ _ t => t))
      clear hF5 R5
      go_wp2
      go_ret
      exact ⟨rfl, unhide HF5⟩
    · have v1 : rv none = 0 := rfl
      have v2 : re 1 none = 1 := rfl
      rw [v1, v2, v3, v4]
      clear v1 v2 v3 v4
      go_wp2_with fail
      refine R5.mono ?_
      rintro e w5 ⟨rfl, hF5⟩
      have HF5 := hide ((unhide HF4).trans hF5 (fun _ _ t => t))
      clear hF5 R5
      go_wp2
      go_ret
      exact ⟨rfl, unhide HF5⟩

end Go.Proofs.YtighehbeeflhpabDoor
