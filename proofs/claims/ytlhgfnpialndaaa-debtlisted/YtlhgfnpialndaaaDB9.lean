import Derived.Test.YtlhgfnpialndaaaDB8
/- The document's examples. -/
namespace Go.Proofs.Ytlhgfnpialndaaa
open Go.RowKit Go.Maps

abbrev tAw : ByteArray := ⟨#[97, 97, 97, 97, 97, 97, 97, 97]⟩
theorem getK_one (a : Ac) : getK [a] a.tok = a := by unfold getK atK; rw [if_pos (eqS_self _)]; rfl
theorem atK_one (a : Ac) : atK [a] a.tok = some a := by unfold atK; rw [if_pos (eqS_self _)]
theorem putK_one (a : Ac) (c d : Int) : putK [a] ⟨a.tok, c, d⟩ = [⟨a.tok, c, d⟩] := by
  unfold putK
  rw [lt_irr]
  rfl
theorem okAw (n : Int) (h : 0 ≤ n ∧ n ≤ 9007199254740992) : accountOk ⟨tAw, n, 0⟩ = true := by
  simp only [accountOk, Bool.and_eq_true, isIn_iff]
  exact ⟨⟨by decide, h⟩, by omega⟩
theorem kaw1 : setK [] tAw 500 = ([⟨tAw, 500, 0⟩], 500, 0, 0) := by
  unfold setK
  rw [okAw 500 (by omega)]
  rfl
theorem kaw2 : payK [⟨tAw, 500, 0⟩] tAw 200 = ([⟨tAw, 500, 200⟩], 0) := by
  have e : getK [⟨tAw, 500, 0⟩] tAw = ⟨tAw, 500, 0⟩ := getK_one _
  have p := putK_one ⟨tAw, 500, 0⟩ 500 200
  unfold payK
  rw [e, if_neg (by unfold owedA; simp)]
  exact congrArg (·, (0 : Int)) p
theorem kaw3 : listK [⟨tAw, 500, 200⟩] 299 = [tAw] := by
  have e : debtK [⟨tAw, 500, 200⟩] tAw = 300 := by unfold debtK; rw [show getK [⟨tAw, 500, 200⟩] tAw = ⟨tAw, 500, 200⟩ from getK_one _]; rfl
  unfold listK
  rw [List.map_cons, List.map_nil, List.filter_cons_of_pos (by show (!decide (debtK [⟨tAw, 500, 200⟩] tAw ≤ 299)) = true; rw [e]; rfl), List.filter_nil]
theorem kaw4 : setK [⟨tAw, 500, 200⟩] tAw 100 = ([⟨tAw, 100, 100⟩], -400, 100, 0) := by
  have e : getK [⟨tAw, 500, 200⟩] tAw = ⟨tAw, 500, 200⟩ := getK_one _
  have a : atK [⟨tAw, 500, 200⟩] tAw = some ⟨tAw, 500, 200⟩ := atK_one _
  have p := putK_one ⟨tAw, 500, 200⟩ 100 100
  unfold setK
  rw [okAw 100 (by omega), if_neg (by simp), a, if_neg (by simp), e]
  show (putK [⟨tAw, 500, 200⟩] ⟨tAw, 100, 100⟩, _, _, _) = _
  rw [p]
  rfl
theorem kaw5 : payK [⟨tAw, 100, 100⟩] tAw 1 = ([⟨tAw, 100, 100⟩], 220) := by
  have e : getK [⟨tAw, 100, 100⟩] tAw = ⟨tAw, 100, 100⟩ := getK_one _
  unfold payK
  rw [e, if_pos (by unfold owedA; simp)]
theorem kaw6 : debtK [⟨tAw, 100, 100⟩] tAw = 0 := by
  unfold debtK
  rw [show getK [⟨tAw, 100, 100⟩] tAw = ⟨tAw, 100, 100⟩ from getK_one _]
  rfl
theorem awSz : (tAw).size ≤ maxLen := by simp only [maxLen]; decide

set_option maxRecDepth 20000 in
theorem awakeK_any (w : World) : Calls Try.prog 7 #[] w fun e w' => e = .returned (.bool true) ∧ Fr (fun _ => False) w w' := by
  have HN := hide (bnew_any w)
  go_enter Try.func7, Try.ntmps7
  go_wp2_with fail
  refine (unhide HN).mono ?_
  rintro e w1 ⟨p, b, rfl, hbm, hf, hp, hb⟩
  have HB := hide hbm
  have HPB : Hid (w.heap.size ≤ p ∧ w.heap.size ≤ b) := hide ⟨hp, hb⟩
  have HF := hide hf
  clear hbm hf hp hb HN
  go_wp2_with fail
  have H1 := bset_any (unhide HB) awSz 500
  rw [kaw1] at H1
  refine H1.mono ?_
  rintro e w2 ⟨rfl, hbm, hf⟩
  clear H1
  have HB2 := hide hbm
  have HF2 : Hid (Fr (fun _ => False) w w2) := hide ((unhide HF).trans hf (fun i hi t => by have := (unhide HPB).2; omega))
  clear hbm hf HB HF
  go_wp2_with fail
  have H1 := bpay_any (unhide HB2) awSz 200
  rw [kaw2] at H1
  refine H1.mono ?_
  rintro e w3 ⟨rfl, hbm, hf⟩
  clear H1
  have HB3 := hide hbm
  have HF3 : Hid (Fr (fun _ => False) w w3) := hide ((unhide HF2).trans hf (fun i hi t => by have := (unhide HPB).2; omega))
  clear hbm hf HB2 HF2
  go_wp2_with fail
  have H1 := blisted_any (unhide HB3) 299
  rw [kaw3] at H1
  refine H1.mono ?_
  rintro e w4 ⟨ao, cap, g, rfl, _, _, hf⟩
  clear H1
  have HB4 := hide ((unhide HB3).keep hf)
  have HF4 : Hid (Fr (fun _ => False) w w4) := hide ((unhide HF3).trans hf (fun _ _ t => t))
  clear hf HB3 HF3
  go_wp2_with fail
  have H1 := bset_any (unhide HB4) awSz 100
  rw [kaw4] at H1
  refine H1.mono ?_
  rintro e w5 ⟨rfl, hbm, hf⟩
  clear H1
  have HB5 := hide hbm
  have HF5 : Hid (Fr (fun _ => False) w w5) := hide ((unhide HF4).trans hf (fun i hi t => by have := (unhide HPB).2; omega))
  clear hbm hf HB4 HF4
  go_wp2_with fail
  have H1 := bpay_any (unhide HB5) awSz 1
  rw [kaw5] at H1
  refine H1.mono ?_
  rintro e w6 ⟨rfl, hbm, hf⟩
  clear H1
  have HB6 := hide hbm
  have HF6 : Hid (Fr (fun _ => False) w w6) := hide ((unhide HF5).trans hf (fun i hi t => by have := (unhide HPB).2; omega))
  clear hbm hf HB5 HF5
  go_wp2_with fail
  have H1 := bdebt_any (unhide HB6) awSz
  rw [kaw6] at H1
  refine H1.mono ?_
  rintro e w7 ⟨rfl, hf⟩
  clear H1
  have HF7 : Hid (Fr (fun _ => False) w w7) := hide ((unhide HF6).trans hf (fun _ _ t => t))
  clear hf HB6 HF6
  go_wp2
  go_ret
  exact ⟨rfl, unhide HF7⟩
end Go.Proofs.Ytlhgfnpialndaaa

