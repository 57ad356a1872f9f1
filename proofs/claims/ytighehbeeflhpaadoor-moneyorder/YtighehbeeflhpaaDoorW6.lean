/- All floats stand in one order, the document's; rates stand from 0 to 1 (the walk of MoneyOrder). -/
import Derived.Test.YtighehbeeflhpaaDoorS6
import Derived.Test.YtighehbeeflhpaaDoorR5
namespace Go.Proofs.YtighehbeeflhpaaDoor
open Go.RowKit

theorem cmp_three (a b : Nat) : cmpN a b = -1 ∨ cmpN a b = 0 ∨ cmpN a b = 1 := by
  unfold cmpN
  repeat' split
  · exact .inl rfl
  · exact .inr (.inr rfl)
  · exact .inr (.inl rfl)

theorem cmp_trans (a b c : Nat) : cmpN a b ≤ 0 → cmpN b c ≤ 0 → cmpN a c ≤ 0 ∧ (cmpN a c = 0 → cmpN a b = 0 ∧ cmpN b c = 0) := by
  unfold cmpN
  repeat' split
  all_goals omega

set_option maxRecDepth 100000 in
set_option maxHeartbeats 4000000 in
theorem order_walk (w : World) (hT : Pow w) (a b c : Nat) (ha : a < 18446744073709551616) (hb : b < 18446744073709551616) (hc : c < 18446744073709551616) :
    Calls Tryd.prog 6 #[.float .f64 a, .float .f64 b, .float .f64 c] w fun e w' => e = .returned (.bool true) ∧ Fr (fun _ => False) w w' := by
  have R0 := awake_any w hT
  have R1 := fun w => order_any w a b ha hb
  have R2 := fun w => order_any w b c hb hc
  have R3 := fun w => order_any w a c ha hc
  have R4 := fun w => order_any w b a hb ha
  have R5 := fun w => rorder_any w a b ha hb
  have R6 := fun w => rate_any w a
  have R7 := fun w => order_any w a 0 ha (by decide)
  have R8 := fun w => order_any w a 4607182418800017408 ha (by decide)
  have hba : ordN b a = - ordN a b := cmpN_neg _ _
  have x3 := cmp_three (rankN a) (rankN b)
  have y3 := cmp_three (rankN b) (rankN c)
  have z3 := cmp_three (rankN a) (rankN c)
  have htr := cmp_trans (rankN a) (rankN b) (rankN c)
  have hri : rate a = (decide (0 ≤ ordN a 0) && decide (ordN a 4607182418800017408 ≤ 0)) := by
    rw [Bool.eq_iff_iff]
    have := rate_iff ha
    simpa [rate] using this
  rw [hba] at R4
  simp only [hri] at R6
  change ordN a b = -1 ∨ _ at x3
  change ordN b c = -1 ∨ _ at y3
  change ordN a c = -1 ∨ _ at z3
  change ordN a b ≤ 0 → ordN b c ≤ 0 → ordN a c ≤ 0 ∧ (ordN a c = 0 → ordN a b = 0 ∧ ordN b c = 0) at htr
  change _ ∨ ordN a b = 0 ∨ ordN a b = 1 at x3
  change _ ∨ ordN b c = 0 ∨ ordN b c = 1 at y3
  change _ ∨ ordN a c = 0 ∨ ordN a c = 1 at z3
  generalize ordN a 0 = lo at *
  generalize ordN a 4607182418800017408 = hi at *
  generalize ordN a b = x at *
  generalize ordN b c = y at *
  generalize ordN a c = z at *
  clear hba hri hT
  have tail : ∀ (P : Prop), P → P := fun _ h => h
  rcases x3 with rfl | rfl | rfl <;> rcases y3 with rfl | rfl | rfl <;> rcases z3 with rfl | rfl | rfl
  all_goals first
    | (exfalso; omega)
    | (clear htr
       go_enter Tryd.func6, Tryd.ntmps6
       go_wp2_with fail
       refine R0.mono ?_
       rintro e w1 ⟨rfl, hF⟩
       have HF := hide hF
       clear R0 hF
       go_wp2_with fail
       refine (R1 w1).mono ?_
       rintro e w1 ⟨rfl, rfl⟩
       go_wp2_with fail
       refine (R2 w1).mono ?_
       rintro e w1 ⟨rfl, rfl⟩
       go_wp2_with fail
       refine (R3 w1).mono ?_
       rintro e w1 ⟨rfl, rfl⟩
       go_wp2_with fail
       refine (R4 w1).mono ?_
       rintro e w1 ⟨rfl, rfl⟩
       go_wp2_with fail
       refine (R5 w1).mono ?_
       rintro e w1 ⟨rfl, rfl⟩
       go_wp2_with fail
       refine (R6 w1).mono ?_
       rintro e w1 ⟨rfl, rfl⟩
       go_wp2_with fail
       refine (R7 w1).mono ?_
       rintro e w1 ⟨rfl, rfl⟩
       go_wp2_with fail
       refine (R8 w1).mono ?_
       rintro e w1 ⟨rfl, rfl⟩
       by_cases hlo : 0 ≤ lo
       · by_cases hhi : hi ≤ 0
         · go_wp2
           go_ret
           exact ⟨rfl, unhide HF⟩
         · go_wp2
           go_ret
           exact ⟨rfl, unhide HF⟩
       · go_wp2
         go_ret
         exact ⟨rfl, unhide HF⟩)

end Go.Proofs.YtighehbeeflhpaaDoor
