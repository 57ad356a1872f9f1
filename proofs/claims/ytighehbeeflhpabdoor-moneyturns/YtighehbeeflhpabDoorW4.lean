/- Sums don't hang on the order; a difference added again is what there was (the walk of MoneyTurns). -/
import Derived.Test.YtighehbeeflhpabDoorS6
namespace Go.Proofs.YtighehbeeflhpabDoor
open Go.RowKit

theorem tot_three (a b c : Int) : tot 0 [a, b, c] = none ∨ tot 0 [a, b, c] = some (a + b + c) := by
  simp only [tot]
  repeat' split
  · exact .inr (by rw [Int.zero_add])
  all_goals exact .inl rfl

theorem dif_cases (a b : Int) : dif a b = none ∨ (dif a b = some (a - b) ∧ tot 0 [a - b, b] = some a) := by
  unfold dif
  by_cases hb : right b = true
  · rw [if_pos hb]
    simp only [tot]
    by_cases h1 : (right a && right (0 + a)) = true
    · rw [if_pos h1]
      by_cases h2 : (right (-b) && right (0 + a + -b)) = true
      · rw [if_pos h2]
        refine .inr ⟨by congr 1; omega, ?_⟩
        simp only [Bool.and_eq_true] at h1 h2
        have e1 : right (a - b) = true := by have := h2.2; rwa [show 0 + a + -b = a - b by omega] at this
        rw [show (0 : Int) + (a - b) = a - b by omega, show a - b + b = a by omega, e1, hb, h1.1]
        rfl
      · rw [if_neg h2]; exact .inl rfl
    · rw [if_neg h1]; exact .inl rfl
  · rw [if_neg hb]; exact .inl rfl

theorem iat_three (w : World) (a b c : Int) (t : TypeId) : IAt (w.alloc (.cells #[.int .i64 a, .int .i64 b, .int .i64 c] t)) (some ⟨w.heap.size, 0, none⟩) [a, b, c] := by
  intro _
  refine ⟨_, _, rfl, fun j hj => ?_⟩
  rw [World.cell?_alloc_new]
  match j, hj with
  | 0, _ => rfl
  | 1, _ => rfl
  | 2, _ => rfl
  | n + 3, h => exact absurd h (by simp only [List.length_cons, List.length_nil]; omega)

set_option maxRecDepth 100000 in
theorem turns_walk (w : World) (hT : Pow w) (a b c : Int) (hb0 : -9223372036854775808 ≤ b) (hb1 : b ≤ 9223372036854775807) :
    Calls Tryd.prog 4 #[.int .i64 a, .int .i64 b, .int .i64 c] w fun e w' => e = .returned (.bool true) ∧ Fr (fun _ => False) w w' := by
  have R0 := awake_any w hT
  have H1 := hide (fun w : World => sum_any (w.alloc (.cells #[.int .i64 a, .int .i64 b, .int .i64 c] 3)) (some ⟨w.heap.size, 0, none⟩) 3 [a, b, c] (iat_three w a b c 3) (by simp))
  have H2 := hide (fun w : World => sum_any (w.alloc (.cells #[.int .i64 c, .int .i64 a, .int .i64 b] 3)) (some ⟨w.heap.size, 0, none⟩) 3 [c, a, b] (iat_three w c a b 3) (by simp))
  have R3 := fun w => sub_any w a b hb0 hb1
  have R4 := fun w => add_any w (a - b) b
  have hx : (re 50 (tot 0 [a, b, c]) = 50) ∨ (re 50 (tot 0 [c, a, b]) = 50) ∨ (re 50 (tot 0 [a, b, c]) = 0 ∧ re 50 (tot 0 [c, a, b]) = 0 ∧ rv (tot 0 [a, b, c]) = rv (tot 0 [c, a, b])) := by
    rcases tot_three a b c with e | e
    · exact .inl (by rw [e]; rfl)
    · rcases tot_three c a b with f | f
      · exact .inr (.inl (by rw [f]; rfl))
      · refine .inr (.inr ⟨by rw [e]; rfl, by rw [f]; rfl, ?_⟩)
        rw [e, f]
        show a + b + c = c + a + b
        omega
  have hx2 : re 50 (tot 0 [c, a, b]) = 0 ∨ re 50 (tot 0 [c, a, b]) = 50 := by
    rcases tot_three c a b with f | f
    · exact .inr (by rw [f]; rfl)
    · exact .inl (by rw [f]; rfl)
  have hx1 : re 50 (tot 0 [a, b, c]) = 0 ∨ re 50 (tot 0 [a, b, c]) = 50 := by
    rcases tot_three a b c with f | f
    · exact .inr (by rw [f]; rfl)
    · exact .inl (by rw [f]; rfl)
  have hd := dif_cases a b
  generalize rv (tot 0 [a, b, c]) = x at *
  generalize re 50 (tot 0 [a, b, c]) = e1 at *
  generalize rv (tot 0 [c, a, b]) = y at *
  generalize re 50 (tot 0 [c, a, b]) = f1 at *
  generalize tot 0 [a - b, b] = z at *
  generalize dif a b = u at *
  clear hT
  go_enter Tryd.func4, Tryd.ntmps4
  go_wp2_with fail
  refine R0.mono ?_
  rintro e w1 ⟨rfl, hF1⟩
  have HF1 := hide hF1
  clear R0 hF1
  go_wp2_with fail
  refine (unhide H1 w1).mono ?_
  rintro e w2 ⟨rfl, rfl⟩
  have HF2 := hide ((unhide HF1).alloc (.cells #[.int .i64 a, .int .i64 b, .int .i64 c] 3))
  generalize w1.alloc (.cells #[.int .i64 a, .int .i64 b, .int .i64 c] 3) = w2 at *
  clear HF1
  go_wp2_with fail
  refine (unhide H2 w2).mono ?_
  rintro e w3 ⟨rfl, rfl⟩
  have HF3 := hide ((unhide HF2).alloc (.cells #[.int .i64 c, .int .i64 a, .int .i64 b] 3))
  generalize w2.alloc (.cells #[.int .i64 c, .int .i64 a, .int .i64 b] 3) = w3 at *
  clear HF2 H1 H2
  have tail : ∀ (P : Prop), P → P := fun _ h => h
  rcases hx with rfl | rfl | ⟨rfl, rfl, rfl⟩
  · rcases hd with rfl | ⟨rfl, rfl⟩
    · go_wp2_with fail
      refine (R3 w3).mono ?_
      rintro e w4 ⟨rfl, hF4⟩
      have HF4 := hide ((unhide HF3).trans hF4 (fun _ _ t => t))
      have v1 : rv none = 0 := rfl
      have v2 : re 50 none = 50 := rfl
      rw [v1, v2]
      clear v1 v2 hF4
      go_wp2
      go_ret
      exact ⟨rfl, unhide HF4⟩
    · go_wp2_with fail
      refine (R3 w3).mono ?_
      rintro e w4 ⟨rfl, hF4⟩
      have HF4 := hide ((unhide HF3).trans hF4 (fun _ _ t => t))
      have v1 : rv (some (a - b)) = a - b := rfl
      have v2 : re 50 (some (a - b)) = 0 := rfl
      rw [v1, v2]
      clear v1 v2 hF4
      go_wp2_with fail
      refine (R4 w4).mono ?_
      rintro e w5 ⟨rfl, hF5⟩
      have HF5 := hide ((unhide HF4).trans hF5 (fun _ _ t => t))
      have v1 : rv (some a) = a := rfl
      have v2 : re 50 (some a) = 0 := rfl
      rw [v1, v2]
      clear v1 v2 hF5
      go_wp2
      go_ret
      exact ⟨rfl, unhide HF5⟩
  · rcases hx1 with rfl | rfl <;> rcases hd with rfl | ⟨rfl, rfl⟩
    all_goals
      go_wp2_with fail
      refine (R3 w3).mono ?_
      rintro e w4 ⟨rfl, hF4⟩
      have HF4 := hide ((unhide HF3).trans hF4 (fun _ _ t => t))
      have v1 : rv none = 0 := rfl
      have v2 : re 50 none = 50 := rfl
      have v3 : rv (some (a - b)) = a - b := rfl
      have v4 : re 50 (some (a - b)) = 0 := rfl
      first
        | rw [v1, v2]
        | rw [v3, v4]
      clear v1 v2 v3 v4 hF4
      first
        | (go_wp2
           go_ret
           exact ⟨rfl, unhide HF4⟩)
        | (go_wp2_with fail
           refine (R4 w4).mono ?_
           rintro e w5 ⟨rfl, hF5⟩
           have HF5 := hide ((unhide HF4).trans hF5 (fun _ _ t => t))
           have v1 : rv (some a) = a := rfl
           have v2 : re 50 (some a) = 0 := rfl
           rw [v1, v2]
           clear v1 v2 hF5
           go_wp2
           go_ret
           exact ⟨rfl, unhide HF5⟩)
  · rcases hd with rfl | ⟨rfl, rfl⟩
    · go_wp2_with fail
      refine (R3 w3).mono ?_
      rintro e w4 ⟨rfl, hF4⟩
      have HF4 := hide ((unhide HF3).trans hF4 (fun _ _ t => t))
      have v1 : rv none = 0 := rfl
      have v2 : re 50 none = 50 := rfl
      rw [v1, v2]
      clear v1 v2 hF4
      go_wp2
      go_ret
      exact ⟨rfl, unhide HF4⟩
    · go_wp2_with fail
      refine (R3 w3).mono ?_
      rintro e w4 ⟨rfl, hF4⟩
      have HF4 := hide ((unhide HF3).trans hF4 (fun _ _ t => t))
      have v1 : rv (some (a - b)) = a - b := rfl
      have v2 : re 50 (some (a - b)) = 0 := rfl
      rw [v1, v2]
      clear v1 v2 hF4
      go_wp2_with fail
      refine (R4 w4).mono ?_
      rintro e w5 ⟨rfl, hF5⟩
      have HF5 := hide ((unhide HF4).trans hF5 (fun _ _ t => t))
      have v1 : rv (some a) = a := rfl
      have v2 : re 50 (some a) = 0 := rfl
      rw [v1, v2]
      clear v1 v2 hF5
      go_wp2
      go_ret
      exact ⟨rfl, unhide HF5⟩

end Go.Proofs.YtighehbeeflhpabDoor
