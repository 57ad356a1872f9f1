/- The document's sums: Right, Add, Sub, Sum. -/
import Derived.Test.YtighehbeeflhpaaDoorS1
namespace Go.Proofs.YtighehbeeflhpaaDoor
open Go.RowKit

theorem rright_any (w : World) (n : Int) : Calls Tryd.prog 17 #[.int .i64 n] w fun e w' => e = .returned (.bool (right n)) ∧ w' = w := by
  by_cases h1 : -9007199254740992 ≤ n
  · by_cases h2 : n ≤ 9007199254740992
    · have hr : right n = true := (right_iff n).2 ⟨h1, h2⟩
      go_enter Tryd.func17, Tryd.ntmps17
      go_wp2
      go_ret
      exact ⟨by first | rfl | (rw [hr]; rfl), rfl⟩
    · have hr : right n = false := (right_not n).2 (fun h => h2 h.2)
      go_enter Tryd.func17, Tryd.ntmps17
      go_wp2
      go_ret
      exact ⟨by first | rfl | (rw [hr]; rfl), rfl⟩
  · have hr : right n = false := (right_not n).2 (fun h => h1 h.1)
    go_enter Tryd.func17, Tryd.ntmps17
    go_wp2
    go_ret
    exact ⟨by first | rfl | (rw [hr]; rfl), rfl⟩

/-- What the document's Add answers. -/
def radd (a b : Int) : Option Int := if right a && right b && right (a + b) then some (a + b) else none

theorem tot_two (a b : Int) : tot 0 [a, b] = radd a b := by
  unfold radd
  simp only [tot, Int.zero_add]
  cases right a <;> cases right b <;> cases right (a + b) <;> rfl

theorem radd_any (w : World) (a b : Int) : Calls Tryd.prog 14 #[.int .i64 a, .int .i64 b] w fun e w' => e = .returned (.tuple #[.int .i64 (rv (radd a b)), .int .i64 (re 50 (radd a b))]) ∧ w' = w := by
  have R1 := rright_any w a
  have R2 := rright_any w b
  have R3 := rright_any w (a + b)
  by_cases h1 : right a = true
  · have b1 := (right_iff a).1 h1
    by_cases h2 : right b = true
    · have b2 := (right_iff b).1 h2
      by_cases h3 : right (a + b) = true
      · have e : radd a b = some (a + b) := by simp [radd, h1, h2, h3]
        rw [e]
        rw [h1] at R1
        rw [h2] at R2
        rw [h3] at R3
        clear e h1 h2 h3
        go_enter Tryd.func14, Tryd.ntmps14
        go_wp2_with fail
        refine R1.mono ?_
        rintro e w1 ⟨rfl, rfl⟩
        go_wp2_with fail
        refine R2.mono ?_
        rintro e w1 ⟨rfl, rfl⟩
        go_wp2_with fail
        refine R3.mono ?_
        rintro e w1 ⟨rfl, rfl⟩
        go_wp2
        go_ret2
        exact ⟨rfl, rfl⟩
      · have h3' : right (a + b) = false := by simpa using h3
        have e : radd a b = none := by simp [radd, h3']
        rw [e]
        rw [h1] at R1
        rw [h2] at R2
        rw [h3'] at R3
        clear e h1 h2 h3 h3'
        go_enter Tryd.func14, Tryd.ntmps14
        go_wp2_with fail
        refine R1.mono ?_
        rintro e w1 ⟨rfl, rfl⟩
        go_wp2_with fail
        refine R2.mono ?_
        rintro e w1 ⟨rfl, rfl⟩
        go_wp2_with fail
        refine R3.mono ?_
        rintro e w1 ⟨rfl, rfl⟩
        go_wp2
        go_ret2
        exact ⟨rfl, rfl⟩
    · have h2' : right b = false := by simpa using h2
      have e : radd a b = none := by simp [radd, h2']
      rw [e]
      rw [h1] at R1
      rw [h2'] at R2
      clear e h1 h2 h2' R3
      go_enter Tryd.func14, Tryd.ntmps14
      go_wp2_with fail
      refine R1.mono ?_
      rintro e w1 ⟨rfl, rfl⟩
      go_wp2_with fail
      refine R2.mono ?_
      rintro e w1 ⟨rfl, rfl⟩
      go_wp2
      go_ret2
      exact ⟨rfl, rfl⟩
  · have h1' : right a = false := by simpa using h1
    have e : radd a b = none := by simp [radd, h1']
    rw [e]
    rw [h1'] at R1
    clear e h1 h1' R3
    go_enter Tryd.func14, Tryd.ntmps14
    go_wp2_with fail
    refine R1.mono ?_
    rintro e w1 ⟨rfl, rfl⟩
    go_wp2_with fail
    refine R2.mono ?_
    rintro e w1 ⟨rfl, rfl⟩
    go_wp2
    go_ret2
    exact ⟨rfl, rfl⟩

theorem rsub_any (w : World) (a b : Int) (hb0 : -9223372036854775808 ≤ b) (hb1 : b ≤ 9223372036854775807) : Calls Tryd.prog 15 #[.int .i64 a, .int .i64 b] w fun e w' => e = .returned (.tuple #[.int .i64 (rv (dif a b)), .int .i64 (re 50 (dif a b))]) ∧ w' = w := by
  have R := rright_any w b
  by_cases hb : right b = true
  · have hbb := (right_iff b).1 hb
    have e : dif a b = radd a (-b) := by simp [dif, hb, tot_two]
    rw [e]
    rw [hb] at R
    have HT := hide (radd_any w a (-b))
    generalize radd a (-b) = T at HT ⊢
    clear e hb
    go_enter Tryd.func15, Tryd.ntmps15
    go_wp2_with fail
    refine R.mono ?_
    rintro e w1 ⟨rfl, rfl⟩
    go_wp2_with fail
    refine (unhide HT).mono ?_
    rintro e w' ⟨rfl, rfl⟩
    go_wp2
    go_ret2
    exact ⟨rfl, rfl⟩
  · have hb' : right b = false := by simpa using hb
    have e : dif a b = none := by simp [dif, hb']
    rw [e]
    rw [hb'] at R
    clear e hb hb'
    go_enter Tryd.func15, Tryd.ntmps15
    go_wp2_with fail
    refine R.mono ?_
    rintro e w1 ⟨rfl, rfl⟩
    go_wp2
    go_ret2
    exact ⟨rfl, rfl⟩

theorem rsum_any (w : World) (ao : Option Addr) (cap : Nat) (l : List Int) (h : IAt w ao l) (hl : l.length ≤ 140737488355328) :
    Calls Tryd.prog 16 #[.slice ao l.length cap] w fun e w' => e = .returned (.tuple #[.int .i64 (rv (tot 0 l)), .int .i64 (re 50 (tot 0 l))]) ∧ w' = w := by
  have H := hide h
  clear h
  go_enter Tryd.func16, Tryd.ntmps16
  go_wp2
  go_loopw [4, 5, 6, 7] (fun sv iv _ _ wr => ∃ (i : Nat) (s : Int), i ≤ l.length ∧ iv = .int .i64 i ∧ sv = .int .i64 s ∧ wr = w ∧ Hid (right s = true ∧ tot s (l.drop i) = tot 0 l)) (fun _ iv _ _ _ => l.length - (intOf iv).toNat)
  case atStart => exact ⟨0, 0, Nat.zero_le _, rfl, rfl, rfl, by simp [right], by simp⟩
  case round =>
    obtain ⟨i, s, hi, rfl, rfl, rfl, HI⟩ := hrel
    by_cases hlt : i < l.length
    · obtain ⟨b, off, rfl, hc⟩ := unhide H (by omega)
      have ci := hc i hlt
      have hd : l.drop i = l[i] :: l.drop (i + 1) := List.drop_eq_getElem_cons hlt
      have hs := (unhide HI).1
      have ht := (unhide HI).2
      rw [hd] at ht
      generalize l[i] = x at ci ht
      clear hc hd HI H
      have R := radd_any wr s x
      by_cases hx : (right x && right (s + x)) = true
      · have ht' : tot (s + x) (l.drop (i + 1)) = tot 0 l := by rw [← ht]; simp only [tot]; rw [if_pos hx]
        have e : radd s x = some (s + x) := by unfold radd; rw [hs, Bool.true_and, if_pos hx]
        rw [e] at R
        have hy : right (s + x) = true := by simp at hx; exact hx.2
        have HT := hide (And.intro hy ht')
        clear ht ht' hx hy e hs
        go_wp2_with fail
        refine R.mono ?_
        rintro e w1 ⟨rfl, rfl⟩
        have v1 : rv (some (s + x)) = s + x := rfl
        have v2 : re 50 (some (s + x)) = 0 := rfl
        rw [v1, v2]
        clear v1 v2
        go_wp2
        exact ⟨⟨i + 1, s + x, by omega, by go_num, rfl, (by first | rfl | trivial), unhide HT⟩, by simp [intOf]; omega⟩
      · have hx' : (right x && right (s + x)) = false := by simpa using hx
        have ht' : tot 0 l = none := by rw [← ht]; simp only [tot]; rw [if_neg hx]
        have e : radd s x = none := by unfold radd; rw [hs, Bool.true_and, if_neg hx]
        rw [e] at R
        have HN := hide ht'
        clear ht ht' hx hx' e hs
        go_wp2_with fail
        refine R.mono ?_
        rintro e w1 ⟨rfl, rfl⟩
        have v1 : rv none = 0 := rfl
        have v2 : re 50 none = 50 := rfl
        rw [v1, v2]
        clear v1 v2
        go_wp2
        go_ret2
        exact ⟨by rw [unhide HN]; rfl, rfl⟩
    · obtain rfl : i = l.length := by omega
      have ht := (unhide HI).2
      rw [List.drop_length] at ht
      have HN := hide ht
      clear ht HI H
      go_wp2
      go_ret2
      exact ⟨by rw [← unhide HN]; rfl, rfl⟩

end Go.Proofs.YtighehbeeflhpaaDoor
