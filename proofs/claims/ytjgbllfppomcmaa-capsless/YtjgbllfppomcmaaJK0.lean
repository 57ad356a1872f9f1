import Derived.Test.YtjgbllfppomcmaaI1
import Derived.Test.YtjgbllfppomcmaaProg
/- Days, weeks, minutes: Right, isTold, divided, Day, Week, Weekday, Bounds; the document's own. -/
namespace Go.Proofs.Ytjgbllfppomcmaa
open Go.RowKit

/-- Is it a time? -/
def timeB (t : Int) : Bool := decide (0 ≤ t) && decide (t ≤ 2147483648)

theorem timeB_iff (t : Int) : timeB t = true ↔ 0 ≤ t ∧ t ≤ 2147483648 := by simp [timeB]
theorem timeB_not (t : Int) : timeB t = false ↔ ¬ (0 ≤ t ∧ t ≤ 2147483648) := by
  rw [← timeB_iff]; simp


/-- Is it a day of which something is told? -/
def told (d : Int) : Bool := decide (-1099511627776 ≤ d) && decide (d ≤ 1099511627776)

theorem told_iff (d : Int) : told d = true ↔ -1099511627776 ≤ d ∧ d ≤ 1099511627776 := by simp [told]
theorem told_not (d : Int) : told d = false ↔ ¬ (-1099511627776 ≤ d ∧ d ≤ 1099511627776) := by
  rw [← told_iff]; simp

def dayV (t : Int) : Int := if timeB t then (t - 270) / 1440 else 0
def dayE (t : Int) : Int := if timeB t then 0 else 60
def weekV (d : Int) : Int := if told d then d / 7 else 0
def wdayV (d : Int) : Int := if told d then d % 7 else 0
def fromV (d : Int) : Int := if told d then 1440 * d + 270 else 0
def toV (d : Int) : Int := if told d then 1440 * d + 1710 else 0

theorem ctimeB_any (w : World) (n : Int) : Calls Try.prog 54 #[.int .i64 n] w fun e w' => e = .returned (.bool (timeB n)) ∧ w' = w := by
  by_cases h1 : 0 ≤ n
  · by_cases h2 : n ≤ 2147483648
    · have hr : timeB n = true := (timeB_iff n).2 ⟨h1, h2⟩
      go_enter Try.func54, Try.ntmps54
      go_wp2
      go_ret
      exact ⟨by first | rfl | (rw [hr]; rfl), rfl⟩
    · have hr : timeB n = false := (timeB_not n).2 (fun h => h2 h.2)
      go_enter Try.func54, Try.ntmps54
      go_wp2
      go_ret
      exact ⟨by first | rfl | (rw [hr]; rfl), rfl⟩
  · have hr : timeB n = false := (timeB_not n).2 (fun h => h1 h.1)
    go_enter Try.func54, Try.ntmps54
    go_wp2
    go_ret
    exact ⟨by first | rfl | (rw [hr]; rfl), rfl⟩

theorem ctold_any (w : World) (n : Int) : Calls Try.prog 45 #[.int .i64 n] w fun e w' => e = .returned (.bool (told n)) ∧ w' = w := by
  by_cases h1 : -1099511627776 ≤ n
  · by_cases h2 : n ≤ 1099511627776
    · have hr : told n = true := (told_iff n).2 ⟨h1, h2⟩
      go_enter Try.func45, Try.ntmps45
      go_wp2
      go_ret
      exact ⟨by first | rfl | (rw [hr]; rfl), rfl⟩
    · have hr : told n = false := (told_not n).2 (fun h => h2 h.2)
      go_enter Try.func45, Try.ntmps45
      go_wp2
      go_ret
      exact ⟨by first | rfl | (rw [hr]; rfl), rfl⟩
  · have hr : told n = false := (told_not n).2 (fun h => h1 h.1)
    go_enter Try.func45, Try.ntmps45
    go_wp2
    go_ret
    exact ⟨by first | rfl | (rw [hr]; rfl), rfl⟩

theorem tmod_bounds (n b : Int) (hb : 0 < b) : -b < n.tmod b ∧ n.tmod b < b := by
  have h1 := Int.tmod_lt_of_pos n hb
  have h2 := Int.tmod_lt_of_pos (-n) hb
  rw [Int.neg_tmod] at h2
  omega

theorem cleft_eq (n b : Int) (hb : 0 < b) : (n.tmod b + b).tmod b = n % b := by
  have h := tmod_bounds n b hb
  rw [Int.tmod_eq_emod_of_nonneg (by omega), Int.add_emod_right]
  have e := Int.mul_tdiv_add_tmod n b
  have : n % b = (b * n.tdiv b + n.tmod b) % b := by rw [e]
  rw [this, Int.add_emod, Int.mul_emod_right, Int.zero_add, Int.emod_emod]

theorem quo_eq (n b : Int) (hb : 0 < b) : (n - n % b).tdiv b = n / b := by
  have : n - n % b = b * (n / b) := by have := Int.mul_ediv_add_emod n b; omega
  rw [this, Int.mul_tdiv_cancel_left _ (by omega)]

theorem down_neg (n b : Int) (hb : 0 < b) (h : n.tmod b < 0) : n.tdiv b - 1 = n / b := by
  have h1 := tmod_bounds n b hb
  have e := Int.mul_tdiv_add_tmod n b
  have := (Int.ediv_emod_unique hb (a := n) (q := n.tdiv b - 1) (r := n.tmod b + b)).2 ⟨by rw [Int.mul_sub]; omega, by omega, by omega⟩
  exact this.1.symm

theorem down_pos (n b : Int) (hb : 0 < b) (h : ¬ n.tmod b < 0) : n.tdiv b = n / b := by
  have h1 := tmod_bounds n b hb
  have e := Int.mul_tdiv_add_tmod n b
  have := (Int.ediv_emod_unique hb (a := n) (q := n.tdiv b) (r := n.tmod b)).2 ⟨by omega, by omega, by omega⟩
  exact this.1.symm

theorem ediv_bounds (n b : Int) (hb : 0 < b) (h0 : -1099511627776 ≤ n) (h1 : n ≤ 1099511627776) : -1099511627776 ≤ n / b ∧ n / b ≤ 1099511627776 := by
  have e := Int.mul_ediv_add_emod n b
  have h2 := Int.emod_nonneg n (show b ≠ 0 by omega)
  have h3 := Int.emod_lt_of_pos n hb
  constructor
  · rcases Int.lt_or_le n 0 with h | h
    · have : n ≤ n / b := by
        refine (Int.le_ediv_iff_mul_le hb).2 ?_
        have : n * b ≤ n * 1 := Int.mul_le_mul_of_nonpos_left (by omega) (by omega)
        omega
      omega
    · have := Int.ediv_nonneg h (show 0 ≤ b by omega)
      omega
  · rcases Int.lt_or_le n 0 with h | h
    · have := Int.ediv_neg_of_neg_of_pos h hb
      omega
    · have := Int.ediv_le_self b h
      omega

theorem cdiv_any (w : World) (n b : Int) (h0 : -1099511627776 ≤ n) (h1 : n ≤ 1099511627776) (hb : 0 < b) (hb2 : b ≤ 1440) :
    Calls Try.prog 46 #[.int .i64 n, .int .i64 b] w fun e w' => e = .returned (.tuple #[.int .i64 (n / b), .int .i64 (n % b)]) ∧ w' = w := by
  have ht := tmod_bounds n b hb
  have hl := cleft_eq n b hb
  have hq := quo_eq n b hb
  have hd := ediv_bounds n b hb h0 h1
  have h2 := Int.emod_nonneg n (show b ≠ 0 by omega)
  have h3 := Int.emod_lt_of_pos n hb
  have e1 : wrap64 (n.tmod b + b) = n.tmod b + b := IntWalk.wrap64_in _ ⟨by omega, by omega⟩
  have e2 : wrap64 (n - n % b) = n - n % b := IntWalk.wrap64_in _ ⟨by omega, by omega⟩
  have e3 : wrap64 (n / b) = n / b := IntWalk.wrap64_in _ ⟨by omega, by omega⟩
  have H := hide (And.intro e1 (And.intro hl (And.intro e2 (And.intro hq e3))))
  clear e1 e2 e3 hl hq hd h2 h3 ht
  go_enter Try.func46, Try.ntmps46
  go_wp2
  rw [(unhide H).1, (unhide H).2.1, (unhide H).2.2.1, (unhide H).2.2.2.1, (unhide H).2.2.2.2]
  go_ret2
  exact ⟨rfl, rfl⟩

theorem cday_any (w : World) (t : Int) : Calls Try.prog 49 #[.int .i64 t] w fun e w' => e = .returned (.tuple #[.int .i64 (dayV t), .int .i64 (dayE t)]) ∧ w' = w := by
  have R := ctimeB_any w t
  by_cases h : timeB t = true
  · have hb := (timeB_iff t).1 h
    have e1 : dayV t = (t - 270) / 1440 := by simp [dayV, h]
    have e2 : dayE t = 0 := by simp [dayE, h]
    rw [e1, e2]
    rw [h] at R
    have R2 := cdiv_any w (t - 270) 1440 (by omega) (by omega) (by omega) (by omega)
    generalize (t - 270) / 1440 = q at *
    generalize (t - 270) % 1440 = r at *
    clear e1 e2 h
    go_enter Try.func49, Try.ntmps49
    go_wp2_with fail
    refine R.mono ?_
    rintro e w1 ⟨rfl, rfl⟩
    go_wp2_with fail
    refine R2.mono ?_
    rintro e w1 ⟨rfl, rfl⟩
    go_wp2
    go_ret2
    exact ⟨rfl, rfl⟩
  · have h' : timeB t = false := by simpa using h
    have e1 : dayV t = 0 := by simp [dayV, h']
    have e2 : dayE t = 60 := by simp [dayE, h']
    rw [e1, e2]
    rw [h'] at R
    clear e1 e2 h h'
    go_enter Try.func49, Try.ntmps49
    go_wp2_with fail
    refine R.mono ?_
    rintro e w1 ⟨rfl, rfl⟩
    go_wp2
    go_ret2
    exact ⟨rfl, rfl⟩

theorem week_any (w : World) (d : Int) : Calls Try.prog 28 #[.int .i64 d] w fun e w' => e = .returned (.int .i64 (weekV d)) ∧ w' = w := by
  have R := ctold_any w d
  by_cases h : told d = true
  · have hb := (told_iff d).1 h
    have e0 : weekV d = d / 7 := by simp [weekV, h]
    rw [e0]
    rw [h] at R
    clear e0 h
    have R2 := cdiv_any w d 7 (by omega) (by omega) (by omega) (by omega)
    generalize d / 7 = q at *
    generalize d % 7 = r at *
    go_enter Try.func28, Try.ntmps28
    go_wp2_with fail
    refine R.mono ?_
    rintro e w1 ⟨rfl, rfl⟩
    go_wp2_with fail
    refine R2.mono ?_
    rintro e w1 ⟨rfl, rfl⟩
    go_wp2
    go_ret
    exact ⟨rfl, rfl⟩
  · have h' : told d = false := by simpa using h
    have e0 : weekV d = 0 := by simp [weekV, h']
    rw [e0]
    rw [h'] at R
    clear e0 h h'
    go_enter Try.func28, Try.ntmps28
    go_wp2_with fail
    refine R.mono ?_
    rintro e w1 ⟨rfl, rfl⟩
    go_wp2
    go_ret
    exact ⟨rfl, rfl⟩

end Go.Proofs.Ytjgbllfppomcmaa

