import Derived.Test.YtjgbllfppomcmaaGreatQSX
import Derived.BigQuiet
import Derived.Deep.QuietTactic
import Derived.Test.YtjgbllfppomcmaaGreatQUX
import Derived.Test.YtjgbllfppomcmaaGreatQM3
/- The document's sums: Right, Add, Sub, Sum. -/
namespace Go.Proofs.YtjgbllfppomcmaaGreat
open Go.RowKit

theorem rright_any (w : World) (n : Int) : Calls Tryz.prog 176 #[.int .i64 n] w fun e w' => e = .returned (.bool (right n)) ∧ w' = w := by
  by_cases h1 : -9007199254740992 ≤ n
  · by_cases h2 : n ≤ 9007199254740992
    · have hr : right n = true := (right_iff n).2 ⟨h1, h2⟩
      go_enter Tryz.func176, Tryz.ntmps176
      go_wp2
      go_ret
      exact ⟨by first | rfl | (rw [hr]; rfl), rfl⟩
    · have hr : right n = false := (right_not n).2 (fun h => h2 h.2)
      go_enter Tryz.func176, Tryz.ntmps176
      go_wp2
      go_ret
      exact ⟨by first | rfl | (rw [hr]; rfl), rfl⟩
  · have hr : right n = false := (right_not n).2 (fun h => h1 h.1)
    go_enter Tryz.func176, Tryz.ntmps176
    go_wp2
    go_ret
    exact ⟨by first | rfl | (rw [hr]; rfl), rfl⟩

end Go.Proofs.YtjgbllfppomcmaaGreat

/- The document's rates: parts, Rate. -/
namespace Go.Proofs.YtjgbllfppomcmaaGreat
open Go.RowKit

theorem results_tmp4 {fn : Func} {t u v x : Tmp} (h : fn.results = #[.tmp t, .tmp u, .tmp v, .tmp x]) (tmps : Array Value) (P : Program) (w : World) :
    (results fn tmps).run P w = .ok (.tuple #[tmps.getD t undef, tmps.getD u undef, tmps.getD v undef, tmps.getD x undef]) w := by
  simp [results, h]

/-- A float's parts: sign, whole number, power, whether it is one. -/
def pSign (b : Nat) : Bool := decide (9223372036854775808 ≤ b)
def pExp (b : Nat) : Nat := b / 4503599627370496 % 2048
def pWhole (b : Nat) : Nat := if pExp b = 2047 then b % 4503599627370496 else if pExp b = 0 then b % 4503599627370496 else b % 4503599627370496 + 4503599627370496
def pPower (b : Nat) : Int := if pExp b = 2047 then 0 else if pExp b = 0 then -1074 else (pExp b : Int) - 1075
def pOk (b : Nat) : Bool := decide (pExp b ≠ 2047)

theorem parts_any (w : World) (b : Nat) (hb : b < 18446744073709551616) :
    Calls Tryz.prog 121 #[.float .f64 b] w fun e w' => e = .returned (.tuple #[.bool (pSign b), .int .u64 ((pWhole b : Nat) : Int), .int .i64 (pPower b), .bool (pOk b)]) ∧ w' = w := by
  have c1 := fun w => call31 b w
  have HS : Hid (((b : Int) / 9223372036854775808 == 1) = pSign b) := by
    unfold Hid pSign
    rw [Bool.eq_iff_iff]
    simp
    omega
  have he : ((b : Int) / 4503599627370496 % 2048) = ((pExp b : Nat) : Int) := by simp [pExp]
  by_cases h1 : pExp b = 2047
  · have hx : ((b : Int) / 4503599627370496 % 2048) = 2047 := by omega
    have HV : Hid (pWhole b = b % 4503599627370496 ∧ pPower b = 0 ∧ pOk b = false) := by simp [Hid, pWhole, pPower, pOk, h1]
    clear h1 he
    go_enter Tryz.func121, Tryz.ntmps121
    go_wp2
    refine bodyPost_ret (results_tmp4 rfl _ _ _) rfl ?_
    refine ⟨?_, rfl⟩
    rw [(unhide HV).1, (unhide HV).2.1, (unhide HV).2.2, ← unhide HS]
    rfl
  · by_cases h0 : pExp b = 0
    · have hx : ((b : Int) / 4503599627370496 % 2048) = 0 := by omega
      have HV : Hid (pWhole b = b % 4503599627370496 ∧ pPower b = -1074 ∧ pOk b = true) := by simp [Hid, pWhole, pPower, pOk, h0]
      clear h1 h0 he
      go_enter Tryz.func121, Tryz.ntmps121
      go_wp2
      refine bodyPost_ret (results_tmp4 rfl _ _ _) rfl ?_
      refine ⟨?_, rfl⟩
      rw [(unhide HV).1, (unhide HV).2.1, (unhide HV).2.2, ← unhide HS]
      rfl
    · have hx : ((b : Int) / 4503599627370496 % 2048 == 0) = false := by rw [he]; simp; exact h0
      have hy : ((b : Int) / 4503599627370496 % 2048 == 2047) = false := by
        rw [he]
        have : ¬ ((pExp b : Nat) : Int) = 2047 := by omega
        simpa using this
      have HV : Hid (((pWhole b : Nat) : Int) = (b : Int) % 4503599627370496 + 4503599627370496 ∧ pPower b = (b : Int) / 4503599627370496 % 2048 - 1075 ∧ pOk b = true) := by
        rw [he]
        simp [Hid, pWhole, pPower, pOk, h0, h1]
      clear h1 h0 he
      go_enter Tryz.func121, Tryz.ntmps121
      go_wp2
      refine bodyPost_ret (results_tmp4 rfl _ _ _) rfl ?_
      refine ⟨?_, rfl⟩
      rw [(unhide HV).1, (unhide HV).2.1, (unhide HV).2.2, ← unhide HS]
      rfl

theorem rate_parts (b : Nat) (hb : b < 18446744073709551616) : rate b = (pOk b && !pSign b && (decide (pPower b < -52) || (decide (pPower b = -52) && decide (pWhole b = 4503599627370496)) || decide (pWhole b = 0))) := by
  unfold rate pOk pSign pPower pWhole
  have he : pExp b = b / 4503599627370496 % 2048 := rfl
  rw [Bool.eq_iff_iff]
  by_cases h1 : pExp b = 2047
  · simp [h1]; omega
  · by_cases h0 : pExp b = 0
    · simp [h0]; omega
    · simp [h1, h0]; omega

theorem rrate_any (w : World) (b : Nat) (hb : b < 18446744073709551616) : Calls Tryz.prog 76 #[.float .f64 b] w fun e w' => e = .returned (.bool (rate b)) ∧ w' = w := by
  have R := parts_any w b hb
  have HP := hide (rate_parts b hb)
  have hw : pWhole b < 9007199254740992 := by unfold pWhole; split; omega; split <;> omega
  generalize pSign b = s at R HP
  generalize pOk b = o at R HP
  generalize pWhole b = q at R HP hw
  generalize pPower b = p at R HP
  generalize rate b = r at HP ⊢
  go_enter Tryz.func76, Tryz.ntmps76
  go_wp2_with fail
  refine R.mono ?_
  rintro e w1 ⟨rfl, rfl⟩
  cases o with
  | false =>
    go_wp2
    go_ret
    exact ⟨by rw [unhide HP]; rfl, rfl⟩
  | true =>
    cases s with
    | true =>
      go_wp2
      go_ret
      exact ⟨by rw [unhide HP]; rfl, rfl⟩
    | false =>
      go_wp2
      all_goals
        go_ret
        refine ⟨?_, rfl⟩
        rw [unhide HP]
        first
          | (simp_all; done)
          | (simp_all; omega)
          | (simp_all; rw [Bool.eq_iff_iff]; simp; done)
          | (simp_all; rw [Bool.eq_iff_iff]; simp; omega)

end Go.Proofs.YtjgbllfppomcmaaGreat

/- The document's order of all floats: rank, Order. -/
namespace Go.Proofs.YtjgbllfppomcmaaGreat
open Go.RowKit

def rk (s : Bool) (q : Nat) (o : Bool) : Int :=
  if !o && decide (0 < q) then 6 else if !o && s then 0 else if !o then 5 else if decide (q = 0) && s then 2 else if decide (q = 0) then 3 else if s then 1 else 4

theorem kind_parts (b : Nat) (hb : b < 18446744073709551616) : kindN b = rk (pSign b) (pWhole b) (pOk b) := by
  have he : pExp b = b / 4503599627370496 % 2048 := rfl
  unfold rk pSign pWhole pOk kindN
  by_cases h1 : pExp b = 2047
  · simp only [h1, if_true, ne_eq, not_true_eq_false, decide_false, Bool.not_false, Bool.true_and, decide_eq_true_eq]
    repeat' split
    all_goals first | rfl | omega
  · by_cases h0 : pExp b = 0
    · have h2 : ¬ (0 = 2047) := by omega
      simp only [h0, h2, if_true, if_false, ne_eq, not_false_eq_true, decide_true, Bool.not_true, Bool.false_and, Bool.false_eq_true, Bool.and_eq_true, decide_eq_true_eq]
      repeat' split
      all_goals first | rfl | omega
    · simp only [h1, h0, if_false, ne_eq, not_false_eq_true, decide_true, Bool.not_true, Bool.false_and, Bool.false_eq_true, Bool.and_eq_true, decide_eq_true_eq]
      repeat' split
      all_goals first | rfl | omega

theorem rrank_any (w : World) (b : Nat) (hb : b < 18446744073709551616) : Calls Tryz.prog 118 #[.float .f64 b] w fun e w' => e = .returned (.int .i64 (kindN b)) ∧ w' = w := by
  have R := parts_any w b hb
  have HK := hide (kind_parts b hb)
  have hq : pWhole b = 0 ∨ 0 < pWhole b := by omega
  generalize kindN b = k at *
  generalize pSign b = s at *
  generalize pWhole b = q at *
  generalize pPower b = p at *
  generalize pOk b = o at *
  go_enter Tryz.func118, Tryz.ntmps118
  go_wp2_with fail
  refine R.mono ?_
  rintro e w1 ⟨rfl, rfl⟩
  clear R
  cases o with
  | false =>
    cases s with
    | false =>
      rcases hq with rfl | hq
      · go_wp2
        go_ret
        exact ⟨by rw [unhide HK]; rfl, rfl⟩
      · go_wp2
        go_ret
        exact ⟨by rw [unhide HK]; simp [rk, hq], rfl⟩
    | true =>
      rcases hq with rfl | hq
      · go_wp2
        go_ret
        exact ⟨by rw [unhide HK]; rfl, rfl⟩
      · go_wp2
        go_ret
        exact ⟨by rw [unhide HK]; simp [rk, hq], rfl⟩
  | true =>
    cases s with
    | false =>
      rcases hq with rfl | hq
      · go_wp2
        go_ret
        exact ⟨by rw [unhide HK]; rfl, rfl⟩
      · have h0 : ((q : Int) == 0) = false := by simp; omega
        go_wp2
        go_ret
        exact ⟨by rw [unhide HK]; simp [rk, show ¬ q = 0 by omega], rfl⟩
    | true =>
      rcases hq with rfl | hq
      · go_wp2
        go_ret
        exact ⟨by rw [unhide HK]; rfl, rfl⟩
      · have h0 : ((q : Int) == 0) = false := by simp; omega
        go_wp2
        go_ret
        exact ⟨by rw [unhide HK]; simp [rk, show ¬ q = 0 by omega], rfl⟩

theorem lss_order (a b : Nat) (c : Ordering) (h : Ieee.double.order a b = some c) (t : TypeId) : binOp .lss t (.float .f64 a) (.float .f64 b) = pure (.bool (c == .lt)) := by
  rw [binOp_float_cmp_lss]
  refine congrArg (fun z => pure (Value.bool z)) ?_
  show (Ieee.double.order a b == some .lt) = (c == .lt)
  rw [h]
  cases c <;> rfl
theorem gtr_order (a b : Nat) (c : Ordering) (h : Ieee.double.order a b = some c) (t : TypeId) : binOp .gtr t (.float .f64 a) (.float .f64 b) = pure (.bool (c == .gt)) := by
  rw [binOp_float_cmp_gtr]
  refine congrArg (fun z => pure (Value.bool z)) ?_
  show (Ieee.double.order a b == some .gt) = (c == .gt)
  rw [h]
  cases c <;> rfl

theorem cmp_cases (a b : Nat) : (compare a b = .lt ∧ cmpN a b = -1) ∨ (compare a b = .eq ∧ cmpN a b = 0) ∨ (compare a b = .gt ∧ cmpN a b = 1) := by
  have hc : compare a b = compareOfLessAndEq a b := rfl
  unfold cmpN
  rw [hc]
  unfold compareOfLessAndEq
  rcases Nat.lt_trichotomy a b with h | h | h
  · exact .inl ⟨by rw [if_pos h], by rw [if_pos h]⟩
  · exact .inr (.inl ⟨by rw [if_neg (by omega), if_pos h], by rw [if_neg (by omega), if_neg (by omega)]⟩)
  · exact .inr (.inr ⟨by rw [if_neg (by omega), if_neg (by omega)], by rw [if_neg (by omega), if_pos h]⟩)

theorem rorder_any (w : World) (a b : Nat) (ha : a < 18446744073709551616) (hb : b < 18446744073709551616) : Calls Tryz.prog 70 #[.float .f64 a, .float .f64 b] w fun e w' => e = .returned (.int .i64 (ordN a b)) ∧ w' = w := by
  have R1 := rrank_any w a ha
  have R2 := rrank_any w b hb
  by_cases hk : kindN a = kindN b
  · have hab : ((kindN a = 1 ∨ kindN a = 4) ∧ ∃ c : Ordering, Ieee.double.order a b = some c ∧ ((c = .lt ∧ ordN a b = -1) ∨ (c = .eq ∧ ordN a b = 0) ∨ (c = .gt ∧ ordN a b = 1))) ∨ (kindN a ≠ 1 ∧ kindN a ≠ 4 ∧ ordN a b = 0) := by
      by_cases h4 : kindN a = 4
      · obtain ⟨l1, l2, e⟩ := ord_four ha hb h4 (by omega)
        refine .inl ⟨.inr h4, _, order_pos l1 l2, ?_⟩
        rw [e]
        exact cmp_cases a b
      · by_cases h1 : kindN a = 1
        · obtain ⟨r, s, l1, l2, e1, e2, e⟩ := ord_one ha hb h1 (by omega)
          refine .inl ⟨.inl h1, _, by rw [e1, e2]; exact order_neg l1 l2, ?_⟩
          rw [e]
          exact cmp_cases s r
        · exact .inr ⟨h1, h4, ord_plain ha hb hk h1 h4⟩
    rw [← hk] at R2
    rcases hab with ⟨hkk, c, ho, hc⟩ | ⟨h1, h4, e⟩
    · have o1 := lss_order a b c ho
      have o2 := gtr_order a b c ho
      clear ho hk
      generalize kindN a = k at *
      generalize ordN a b = z at *
      rcases hc with ⟨rfl, rfl⟩ | ⟨rfl, rfl⟩ | ⟨rfl, rfl⟩ <;> rcases hkk with rfl | rfl
      all_goals
        go_enter Tryz.func70, Tryz.ntmps70
        go_wp2_with fail
        refine R1.mono ?_
        rintro e w1 ⟨rfl, rfl⟩
        go_wp2_with fail
        refine R2.mono ?_
        rintro e w1 ⟨rfl, rfl⟩
        go_wp2
        go_ret
        exact ⟨rfl, rfl⟩
    · rw [e]
      generalize kindN a = k at *
      have n1 : (k != 1) = true := by simpa using h1
      have n4 : (k != 4) = true := by simpa using h4
      clear hk e
      go_enter Tryz.func70, Tryz.ntmps70
      go_wp2_with fail
      refine R1.mono ?_
      rintro e w1 ⟨rfl, rfl⟩
      go_wp2_with fail
      refine R2.mono ?_
      rintro e w1 ⟨rfl, rfl⟩
      go_wp2
      go_ret
      exact ⟨rfl, rfl⟩
  · have e := ord_kind ha hb hk
    rw [e]
    generalize kindN a = x at *
    generalize kindN b = y at *
    clear e
    by_cases hlt : x < y
    · rw [if_pos hlt]
      go_enter Tryz.func70, Tryz.ntmps70
      go_wp2_with fail
      refine R1.mono ?_
      rintro e w1 ⟨rfl, rfl⟩
      go_wp2_with fail
      refine R2.mono ?_
      rintro e w1 ⟨rfl, rfl⟩
      go_wp2
      go_ret
      exact ⟨rfl, rfl⟩
    · rw [if_neg hlt]
      have hgt : y < x := by omega
      go_enter Tryz.func70, Tryz.ntmps70
      go_wp2_with fail
      refine R1.mono ?_
      rintro e w1 ⟨rfl, rfl⟩
      go_wp2_with fail
      refine R2.mono ?_
      rintro e w1 ⟨rfl, rfl⟩
      go_wp2
      go_ret
      exact ⟨rfl, rfl⟩

end Go.Proofs.YtjgbllfppomcmaaGreat

/- The mathematics of the document's long multiplication and halving. No program is named here. -/
namespace Go.Proofs.YtjgbllfppomcmaaGreat

/-- Digit j in base 2^32. -/
def dgt (X j : Nat) : Nat := X / 4294967296 ^ j % 4294967296

theorem dgt_lt (X j : Nat) : dgt X j < 4294967296 := Nat.mod_lt _ (by decide)

theorem dgt_half (X j : Nat) : dgt (X / 2) j = dgt X j / 2 + dgt X (j + 1) % 2 * 2147483648 := by
  unfold dgt
  rw [Nat.div_div_eq_div_mul, Nat.mul_comm, ← Nat.div_div_eq_div_mul, Nat.pow_succ, ← Nat.div_div_eq_div_mul]
  generalize X / 4294967296 ^ j = Y
  omega

theorem dgt_top (X : Nat) (h : X < 340282366920938463463374607431768211456) : dgt X 4 = 0 := by
  unfold dgt
  rw [Nat.div_eq_of_lt (Nat.lt_of_lt_of_le h (by decide))]

theorem dgt_mul (p00 pm p11 X : Nat) (hX : X = p00 + pm * 4294967296 + p11 * 18446744073709551616) (h11 : p11 < 9223372036854775808) (hm : pm < 9223372036854775808) (h0 : p00 < 18446744073709551616) :
    dgt X 0 = p00 % 4294967296 ∧ dgt X 1 = (pm + p00 / 4294967296) % 4294967296 ∧ dgt X 2 = (p11 + (pm + p00 / 4294967296) / 4294967296) % 4294967296 ∧ dgt X 3 = (p11 + (pm + p00 / 4294967296) / 4294967296) / 4294967296 := by
  subst hX
  unfold dgt
  refine ⟨?_, ?_, ?_, ?_⟩
  · simp only [Nat.pow_zero, Nat.div_one]; omega
  · simp only [Nat.pow_one]; omega
  · rw [show (4294967296 ^ 2 : Nat) = 18446744073709551616 by decide]; omega
  · rw [show (4294967296 ^ 3 : Nat) = 79228162514264337593543950336 by decide]; omega

theorem dgt_two (X : Nat) (h : X < 18446744073709551616) : dgt X 1 * 4294967296 + dgt X 0 = X := by
  unfold dgt
  simp only [Nat.pow_zero, Nat.div_one, Nat.pow_one]
  omega

theorem half_bit (X K : Nat) (h : 0 < K) : (X + 2 ^ (K - 1)) / 2 ^ K = X / 2 ^ K + X / 2 ^ (K - 1) % 2 := by
  obtain ⟨k, rfl⟩ : ∃ k, K = k + 1 := ⟨K - 1, by omega⟩
  rw [Nat.add_sub_cancel, Nat.pow_succ, ← Nat.div_div_eq_div_mul, ← Nat.div_div_eq_div_mul, Nat.add_div_right _ (Nat.two_pow_pos k)]
  generalize X / 2 ^ k = Y
  omega

end Go.Proofs.YtjgbllfppomcmaaGreat

/- The document's Scale. -/
namespace Go.Proofs.YtjgbllfppomcmaaGreat
open Go.RowKit

set_option maxRecDepth 100000 in
theorem rscale_core (w : World) (n b W K : Nat) (hn : n ≤ 9007199254740992) (hW : W < 9007199254740992) (hK0 : 0 < K) (hK : K ≤ 1074) (hlow : n * W / 2 ^ K ≤ 9007199254740992)
    (R1 : ∀ w, Calls Tryz.prog 176 #[.int .i64 (n : Int)] w fun e w' => e = .returned (.bool true) ∧ w' = w) (R2 : ∀ w, Calls Tryz.prog 76 #[.float .f64 b] w fun e w' => e = .returned (.bool true) ∧ w' = w)
    (R3 : ∀ w, Calls Tryz.prog 121 #[.float .f64 b] w fun e w' => e = .returned (.tuple #[.bool false, .int .u64 (W : Int), .int .i64 (-(K : Int)), .bool true]) ∧ w' = w) :
    Calls Tryz.prog 151 #[.int .i64 (n : Int), .float .f64 b] w fun e w' => e = .returned (.tuple #[.int .i64 (((n * W + 2 ^ (K - 1)) / 2 ^ K : Nat) : Int), .int .i64 0]) ∧ Fr (fun _ => False) w w' := by
  have HL := hide hlow
  rw [half_bit _ _ hK0]
  have h00 : n % 4294967296 * (W % 4294967296) < 18446744073709551616 := Nat.lt_of_le_of_lt (Nat.mul_le_mul (show n % 4294967296 ≤ 4294967295 by omega) (show W % 4294967296 ≤ 4294967295 by omega)) (by decide)
  have h10 : n / 4294967296 * (W % 4294967296) ≤ 9007199254740992 := Nat.le_trans (Nat.mul_le_mul (show n / 4294967296 ≤ 2097152 by omega) (show W % 4294967296 ≤ 4294967296 by omega)) (by decide)
  have h01 : W / 4294967296 * (n % 4294967296) ≤ 9007199254740992 := Nat.le_trans (Nat.mul_le_mul (show W / 4294967296 ≤ 2097152 by omega) (show n % 4294967296 ≤ 4294967296 by omega)) (by decide)
  have h11 : n / 4294967296 * (W / 4294967296) ≤ 4398046511104 := Nat.le_trans (Nat.mul_le_mul (show n / 4294967296 ≤ 2097152 by omega) (show W / 4294967296 ≤ 2097152 by omega)) (by decide)
  have hX : n * W = n % 4294967296 * (W % 4294967296) + (n / 4294967296 * (W % 4294967296) + W / 4294967296 * (n % 4294967296)) * 4294967296 + n / 4294967296 * (W / 4294967296) * 18446744073709551616 := by
    have e1 := Nat.div_add_mod n 4294967296
    have e2 := Nat.div_add_mod W 4294967296
    generalize n / 4294967296 = n1 at *
    generalize n % 4294967296 = n0 at *
    generalize W / 4294967296 = w1 at *
    generalize W % 4294967296 = w0 at *
    subst e1
    subst e2
    simp only [Nat.add_mul, Nat.mul_add]
    rw [Nat.mul_comm w1 n0, Nat.mul_assoc 4294967296 n1, Nat.mul_left_comm n1 4294967296, Nat.mul_left_comm n0 4294967296 w1]
    rw [Nat.mul_assoc 4294967296 n1 w0]
    generalize n1 * w1 = a1
    generalize n1 * w0 = a2
    generalize n0 * w1 = a3
    generalize n0 * w0 = a4
    omega
  have q00 : IntKind.u64.wrap ((n : Int) % 4294967296 * ((W : Int) % 4294967296)) = ((n % 4294967296 * (W % 4294967296) : Nat) : Int) := by
    rw [IntKind.wrap_u64, show (n : Int) % 4294967296 * ((W : Int) % 4294967296) = ((n % 4294967296 * (W % 4294967296) : Nat) : Int) by simp]
    generalize n % 4294967296 * (W % 4294967296) = z at h00 ⊢
    omega
  have q10 : IntKind.u64.wrap ((n : Int) / 4294967296 * ((W : Int) % 4294967296)) = ((n / 4294967296 * (W % 4294967296) : Nat) : Int) := by
    rw [IntKind.wrap_u64, show (n : Int) / 4294967296 * ((W : Int) % 4294967296) = ((n / 4294967296 * (W % 4294967296) : Nat) : Int) by simp]
    generalize n / 4294967296 * (W % 4294967296) = z at h10 ⊢
    omega
  have q01 : IntKind.u64.wrap ((W : Int) / 4294967296 * ((n : Int) % 4294967296)) = ((W / 4294967296 * (n % 4294967296) : Nat) : Int) := by
    rw [IntKind.wrap_u64, show (W : Int) / 4294967296 * ((n : Int) % 4294967296) = ((W / 4294967296 * (n % 4294967296) : Nat) : Int) by simp]
    generalize W / 4294967296 * (n % 4294967296) = z at h01 ⊢
    omega
  have q11 : IntKind.u64.wrap ((n : Int) / 4294967296 * ((W : Int) / 4294967296)) = ((n / 4294967296 * (W / 4294967296) : Nat) : Int) := by
    rw [IntKind.wrap_u64, show (n : Int) / 4294967296 * ((W : Int) / 4294967296) = ((n / 4294967296 * (W / 4294967296) : Nat) : Int) by simp]
    generalize n / 4294967296 * (W / 4294967296) = z at h11 ⊢
    omega
  generalize n % 4294967296 * (W % 4294967296) = p00 at *
  generalize n / 4294967296 * (W % 4294967296) = p10 at *
  generalize W / 4294967296 * (n % 4294967296) = p01 at *
  generalize n / 4294967296 * (W / 4294967296) = p11 at *
  have HD := hide (dgt_mul p00 (p10 + p01) p11 (n * W) hX (by omega) (by omega) h00)
  have HX : Hid (n * W < 340282366920938463463374607431768211456) := by rw [hX]; unfold Hid; omega
  generalize n * W = X at *
  clear hX hlow
  go_enter Tryz.func151, Tryz.ntmps151
  go_wp2_with fail
  refine (R1 w).mono ?_
  rintro e w1 ⟨rfl, rfl⟩
  go_wp2_with fail
  refine (R2 w1).mono ?_
  rintro e w1 ⟨rfl, rfl⟩
  go_wp2_with fail
  refine (R3 w1).mono ?_
  rintro e w1 ⟨rfl, rfl⟩
  clear R1 R2 R3
  have HN : Hid (∃ N, N = w1.heap.size) := ⟨_, rfl⟩
  go_wp2
  have H0 : Hid (Fr (fun _ => False) w1 (w1.alloc (.cells #[.int .u64 ((p00 : Int) % 4294967296), .int .u64 (((p10 : Int) + p01 + (p00 : Int) / 4294967296) % 4294967296), .int .u64 (((p11 : Int) + ((p10 : Int) + p01 + (p00 : Int) / 4294967296) / 4294967296) % 4294967296), .int .u64 (((p11 : Int) + ((p10 : Int) + p01 + (p00 : Int) / 4294967296) / 4294967296) / 4294967296)] 140)) ∧
      ∀ j, j < 4 → ((w1.alloc (.cells #[.int .u64 ((p00 : Int) % 4294967296), .int .u64 (((p10 : Int) + p01 + (p00 : Int) / 4294967296) % 4294967296), .int .u64 (((p11 : Int) + ((p10 : Int) + p01 + (p00 : Int) / 4294967296) / 4294967296) % 4294967296), .int .u64 (((p11 : Int) + ((p10 : Int) + p01 + (p00 : Int) / 4294967296) / 4294967296) / 4294967296)] 140)).cell? ⟨w1.heap.size, j, none⟩ = some (.int .u64 ((dgt X j : Nat) : Int))
        ∧ (w1.alloc (.cells #[.int .u64 ((p00 : Int) % 4294967296), .int .u64 (((p10 : Int) + p01 + (p00 : Int) / 4294967296) % 4294967296), .int .u64 (((p11 : Int) + ((p10 : Int) + p01 + (p00 : Int) / 4294967296) / 4294967296) % 4294967296), .int .u64 (((p11 : Int) + ((p10 : Int) + p01 + (p00 : Int) / 4294967296) / 4294967296) / 4294967296)] 140)).frozen? ⟨w1.heap.size, j, none⟩ = false)) := by
    refine ⟨(Fr.refl _ w1).alloc _, fun j hj => ⟨?_, World.frozen?_alloc_new _ _ _ _⟩⟩
    rw [World.cell?_alloc_new]
    obtain ⟨e0, e1, e2, e3⟩ := unhide HD
    match j, hj with
    | 0, _ => rw [e0]; simp
    | 1, _ => rw [e1]; simp
    | 2, _ => rw [e2]; simp
    | 3, _ => rw [e3]; simp
    | j + 4, h => omega
  generalize w1.alloc (.cells #[.int .u64 ((p00 : Int) % 4294967296), .int .u64 (((p10 : Int) + p01 + (p00 : Int) / 4294967296) % 4294967296), .int .u64 (((p11 : Int) + ((p10 : Int) + p01 + (p00 : Int) / 4294967296) / 4294967296) % 4294967296), .int .u64 (((p11 : Int) + ((p10 : Int) + p01 + (p00 : Int) / 4294967296) / 4294967296) / 4294967296)] 140) = w2 at H0 ⊢
  clear HD q00 q10 q01 q11 h00 h10 h01 h11
  generalize hNN : w1.heap.size = N at H0 ⊢
  have HNN : Hid (w1.heap.size ≤ N) := by unfold Hid; omega
  clear hNN HN
  go_loopw [10, 16, 17, 18] (fun pv hv _ _ wr => ∃ (m hb : Nat), m ≤ K ∧ pv = .int .i64 (-(m : Int)) ∧ hv = .int .u64 (hb : Int) ∧ hb < 2 ∧ Hid (hb = (if m = K then 0 else X / 2 ^ (K - m - 1) % 2) ∧ Fr (fun _ => False) w1 wr ∧ ∀ j, j < 4 → (wr.cell? ⟨N, j, none⟩ = some (.int .u64 ((dgt (X / 2 ^ (K - m)) j : Nat) : Int)) ∧ wr.frozen? ⟨N, j, none⟩ = false))) (fun pv _ _ _ _ => (-(intOf pv)).toNat)
  case atStart => exact ⟨K, 0, Nat.le_refl _, rfl, rfl, by omega, by rw [if_pos rfl], (unhide H0).1, fun j hj => by rw [Nat.sub_self]; simpa using (unhide H0).2 j hj⟩
  case round =>
    obtain ⟨m, hb, hm, rfl, rfl, hb2, HI⟩ := hrel
    by_cases hlt : 0 < m
    · obtain ⟨HF, HC⟩ : Hid (Fr (fun _ => False) w1 wr) ∧ Hid (∀ j, j < 4 → (wr.cell? ⟨N, j, none⟩ = some (.int .u64 ((dgt (X / 2 ^ (K - m)) j : Nat) : Int)) ∧ wr.frozen? ⟨N, j, none⟩ = false)) := ⟨(unhide HI).2.1, (unhide HI).2.2⟩
      have HY : Hid (X / 2 ^ (K - m) < 340282366920938463463374607431768211456 ∧ X / 2 ^ (K - (m - 1)) = X / 2 ^ (K - m) / 2 ∧ K - (m - 1) - 1 = K - m) := by
        refine ⟨Nat.lt_of_le_of_lt (Nat.div_le_self _ _) (unhide HX), ?_, by omega⟩
        rw [show K - (m - 1) = (K - m) + 1 by omega, Nat.pow_succ, ← Nat.div_div_eq_div_mul]
      clear HI
      obtain ⟨Y, HZ⟩ : ∃ Y, Hid (X / 2 ^ (K - m) = Y) := ⟨_, rfl⟩
      have HY' : Hid (Y < 340282366920938463463374607431768211456) := by rw [← unhide HZ]; exact (unhide HY).1
      rw [unhide HZ] at HC
      have c0 := (unhide HC 0 (by omega)).1
      have hd0 := dgt_lt Y 0
      have HE : Hid (dgt Y 0 % 2 = Y % 2) := by unfold Hid dgt; simp only [Nat.pow_zero, Nat.div_one]; omega
      generalize dgt Y 0 = d0 at c0 hd0 HE
      go_wp2
      go_loopw [17, 18] (fun iv _ wq => ∃ i : Nat, i ≤ 4 ∧ iv = .int .i64 (i : Int) ∧ Hid (Fr (fun _ => False) w1 wq ∧ ∀ j, j < 4 → (wq.cell? ⟨N, j, none⟩ = some (.int .u64 (((if j < i then dgt (Y / 2) j else dgt Y j) : Nat) : Int)) ∧ wq.frozen? ⟨N, j, none⟩ = false))) (fun iv _ _ => 4 - (intOf iv).toNat)
      case atStart => exact ⟨0, by omega, rfl, unhide HF, fun j hj => by rw [if_neg (by omega)]; exact unhide HC j hj⟩
      case round =>
        obtain ⟨i, hi, rfl, HI⟩ := hrel
        by_cases hlt2 : i < 4
        · have ci := ((unhide HI).2 i hlt2).1
          have fi := ((unhide HI).2 i hlt2).2
          rw [if_neg (by omega)] at ci
          have key : Hid (∀ v : Value, v = .int .u64 ((dgt (Y / 2) i : Nat) : Int) → Fr (fun _ => False) w1 (wr.setCell ⟨N, i, none⟩ v) ∧ ∀ j, j < 4 → ((wr.setCell ⟨N, i, none⟩ v).cell? ⟨N, j, none⟩ = some (.int .u64 (((if j < i + 1 then dgt (Y / 2) j else dgt Y j) : Nat) : Int)) ∧ (wr.setCell ⟨N, i, none⟩ v).frozen? ⟨N, j, none⟩ = false)) := by
            intro v hv
            refine ⟨(unhide HI).1.setCell (p := ⟨N, i, none⟩) (fun t => absurd t (Nat.not_lt.2 (unhide HNN))) _, fun j hj => ⟨?_, by rw [World.frozen?_setCell]; exact ((unhide HI).2 j hj).2⟩⟩
            by_cases e : j = i
            · subst e; rw [World.cell?_setCell_same _ _ _ ci, hv, if_pos (by omega)]
            · rw [World.cell?_setCell_other _ _ _ _ (by intro h; injection h with _ h2; exact e h2.symm), ((unhide HI).2 j hj).1]
              by_cases h5 : j < i
              · rw [if_pos h5, if_pos (by omega)]
              · rw [if_neg h5, if_neg (by omega)]
          have hdi := dgt_lt Y i
          have HG := hide (dgt_half Y i)
          by_cases h3 : i < 3
          · have cj := ((unhide HI).2 (i + 1) (by omega)).1
            rw [if_neg (by omega)] at cj
            have hdj := dgt_lt Y (i + 1)
            generalize dgt Y i = di at ci hdi HG
            generalize dgt Y (i + 1) = dj at cj hdj HG
            go_wp2
            exact ⟨⟨i + 1, by omega, by go_num, unhide key _ (congrArg (Value.int .u64) (by rw [unhide HG]; simp))⟩, by simp [intOf]; omega⟩
          · obtain rfl : i = 3 := by omega
            have hz := dgt_top Y (unhide HY')
            have HG' : Hid (dgt (Y / 2) 3 = dgt Y 3 / 2) := by rw [unhide HG]; unfold Hid; rw [hz]; omega
            clear hz HG
            generalize dgt Y 3 = di at ci hdi HG'
            go_wp2
            exact ⟨⟨4, by omega, rfl, unhide key _ (congrArg (Value.int .u64) (by rw [unhide HG']; simp))⟩, by simp [intOf]⟩
        · obtain rfl : i = 4 := by omega
          go_wp2
          refine ⟨⟨m - 1, d0 % 2, by omega, congrArg (Value.int .i64) (by omega), by simp, by omega, ?_, (unhide HI).1, fun j hj => ?_⟩, by simp [intOf]; omega⟩
          · rw [if_neg (by omega), (unhide HY).2.2, unhide HE, unhide HZ]
          · have := (unhide HI).2 j hj
            rw [if_pos hj] at this
            rw [(unhide HY).2.1, unhide HZ]
            exact this
    · obtain rfl : m = 0 := by omega
      have c0 := ((unhide HI).2.2 0 (by omega)).1
      have c1 := ((unhide HI).2.2 1 (by omega)).1
      have HF := hide (unhide HI).2.1
      have HB : Hid (X / 2 ^ (K - 1) % 2 = hb) := by
        have := (unhide HI).1
        rw [if_neg (by omega), Nat.sub_zero] at this
        exact this.symm
      rw [Nat.sub_zero] at c0 c1
      have hy := unhide HL
      have h2 := dgt_two (X / 2 ^ K) (by omega)
      obtain ⟨y, HY⟩ : ∃ y, Hid (X / 2 ^ K = y) := ⟨_, rfl⟩
      rw [unhide HY] at h2 hy c0 c1
      have l0 := dgt_lt y 0
      have l1 := dgt_lt y 1
      generalize dgt y 0 = a0 at *
      generalize dgt y 1 = a1 at *
      have HE : Hid (((X / 2 ^ K + X / 2 ^ (K - 1) % 2 : Nat) : Int) = (a1 : Int) * 4294967296 + a0 + hb) := by rw [unhide HY, unhide HB]; unfold Hid; omega
      have hs : a1 * 4294967296 + a0 ≤ 9007199254740992 := by omega
      clear HI HB HY h2 hy
      go_wp2
      go_quiet (fail)
      go_wp2
      go_ret2
      refine ⟨?_, (unhide HF).drewN _⟩
      rw [unhide HE]
      rfl

end Go.Proofs.YtjgbllfppomcmaaGreat

/- The document's Scale is the program's. -/
namespace Go.Proofs.YtjgbllfppomcmaaGreat
open Go.RowKit

theorem rscale_main (w : World) (n b : Nat) (hn : n ≤ 9007199254740992) (hr : b ≤ 4607182418800017408) :
    Calls Tryz.prog 151 #[.int .i64 (n : Int), .float .f64 b] w fun e w' => e = .returned (.tuple #[.int .i64 ((sc n b : Nat) : Int), .int .i64 0]) ∧ Fr (fun _ => False) w w' := by
  have hb : b < 18446744073709551616 := by omega
  have r1 : right (n : Int) = true := (right_iff _).2 ⟨by omega, by omega⟩
  have r2 : rate b = true := by simp [rate]; omega
  have R1 := fun w => rright_any w (n : Int)
  have R2 := fun w => rrate_any w b hb
  have R3 := fun w => parts_any w b hb
  simp only [r1] at R1
  simp only [r2] at R2
  have s1 : pSign b = false := by simp [pSign]; omega
  have ex : pExp b = b / 4503599627370496 := by unfold pExp; omega
  have s2 : pOk b = true := by simp [pOk]; omega
  simp only [s1, s2] at R3
  by_cases h0 : pExp b = 0
  · have e1 : pWhole b = b % 4503599627370496 := by simp [pWhole, h0]
    have e2 : pPower b = -((1074 : Nat) : Int) := by simp [pPower, h0]
    simp only [e1, e2] at R3
    have hx : n * (b % 4503599627370496) < 2 ^ 106 := by
      have h1 : n * (b % 4503599627370496) ≤ 9007199254740992 * 4503599627370496 := Nat.mul_le_mul hn (by omega)
      exact Nat.lt_of_le_of_lt h1 (by decide)
    obtain ⟨K, hK⟩ : ∃ K, K = 1074 := ⟨_, rfl⟩
    have hbig : 2 ^ 107 ≤ 2 ^ (K - 1) := Nat.pow_le_pow_right (by decide) (by omega)
    have hdbl : 2 ^ K = 2 * 2 ^ (K - 1) := by
      rw [show K = (K - 1) + 1 by omega, Nat.pow_succ]; simp only [Nat.add_sub_cancel]; omega
    have hz : (n * (b % 4503599627370496) + 2 ^ (K - 1)) / 2 ^ K = 0 := by
      rw [hdbl]
      generalize 2 ^ (K - 1) = Z at hbig
      exact Nat.div_eq_of_lt (by omega)
    have hl : n * (b % 4503599627370496) / 2 ^ K ≤ 9007199254740992 := by
      have : n * (b % 4503599627370496) / 2 ^ K = 0 := by
        rw [hdbl]
        generalize 2 ^ (K - 1) = Z at hbig
        exact Nat.div_eq_of_lt (by omega)
      rw [this]; omega
    rw [← hK] at R3
    have := rscale_core w n b (b % 4503599627370496) K hn (by omega) (by omega) (by omega) hl R1 R2 R3
    rw [hz] at this
    rw [sc_tiny hn (by omega)]
    exact this
  · have hne : pExp b ≠ 2047 := by omega
    have e1 : pWhole b = fracOf b := by unfold pWhole fracOf; rw [if_neg hne, if_neg h0]; omega
    obtain ⟨K, hK⟩ : ∃ K, K = 1075 - b / 4503599627370496 := ⟨_, rfl⟩
    have e2 : pPower b = -(K : Int) := by unfold pPower; rw [if_neg hne, if_neg h0]; omega
    simp only [e1, e2] at R3
    have hz : (n * fracOf b + 2 ^ (K - 1)) / 2 ^ K = sc n b := by
      unfold sc
      rw [show K - 1 = 1074 - b / 4503599627370496 by omega, hK]
    have hl : n * fracOf b / 2 ^ K ≤ 9007199254740992 := by
      have h1 : n * fracOf b / 2 ^ K ≤ (n * fracOf b + 2 ^ (K - 1)) / 2 ^ K := Nat.div_le_div_right (Nat.le_add_right _ _)
      rw [hz] at h1
      exact Nat.le_trans h1 (Nat.le_trans (sc_le hr) hn)
    have := rscale_core w n b (fracOf b) K hn (by unfold fracOf; omega) (by omega) (by omega) hl R1 R2 R3
    rw [hz] at this
    exact this

theorem rscale_any (w : World) (n : Int) (b : Nat) (hb : b < 18446744073709551616) :
    Calls Tryz.prog 151 #[.int .i64 n, .float .f64 b] w fun e w' => e = .returned (.tuple #[.int .i64 (rv (scaled n b)), .int .i64 (scaleE n b)]) ∧ Fr (fun _ => False) w w' := by
  have R1 := rright_any w n
  have R2 := rrate_any w b hb
  by_cases h1 : owed n = true
  · have hn : 0 ≤ n ∧ n ≤ 9007199254740992 := by
      have := h1; simp [owed, right] at this; omega
    by_cases h2 : rate b = true
    · have hr : b ≤ 4607182418800017408 := by simpa [rate] using h2
      obtain ⟨m, rfl⟩ := Int.eq_ofNat_of_zero_le hn.1
      have e1 : scaled (m : Int) b = some ((sc m b : Nat) : Int) := by simp [scaled, h1, h2]
      have e2 : scaleE (m : Int) b = 0 := by simp [scaleE, h1, h2]
      rw [e1, e2]
      exact rscale_main w m b (by omega) hr
    · have h2' : rate b = false := by simpa using h2
      have e1 : scaled n b = none := by simp [scaled, h2']
      have e2 : scaleE n b = 51 := by simp [scaleE, h1, h2']
      have hr : right n = true := (right_iff _).2 ⟨by omega, hn.2⟩
      rw [e1, e2]
      rw [hr] at R1
      rw [h2'] at R2
      have hn0 := hn.1
      clear e1 e2 h1 h2 h2' hr hn
      go_enter Tryz.func151, Tryz.ntmps151
      go_wp2_with fail
      refine R1.mono ?_
      rintro e w1 ⟨rfl, rfl⟩
      go_wp2_with fail
      refine R2.mono ?_
      rintro e w1 ⟨rfl, rfl⟩
      go_wp2
      go_ret2
      exact ⟨rfl, Fr.refl _ _⟩
  · have h1' : owed n = false := by simpa using h1
    have e1 : scaled n b = none := by simp [scaled, h1']
    have e2 : scaleE n b = 50 := by simp [scaleE, h1']
    rw [e1, e2]
    clear e1 e2 R2
    by_cases hr : right n = true
    · have hneg : n < 0 := by
        have := h1'; rw [owed, hr] at this; simp at this; omega
      rw [hr] at R1
      clear h1 h1' hr
      go_enter Tryz.func151, Tryz.ntmps151
      go_wp2_with fail
      refine R1.mono ?_
      rintro e w1 ⟨rfl, rfl⟩
      go_wp2
      go_ret2
      exact ⟨rfl, Fr.refl _ _⟩
    · have hr' : right n = false := by simpa using hr
      rw [hr'] at R1
      clear h1 h1' hr hr'
      go_enter Tryz.func151, Tryz.ntmps151
      go_wp2_with fail
      refine R1.mono ?_
      rintro e w1 ⟨rfl, rfl⟩
      go_wp2
      go_ret2
      exact ⟨rfl, Fr.refl _ _⟩

end Go.Proofs.YtjgbllfppomcmaaGreat

/- The document's own Station, Span and Single. -/
namespace Go.Proofs.YtjgbllfppomcmaaGreat
open Go.RowKit

theorem run_min (ts : Array TypeId) (t : TypeId) (x y : Int) (w : World) : (Builtin.min_ ts t #[.int .i64 x, .int .i64 y]).run Tryz.prog w = .ok (.int .i64 (imin x y)) w := run_min_int2 w ts t .i64 .i64 x y
theorem run_max (ts : Array TypeId) (t : TypeId) (x y : Int) (w : World) : (Builtin.max_ ts t #[.int .i64 x, .int .i64 y]).run Tryz.prog w = .ok (.int .i64 (imax x y)) w := run_max_int2 w ts t .i64 .i64 x y

theorem heap_alloc' {w : World} {o : Obj} {B : Nat} (h : Hid (B = w.heap.size)) : (w.alloc o).heap.size = B + 1 := by rw [heap_alloc, unhide h]

theorem find_step {α : Type} (l : List α) (p : α → Bool) (i : Nat) (hi : i < l.length) : (l.drop i).find? p = if p l[i] then some l[i] else (l.drop (i + 1)).find? p := by
  rw [List.drop_eq_getElem_cons hi, List.find?_cons]
  cases p l[i] <;> rfl

set_option maxRecDepth 100000 in
theorem rstation_any (w : World) (A : Ad) (t : Tf) (h : TAt w A t) (id : Int) :
    Calls Tryz.prog 83 #[tv A t, .int .i64 id] w fun e w' => e = .returned (.tuple #[stA ((stationOf t id).getD ⟨0, 0, 0⟩), .bool (stationOf t id).isSome]) ∧ Fr (fun _ => False) w w' := by
  obtain ⟨r, HR⟩ : ∃ r, Hid (stationOf t id = r) := ⟨_, rfl⟩
  rw [unhide HR]
  obtain ⟨B, HBE⟩ : ∃ B, Hid (B = w.heap.size) := ⟨_, rfl⟩
  obtain ⟨W0, hW0⟩ : ∃ W0, W0 = (w.alloc (.cells (tc A t) 27)).alloc (.cells #[.int .i64 0, .int .i64 0, .int .i64 0] 59) := ⟨_, rfl⟩
  have HF : Hid (Fr (fun _ => False) w W0) := hide (by rw [hW0]; exact ((Fr.refl _ w).alloc _).alloc _)
  have hb : TB W0 B A t := by rw [hW0, unhide HBE]; exact (TB.new w A t).keep ((Fr.refl _ _).alloc _)
  have cB : W0.cell? ⟨B, 0, none⟩ = some (.slice A.aS t.st.length A.cS) := hb.cell 0
  have z0 : W0.cell? ⟨B + 1, 0, none⟩ = some (.int .i64 0) := by rw [hW0, ← heap_alloc' HBE, World.cell?_alloc_new]; rfl
  have z1 : W0.cell? ⟨B + 1, 1, none⟩ = some (.int .i64 0) := by rw [hW0, ← heap_alloc' HBE, World.cell?_alloc_new]; rfl
  have z2 : W0.cell? ⟨B + 1, 2, none⟩ = some (.int .i64 0) := by rw [hW0, ← heap_alloc' HBE, World.cell?_alloc_new]; rfl
  have f0 : ∀ j, W0.frozen? ⟨B + 1, j, none⟩ = false := fun j => by rw [hW0, ← heap_alloc' HBE]; exact World.frozen?_alloc_new _ _ _ _
  have H := hide (h.st.keep (unhide HF))
  have hl := h.lS
  clear h hb
  unfold tc at hW0
  unfold tv tc
  go_enter Tryz.func83, Tryz.ntmps83
  go_wp2
  rw [← hW0, ← unhide HBE]
  clear hW0
  go_loopw [6] (fun iv wr => ∃ (i : Nat), i ≤ t.st.length ∧ iv = .int .i64 i ∧ wr = W0 ∧ Hid ((t.st.drop i).find? (hasId id) = r)) (fun iv _ => t.st.length - (intOf iv).toNat)
  case atStart => exact ⟨0, Nat.zero_le _, rfl, rfl, hide (by rw [List.drop_zero]; exact unhide HR)⟩
  case round =>
    obtain ⟨i, hi, rfl, rfl, HI⟩ := hrel
    by_cases hil : i < t.st.length
    · obtain ⟨bb, off, eA, c0, c1, c2⟩ := (unhide H).st hil
      have ht := unhide HI
      rw [find_step _ _ _ hil] at ht
      have HT := hide ht
      rw [eA] at cB
      rw [eA]
      clear ht HI eA
      generalize t.st[i] = s at *
      by_cases g0 : s.id = id
      · have q0 : (s.id == id) = true := by simp [g0]
        have HE : Hid (r = some s) := hide (by rw [← unhide HT]; simp [hasId, g0])
        clear HT HR g0
        go_wp2
        refine bodyPost_ret (v := .tuple #[stA s, .bool true]) (by simp [results, Tryz.results83, go_sem, z0, z1, z2]) rfl ⟨by rw [unhide HE]; rfl, ?_⟩
        exact (((unhide HF).setCell (p := ⟨B + 1, 0, none⟩) (fun t => absurd t (by have := unhide HBE; simp only []; omega)) _).setCell (p := ⟨B + 1, 1, none⟩) (fun t => absurd t (by have := unhide HBE; simp only []; omega)) _).setCell (p := ⟨B + 1, 2, none⟩) (fun t => absurd t (by have := unhide HBE; simp only []; omega)) _
      · have q0 : (s.id == id) = false := by simp [g0]
        have HE : Hid ((t.st.drop (i + 1)).find? (hasId id) = r) := hide (by rw [← unhide HT]; simp [hasId, g0])
        clear HT HR g0
        go_wp2
        exact ⟨⟨i + 1, by omega, by go_num, (by first | rfl | trivial), unhide HE⟩, by simp [intOf]; omega⟩
    · obtain rfl : i = t.st.length := by omega
      have HE : Hid (r = none) := hide (by rw [← unhide HI, List.drop_length]; rfl)
      clear HI HR H
      go_wp2
      refine bodyPost_ret (v := .tuple #[stA ⟨0, 0, 0⟩, .bool false]) (by simp [results, Tryz.results83, go_sem, z0, z1, z2]) rfl ⟨by rw [unhide HE]; rfl, ?_⟩
      exact (((unhide HF).setCell (p := ⟨B + 1, 0, none⟩) (fun t => absurd t (by have := unhide HBE; simp only []; omega)) _).setCell (p := ⟨B + 1, 1, none⟩) (fun t => absurd t (by have := unhide HBE; simp only []; omega)) _).setCell (p := ⟨B + 1, 2, none⟩) (fun t => absurd t (by have := unhide HBE; simp only []; omega)) _

set_option maxRecDepth 100000 in
theorem rspan_any (w : World) (A : Ad) (t : Tf) (h : TAt w A t) (a b : Int) :
    Calls Tryz.prog 90 #[tv A t, .int .i64 a, .int .i64 b] w fun e w' => e = .returned (.tuple #[spA ((spanOf t a b).getD ⟨0, 0, 0, 0, 0⟩), .bool (spanOf t a b).isSome]) ∧ Fr (fun _ => False) w w' := by
  obtain ⟨r, HR⟩ : ∃ r, Hid (spanOf t a b = r) := ⟨_, rfl⟩
  rw [unhide HR]
  obtain ⟨B, HBE⟩ : ∃ B, Hid (B = w.heap.size) := ⟨_, rfl⟩
  obtain ⟨W0, hW0⟩ : ∃ W0, W0 = (w.alloc (.cells (tc A t) 27)).alloc (.cells #[.int .i64 0, .int .i64 0, .int .i64 0, .int .i64 0, .int .i64 0] 50) := ⟨_, rfl⟩
  have HF : Hid (Fr (fun _ => False) w W0) := hide (by rw [hW0]; exact ((Fr.refl _ w).alloc _).alloc _)
  have hb : TB W0 B A t := by rw [hW0, unhide HBE]; exact (TB.new w A t).keep ((Fr.refl _ _).alloc _)
  have cB : W0.cell? ⟨B, 1, none⟩ = some (.slice A.aP t.sp.length A.cP) := hb.cell 1
  have z0 : W0.cell? ⟨B + 1, 0, none⟩ = some (.int .i64 0) := by rw [hW0, ← heap_alloc' HBE, World.cell?_alloc_new]; rfl
  have z1 : W0.cell? ⟨B + 1, 1, none⟩ = some (.int .i64 0) := by rw [hW0, ← heap_alloc' HBE, World.cell?_alloc_new]; rfl
  have z2 : W0.cell? ⟨B + 1, 2, none⟩ = some (.int .i64 0) := by rw [hW0, ← heap_alloc' HBE, World.cell?_alloc_new]; rfl
  have z3 : W0.cell? ⟨B + 1, 3, none⟩ = some (.int .i64 0) := by rw [hW0, ← heap_alloc' HBE, World.cell?_alloc_new]; rfl
  have z4 : W0.cell? ⟨B + 1, 4, none⟩ = some (.int .i64 0) := by rw [hW0, ← heap_alloc' HBE, World.cell?_alloc_new]; rfl
  have f0 : ∀ j, W0.frozen? ⟨B + 1, j, none⟩ = false := fun j => by rw [hW0, ← heap_alloc' HBE]; exact World.frozen?_alloc_new _ _ _ _
  have H := hide (h.sp.keep (unhide HF))
  have hl := h.lP
  have k1 := run_min
  have k2 := run_max
  clear h hb
  unfold tc at hW0
  unfold tv tc
  go_enter Tryz.func90, Tryz.ntmps90
  go_wp2
  rw [← hW0, ← unhide HBE]
  clear hW0
  go_loopw [8] (fun iv wr => ∃ (i : Nat), i ≤ t.sp.length ∧ iv = .int .i64 i ∧ wr = W0 ∧ Hid ((t.sp.drop i).find? (wants ⟨min a b, max a b, 0, 0, 0⟩) = r)) (fun iv _ => t.sp.length - (intOf iv).toNat)
  case atStart => exact ⟨0, Nat.zero_le _, rfl, rfl, hide (by rw [List.drop_zero]; exact unhide HR)⟩
  case round =>
    obtain ⟨i, hi, rfl, rfl, HI⟩ := hrel
    by_cases hil : i < t.sp.length
    · obtain ⟨bb, off, eA, c0, c1, c2, c3, c4⟩ := (unhide H).sp hil
      have ht := unhide HI
      rw [find_step _ _ _ hil] at ht
      have HT := hide ht
      rw [eA] at cB
      rw [eA]
      clear ht HI eA
      generalize t.sp[i] = s at *
      have hmi := imin_eq a b
      have hma := imax_eq a b
      by_cases g0 : s.fr = imin a b
      · have q0 : (s.fr == imin a b) = true := by simp [g0]
        by_cases g1 : s.to = imax a b
        · have q1 : (s.to == imax a b) = true := by simp [g1]
          have hw : wants ⟨min a b, max a b, 0, 0, 0⟩ s = true := by rw [← hmi, ← hma]; simp [wants, sameB, g0, g1]
          clear hmi hma g0 g1
          have HE : Hid (r = some s) := hide (by rw [← unhide HT]; simp [hw])
          clear HT HR hw
          go_wp2
          refine bodyPost_ret (v := .tuple #[spA s, .bool true]) (by simp [results, Tryz.results90, go_sem, z0, z1, z2, z3, z4]) rfl ⟨by rw [unhide HE]; rfl, ?_⟩
          exact (((((unhide HF).setCell (p := ⟨B + 1, 0, none⟩) (fun t => absurd t (by have := unhide HBE; simp only []; omega)) _).setCell (p := ⟨B + 1, 1, none⟩) (fun t => absurd t (by have := unhide HBE; simp only []; omega)) _).setCell (p := ⟨B + 1, 2, none⟩) (fun t => absurd t (by have := unhide HBE; simp only []; omega)) _).setCell (p := ⟨B + 1, 3, none⟩) (fun t => absurd t (by have := unhide HBE; simp only []; omega)) _).setCell (p := ⟨B + 1, 4, none⟩) (fun t => absurd t (by have := unhide HBE; simp only []; omega)) _
        · have q1 : (s.to == imax a b) = false := by simp [g1]
          have hw : wants ⟨min a b, max a b, 0, 0, 0⟩ s = false := by rw [← hmi, ← hma]; simp [wants, sameB, g1]
          clear hmi hma g0 g1
          have HE : Hid ((t.sp.drop (i + 1)).find? (wants ⟨min a b, max a b, 0, 0, 0⟩) = r) := hide (by rw [← unhide HT]; simp [hw])
          clear HT HR hw
          go_wp2
          exact ⟨⟨i + 1, by omega, by go_num, (by first | rfl | trivial), unhide HE⟩, by simp [intOf]; omega⟩
      · have q0 : (s.fr == imin a b) = false := by simp [g0]
        have hw : wants ⟨min a b, max a b, 0, 0, 0⟩ s = false := by rw [← hmi, ← hma]; simp [wants, sameB, g0]
        clear hmi hma g0
        have HE : Hid ((t.sp.drop (i + 1)).find? (wants ⟨min a b, max a b, 0, 0, 0⟩) = r) := hide (by rw [← unhide HT]; simp [hw])
        clear HT HR hw
        go_wp2
        exact ⟨⟨i + 1, by omega, by go_num, (by first | rfl | trivial), unhide HE⟩, by simp [intOf]; omega⟩
    · obtain rfl : i = t.sp.length := by omega
      have HE : Hid (r = none) := hide (by rw [← unhide HI, List.drop_length]; rfl)
      clear HI HR H
      go_wp2
      refine bodyPost_ret (v := .tuple #[spA ⟨0, 0, 0, 0, 0⟩, .bool false]) (by simp [results, Tryz.results90, go_sem, z0, z1, z2, z3, z4]) rfl ⟨by rw [unhide HE]; rfl, ?_⟩
      exact (((((unhide HF).setCell (p := ⟨B + 1, 0, none⟩) (fun t => absurd t (by have := unhide HBE; simp only []; omega)) _).setCell (p := ⟨B + 1, 1, none⟩) (fun t => absurd t (by have := unhide HBE; simp only []; omega)) _).setCell (p := ⟨B + 1, 2, none⟩) (fun t => absurd t (by have := unhide HBE; simp only []; omega)) _).setCell (p := ⟨B + 1, 3, none⟩) (fun t => absurd t (by have := unhide HBE; simp only []; omega)) _).setCell (p := ⟨B + 1, 4, none⟩) (fun t => absurd t (by have := unhide HBE; simp only []; omega)) _

theorem rsingle_any (w : World) (A : Ad) (t : Tf) (h : TAt w A t) (a b : Int) (pk : Bool) :
    Calls Tryz.prog 128 #[tv A t, .int .i64 a, .int .i64 b, .bool pk] w fun e w' => e = .returned (.tuple #[.int .i64 (singleR t a b pk).1, .int .i64 (singleR t a b pk).2]) ∧ Fr (fun _ => False) w w' := by
  have HR := hide (fun (w' : World) (hf : Fr (fun _ => False) w w') => rspan_any w' A t (h.keep hf) a b)
  have HX : Hid (singleR t a b pk = match spanOf t a b with | none => (0, 1) | some s => if price s.single then (if pk then (s.single, 0) else (rv (scaled s.single t.off), scaleE s.single t.off)) else (0, 50)) := rfl
  have hoff := h.off
  generalize singleR t a b pk = z at *
  generalize spanOf t a b = r at *
  clear h
  obtain ⟨W, hW⟩ : ∃ W, W = w.alloc (.cells (tc A t) 27) := ⟨_, rfl⟩
  have hF0 : Fr (fun _ => False) w W := by rw [hW]; exact (Fr.refl _ w).alloc _
  have hlt : w.heap.size < W.heap.size := by rw [hW, heap_alloc]; exact Nat.lt_succ_self _
  have c3 : W.cell? ⟨w.heap.size, 3, none⟩ = some (.float .f64 t.off) := by rw [hW, World.cell?_alloc_new]; rfl
  have RS := unhide HR W hF0
  have HF0 := hide (And.intro hF0 hlt)
  clear HR hF0 hlt
  unfold tc at hW
  unfold tv tc at *
  cases r with
  | none =>
    have HZ : Hid (z = (0, 1)) := hide (unhide HX)
    clear HX
    go_enter Tryz.func128, Tryz.ntmps128
    go_wp2_with fail
    rw [← hW]
    refine RS.mono ?_
    rintro e w1 ⟨rfl, hF⟩
    have HF := hide ((unhide HF0).1.trans hF (fun _ _ t => t))
    clear hF RS HF0 c3 hW
    go_wp2
    go_ret2
    exact ⟨by rw [unhide HZ]; rfl, (unhide HF).alloc _⟩
  | some s =>
    obtain ⟨s0, s1, s2, s3, s4⟩ := s
    have HX2 : Hid (z = if price s2 = true then (if pk = true then (s2, 0) else (rv (scaled s2 t.off), scaleE s2 t.off)) else (0, 50)) := unhide HX
    clear HX
    have RP := fun w => rprice_any w s2
    have RC := fun w => rscale_any w s2 t.off hoff
    have hpr := price_cases s2
    generalize price s2 = p at *
    cases p with
    | false =>
      have HZ : Hid (z = (0, 50)) := hide (by have := unhide HX2; simpa using this)
      clear HX2
      go_enter Tryz.func128, Tryz.ntmps128
      go_wp2_with fail
      rw [← hW]
      refine RS.mono ?_
      rintro e w1 ⟨rfl, hF⟩
      have HF := hide ((unhide HF0).1.trans hF (fun _ _ t => t))
      clear hF RS HF0 c3 hW
      go_wp2_with fail
      refine (RP _).mono ?_
      rintro e w2 ⟨rfl, rfl⟩
      go_wp2
      go_ret2
      exact ⟨by rw [unhide HZ]; rfl, (unhide HF).alloc _⟩
    | true =>
      cases pk with
      | true =>
        have HZ : Hid (z = (s2, 0)) := hide (by have := unhide HX2; simpa using this)
        clear HX2
        go_enter Tryz.func128, Tryz.ntmps128
        go_wp2_with fail
        rw [← hW]
        refine RS.mono ?_
        rintro e w1 ⟨rfl, hF⟩
        have HF := hide ((unhide HF0).1.trans hF (fun _ _ t => t))
        clear hF RS HF0 c3 hW
        go_wp2_with fail
        refine (RP _).mono ?_
        rintro e w2 ⟨rfl, rfl⟩
        go_wp2
        go_ret2
        exact ⟨by rw [unhide HZ]; rfl, (unhide HF).alloc _⟩
      | false =>
        have HZ : Hid (z = (rv (scaled s2 t.off), scaleE s2 t.off)) := hide (by have := unhide HX2; simpa using this)
        clear HX2
        generalize rv (scaled s2 t.off) = v1 at *
        generalize scaleE s2 t.off = v2 at *
        go_enter Tryz.func128, Tryz.ntmps128
        go_wp2_with fail
        rw [← hW]
        refine RS.mono ?_
        rintro e w1 ⟨rfl, hF⟩
        have HF := hide ((unhide HF0).1.trans hF (fun _ _ t => t))
        have c3' := (hF.cell (a := ⟨w.heap.size, 3, none⟩) (unhide HF0).2 (fun t => t)).trans c3
        have hlt2 := World.block_lt_of_cell? _ _ c3'
        simp only at hlt2
        clear hF RS HF0 c3 hW
        go_wp2_with fail
        refine (RP _).mono ?_
        rintro e w2 ⟨rfl, rfl⟩
        go_wp2_with fail
        refine (RC _).mono ?_
        rintro e w2 ⟨rfl, hF9⟩
        have HF9 := hide (((unhide HF).alloc _).trans hF9 (fun _ _ t => t))
        clear hF9
        go_wp2
        go_ret2
        exact ⟨by rw [unhide HZ]; rfl, unhide HF9⟩

end Go.Proofs.YtjgbllfppomcmaaGreat

