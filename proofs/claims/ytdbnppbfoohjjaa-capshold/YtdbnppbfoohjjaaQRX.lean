import Derived.Test.YtdbnppbfoohjjaaQSX
/- The document's sums: Right, Add, Sub, Sum. -/
namespace Go.Proofs.Ytdbnppbfoohjjaa
open Go.RowKit

end Go.Proofs.Ytdbnppbfoohjjaa

/- The document's rates: parts, Rate. -/
namespace Go.Proofs.Ytdbnppbfoohjjaa
open Go.RowKit

theorem results_tmp4 {fn : Func} {t u v x : Tmp} (h : fn.results = #[.tmp t, .tmp u, .tmp v, .tmp x]) (tmps : Array Value) (P : Program) (w : World) :
    (results fn tmps).run P w = .ok (.tuple #[tmps.getD t undef, tmps.getD u undef, tmps.getD v undef, tmps.getD x undef]) w := by
  simp [results, h]

/-- A float's parts: sign, whole number, power, whether it is one. -/
def pSign (b : Nat) : Bool := decide (9223372036854775808 ≤ b)
def pExp (b : Nat) : Nat := b / 4503599627370496 % 2048
def pWhole (b : Nat) : Nat := if pExp b = 2047 then b % 4503599627370496 else if pExp b = 0 then b % 4503599627370496 else b % 4503599627370496 + 4503599627370496
def pPower (b : Nat) : Int := if pExp b = 2047 then 0 else if pExp b = 0 then -1074 else (pExp b : Int) - 1075
def pOk (b : Nat) : Bool := decide (pExp b ≠ 2047)

theorem parts_any (w : World) (b : Nat) (hb : b < 18446744073709551616) :
    Calls Try.prog 91 #[.float .f64 b] w fun e w' => e = .returned (.tuple #[.bool (pSign b), .int .u64 ((pWhole b : Nat) : Int), .int .i64 (pPower b), .bool (pOk b)]) ∧ w' = w := by
  have c1 := fun w => call31 b w
  have HS : Hid (((b : Int) / 9223372036854775808 == 1) = pSign b) := by
    unfold Hid pSign
    rw [Bool.eq_iff_iff]
    simp
    omega
  have he : ((b : Int) / 4503599627370496 % 2048) = ((pExp b : Nat) : Int) := by simp [pExp]
  by_cases h1 : pExp b = 2047
  · have hx : ((b : Int) / 4503599627370496 % 2048) = 2047 := by omega
    have HV : Hid (pWhole b = b % 4503599627370496 ∧ pPower b = 0 ∧ pOk b = false) := by simp [Hid, pWhole, pPower, pOk, h1]
    clear h1 he
    go_enter Try.func91, Try.ntmps91
    go_wp2
    refine bodyPost_ret (results_tmp4 rfl _ _ _) rfl ?_
    refine ⟨?_, rfl⟩
    rw [(unhide HV).1, (unhide HV).2.1, (unhide HV).2.2, ← unhide HS]
    rfl
  · by_cases h0 : pExp b = 0
    · have hx : ((b : Int) / 4503599627370496 % 2048) = 0 := by omega
      have HV : Hid (pWhole b = b % 4503599627370496 ∧ pPower b = -1074 ∧ pOk b = true) := by simp [Hid, pWhole, pPower, pOk, h0]
      clear h1 h0 he
      go_enter Try.func91, Try.ntmps91
      go_wp2
      refine bodyPost_ret (results_tmp4 rfl _ _ _) rfl ?_
      refine ⟨?_, rfl⟩
      rw [(unhide HV).1, (unhide HV).2.1, (unhide HV).2.2, ← unhide HS]
      rfl
    · have hx : ((b : Int) / 4503599627370496 % 2048 == 0) = false := by rw [he]; simp; exact h0
      have hy : ((b : Int) / 4503599627370496 % 2048 == 2047) = false := by
        rw [he]
        have : ¬ ((pExp b : Nat) : Int) = 2047 := by omega
        simpa using this
      have HV : Hid (((pWhole b : Nat) : Int) = (b : Int) % 4503599627370496 + 4503599627370496 ∧ pPower b = (b : Int) / 4503599627370496 % 2048 - 1075 ∧ pOk b = true) := by
        rw [he]
        simp [Hid, pWhole, pPower, pOk, h0, h1]
      clear h1 h0 he
      go_enter Try.func91, Try.ntmps91
      go_wp2
      refine bodyPost_ret (results_tmp4 rfl _ _ _) rfl ?_
      refine ⟨?_, rfl⟩
      rw [(unhide HV).1, (unhide HV).2.1, (unhide HV).2.2, ← unhide HS]
      rfl

theorem rate_parts (b : Nat) (hb : b < 18446744073709551616) : rate b = (pOk b && !pSign b && (decide (pPower b < -52) || (decide (pPower b = -52) && decide (pWhole b = 4503599627370496)) || decide (pWhole b = 0))) := by
  unfold rate pOk pSign pPower pWhole
  have he : pExp b = b / 4503599627370496 % 2048 := rfl
  rw [Bool.eq_iff_iff]
  by_cases h1 : pExp b = 2047
  · simp [h1]; omega
  · by_cases h0 : pExp b = 0
    · simp [h0]; omega
    · simp [h1, h0]; omega

theorem rrate_any (w : World) (b : Nat) (hb : b < 18446744073709551616) : Calls Try.prog 77 #[.float .f64 b] w fun e w' => e = .returned (.bool (rate b)) ∧ w' = w := by
  have R := parts_any w b hb
  have HP := hide (rate_parts b hb)
  have hw : pWhole b < 9007199254740992 := by unfold pWhole; split; omega; split <;> omega
  generalize pSign b = s at R HP
  generalize pOk b = o at R HP
  generalize pWhole b = q at R HP hw
  generalize pPower b = p at R HP
  generalize rate b = r at HP ⊢
  go_enter Try.func77, Try.ntmps77
  go_wp2_with fail
  refine R.mono ?_
  rintro e w1 ⟨rfl, rfl⟩
  cases o with
  | false =>
    go_wp2
    go_ret
    exact ⟨by rw [unhide HP]; rfl, rfl⟩
  | true =>
    cases s with
    | true =>
      go_wp2
      go_ret
      exact ⟨by rw [unhide HP]; rfl, rfl⟩
    | false =>
      go_wp2
      all_goals
        go_ret
        refine ⟨?_, rfl⟩
        rw [unhide HP]
        first
          | (simp_all; done)
          | (simp_all; omega)
          | (simp_all; rw [Bool.eq_iff_iff]; simp; done)
          | (simp_all; rw [Bool.eq_iff_iff]; simp; omega)

end Go.Proofs.Ytdbnppbfoohjjaa

/- The document's order of all floats: rank, Order. -/
namespace Go.Proofs.Ytdbnppbfoohjjaa
open Go.RowKit

def rk (s : Bool) (q : Nat) (o : Bool) : Int :=
  if !o && decide (0 < q) then 6 else if !o && s then 0 else if !o then 5 else if decide (q = 0) && s then 2 else if decide (q = 0) then 3 else if s then 1 else 4

theorem kind_parts (b : Nat) (hb : b < 18446744073709551616) : kindN b = rk (pSign b) (pWhole b) (pOk b) := by
  have he : pExp b = b / 4503599627370496 % 2048 := rfl
  unfold rk pSign pWhole pOk kindN
  by_cases h1 : pExp b = 2047
  · simp only [h1, if_true, ne_eq, not_true_eq_false, decide_false, Bool.not_false, Bool.true_and, decide_eq_true_eq]
    repeat' split
    all_goals first | rfl | omega
  · by_cases h0 : pExp b = 0
    · have h2 : ¬ (0 = 2047) := by omega
      simp only [h0, h2, if_true, if_false, ne_eq, not_false_eq_true, decide_true, Bool.not_true, Bool.false_and, Bool.false_eq_true, Bool.and_eq_true, decide_eq_true_eq]
      repeat' split
      all_goals first | rfl | omega
    · simp only [h1, h0, if_false, ne_eq, not_false_eq_true, decide_true, Bool.not_true, Bool.false_and, Bool.false_eq_true, Bool.and_eq_true, decide_eq_true_eq]
      repeat' split
      all_goals first | rfl | omega

theorem rrank_any (w : World) (b : Nat) (hb : b < 18446744073709551616) : Calls Try.prog 88 #[.float .f64 b] w fun e w' => e = .returned (.int .i64 (kindN b)) ∧ w' = w := by
  have R := parts_any w b hb
  have HK := hide (kind_parts b hb)
  have hq : pWhole b = 0 ∨ 0 < pWhole b := by omega
  generalize kindN b = k at *
  generalize pSign b = s at *
  generalize pWhole b = q at *
  generalize pPower b = p at *
  generalize pOk b = o at *
  go_enter Try.func88, Try.ntmps88
  go_wp2_with fail
  refine R.mono ?_
  rintro e w1 ⟨rfl, rfl⟩
  clear R
  cases o with
  | false =>
    cases s with
    | false =>
      rcases hq with rfl | hq
      · go_wp2
        go_ret
        exact ⟨by rw [unhide HK]; rfl, rfl⟩
      · go_wp2
        go_ret
        exact ⟨by rw [unhide HK]; simp [rk, hq], rfl⟩
    | true =>
      rcases hq with rfl | hq
      · go_wp2
        go_ret
        exact ⟨by rw [unhide HK]; rfl, rfl⟩
      · go_wp2
        go_ret
        exact ⟨by rw [unhide HK]; simp [rk, hq], rfl⟩
  | true =>
    cases s with
    | false =>
      rcases hq with rfl | hq
      · go_wp2
        go_ret
        exact ⟨by rw [unhide HK]; rfl, rfl⟩
      · have h0 : ((q : Int) == 0) = false := by simp; omega
        go_wp2
        go_ret
        exact ⟨by rw [unhide HK]; simp [rk, show ¬ q = 0 by omega], rfl⟩
    | true =>
      rcases hq with rfl | hq
      · go_wp2
        go_ret
        exact ⟨by rw [unhide HK]; rfl, rfl⟩
      · have h0 : ((q : Int) == 0) = false := by simp; omega
        go_wp2
        go_ret
        exact ⟨by rw [unhide HK]; simp [rk, show ¬ q = 0 by omega], rfl⟩

theorem lss_order (a b : Nat) (c : Ordering) (h : Ieee.double.order a b = some c) (t : TypeId) : binOp .lss t (.float .f64 a) (.float .f64 b) = pure (.bool (c == .lt)) := by
  rw [binOp_float_cmp_lss]
  refine congrArg (fun z => pure (Value.bool z)) ?_
  show (Ieee.double.order a b == some .lt) = (c == .lt)
  rw [h]
  cases c <;> rfl
theorem gtr_order (a b : Nat) (c : Ordering) (h : Ieee.double.order a b = some c) (t : TypeId) : binOp .gtr t (.float .f64 a) (.float .f64 b) = pure (.bool (c == .gt)) := by
  rw [binOp_float_cmp_gtr]
  refine congrArg (fun z => pure (Value.bool z)) ?_
  show (Ieee.double.order a b == some .gt) = (c == .gt)
  rw [h]
  cases c <;> rfl

theorem cmp_cases (a b : Nat) : (compare a b = .lt ∧ cmpN a b = -1) ∨ (compare a b = .eq ∧ cmpN a b = 0) ∨ (compare a b = .gt ∧ cmpN a b = 1) := by
  have hc : compare a b = compareOfLessAndEq a b := rfl
  unfold cmpN
  rw [hc]
  unfold compareOfLessAndEq
  rcases Nat.lt_trichotomy a b with h | h | h
  · exact .inl ⟨by rw [if_pos h], by rw [if_pos h]⟩
  · exact .inr (.inl ⟨by rw [if_neg (by omega), if_pos h], by rw [if_neg (by omega), if_neg (by omega)]⟩)
  · exact .inr (.inr ⟨by rw [if_neg (by omega), if_neg (by omega)], by rw [if_neg (by omega), if_pos h]⟩)

theorem rorder_any (w : World) (a b : Nat) (ha : a < 18446744073709551616) (hb : b < 18446744073709551616) : Calls Try.prog 71 #[.float .f64 a, .float .f64 b] w fun e w' => e = .returned (.int .i64 (ordN a b)) ∧ w' = w := by
  have R1 := rrank_any w a ha
  have R2 := rrank_any w b hb
  by_cases hk : kindN a = kindN b
  · have hab : ((kindN a = 1 ∨ kindN a = 4) ∧ ∃ c : Ordering, Ieee.double.order a b = some c ∧ ((c = .lt ∧ ordN a b = -1) ∨ (c = .eq ∧ ordN a b = 0) ∨ (c = .gt ∧ ordN a b = 1))) ∨ (kindN a ≠ 1 ∧ kindN a ≠ 4 ∧ ordN a b = 0) := by
      by_cases h4 : kindN a = 4
      · obtain ⟨l1, l2, e⟩ := ord_four ha hb h4 (by omega)
        refine .inl ⟨.inr h4, _, order_pos l1 l2, ?_⟩
        rw [e]
        exact cmp_cases a b
      · by_cases h1 : kindN a = 1
        · obtain ⟨r, s, l1, l2, e1, e2, e⟩ := ord_one ha hb h1 (by omega)
          refine .inl ⟨.inl h1, _, by rw [e1, e2]; exact order_neg l1 l2, ?_⟩
          rw [e]
          exact cmp_cases s r
        · exact .inr ⟨h1, h4, ord_plain ha hb hk h1 h4⟩
    rw [← hk] at R2
    rcases hab with ⟨hkk, c, ho, hc⟩ | ⟨h1, h4, e⟩
    · have o1 := lss_order a b c ho
      have o2 := gtr_order a b c ho
      clear ho hk
      generalize kindN a = k at *
      generalize ordN a b = z at *
      rcases hc with ⟨rfl, rfl⟩ | ⟨rfl, rfl⟩ | ⟨rfl, rfl⟩ <;> rcases hkk with rfl | rfl
      all_goals
        go_enter Try.func71, Try.ntmps71
        go_wp2_with fail
        refine R1.mono ?_
        rintro e w1 ⟨rfl, rfl⟩
        go_wp2_with fail
        refine R2.mono ?_
        rintro e w1 ⟨rfl, rfl⟩
        go_wp2
        go_ret
        exact ⟨rfl, rfl⟩
    · rw [e]
      generalize kindN a = k at *
      have n1 : (k != 1) = true := by simpa using h1
      have n4 : (k != 4) = true := by simpa using h4
      clear hk e
      go_enter Try.func71, Try.ntmps71
      go_wp2_with fail
      refine R1.mono ?_
      rintro e w1 ⟨rfl, rfl⟩
      go_wp2_with fail
      refine R2.mono ?_
      rintro e w1 ⟨rfl, rfl⟩
      go_wp2
      go_ret
      exact ⟨rfl, rfl⟩
  · have e := ord_kind ha hb hk
    rw [e]
    generalize kindN a = x at *
    generalize kindN b = y at *
    clear e
    by_cases hlt : x < y
    · rw [if_pos hlt]
      go_enter Try.func71, Try.ntmps71
      go_wp2_with fail
      refine R1.mono ?_
      rintro e w1 ⟨rfl, rfl⟩
      go_wp2_with fail
      refine R2.mono ?_
      rintro e w1 ⟨rfl, rfl⟩
      go_wp2
      go_ret
      exact ⟨rfl, rfl⟩
    · rw [if_neg hlt]
      have hgt : y < x := by omega
      go_enter Try.func71, Try.ntmps71
      go_wp2_with fail
      refine R1.mono ?_
      rintro e w1 ⟨rfl, rfl⟩
      go_wp2_with fail
      refine R2.mono ?_
      rintro e w1 ⟨rfl, rfl⟩
      go_wp2
      go_ret
      exact ⟨rfl, rfl⟩

end Go.Proofs.Ytdbnppbfoohjjaa

