/- Rates: Rate, isOwed, shiftedDown, Scale. -/
import Derived.Test.YthgkdpepgnoepaaS1
import Derived.Test.YthgkdpepgnoepaaM0
import Derived.Test.YthgkdpepgnoepaaX0
import Derived.Laws.Externs
import Derived.Laws.Bits64b
import Derived.Laws.ShiftsVarLaws
namespace Go.Proofs.Ythgkdpepgnoepaa
open Go.RowKit

theorem call31 (b : Nat) (w : World) : (callFunc 58 #[.float .f64 b]).run Try.prog w = .ok (.value (.int .u64 (b : Int))) w := by
  rw [run_callFunc_extern Try.func58 (by kernel_rfl) (by kernel_rfl) (by kernel_rfl) (e := Extern.MathFloatBits.float64bits) (by kernel_rfl)]
  rfl

theorem call43 (x y : Nat) (w : World) : (callFunc 69 #[.int .u64 (x : Int), .int .u64 (y : Int), .int .u64 0]).run Try.prog w =
    .ok (.value (.tuple #[.int .u64 (((x + y) % 18446744073709551616 : Nat) : Int), .int .u64 (((x + y) / 18446744073709551616 : Nat) : Int)])) w := by
  rw [run_callFunc_extern Try.func69 (by kernel_rfl) (by kernel_rfl) (by kernel_rfl) (e := fun args => do
    let (x, y, c) ← Extern.MathBitsCarry.three "Add64" args
    pure (Extern.MathBitsCarry.pair ((x + y + c) % Extern.MathBitsCarry.m64) ((x + y + c) / Extern.MathBitsCarry.m64))) (by kernel_rfl)]
  rfl

/-- Is it a rate, by its bits? -/
def rate (b : Nat) : Bool := decide (b ≤ 4607182418800017408)

theorem rate_any (w : World) (b : Nat) : Calls Try.prog 29 #[.float .f64 b] w fun e w' => e = .returned (.bool (rate b)) ∧ w' = w := by
  have c1 := fun w => call31 b w
  have c2 := fun w => call31 4607182418800017408 w
  go_enter Try.func29, Try.ntmps29
  go_wp2
  go_ret
  refine ⟨?_, rfl⟩
  have : decide ((b : Int) ≤ 4607182418800017408) = rate b := by unfold rate; congr 1; simp; omega
  rw [← this]; rfl

def owed (n : Int) : Bool := decide (0 ≤ n) && right n

theorem owed_any (w : World) (n : Int) : Calls Try.prog 63 #[.int .i64 n] w fun e w' => e = .returned (.bool (owed n)) ∧ w' = w := by
  have R := right_any w n
  by_cases h1 : 0 ≤ n
  · have hr : owed n = right n := by simp [owed, h1]
    rw [hr]
    clear hr
    go_enter Try.func63, Try.ntmps63
    go_wp2_with fail
    refine R.mono ?_
    rintro e w1 ⟨rfl, rfl⟩
    go_wp2
    go_ret
    exact ⟨rfl, rfl⟩
  · have hr : owed n = false := by simp [owed]; omega
    rw [hr]
    clear hr
    go_enter Try.func63, Try.ntmps63
    go_wp2
    go_ret
    exact ⟨rfl, rfl⟩

theorem shl64 (x k : Nat) (y : Int) (hy : y = (k : Int)) : Op.shift .shl .u64 (x : Int) .u64 y = pure (.int .u64 ((x * 2 ^ min k 64 % 18446744073709551616 : Nat) : Int)) := by
  subst hy
  unfold Op.shift
  rw [if_neg (by omega)]
  show pure (Value.int .u64 (IntKind.u64.wrap ((x : Int) * 2 ^ min (k : Int).toNat 64))) = _
  rw [IntKind.wrap_u64, Int.toNat_natCast]
  congr 2

theorem shr64 (x k : Nat) (z y : Int) (hz : z = (x : Int)) (hy : y = (k : Int)) : Op.shift .shr .u64 z .u64 y = pure (.int .u64 ((x / 2 ^ min k 64 : Nat) : Int)) := by
  subst hz hy
  unfold Op.shift
  rw [if_neg (by omega)]
  show pure (Value.int .u64 (Int.fdiv (x : Int) (2 ^ min (k : Int).toNat 64))) = _
  rw [Int.toNat_natCast, Int.fdiv_eq_ediv_of_nonneg _ (Int.pow_nonneg (by decide))]
  congr 2

theorem far_eq (high low s : Nat) (hh : high < 9223372036854775808) (hl : low < 18446744073709551616) (hs : 64 < s) :
    (high + 1 * 2 ^ min (s - 65) 64 % 18446744073709551616) / 2 ^ min (s - 64) 64 = (high * 18446744073709551616 + low + 2 ^ (s - 1)) / 2 ^ s := by
  by_cases h : s ≤ 128
  · rw [Nat.min_eq_left (by omega), Nat.min_eq_left (by omega), Nat.one_mul, Nat.mod_eq_of_lt (Nat.lt_of_le_of_lt (Nat.pow_le_pow_right (by decide) (show s - 65 ≤ 63 by omega)) (by decide))]
    have e1 : 2 ^ (s - 1) = 2 ^ (s - 65) * 18446744073709551616 := by
      rw [show (18446744073709551616 : Nat) = 2 ^ 64 by decide, ← Nat.pow_add]; congr 1; omega
    have e2 : 2 ^ s = 18446744073709551616 * 2 ^ (s - 64) := by
      rw [show (18446744073709551616 : Nat) = 2 ^ 64 by decide, ← Nat.pow_add]; congr 1; omega
    rw [e1, e2, ← Nat.div_div_eq_div_mul]
    congr 1
    omega
  · rw [Nat.min_eq_right (by omega), Nat.min_eq_right (by omega)]
    have e1 : 2 ^ 128 ≤ 2 ^ (s - 1) := Nat.pow_le_pow_right (by decide) (by omega)
    have e2 : 2 ^ s = 2 * 2 ^ (s - 1) := by
      rw [show s = (s - 1) + 1 by omega, Nat.pow_succ]; simp only [Nat.add_sub_cancel]; omega
    rw [e2]
    generalize 2 ^ (s - 1) = Y at e1
    rw [Nat.div_eq_of_lt (show high + 1 * 2 ^ 64 % 18446744073709551616 < 2 ^ 64 by omega), Nat.div_eq_of_lt (by omega)]

theorem shifted_far (w : World) (high low s : Nat) (hh : high < 9223372036854775808) (hl : low < 18446744073709551616) (hs : 64 < s) (hs2 : s ≤ 1075) :
    Calls Try.prog 65 #[.int .u64 (high : Int), .int .u64 (low : Int), .int .u64 (s : Int)] w fun e w' => e = .returned (.int .u64 (((high * 18446744073709551616 + low + 2 ^ (s - 1)) / 2 ^ s : Nat) : Int)) ∧ w' = w := by
  have h1 : Op.shift .shl .u64 1 .u64 ((s : Int) - 64 - 1) = pure (.int .u64 ((1 * 2 ^ min (s - 65) 64 % 18446744073709551616 : Nat) : Int)) := shl64 1 (s - 65) ((s : Int) - 64 - 1) (by omega)
  have hA : 1 * 2 ^ min (s - 65) 64 % 18446744073709551616 ≤ 9223372036854775808 := by
    by_cases h : s ≤ 128
    · rw [Nat.min_eq_left (by omega), Nat.one_mul]
      have : 2 ^ (s - 65) ≤ 2 ^ 63 := Nat.pow_le_pow_right (by decide) (by omega)
      exact Nat.le_trans (Nat.mod_le _ _) (Nat.le_trans this (by decide))
    · rw [Nat.min_eq_right (by omega)]; decide
  have hE := far_eq high low s hh hl hs
  generalize 1 * 2 ^ min (s - 65) 64 % 18446744073709551616 = A at h1 hA hE
  have h2 := shr64 (high + A) (s - 64) ((high : Int) + A) ((s : Int) - 64) (by omega) (by omega)
  rw [hE] at h2
  generalize (high * 18446744073709551616 + low + 2 ^ (s - 1)) / 2 ^ s = R at h2 ⊢
  clear hE
  go_enter Try.func65, Try.ntmps65
  go_wp2
  go_ret
  exact ⟨rfl, rfl⟩

theorem near_eq (high low s : Nat) (hs0 : 0 < s) (hs : s ≤ 64) (hd : (high * 18446744073709551616 + low + 2 ^ (s - 1)) / 2 ^ s < 18446744073709551616) :
    (((high + (low + 2 ^ (s - 1)) / 18446744073709551616) * 2 ^ min (64 - s) 64 % 18446744073709551616) ||| ((low + 2 ^ (s - 1)) % 18446744073709551616 / 2 ^ min s 64)) = (high * 18446744073709551616 + low + 2 ^ (s - 1)) / 2 ^ s := by
  rw [Nat.min_eq_left (by omega), Nat.min_eq_left hs]
  have e1 : (18446744073709551616 : Nat) = 2 ^ s * 2 ^ (64 - s) := by
    rw [← Nat.pow_add, show s + (64 - s) = 64 by omega]
  have hx : high * 18446744073709551616 + low + 2 ^ (s - 1) = (high + (low + 2 ^ (s - 1)) / 18446744073709551616) * 18446744073709551616 + (low + 2 ^ (s - 1)) % 18446744073709551616 := by omega
  generalize hq : (low + 2 ^ (s - 1)) / 18446744073709551616 = q at *
  generalize hr : (low + 2 ^ (s - 1)) % 18446744073709551616 = r at *
  have hr' : r < 18446744073709551616 := by rw [← hr]; exact Nat.mod_lt _ (by decide)
  rw [hx] at hd ⊢
  have hv : ((high + q) * 18446744073709551616 + r) / 2 ^ s = (high + q) * 2 ^ (64 - s) + r / 2 ^ s := by
    have : (high + q) * 18446744073709551616 = 2 ^ s * ((high + q) * 2 ^ (64 - s)) := by
      rw [e1, Nat.mul_left_comm]
    rw [this, Nat.mul_add_div (Nat.two_pow_pos s)]
  rw [hv] at hd
  rw [hv, Nat.mod_eq_of_lt (Nat.lt_of_le_of_lt (Nat.le_add_right _ _) hd)]
  have hlt : r / 2 ^ s < 2 ^ (64 - s) := by
    rw [Nat.div_lt_iff_lt_mul (Nat.two_pow_pos s), Nat.mul_comm, ← e1]; exact hr'
  rw [Nat.mul_comm, Nat.two_pow_add_eq_or_of_lt hlt]

theorem shifted_near (w : World) (high low s : Nat) (hh : high < 9223372036854775808) (hl : low < 18446744073709551616) (hs0 : 0 < s) (hs : s ≤ 64) (hd : (high * 18446744073709551616 + low + 2 ^ (s - 1)) / 2 ^ s < 18446744073709551616) :
    Calls Try.prog 65 #[.int .u64 (high : Int), .int .u64 (low : Int), .int .u64 (s : Int)] w fun e w' => e = .returned (.int .u64 (((high * 18446744073709551616 + low + 2 ^ (s - 1)) / 2 ^ s : Nat) : Int)) ∧ w' = w := by
  have hE := near_eq high low s hs0 hs hd
  have hA : 2 ^ (s - 1) ≤ 9223372036854775808 := Nat.pow_le_pow_right (n := 2) (by decide) (show s - 1 ≤ 63 by omega)
  have h1 : IntKind.u64.wrap (2 ^ (s - 1)) = ((2 ^ (s - 1) : Nat) : Int) := by
    rw [IntKind.wrap_u64]
    have : (2 : Int) ^ (s - 1) = ((2 ^ (s - 1) : Nat) : Int) := by simp
    rw [this]
    generalize 2 ^ (s - 1) = Y at hA
    omega
  generalize hR : (high * 18446744073709551616 + low + 2 ^ (s - 1)) / 2 ^ s = R at hE hd ⊢
  clear hR
  generalize 2 ^ (s - 1) = A at h1 hA hE
  have c1 := fun w => call43 low A w
  have hC : (low + A) / 18446744073709551616 ≤ 1 := by omega
  have hL : (low + A) % 18446744073709551616 < 18446744073709551616 := Nat.mod_lt _ (by decide)
  generalize (low + A) / 18446744073709551616 = C at c1 hC hE
  generalize (low + A) % 18446744073709551616 = L at c1 hL hE
  have HR : Hid (bits .or .u64 (IntKind.u64.wrap (((high : Int) + C) * 2 ^ (64 - s))) ((L : Int) / 2 ^ s) = (R : Int)) := by
    have a1 : IntKind.u64.wrap (((high : Int) + C) * 2 ^ (64 - s)) = (((high + C) * 2 ^ (64 - s) % 18446744073709551616 : Nat) : Int) := by
      rw [IntKind.wrap_u64]; simp
    have a2 : (L : Int) / 2 ^ s = ((L / 2 ^ s : Nat) : Int) := by simp
    rw [Nat.min_eq_left (by omega), Nat.min_eq_left hs] at hE
    have a3 : L / 2 ^ s < 18446744073709551616 := Nat.lt_of_le_of_lt (Nat.div_le_self _ _) hL
    rw [a1, a2, bits_or_u64_nat _ _ (Nat.mod_lt _ (by decide)) a3, hE]
    exact rfl
  clear hE
  go_enter Try.func65, Try.ntmps65
  go_wp2
  go_ret
  exact ⟨by rw [← unhide HR]; rfl, rfl⟩

/-- What Scale answers. -/
def scaled (n : Int) (b : Nat) : Option Int := if owed n && rate b then some (sc n.toNat b : Nat) else none
def scaleE (n : Int) (b : Nat) : Int := if owed n then (if rate b then 0 else 51) else 50

theorem and_mask (b : Nat) : b &&& 4503599627370495 = b % 4503599627370496 := Nat.and_two_pow_sub_one_eq_mod b 52

theorem or_hidden (b : Nat) : (b % 4503599627370496 ||| 4503599627370496) = fracOf b := by
  have h := Nat.two_pow_add_eq_or_of_lt (i := 52) (b := b % 4503599627370496) (Nat.mod_lt _ (by decide)) 1
  rw [Nat.or_comm]
  unfold fracOf
  simpa using h.symm

theorem scale_any (w : World) (n : Int) (b : Nat) (hb : b < 18446744073709551616) :
    Calls Try.prog 44 #[.int .i64 n, .float .f64 b] w fun e w' => e = .returned (.tuple #[.int .i64 (rv (scaled n b)), .int .i64 (scaleE n b)]) ∧ w' = w := by
  have R1 := owed_any w n
  have R2 := rate_any w b
  by_cases h1 : owed n = true
  · by_cases h2 : rate b = true
    · have hn : 0 ≤ n ∧ n ≤ 9007199254740992 := by
        have := h1; simp [owed, right] at this; omega
      have hr : b ≤ 4607182418800017408 := by simpa [rate] using h2
      obtain ⟨m, rfl⟩ := Int.eq_ofNat_of_zero_le hn.1
      have e1 : scaled (m : Int) b = some ((sc m b : Nat) : Int) := by simp [scaled, h1, h2]
      have e2 : scaleE (m : Int) b = 0 := by simp [scaleE, h1, h2]
      rw [e1, e2]
      rw [h1] at R1
      rw [h2] at R2
      clear e1 e2 h1 h2
      have c1 := fun w => call31 b w
      have b1 : bits .and .u64 (b : Int) 4503599627370495 = ((b % 4503599627370496 : Nat) : Int) := by
        have := bits_and_u64_nat b 4503599627370495 hb (by decide)
        rw [and_mask] at this
        exact this
      have b2 : bits .or .u64 ((b % 4503599627370496 : Nat) : Int) 4503599627370496 = ((fracOf b : Nat) : Int) := by
        have := bits_or_u64_nat (b % 4503599627370496) 4503599627370496 (Nat.lt_of_lt_of_le (Nat.mod_lt _ (by decide)) (by decide)) (by decide)
        rw [or_hidden] at this
        exact this
      have hf : fracOf b < 9007199254740992 := by unfold fracOf; omega
      have hP : m * fracOf b < 85070591730234615865843651857942052864 := by
        have : m * fracOf b ≤ 9007199254740992 * 9007199254740992 := Nat.mul_le_mul (by omega) (by omega)
        exact Nat.lt_of_le_of_lt this (by decide)
      have hsc : sc m b ≤ 9007199254740992 := Nat.le_trans (sc_le hr) (by omega)
      have R3 := Try.bits_Mul64 m (fracOf b) (by omega) (by omega) w
      have hdiv : b / 4503599627370496 ≤ 1023 := by omega
      have hsd : (m * fracOf b + 2 ^ (1075 - b / 4503599627370496 - 1)) / 2 ^ (1075 - b / 4503599627370496) = sc m b := by
        unfold sc
        rw [show 1075 - b / 4503599627370496 - 1 = 1074 - b / 4503599627370496 by omega]
      have R4 : Calls Try.prog 65 #[.int .u64 ((m * fracOf b / 18446744073709551616 : Nat) : Int), .int .u64 ((m * fracOf b % 18446744073709551616 : Nat) : Int), .int .u64 (1075 - (b : Int) / 4503599627370496)] w fun e w' => e = .returned (.int .u64 ((sc m b : Nat) : Int)) ∧ w' = w := by
        have hc : (1075 - (b : Int) / 4503599627370496) = ((1075 - b / 4503599627370496 : Nat) : Int) := by omega
        rw [hc]
        have hx : m * fracOf b / 18446744073709551616 * 18446744073709551616 + m * fracOf b % 18446744073709551616 = m * fracOf b := by omega
        have hh : m * fracOf b / 18446744073709551616 < 9223372036854775808 := by omega
        have hl : m * fracOf b % 18446744073709551616 < 18446744073709551616 := Nat.mod_lt _ (by decide)
        by_cases hs : 64 < 1075 - b / 4503599627370496
        · have := shifted_far w _ _ _ hh hl hs (by omega)
          rw [hx, hsd] at this
          exact this
        · have := shifted_near w _ _ _ hh hl (by omega) (by omega : 1075 - b / 4503599627370496 ≤ 64) (by rw [hx, hsd]; omega)
          rw [hx, hsd] at this
          exact this
      generalize m * fracOf b / 18446744073709551616 = H1 at R3 R4
      generalize m * fracOf b % 18446744073709551616 = H2 at R3 R4
      clear hsd hP
      generalize sc m b = r at *
      generalize fracOf b = F at *
      generalize b % 4503599627370496 = x at b1 b2
      have HR := hide (And.intro R3 R4)
      clear R3 R4
      go_enter Try.func44, Try.ntmps44
      go_wp2_with fail
      refine R1.mono ?_
      rintro e w1 ⟨rfl, rfl⟩
      go_wp2_with fail
      refine R2.mono ?_
      rintro e w1 ⟨rfl, rfl⟩
      go_wp2_with fail
      refine (unhide HR).1.mono ?_
      rintro e w1 ⟨rfl, rfl⟩
      go_wp2_with fail
      refine (unhide HR).2.mono ?_
      rintro e w1 ⟨rfl, rfl⟩
      go_wp2
      go_ret2
      exact ⟨rfl, rfl⟩
    · have h2' : rate b = false := by simpa using h2
      have e1 : scaled n b = none := by simp [scaled, h2']
      have e2 : scaleE n b = 51 := by simp [scaleE, h1, h2']
      rw [e1, e2]
      rw [h1] at R1
      rw [h2'] at R2
      clear e1 e2 h1 h2 h2'
      go_enter Try.func44, Try.ntmps44
      go_wp2_with fail
      refine R1.mono ?_
      rintro e w1 ⟨rfl, rfl⟩
      go_wp2_with fail
      refine R2.mono ?_
      rintro e w1 ⟨rfl, rfl⟩
      go_wp2
      go_ret2
      exact ⟨rfl, rfl⟩
  · have h1' : owed n = false := by simpa using h1
    have e1 : scaled n b = none := by simp [scaled, h1']
    have e2 : scaleE n b = 50 := by simp [scaleE, h1']
    rw [e1, e2]
    rw [h1'] at R1
    clear e1 e2 h1 h1'
    go_enter Try.func44, Try.ntmps44
    go_wp2_with fail
    refine R1.mono ?_
    rintro e w1 ⟨rfl, rfl⟩
    go_wp2
    go_ret2
    exact ⟨rfl, rfl⟩

end Go.Proofs.Ythgkdpepgnoepaa
