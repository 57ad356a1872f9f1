/- The order of all floats: IsNaN, rank, Compare, Order. -/
import Derived.Test.YtighehbeeflhpaaDoorS2
namespace Go.Proofs.YtighehbeeflhpaaDoor
open Go.RowKit

def nan (b : Nat) : Bool := decide (9218868437227405312 < b % 9223372036854775808)

theorem neq_self (b : Nat) (hb : b < 18446744073709551616) (t : TypeId) : binOp .neq t (.float .f64 b) (.float .f64 b) = pure (.bool (nan b)) := by
  rw [binOp_float_cmp_neq]
  refine congrArg (fun z => pure (Value.bool z)) ?_
  show (Ieee.double.order b b != some .eq) = nan b
  by_cases h : 9218868437227405312 < b % 9223372036854775808
  · rw [order_nan h]; simp [nan, h]
  · rw [order_self hb h]; simp [nan, h]

theorem isnan_any (w : World) (b : Nat) (hb : b < 18446744073709551616) : Calls Tryd.prog 45 #[.float .f64 b] w fun e w' => e = .returned (.bool (nan b)) ∧ w' = w := by
  have h := neq_self b hb
  go_enter Tryd.func45, Tryd.ntmps45
  go_wp2
  go_ret
  exact ⟨rfl, rfl⟩

theorem compare_any (w : World) (a b : Nat) : Calls Tryd.prog 36 #[.int .u64 (a : Int), .int .u64 (b : Int)] w fun e w' => e = .returned (.int .i64 (cmpN a b)) ∧ w' = w := by
  rcases Nat.lt_trichotomy a b with h | h | h
  · have HE : Hid (cmpN a b = -1) := by unfold Hid cmpN; rw [if_pos h]
    go_enter Tryd.func36, Tryd.ntmps36
    go_wp2
    go_ret
    exact ⟨by rw [unhide HE]; rfl, rfl⟩
  · subst h
    have HE : Hid (cmpN a a = 0) := by unfold Hid cmpN; rw [if_neg (by omega), if_neg (by omega)]
    go_enter Tryd.func36, Tryd.ntmps36
    go_wp2
    go_ret
    exact ⟨by rw [unhide HE]; rfl, rfl⟩
  · have HE : Hid (cmpN a b = 1) := by unfold Hid cmpN; rw [if_neg (by omega), if_pos h]
    go_enter Tryd.func36, Tryd.ntmps36
    go_wp2
    go_ret
    exact ⟨by rw [unhide HE]; rfl, rfl⟩

theorem or_sign (b : Nat) (h : b < 9223372036854775808) : (b ||| 9223372036854775808) = b + 9223372036854775808 := by
  have h2 := Nat.two_pow_add_eq_or_of_lt (i := 63) (b := b) h 1
  rw [Nat.or_comm]
  have h3 : 9223372036854775808 + b = 9223372036854775808 ||| b := by simpa using h2
  omega

theorem and_sign (b : Nat) (hb : b < 18446744073709551616) : (b &&& 9223372036854775808) = if 9223372036854775808 ≤ b then 9223372036854775808 else 0 := by
  have h2 : (b &&& 9223372036854775808) = b / 9223372036854775808 % 2 * 9223372036854775808 := nat_bit 63 b
  rw [h2]
  split <;> omega

theorem xor_all (b : Nat) (hb : b < 18446744073709551616) : bits .xor .u64 IntKind.u64.max (b : Int) = 18446744073709551615 - (b : Int) := by
  have h := bits_xor_u64_nat 18446744073709551615 b (by decide) hb
  have h2 : (18446744073709551615 ^^^ b) = 18446744073709551615 - b := by
    have h3 := congrArg BitVec.toNat (BitVec.allOnes_xor (x := BitVec.ofNat 64 b))
    rw [BitVec.toNat_xor, BitVec.toNat_not, BitVec.toNat_allOnes, BitVec.toNat_ofNat, Nat.mod_eq_of_lt hb] at h3
    exact h3
  rw [h2] at h
  have h4 : IntKind.u64.max = ((18446744073709551615 : Nat) : Int) := rfl
  rw [h4, h]
  omega

theorem rank_any (w : World) (b : Nat) (hb : b < 18446744073709551616) : Calls Tryd.prog 37 #[.float .f64 b] w fun e w' => e = .returned (.int .u64 ((rankN b : Nat) : Int)) ∧ w' = w := by
  have c1 := fun w => call31 b w
  have R := isnan_any w b hb
  have ha : bits .and .u64 (b : Int) 9223372036854775808 = ((if 9223372036854775808 ≤ b then 9223372036854775808 else 0 : Nat) : Int) := by
    have := bits_and_u64_nat b 9223372036854775808 hb (by decide)
    rw [and_sign b hb] at this
    exact this
  by_cases h1 : 9218868437227405312 < b % 9223372036854775808
  · have hn : nan b = true := by simp [nan, h1]
    have HE : Hid (rankN b = 18446744073709551615) := by unfold Hid rankN; rw [if_pos h1]
    rw [hn] at R
    clear hn h1 ha
    go_enter Tryd.func37, Tryd.ntmps37
    go_wp2_with fail
    refine R.mono ?_
    rintro e w1 ⟨rfl, rfl⟩
    go_wp2
    go_ret
    exact ⟨by rw [unhide HE]; rfl, rfl⟩
  · have hn : nan b = false := by simp [nan, h1]
    rw [hn] at R
    by_cases h2 : 9223372036854775808 ≤ b
    · have HE : Hid (((rankN b : Nat) : Int) = 18446744073709551615 - (b : Int)) := by unfold Hid rankN; rw [if_neg h1, if_pos h2]; omega
      rw [if_pos h2] at ha
      clear hn h1
      go_enter Tryd.func37, Tryd.ntmps37
      go_wp2_with fail
      refine R.mono ?_
      rintro e w1 ⟨rfl, rfl⟩
      go_wp2
      go_ret
      refine ⟨?_, rfl⟩
      rw [unhide HE, ← xor_all b hb]
      rfl
    · have HE : Hid (rankN b = b + 9223372036854775808) := by unfold Hid rankN; rw [if_neg h1, if_neg h2]
      rw [if_neg h2] at ha
      have ho : bits .or .u64 (b : Int) 9223372036854775808 = ((b + 9223372036854775808 : Nat) : Int) := by
        have := bits_or_u64_nat b 9223372036854775808 hb (by decide)
        rw [or_sign b (by omega)] at this
        exact this
      clear hn h1
      go_enter Tryd.func37, Tryd.ntmps37
      go_wp2_with fail
      refine R.mono ?_
      rintro e w1 ⟨rfl, rfl⟩
      go_wp2
      go_ret
      exact ⟨by rw [unhide HE]; rfl, rfl⟩

theorem order_any (w : World) (a b : Nat) (ha : a < 18446744073709551616) (hb : b < 18446744073709551616) : Calls Tryd.prog 22 #[.float .f64 a, .float .f64 b] w fun e w' => e = .returned (.int .i64 (ordN a b)) ∧ w' = w := by
  have R1 := rank_any w a ha
  have R2 := rank_any w b hb
  have R3 := compare_any w (rankN a) (rankN b)
  have HE : Hid (ordN a b = cmpN (rankN a) (rankN b)) := rfl
  generalize rankN a = x at *
  generalize rankN b = y at *
  go_enter Tryd.func22, Tryd.ntmps22
  go_wp2_with fail
  refine R1.mono ?_
  rintro e w1 ⟨rfl, rfl⟩
  go_wp2_with fail
  refine R2.mono ?_
  rintro e w1 ⟨rfl, rfl⟩
  go_wp2_with fail
  refine R3.mono ?_
  rintro e w1 ⟨rfl, rfl⟩
  go_wp2
  go_ret
  exact ⟨by rw [unhide HE]; rfl, rfl⟩

end Go.Proofs.YtighehbeeflhpaaDoor
