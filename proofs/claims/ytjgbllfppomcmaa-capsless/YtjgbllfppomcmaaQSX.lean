import Derived.Test.YtjgbllfppomcmaaI1
import Derived.Test.YtjgbllfppomcmaaProg
import Ieee.Arith
import Derived.Shelf.Bits.Mul64
import Derived.Laws.Externs
import Derived.Laws.Bits64b
import Derived.Laws.ShiftsVarLaws
/- Amounts: Right, total, Add, Sub, Sum. -/
namespace Go.Proofs.Ytjgbllfppomcmaa
open Go.RowKit

/-- Is it an amount? -/
def right (n : Int) : Bool := decide (-9007199254740992 ≤ n) && decide (n ≤ 9007199254740992)

theorem right_iff (n : Int) : right n = true ↔ -9007199254740992 ≤ n ∧ n ≤ 9007199254740992 := by simp [right]
theorem right_not (n : Int) : right n = false ↔ ¬ (-9007199254740992 ≤ n ∧ n ≤ 9007199254740992) := by
  rw [← right_iff]; simp

/-- The sum from the front on, if none of the sums leaves the amounts. -/
def tot : Int → List Int → Option Int
  | s, [] => some s
  | s, x :: r => if right x && right (s + x) then tot (s + x) r else none

/-- What is answered: a number, and an error's. -/
def rv (o : Option Int) : Int := o.getD 0
def re (c : Int) (o : Option Int) : Int := if o.isSome then 0 else c

/-- A slice of ints. -/
def IAt (w : World) (ao : Option Addr) (l : List Int) : Prop :=
  0 < l.length → ∃ b off, ao = some ⟨b, off, none⟩ ∧ ∀ j (hj : j < l.length), w.cell? ⟨b, off + j, none⟩ = some (.int .i64 l[j])

end Go.Proofs.Ytjgbllfppomcmaa

/- The mathematics of rates and of the order of all floats. No program is named here. -/
namespace Go.Proofs.Ytjgbllfppomcmaa

/-! ### Scale -/

def fracOf (b : Nat) : Nat := 4503599627370496 + b % 4503599627370496

/-- What an amount times a rate comes to, by the rate's bits. -/
def sc (n b : Nat) : Nat := (n * fracOf b + 2 ^ (1074 - b / 4503599627370496)) / 2 ^ (1075 - b / 4503599627370496)

theorem half_up (x e K : Nat) (h : e ≤ K) : (x + 2 ^ (K - e)) / 2 ^ (K + 1 - e) = (x * 2 ^ e + 2 ^ K) / 2 ^ (K + 1) := by
  have h1 : 2 ^ K = 2 ^ (K - e) * 2 ^ e := by rw [← Nat.pow_add]; congr 1; omega
  have h2 : 2 ^ (K + 1) = 2 ^ (K + 1 - e) * 2 ^ e := by rw [← Nat.pow_add]; congr 1; omega
  rw [h1, h2, ← Nat.add_mul, Nat.mul_div_mul_right _ _ (Nat.two_pow_pos e)]

def valOf (b : Nat) : Nat := fracOf b * 2 ^ (b / 4503599627370496)

theorem sc_eq {K : Nat} (hK : K = 1074) (n b : Nat) (h : b / 4503599627370496 ≤ 1074) : sc n b = (n * valOf b + 2 ^ K) / 2 ^ (K + 1) := by
  unfold sc valOf
  have := half_up (n * fracOf b) (b / 4503599627370496) K (by omega)
  rw [← Nat.mul_assoc, ← this, hK]

theorem valOf_mono {b c : Nat} (h : b ≤ c) : valOf b ≤ valOf c := by
  unfold valOf fracOf
  have hd : b / 4503599627370496 ≤ c / 4503599627370496 := Nat.div_le_div_right h
  rcases Nat.eq_or_lt_of_le hd with e | e
  · rw [e]; exact Nat.mul_le_mul_right _ (by omega)
  · have h1 : (4503599627370496 + b % 4503599627370496) * 2 ^ (b / 4503599627370496) ≤ 4503599627370496 * 2 ^ (b / 4503599627370496 + 1) := by
      rw [Nat.pow_succ, Nat.mul_comm _ 2, ← Nat.mul_assoc]
      exact Nat.mul_le_mul_right _ (by omega)
    have h2 : 4503599627370496 * 2 ^ (b / 4503599627370496 + 1) ≤ (4503599627370496 + c % 4503599627370496) * 2 ^ (c / 4503599627370496) :=
      Nat.mul_le_mul (by omega) (Nat.pow_le_pow_right (by decide) (by omega))
    exact Nat.le_trans h1 h2

theorem exp_le {b : Nat} (h : b ≤ 4607182418800017408) : b / 4503599627370496 ≤ 1074 := by omega

theorem sc_mono_n {n m b : Nat} (h : n ≤ m) : sc n b ≤ sc m b := by
  unfold sc
  exact Nat.div_le_div_right (Nat.add_le_add_right (Nat.mul_le_mul_right _ h) _)

theorem sc_mono_b {n b c : Nat} (hc : c ≤ 4607182418800017408) (h : b ≤ c) : sc n b ≤ sc n c := by
  obtain ⟨K, hK⟩ : ∃ K, K = 1074 := ⟨_, rfl⟩
  rw [sc_eq hK n b (exp_le (Nat.le_trans h hc)), sc_eq hK n c (exp_le hc)]
  exact Nat.div_le_div_right (Nat.add_le_add_right (Nat.mul_le_mul_left _ (valOf_mono h)) _)

theorem sc_one (n : Nat) : sc n 4607182418800017408 = n := by
  have hv : sc n 4607182418800017408 = (n * 4503599627370496 + 2 ^ 51) / 2 ^ 52 := rfl
  rw [hv]
  omega

theorem sc_le {n b : Nat} (h : b ≤ 4607182418800017408) : sc n b ≤ n := by
  have := sc_mono_b (n := n) (Nat.le_refl _) h
  rwa [sc_one] at this

/-- Where the shift is great nothing is left. -/
theorem sc_tiny {n b : Nat} (hn : n ≤ 9007199254740992) (h : b / 4503599627370496 ≤ 967) : sc n b = 0 := by
  unfold sc
  have hx : n * fracOf b < 2 ^ 106 := by
    have h1 : n * fracOf b ≤ 9007199254740992 * 9007199254740991 := Nat.mul_le_mul hn (by unfold fracOf; omega)
    exact Nat.lt_of_le_of_lt h1 (by decide)
  have h2 : 2 ^ 107 ≤ 2 ^ (1074 - b / 4503599627370496) := Nat.pow_le_pow_right (by decide) (by omega)
  have h3 : 2 ^ (1075 - b / 4503599627370496) = 2 * 2 ^ (1074 - b / 4503599627370496) := by
    rw [show 1075 - b / 4503599627370496 = (1074 - b / 4503599627370496) + 1 by omega, Nat.pow_succ]; omega
  rw [h3]
  generalize 2 ^ (1074 - b / 4503599627370496) = Y at h2
  exact Nat.div_eq_of_lt (by omega)

theorem sc_zero {n : Nat} (hn : n ≤ 9007199254740992) : sc n 0 = 0 := sc_tiny hn (by decide)

theorem div_two (a b H D : Nat) (hD : D = 2 * H) (hH : 0 < H) (x y : Nat) (ha : a = x + H) (hb : b = y + H) :
    (x + y + H) / D + 1 ≥ a / D + b / D ∧ (x + y + H) / D ≤ a / D + b / D + 1 := by
  have pD : 0 < D := by omega
  have e1 := Nat.div_add_mod a D
  have e2 := Nat.div_add_mod b D
  have e3 := Nat.div_add_mod (x + y + H) D
  have m1 := Nat.mod_lt a pD
  have m2 := Nat.mod_lt b pD
  have m3 := Nat.mod_lt (x + y + H) pD
  constructor
  · refine Nat.le_of_not_lt fun hlt => ?_
    have h1 : D * ((x + y + H) / D + 1 + 1) ≤ D * (a / D + b / D) := Nat.mul_le_mul_left _ hlt
    simp only [Nat.mul_add, Nat.mul_one] at h1
    omega
  · refine Nat.le_of_not_lt fun hlt => ?_
    have h1 : D * (a / D + b / D + 1 + 1) ≤ D * ((x + y + H) / D) := Nat.mul_le_mul_left _ hlt
    simp only [Nat.mul_add, Nat.mul_one] at h1
    omega

theorem sc_add {n m b : Nat} (h : b ≤ 4607182418800017408) : sc (n + m) b + 1 ≥ sc n b + sc m b ∧ sc (n + m) b ≤ sc n b + sc m b + 1 := by
  unfold sc
  have h3 : 2 ^ (1075 - b / 4503599627370496) = 2 * 2 ^ (1074 - b / 4503599627370496) := by
    rw [show 1075 - b / 4503599627370496 = (1074 - b / 4503599627370496) + 1 by omega, Nat.pow_succ]; omega
  rw [Nat.add_mul]
  exact div_two _ _ _ _ h3 (Nat.two_pow_pos _) _ _ rfl rfl

/-! ### The order of all floats -/

def magOf (r : Nat) : Nat := if r < 4503599627370496 then r else 4503599627370496 + r % 4503599627370496
def exOf (r : Nat) : Nat := r / 4503599627370496 - 1

theorem mag_mono {r s : Nat} (h : r < s) : magOf r * 2 ^ exOf r < magOf s * 2 ^ exOf s := by
  unfold magOf exOf
  by_cases hs : s < 4503599627370496
  · have hr : r < 4503599627370496 := by omega
    rw [if_pos hs, if_pos hr, Nat.div_eq_of_lt hs, Nat.div_eq_of_lt hr]
    simpa using h
  · rw [if_neg hs]
    by_cases hr : r < 4503599627370496
    · rw [if_pos hr, Nat.div_eq_of_lt hr]
      have : 0 < 2 ^ (s / 4503599627370496 - 1) := Nat.two_pow_pos _
      have h1 : r * 2 ^ (0 - 1) < 4503599627370496 * 1 := by simpa using hr
      exact Nat.lt_of_lt_of_le h1 (Nat.mul_le_mul (by omega) this)
    · rw [if_neg hr]
      have hd : r / 4503599627370496 ≤ s / 4503599627370496 := Nat.div_le_div_right (Nat.le_of_lt h)
      rcases Nat.eq_or_lt_of_le hd with e | e
      · rw [e]
        exact Nat.mul_lt_mul_of_pos_right (by omega) (Nat.two_pow_pos _)
      · have h1 : (4503599627370496 + r % 4503599627370496) * 2 ^ (r / 4503599627370496 - 1) < 4503599627370496 * 2 ^ (r / 4503599627370496) := by
          have e2 : 2 ^ (r / 4503599627370496) = 2 * 2 ^ (r / 4503599627370496 - 1) := by
            rw [show r / 4503599627370496 = (r / 4503599627370496 - 1) + 1 by omega, Nat.pow_succ]
            simp only [Nat.add_sub_cancel]; omega
          rw [e2, ← Nat.mul_assoc]
          exact Nat.mul_lt_mul_of_pos_right (by omega) (Nat.two_pow_pos _)
        have h2 : 4503599627370496 * 2 ^ (r / 4503599627370496) ≤ (4503599627370496 + s % 4503599627370496) * 2 ^ (s / 4503599627370496 - 1) :=
          Nat.mul_le_mul (by omega) (Nat.pow_le_pow_right (by decide) (by omega))
        exact Nat.lt_of_lt_of_le h1 h2

def infR : Nat := 9218868437227405312

theorem read_pos {r : Nat} (h : r < 9218868437227405312) : Ieee.double.read r = .number false (magOf r) (-1074 + (exOf r : Int)) := by
  unfold Ieee.Format.read magOf exOf
  have e1 : Ieee.double.signWeight = 9223372036854775808 := by decide
  have e2 : Ieee.double.binade = 4503599627370496 := by decide
  have e3 : Ieee.double.infRung = 9218868437227405312 := by decide
  have e4 : Ieee.double.leastPlace = -1074 := by decide
  simp only [e1, e2, e3, e4]
  rw [Nat.mod_eq_of_lt (by omega), Nat.div_eq_of_lt (by omega : r < 9223372036854775808)]
  by_cases hr : r < 4503599627370496
  · rw [if_pos hr, if_pos hr, Nat.div_eq_of_lt hr]; rfl
  · rw [if_neg hr, if_neg hr, if_pos h]; rfl

theorem read_neg {r : Nat} (h : r < 9218868437227405312) : Ieee.double.read (9223372036854775808 + r) = .number true (magOf r) (-1074 + (exOf r : Int)) := by
  unfold Ieee.Format.read magOf exOf
  have e1 : Ieee.double.signWeight = 9223372036854775808 := by decide
  have e2 : Ieee.double.binade = 4503599627370496 := by decide
  have e3 : Ieee.double.infRung = 9218868437227405312 := by decide
  have e4 : Ieee.double.leastPlace = -1074 := by decide
  simp only [e1, e2, e3, e4]
  rw [show (9223372036854775808 + r) % 9223372036854775808 = r by omega, show (9223372036854775808 + r) / 9223372036854775808 = 1 by omega]
  by_cases hr : r < 4503599627370496
  · rw [if_pos hr, if_pos hr, Nat.div_eq_of_lt hr]; rfl
  · rw [if_neg hr, if_neg hr, if_pos h]; rfl

theorem read_nan {b : Nat} (h : 9218868437227405312 < b % 9223372036854775808) : ∃ s t, Ieee.double.read b = .nan s t := by
  unfold Ieee.Format.read
  have e1 : Ieee.double.signWeight = 9223372036854775808 := by decide
  have e2 : Ieee.double.binade = 4503599627370496 := by decide
  have e3 : Ieee.double.infRung = 9218868437227405312 := by decide
  simp only [e1, e2, e3]
  rw [if_neg (by omega), if_neg (by omega), if_neg (by omega)]
  exact ⟨_, _, rfl⟩

theorem read_inf {b : Nat} (h : b % 9223372036854775808 = 9218868437227405312) : ∃ s, Ieee.double.read b = .infinity s := by
  unfold Ieee.Format.read
  have e1 : Ieee.double.signWeight = 9223372036854775808 := by decide
  have e2 : Ieee.double.binade = 4503599627370496 := by decide
  have e3 : Ieee.double.infRung = 9218868437227405312 := by decide
  simp only [e1, e2, e3]
  rw [if_neg (by omega), if_neg (by omega), if_pos (by omega)]
  exact ⟨_, rfl⟩

/-- Two magnitudes brought to one place stand as they do at the least one. -/
theorem cmp_shift (m n i j : Nat) :
    compare ((m <<< ((-1074 + (i : Int)) - min (-1074 + (i : Int)) (-1074 + (j : Int))).toNat : Nat) : Int) ((n <<< ((-1074 + (j : Int)) - min (-1074 + (i : Int)) (-1074 + (j : Int))).toNat : Nat) : Int)
      = compare (m * 2 ^ i) (n * 2 ^ j) := by
  have key : ∀ A B C E : Nat, (∃ k : Nat, 0 < k ∧ C = A * k ∧ E = B * k) → compare ((A : Nat) : Int) ((B : Nat) : Int) = compare C E := by
    rintro A B C E ⟨k, hk, rfl, rfl⟩
    show compareOfLessAndEq _ _ = compareOfLessAndEq _ _
    unfold compareOfLessAndEq
    rcases Nat.lt_trichotomy A B with h | h | h
    · rw [if_pos (by omega), if_pos (Nat.mul_lt_mul_of_pos_right h hk)]
    · subst h; simp
    · have h2 := Nat.mul_lt_mul_of_pos_right h hk
      rw [if_neg (by omega), if_neg (by omega), if_neg (by omega), if_neg (by omega)]
  refine key _ _ _ _ ⟨2 ^ min i j, Nat.two_pow_pos _, ?_, ?_⟩
  · rw [Nat.shiftLeft_eq, Nat.mul_assoc, ← Nat.pow_add]
    congr 2
    omega
  · rw [Nat.shiftLeft_eq, Nat.mul_assoc, ← Nat.pow_add]
    congr 2
    omega

theorem cmp_mag (r s : Nat) : compare (magOf r * 2 ^ exOf r) (magOf s * 2 ^ exOf s) = compare r s := by
  show compareOfLessAndEq _ _ = compareOfLessAndEq _ _
  unfold compareOfLessAndEq
  rcases Nat.lt_trichotomy r s with h | h | h
  · rw [if_pos (mag_mono h), if_pos h]
  · subst h; simp
  · have h2 := mag_mono h
    rw [if_neg (by omega), if_neg (by omega), if_neg (by omega), if_neg (by omega)]

theorem order_pos {r s : Nat} (hr : r < 9218868437227405312) (hs : s < 9218868437227405312) : Ieee.double.order r s = some (compare r s) := by
  unfold Ieee.Format.order
  rw [read_pos hr, read_pos hs]
  show some _ = some _
  rw [← cmp_mag r s, ← cmp_shift]
  rfl

theorem cmp_opp (A B : Int) : compare (-A) (-B) = compare B A := by
  show compareOfLessAndEq (-_) (-_) = compareOfLessAndEq _ _
  unfold compareOfLessAndEq
  rcases Int.lt_trichotomy A B with h | h | h
  · rw [if_neg (by omega), if_neg (by omega), if_neg (by omega), if_neg (by omega)]
  · subst h; simp
  · rw [if_pos (by omega), if_pos (by omega)]

theorem order_neg {r s : Nat} (hr : r < 9218868437227405312) (hs : s < 9218868437227405312) : Ieee.double.order (9223372036854775808 + r) (9223372036854775808 + s) = some (compare s r) := by
  unfold Ieee.Format.order
  rw [read_neg hr, read_neg hs]
  show some _ = some _
  rw [← cmp_mag s r, ← cmp_shift (magOf s) (magOf r)]
  congr 1
  rw [Int.min_comm (-1074 + (exOf s : Int))]
  exact cmp_opp _ _

theorem order_nan {a b : Nat} (h : 9218868437227405312 < a % 9223372036854775808) : Ieee.double.order a b = none := by
  unfold Ieee.Format.order
  obtain ⟨s, t, e⟩ := read_nan h
  rw [e]; rfl

theorem order_self {a : Nat} (ha : a < 18446744073709551616) (h : ¬ 9218868437227405312 < a % 9223372036854775808) : Ieee.double.order a a = some .eq := by
  by_cases hi : a % 9223372036854775808 = 9218868437227405312
  · unfold Ieee.Format.order
    obtain ⟨s, e⟩ := read_inf hi
    rw [e]; cases s <;> rfl
  · by_cases hn : a < 9223372036854775808
    · rw [order_pos (by omega) (by omega)]; simp
    · obtain ⟨r, rfl⟩ : ∃ r, a = 9223372036854775808 + r := ⟨a - 9223372036854775808, by omega⟩
      rw [order_neg (by omega) (by omega)]; simp

/-- Where a float stands among all. -/
def rankN (b : Nat) : Nat :=
  if 9218868437227405312 < b % 9223372036854775808 then 18446744073709551615
  else if 9223372036854775808 ≤ b then 18446744073709551615 - b
  else b + 9223372036854775808

/-- -1, 0, 1. -/
def cmpN (a b : Nat) : Int := if a < b then -1 else if b < a then 1 else 0

def ordN (a b : Nat) : Int := cmpN (rankN a) (rankN b)

/-- The document's kinds. -/
def kindN (b : Nat) : Int :=
  if 9218868437227405312 < b % 9223372036854775808 then 6
  else if b = 18442240474082181120 then 0
  else if b = 9218868437227405312 then 5
  else if b = 9223372036854775808 then 2
  else if b = 0 then 3
  else if 9223372036854775808 ≤ b then 1 else 4

set_option maxHeartbeats 4000000 in
theorem ord_kind {a b : Nat} (ha : a < 18446744073709551616) (hb : b < 18446744073709551616) (h : kindN a ≠ kindN b) :
    ordN a b = if kindN a < kindN b then -1 else 1 := by
  unfold ordN cmpN rankN
  unfold kindN at *
  repeat' split
  all_goals first | rfl | omega

theorem ord_plain {a b : Nat} (ha : a < 18446744073709551616) (hb : b < 18446744073709551616) (h : kindN a = kindN b) (h1 : kindN a ≠ 1) (h4 : kindN a ≠ 4) : ordN a b = 0 := by
  unfold ordN cmpN rankN
  unfold kindN at *
  repeat' split
  all_goals first | rfl | omega

theorem ord_four {a b : Nat} (ha : a < 18446744073709551616) (hb : b < 18446744073709551616) (h4 : kindN a = 4) (h5 : kindN b = 4) :
    a < 9218868437227405312 ∧ b < 9218868437227405312 ∧ ordN a b = cmpN a b := by
  unfold ordN cmpN rankN
  unfold kindN at *
  repeat' split
  all_goals first | omega | (refine ⟨by omega, by omega, ?_⟩; first | rfl | omega)

theorem ord_one {a b : Nat} (ha : a < 18446744073709551616) (hb : b < 18446744073709551616) (h4 : kindN a = 1) (h5 : kindN b = 1) :
    ∃ r s, r < 9218868437227405312 ∧ s < 9218868437227405312 ∧ a = 9223372036854775808 + r ∧ b = 9223372036854775808 + s ∧ ordN a b = cmpN s r := by
  refine ⟨a - 9223372036854775808, b - 9223372036854775808, ?_⟩
  unfold ordN cmpN rankN
  unfold kindN at *
  repeat' split
  all_goals first | omega | (refine ⟨by omega, by omega, by omega, by omega, ?_⟩; first | rfl | omega)

theorem cmpN_neg (a b : Nat) : cmpN b a = - cmpN a b := by
  unfold cmpN
  repeat' split
  all_goals first | rfl | omega

theorem rate_iff {b : Nat} (hb : b < 18446744073709551616) : (b ≤ 4607182418800017408) ↔ (0 ≤ ordN b 0 ∧ ordN b 4607182418800017408 ≤ 0) := by
  have e0 : rankN 0 = 9223372036854775808 := by decide
  have e1 : rankN 4607182418800017408 = 13830554455654793216 := by decide
  unfold ordN cmpN
  rw [e0, e1]
  unfold rankN
  repeat' split
  all_goals omega

end Go.Proofs.Ytjgbllfppomcmaa

/- The contract of bits.Mul64 at this program, by the library's own theorem. -/
namespace Go.Proofs.Ytjgbllfppomcmaa
open Go.Shelf
open Go.RowKit Go.Lib
end Go.Proofs.Ytjgbllfppomcmaa

/- Rates: Rate, isOwed, shiftedDown, Scale. -/
namespace Go.Proofs.Ytjgbllfppomcmaa
open Go.RowKit

theorem call31 (b : Nat) (w : World) : (callFunc 44 #[.float .f64 b]).run Try.prog w = .ok (.value (.int .u64 (b : Int))) w := by
  rw [run_callFunc_extern Try.func44 (by kernel_rfl) (by kernel_rfl) (by kernel_rfl) (e := Extern.MathFloatBits.float64bits) (by kernel_rfl)]
  rfl

/-- Is it a rate, by its bits? -/
def rate (b : Nat) : Bool := decide (b ≤ 4607182418800017408)

theorem rate_any (w : World) (b : Nat) : Calls Try.prog 26 #[.float .f64 b] w fun e w' => e = .returned (.bool (rate b)) ∧ w' = w := by
  have c1 := fun w => call31 b w
  have c2 := fun w => call31 4607182418800017408 w
  go_enter Try.func26, Try.ntmps26
  go_wp2
  go_ret
  refine ⟨?_, rfl⟩
  have : decide ((b : Int) ≤ 4607182418800017408) = rate b := by unfold rate; congr 1; simp; omega
  rw [← this]; rfl

def owed (n : Int) : Bool := decide (0 ≤ n) && right n

theorem shl64 (x k : Nat) (y : Int) (hy : y = (k : Int)) : Op.shift .shl .u64 (x : Int) .u64 y = pure (.int .u64 ((x * 2 ^ min k 64 % 18446744073709551616 : Nat) : Int)) := by
  subst hy
  unfold Op.shift
  rw [if_neg (by omega)]
  show pure (Value.int .u64 (IntKind.u64.wrap ((x : Int) * 2 ^ min (k : Int).toNat 64))) = _
  rw [IntKind.wrap_u64, Int.toNat_natCast]
  congr 2

theorem shr64 (x k : Nat) (z y : Int) (hz : z = (x : Int)) (hy : y = (k : Int)) : Op.shift .shr .u64 z .u64 y = pure (.int .u64 ((x / 2 ^ min k 64 : Nat) : Int)) := by
  subst hz hy
  unfold Op.shift
  rw [if_neg (by omega)]
  show pure (Value.int .u64 (Int.fdiv (x : Int) (2 ^ min (k : Int).toNat 64))) = _
  rw [Int.toNat_natCast, Int.fdiv_eq_ediv_of_nonneg _ (Int.pow_nonneg (by decide))]
  congr 2

theorem far_eq (high low s : Nat) (hh : high < 9223372036854775808) (hl : low < 18446744073709551616) (hs : 64 < s) :
    (high + 1 * 2 ^ min (s - 65) 64 % 18446744073709551616) / 2 ^ min (s - 64) 64 = (high * 18446744073709551616 + low + 2 ^ (s - 1)) / 2 ^ s := by
  by_cases h : s ≤ 128
  · rw [Nat.min_eq_left (by omega), Nat.min_eq_left (by omega), Nat.one_mul, Nat.mod_eq_of_lt (Nat.lt_of_le_of_lt (Nat.pow_le_pow_right (by decide) (show s - 65 ≤ 63 by omega)) (by decide))]
    have e1 : 2 ^ (s - 1) = 2 ^ (s - 65) * 18446744073709551616 := by
      rw [show (18446744073709551616 : Nat) = 2 ^ 64 by decide, ← Nat.pow_add]; congr 1; omega
    have e2 : 2 ^ s = 18446744073709551616 * 2 ^ (s - 64) := by
      rw [show (18446744073709551616 : Nat) = 2 ^ 64 by decide, ← Nat.pow_add]; congr 1; omega
    rw [e1, e2, ← Nat.div_div_eq_div_mul]
    congr 1
    omega
  · rw [Nat.min_eq_right (by omega), Nat.min_eq_right (by omega)]
    have e1 : 2 ^ 128 ≤ 2 ^ (s - 1) := Nat.pow_le_pow_right (by decide) (by omega)
    have e2 : 2 ^ s = 2 * 2 ^ (s - 1) := by
      rw [show s = (s - 1) + 1 by omega, Nat.pow_succ]; simp only [Nat.add_sub_cancel]; omega
    rw [e2]
    generalize 2 ^ (s - 1) = Y at e1
    rw [Nat.div_eq_of_lt (show high + 1 * 2 ^ 64 % 18446744073709551616 < 2 ^ 64 by omega), Nat.div_eq_of_lt (by omega)]

theorem near_eq (high low s : Nat) (hs0 : 0 < s) (hs : s ≤ 64) (hd : (high * 18446744073709551616 + low + 2 ^ (s - 1)) / 2 ^ s < 18446744073709551616) :
    (((high + (low + 2 ^ (s - 1)) / 18446744073709551616) * 2 ^ min (64 - s) 64 % 18446744073709551616) ||| ((low + 2 ^ (s - 1)) % 18446744073709551616 / 2 ^ min s 64)) = (high * 18446744073709551616 + low + 2 ^ (s - 1)) / 2 ^ s := by
  rw [Nat.min_eq_left (by omega), Nat.min_eq_left hs]
  have e1 : (18446744073709551616 : Nat) = 2 ^ s * 2 ^ (64 - s) := by
    rw [← Nat.pow_add, show s + (64 - s) = 64 by omega]
  have hx : high * 18446744073709551616 + low + 2 ^ (s - 1) = (high + (low + 2 ^ (s - 1)) / 18446744073709551616) * 18446744073709551616 + (low + 2 ^ (s - 1)) % 18446744073709551616 := by omega
  generalize hq : (low + 2 ^ (s - 1)) / 18446744073709551616 = q at *
  generalize hr : (low + 2 ^ (s - 1)) % 18446744073709551616 = r at *
  have hr' : r < 18446744073709551616 := by rw [← hr]; exact Nat.mod_lt _ (by decide)
  rw [hx] at hd ⊢
  have hv : ((high + q) * 18446744073709551616 + r) / 2 ^ s = (high + q) * 2 ^ (64 - s) + r / 2 ^ s := by
    have : (high + q) * 18446744073709551616 = 2 ^ s * ((high + q) * 2 ^ (64 - s)) := by
      rw [e1, Nat.mul_left_comm]
    rw [this, Nat.mul_add_div (Nat.two_pow_pos s)]
  rw [hv] at hd
  rw [hv, Nat.mod_eq_of_lt (Nat.lt_of_le_of_lt (Nat.le_add_right _ _) hd)]
  have hlt : r / 2 ^ s < 2 ^ (64 - s) := by
    rw [Nat.div_lt_iff_lt_mul (Nat.two_pow_pos s), Nat.mul_comm, ← e1]; exact hr'
  rw [Nat.mul_comm, Nat.two_pow_add_eq_or_of_lt hlt]

/-- What Scale answers. -/
def scaled (n : Int) (b : Nat) : Option Int := if owed n && rate b then some (sc n.toNat b : Nat) else none
def scaleE (n : Int) (b : Nat) : Int := if owed n then (if rate b then 0 else 51) else 50

theorem and_mask (b : Nat) : b &&& 4503599627370495 = b % 4503599627370496 := Nat.and_two_pow_sub_one_eq_mod b 52

theorem or_hidden (b : Nat) : (b % 4503599627370496 ||| 4503599627370496) = fracOf b := by
  have h := Nat.two_pow_add_eq_or_of_lt (i := 52) (b := b % 4503599627370496) (Nat.mod_lt _ (by decide)) 1
  rw [Nat.or_comm]
  unfold fracOf
  simpa using h.symm

end Go.Proofs.Ytjgbllfppomcmaa

