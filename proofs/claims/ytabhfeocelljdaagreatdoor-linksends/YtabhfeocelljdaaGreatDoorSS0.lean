import Derived.WalkKit
/- The mathematics of the sums: turns are linear and one to one; what four, eight and any number of turns come to; what a frame's bytes come to. No program is named here. -/
namespace Go.Proofs.YtabhfeocelljdaaGreatDoor

/-- A turn. -/
def turn (n : Nat) : Nat := if n % 2 = 1 then n / 2 ^^^ 2197175160 else n / 2

/-- So many turns. -/
def trn : Nat → Nat → Nat
  | 0, n => n
  | k + 1, n => turn (trn k n)

theorem xor_mod (a b : Nat) : (a ^^^ b) % 2 = (a + b) % 2 := by
  have h := Nat.xor_mod_two_pow (a := a) (b := b) (n := 1)
  rw [Nat.pow_one] at h
  rcases Nat.mod_two_eq_zero_or_one a with ha | ha <;> rcases Nat.mod_two_eq_zero_or_one b with hb | hb <;> rw [ha, hb] at h <;> rw [h, Nat.add_mod, ha, hb] <;> rfl

theorem turn_xor (a b : Nat) : turn (a ^^^ b) = turn a ^^^ turn b := by
  unfold turn
  have hm := xor_mod a b
  rw [Nat.xor_div_two]
  rcases Nat.mod_two_eq_zero_or_one a with ha | ha <;> rcases Nat.mod_two_eq_zero_or_one b with hb | hb
  · rw [if_neg (by omega), if_neg (by omega), if_neg (by omega)]
  · rw [if_pos (by omega), if_neg (by omega), if_pos (by omega), Nat.xor_assoc]
  · rw [if_pos (by omega), if_pos (by omega), if_neg (by omega), Nat.xor_assoc, Nat.xor_assoc, Nat.xor_comm (b / 2)]
  · rw [if_neg (by omega), if_pos (by omega), if_pos (by omega), Nat.xor_assoc, Nat.xor_comm (b / 2) 2197175160, ← Nat.xor_assoc 2197175160, Nat.xor_self, Nat.zero_xor]

theorem trn_xor (k a b : Nat) : trn k (a ^^^ b) = trn k a ^^^ trn k b := by
  induction k with
  | zero => rfl
  | succ k ih => rw [trn, ih, turn_xor]; rfl

theorem trn_zero (k : Nat) : trn k 0 = 0 := by
  induction k with
  | zero => rfl
  | succ k ih => rw [trn, ih]; rfl

theorem trn_add (j k n : Nat) : trn (j + k) n = trn j (trn k n) := by
  induction j with
  | zero => rw [Nat.zero_add]; rfl
  | succ j ih => rw [Nat.succ_add, trn, ih]; rfl

theorem trn_out (k n : Nat) : trn (k + 1) n = trn k (turn n) := trn_add k 1 n

theorem turn_lt {n : Nat} (h : n < 4294967296) : turn n < 4294967296 := by
  unfold turn
  split
  · exact Nat.xor_lt_two_pow (n := 32) (by omega) (by omega)
  · omega

theorem trn_lt (k : Nat) {n : Nat} (h : n < 4294967296) : trn k n < 4294967296 := by
  induction k with
  | zero => exact h
  | succ k ih => exact turn_lt ih

theorem turn_double (m : Nat) : turn (2 * m) = m := by
  unfold turn
  rw [if_neg (by omega)]
  omega

theorem trn_shift (k a : Nat) : trn k (2 ^ k * a) = a := by
  induction k with
  | zero => simp [trn]
  | succ k ih => rw [trn_out, Nat.pow_succ, Nat.mul_comm (2 ^ k) 2, Nat.mul_assoc, turn_double, ih]

theorem split_xor (i a b : Nat) (h : b < 2 ^ i) : 2 ^ i * a + b = 2 ^ i * a ^^^ b := by
  apply Nat.eq_of_testBit_eq
  intro j
  rw [Nat.testBit_two_pow_mul_add a h, Nat.testBit_xor, Nat.testBit_two_pow_mul]
  by_cases hj : j < i
  · rw [if_pos hj, decide_eq_false (by omega)]; simp
  · rw [if_neg hj]
    have : b.testBit j = false := Nat.testBit_lt_two_pow (Nat.lt_of_lt_of_le h (Nat.pow_le_pow_right (by omega) (by omega)))
    rw [this, decide_eq_true (by omega)]; simp

/-- What the table holds. -/
def tab : List Nat := [0, 274646895, 549293790, 820201905, 1098587580, 1361435347, 1640403810, 1905808397, 2197175160, 2460548119, 2722870694, 2987750089, 3280807620, 3553878443, 3811616794, 4084100981]

theorem tab_length : tab.length = 16 := rfl
theorem tab_turns : ∀ i, i < 16 → tab[i]? = some (trn 4 i) := by decide +kernel

theorem four_turns (n : Nat) : n / 16 ^^^ trn 4 (n % 16) = trn 4 n := by
  have h := split_xor 4 (n / 16) (n % 16) (by omega)
  rw [show 2 ^ 4 * (n / 16) + n % 16 = n by omega] at h
  conv => rhs; rw [h]
  rw [trn_xor, trn_shift]

/-- A turn of a number with 32 bits is one to one. -/
theorem turn_top {n : Nat} (h : n < 4294967296) : (2147483648 ≤ turn n ↔ n % 2 = 1) := by
  unfold turn
  split
  · rename_i h1
    have e : n / 2 ^^^ 2197175160 = (n / 2 ^^^ 49691512) + 2147483648 := by
      have h2 : n / 2 ^^^ 49691512 < 2 ^ 31 := Nat.xor_lt_two_pow (by omega) (by omega)
      have h3 := split_xor 31 1 (n / 2 ^^^ 49691512) h2
      rw [Nat.add_comm, show (2147483648 : Nat) = 2 ^ 31 * 1 from rfl, h3, Nat.xor_comm (2 ^ 31 * 1), Nat.xor_assoc]
      rfl
    omega
  · omega

theorem turn_zero {n : Nat} (h : n < 4294967296) (hz : turn n = 0) : n = 0 := by
  have ht := turn_top h
  have hp : n % 2 = 0 := by omega
  unfold turn at hz
  rw [if_neg (by omega)] at hz
  omega

theorem trn_is_zero (k : Nat) {n : Nat} (h : n < 4294967296) (hz : trn k n = 0) : n = 0 := by
  induction k with
  | zero => exact hz
  | succ k ih => exact ih (turn_zero (trn_lt k h) hz)

/-- Of the bytes one behind another. -/
def stp (n : Nat) (c : UInt8) : Nat := trn 8 (n ^^^ c.toNat)
def run (s : Nat) (bs : List UInt8) : Nat := bs.foldl stp s

theorem run_append (s : Nat) (a b : List UInt8) : run s (a ++ b) = run (run s a) b := List.foldl_append

theorem xor32 {a b : Nat} (ha : a < 4294967296) (hb : b < 4294967296) : a ^^^ b < 4294967296 := Nat.xor_lt_two_pow (n := 32) ha hb
theorem byte32 (c : UInt8) : c.toNat < 4294967296 := by have := c.toNat_lt; omega

theorem stp_lt {n : Nat} (c : UInt8) (h : n < 4294967296) : stp n c < 4294967296 := trn_lt 8 (xor32 h (byte32 c))

theorem run_lt {s : Nat} (bs : List UInt8) (h : s < 4294967296) : run s bs < 4294967296 := by
  induction bs generalizing s with
  | nil => exact h
  | cons c r ih => exact ih (stp_lt c h)

theorem run_xor (s t : Nat) (bs : List UInt8) : run (s ^^^ t) bs = run s bs ^^^ trn (8 * bs.length) t := by
  induction bs generalizing s t with
  | nil => rfl
  | cons c r ih =>
    show run (stp (s ^^^ t) c) r = run (stp s c) r ^^^ _
    have e : stp (s ^^^ t) c = stp s c ^^^ trn 8 t := by
      unfold stp
      rw [← trn_xor]
      congr 1
      rw [Nat.xor_assoc, Nat.xor_comm t, ← Nat.xor_assoc]
    rw [e, ih, List.length_cons, Nat.mul_succ, trn_add]

/-- More, and the sum. -/
def moreF (s : Nat) (bs : List UInt8) : Nat := run (s ^^^ 4294967295) bs ^^^ 4294967295
def sumF (bs : List UInt8) : Nat := moreF 0 bs
/-- Join. -/
def joinF (x y n : Nat) : Nat := trn (8 * n) x ^^^ y

theorem moreF_lt {s : Nat} (bs : List UInt8) (h : s < 4294967296) : moreF s bs < 4294967296 := xor32 (run_lt bs (xor32 h (by omega))) (by omega)
theorem sumF_lt (bs : List UInt8) : sumF bs < 4294967296 := moreF_lt bs (by omega)
theorem joinF_lt {x y : Nat} (n : Nat) (hx : x < 4294967296) (hy : y < 4294967296) : joinF x y n < 4294967296 := xor32 (trn_lt _ hx) hy

theorem full_twice (a : Nat) : a ^^^ 4294967295 ^^^ 4294967295 = a := by rw [Nat.xor_assoc, Nat.xor_self, Nat.xor_zero]

theorem moreF_append (s : Nat) (a b : List UInt8) : moreF s (a ++ b) = moreF (moreF s a) b := by
  unfold moreF
  rw [run_append, full_twice]

theorem moreF_join (x : Nat) (b : List UInt8) : moreF x b = joinF x (sumF b) b.length := by
  unfold moreF joinF sumF moreF
  rw [Nat.xor_comm x, run_xor, Nat.zero_xor, Nat.xor_assoc, Nat.xor_comm]
  rw [Nat.xor_assoc, Nat.xor_comm (4294967295), ← Nat.xor_assoc]

theorem joinF_joinF (x y z n m : Nat) : joinF x (joinF y z m) (n + m) = joinF (joinF x y n) z m := by
  unfold joinF
  rw [trn_xor, ← trn_add, Nat.xor_assoc, show 8 * (n + m) = 8 * m + 8 * n by omega]

end Go.Proofs.YtabhfeocelljdaaGreatDoor

