/- The mathematics of amounts as texts. No program is named here. -/
import Derived.Lib.ItoaNum
import Derived.Lib.Strings
namespace Go.Proofs.YtighehbeeflhpaaDoor
open Go.Lib (decDigits nDigits)

/-- The number that the digits of a text are, behind another one. -/
def digN : Nat → List UInt8 → Nat
  | n, [] => n
  | n, c :: r => digN (if 48 ≤ c.toNat ∧ c.toNat ≤ 57 then 10 * n + (c.toNat - 48) else n) r

theorem digN_append : ∀ (a b : List UInt8) (n : Nat), digN n (a ++ b) = digN (digN n a) b
  | [], _, _ => rfl
  | _ :: r, b, _ => digN_append r b _

theorem digit_nat (k : Nat) (h : k < 10) : (UInt8.ofNat (48 + k)).toNat = 48 + k := by
  simp; omega

theorem digN_digit (n k : Nat) (h : k < 10) : digN n [UInt8.ofNat (48 + k)] = 10 * n + k := by
  unfold digN digN
  rw [digit_nat k h, if_pos (by omega)]
  omega

theorem digN_dec (u : Nat) : digN 0 (decDigits u) = u := by
  induction u using Nat.strongRecOn with
  | _ u ih =>
    rw [decDigits]
    by_cases h : u < 10
    · rw [dif_pos h, digN_digit 0 u h]; omega
    · rw [dif_neg h, digN_append, ih (u / 10) (by omega), digN_digit _ _ (by omega)]; omega

/-- A text's pounds and pence. -/
def textU (u : Nat) : List UInt8 := decDigits (u / 100) ++ (46 :: [UInt8.ofNat (48 + u % 100 / 10), UInt8.ofNat (48 + u % 100 % 10)])
def text (n : Int) : List UInt8 := if n < 0 then 45 :: textU n.natAbs else textU n.natAbs

theorem digN_textU (u : Nat) : digN 0 (textU u) = u := by
  unfold textU
  rw [digN_append, digN_dec]
  show digN (digN (u / 100) [46]) ([UInt8.ofNat (48 + u % 100 / 10)] ++ [UInt8.ofNat (48 + u % 100 % 10)]) = u
  rw [digN_append]
  have : digN (u / 100) [46] = u / 100 := rfl
  rw [this, digN_digit _ _ (by omega), digN_digit _ _ (by omega)]
  omega

theorem dec_digits (u : Nat) : ∀ c ∈ decDigits u, 48 ≤ c.toNat ∧ c.toNat ≤ 57 := by
  induction u using Nat.strongRecOn with
  | _ u ih =>
    rw [decDigits]
    by_cases h : u < 10
    · rw [dif_pos h]
      intro c hc
      simp only [List.mem_singleton] at hc
      rw [hc, digit_nat u h]; omega
    · rw [dif_neg h]
      intro c hc
      rcases List.mem_append.1 hc with h1 | h1
      · exact ih (u / 10) (by omega) c h1
      · simp only [List.mem_singleton] at h1
        rw [h1, digit_nat _ (by omega)]; omega

/-- A text's bytes: digits and a dot; a sign ahead alone. -/
theorem textU_bytes (u : Nat) : ∀ c ∈ textU u, (48 ≤ c.toNat ∧ c.toNat ≤ 57) ∨ c = 46 := by
  intro c hc
  unfold textU at hc
  rcases List.mem_append.1 hc with h1 | h1
  · exact .inl (dec_digits _ c h1)
  · simp only [List.mem_cons, List.not_mem_nil, or_false] at h1
    rcases h1 with h1 | h1 | h1
    · exact .inr h1
    · rw [h1, digit_nat _ (by omega)]; exact .inl (by omega)
    · rw [h1, digit_nat _ (by omega)]; exact .inl (by omega)

theorem textU_ne (u : Nat) : ∀ c ∈ textU u, c ≠ 45 := by
  intro c hc e
  subst e
  rcases textU_bytes u 45 hc with h | h
  · exact absurd h.1 (by decide)
  · exact absurd h (by decide)

/-- The number that a text would be of. -/
def cand (s : List UInt8) : Int := if s.head? = some 45 then -((digN 0 s : Nat) : Int) else (digN 0 s : Nat)

theorem cand_text (n : Int) : cand (text n) = n := by
  unfold cand text
  by_cases h : n < 0
  · rw [if_pos h]
    have : digN 0 (45 :: textU n.natAbs) = digN 0 (textU n.natAbs) := rfl
    rw [if_pos (show (45 :: textU n.natAbs).head? = some 45 from rfl), this, digN_textU]; omega
  · rw [if_neg h]
    have : (textU n.natAbs).head? ≠ some 45 := by
      intro e
      exact textU_ne _ 45 (List.mem_of_mem_head? e) rfl
    rw [if_neg this, digN_textU]; omega

theorem nDigits_le (k : Nat) : ∀ u, u < 10 ^ (k + 1) → nDigits u ≤ k + 1 := by
  induction k with
  | zero => intro u h; rw [Go.Lib.nDigits_small (by simpa using h)]; omega
  | succ k ih =>
    intro u h
    by_cases h10 : u < 10
    · rw [Go.Lib.nDigits_small h10]; omega
    · rw [Go.Lib.nDigits_big h10]
      have : u / 10 < 10 ^ (k + 1) := by
        rw [Nat.pow_succ] at h
        exact Nat.div_lt_of_lt_mul (by rw [Nat.mul_comm]; exact h)
      have := ih (u / 10) this
      omega

theorem text_length (n : Int) (h : n.natAbs ≤ 9007199254740992) : (text n).length ≤ 18 := by
  have h1 : (textU n.natAbs).length ≤ 17 := by
    unfold textU
    rw [List.length_append, Go.Lib.decDigits_length]
    have := nDigits_le 13 (n.natAbs / 100) (by omega)
    simp only [List.length_cons, List.length_nil]
    omega
  unfold text
  split
  · rw [List.length_cons]; omega
  · omega

/-- More digits behind come to no less. -/
theorem digN_le : ∀ (l : List UInt8) (n : Nat), n ≤ digN n l
  | [], _ => Nat.le_refl _
  | c :: r, n => by
    unfold digN
    by_cases h : 48 ≤ c.toNat ∧ c.toNat ≤ 57
    · rw [if_pos h]; exact Nat.le_trans (by omega) (digN_le r _)
    · rw [if_neg h]; exact digN_le r _

theorem digN_bound : ∀ (l : List UInt8) (n : Nat), digN n l < (n + 1) * 10 ^ l.length
  | [], n => by simp [digN]
  | c :: r, n => by
    unfold digN
    have key : ∀ m, m + 1 ≤ (n + 1) * 10 → digN m r < (n + 1) * 10 ^ (r.length + 1) := fun m hm => by
      refine Nat.lt_of_lt_of_le (digN_bound r m) ?_
      rw [Nat.pow_succ, Nat.mul_comm (10 ^ r.length), ← Nat.mul_assoc]
      exact Nat.mul_le_mul_right _ hm
    rw [List.length_cons]
    by_cases h : 48 ≤ c.toNat ∧ c.toNat ≤ 57
    · rw [if_pos h]; exact key _ (by omega)
    · rw [if_neg h]; exact key _ (by omega)

theorem digN_small (l : List UInt8) (h : l.length ≤ 18) : digN 0 l < 1000000000000000000 := by
  have h1 := digN_bound l 0
  have h2 : 10 ^ l.length ≤ 10 ^ 18 := Nat.pow_le_pow_right (by decide) h
  omega

end Go.Proofs.YtighehbeeflhpaaDoor
