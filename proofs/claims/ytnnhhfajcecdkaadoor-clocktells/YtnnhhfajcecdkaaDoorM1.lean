/- The mathematics of times as texts. No program is named here. -/
import Derived.Lib.ItoaNum
import Derived.Lib.Strings
import Derived.Lib.FieldsP
import Derived.Lib.Atoi
import Derived.Lib.AtoiBound
import Derived.Lib.TrimUEq
namespace Go.Proofs.YtnnhhfajcecdkaaDoor
open Go.Lib (decDigits nDigits decFrom atoi decNat digitVal)

def two (n : Nat) : List UInt8 := [UInt8.ofNat (48 + n / 10), UInt8.ofNat (48 + n % 10)]

def word : Nat → List UInt8
  | 0 => [77, 111, 110]
  | 1 => [84, 117, 101]
  | 2 => [87, 101, 100]
  | 3 => [84, 104, 117]
  | 4 => [70, 114, 105]
  | 5 => [83, 97, 116]
  | _ => [83, 117, 110]

/-- The first day of which that is the word; 0, if it is none's. -/
def dayIx (l : List UInt8) : Nat :=
  if word 0 = l then 0 else if word 1 = l then 1 else if word 2 = l then 2 else if word 3 = l then 3 else if word 4 = l then 4 else if word 5 = l then 5 else if word 6 = l then 6 else 0

def textN (t : Nat) : List UInt8 := decDigits (t / 10080) ++ (32 :: (word (t % 10080 / 1440) ++ (32 :: (two (t % 1440 / 60) ++ (58 :: two (t % 60))))))

/-- Is it a time? -/
def right (t : Int) : Bool := decide (0 ≤ t) && decide (t ≤ 2147483648)

theorem right_iff (t : Int) : right t = true ↔ 0 ≤ t ∧ t ≤ 2147483648 := by simp [right]
theorem right_not (t : Int) : right t = false ↔ ¬ (0 ≤ t ∧ t ≤ 2147483648) := by
  rw [← right_iff]; simp

/-- A time's text; none's is empty. -/
def text (t : Int) : List UInt8 := if right t then textN t.toNat else []

theorem text_nat (t : Nat) (h : t ≤ 2147483648) : text (t : Int) = textN t := by
  unfold text
  rw [if_pos ((right_iff _).2 ⟨by omega, by omega⟩)]
  simp

theorem text_not (t : Int) (h : right t = false) : text t = [] := by
  unfold text
  rw [h]; rfl

theorem word_length (d : Nat) : (word d).length = 3 := by
  unfold word
  split <;> rfl

theorem dayIx_word (d : Nat) (h : d < 7) : dayIx (word d) = d := by
  match d, h with
  | 0, _ => decide
  | 1, _ => decide
  | 2, _ => decide
  | 3, _ => decide
  | 4, _ => decide
  | 5, _ => decide
  | 6, _ => decide
  | n + 7, h => exact absurd h (by omega)

theorem digit_nat (k : Nat) (h : k < 10) : (UInt8.ofNat (48 + k)).toNat = 48 + k := by
  simp; omega

theorem digit_val (k : Nat) (h : k < 10) : digitVal (UInt8.ofNat (48 + k)) = some k := by
  unfold digitVal
  rw [digit_nat k h, if_pos (by omega)]
  congr 1; omega

theorem decFrom_append : ∀ (a b : List UInt8) (n : Nat), decFrom n (a ++ b) = (decFrom n a).bind fun m => decFrom m b
  | [], _, _ => rfl
  | c :: r, b, n => by
    have e : ∀ l, decFrom n (c :: l) = match digitVal c with | some d => decFrom (n * 10 + d) l | none => none := fun _ => rfl
    rw [List.cons_append, e, e]
    cases digitVal c with
    | none => rfl
    | some d => exact decFrom_append r b _

theorem decFrom_dec (u : Nat) : decFrom 0 (decDigits u) = some u := by
  induction u using Nat.strongRecOn with
  | _ u ih =>
    rw [decDigits]
    by_cases h : u < 10
    · rw [dif_pos h]
      unfold decFrom
      rw [digit_val u h]
      unfold decFrom
      simp
    · rw [dif_neg h, decFrom_append, ih (u / 10) (by omega)]
      show decFrom (u / 10) [UInt8.ofNat (48 + u % 10)] = some u
      unfold decFrom
      rw [digit_val _ (by omega)]
      unfold decFrom
      simp; omega

theorem dec_digits (u : Nat) : ∀ c ∈ decDigits u, 48 ≤ c.toNat ∧ c.toNat ≤ 57 := by
  induction u using Nat.strongRecOn with
  | _ u ih =>
    rw [decDigits]
    by_cases h : u < 10
    · rw [dif_pos h]
      intro c hc
      simp only [List.mem_singleton] at hc
      rw [hc, digit_nat u h]; omega
    · rw [dif_neg h]
      intro c hc
      rcases List.mem_append.1 hc with h1 | h1
      · exact ih (u / 10) (by omega) c h1
      · simp only [List.mem_singleton] at h1
        rw [h1, digit_nat _ (by omega)]; omega

theorem dec_ne (u : Nat) : decDigits u ≠ [] := by
  intro e
  have := decFrom_dec u
  rw [decDigits] at e
  by_cases h : u < 10
  · rw [dif_pos h] at e; cases e
  · rw [dif_neg h] at e; simp at e

theorem atoi_digits (l : List UInt8) (n : Nat) (hne : l ≠ []) (hd : ∀ c ∈ l, 48 ≤ c.toNat ∧ c.toNat ≤ 57) (h : decFrom 0 l = some n) : atoi l = some (n : Int) := by
  cases l with
  | nil => exact absurd rfl hne
  | cons b r =>
    have hb := hd b (by simp)
    unfold atoi
    have h1 : (b == 45) = false := beq_eq_false_iff_ne.2 (fun e => by rw [e] at hb; exact absurd hb.1 (by decide))
    have h2 : (b == 43) = false := beq_eq_false_iff_ne.2 (fun e => by rw [e] at hb; exact absurd hb.1 (by decide))
    simp only [h1, h2, Bool.false_eq_true, if_false]
    unfold decNat
    simp [h]

theorem atoi_dec (u : Nat) : atoi (decDigits u) = some (u : Int) := atoi_digits _ u (dec_ne u) (dec_digits u) (decFrom_dec u)

theorem two_digits (n : Nat) (h : n < 100) : ∀ c ∈ two n, 48 ≤ c.toNat ∧ c.toNat ≤ 57 := by
  intro c hc
  simp only [two, List.mem_cons, List.not_mem_nil, or_false] at hc
  rcases hc with hc | hc
  · rw [hc, digit_nat _ (by omega)]; omega
  · rw [hc, digit_nat _ (by omega)]; omega

theorem decFrom_two (n : Nat) (h : n < 100) : decFrom 0 (two n) = some n := by
  unfold two decFrom
  rw [digit_val _ (by omega)]
  unfold decFrom
  simp only
  rw [digit_val _ (by omega)]
  unfold decFrom
  simp; omega

theorem atoi_two (n : Nat) (h : n < 100) : atoi (two n) = some (n : Int) := atoi_digits _ n (by simp [two]) (two_digits n h) (decFrom_two n h)

theorem nDigits_le (k : Nat) : ∀ u, u < 10 ^ (k + 1) → nDigits u ≤ k + 1 := by
  induction k with
  | zero => intro u h; rw [Go.Lib.nDigits_small (by simpa using h)]; omega
  | succ k ih =>
    intro u h
    by_cases h10 : u < 10
    · rw [Go.Lib.nDigits_small h10]; omega
    · rw [Go.Lib.nDigits_big h10]
      have : u / 10 < 10 ^ (k + 1) := by
        rw [Nat.pow_succ] at h
        exact Nat.div_lt_of_lt_mul (by rw [Nat.mul_comm]; exact h)
      have := ih (u / 10) this
      omega

theorem textN_length (t : Nat) : (textN t).length = (decDigits (t / 10080)).length + 10 := by
  simp [textN, word_length, two]

theorem dec_len6 (t : Nat) (h : t ≤ 2147483648) : (decDigits (t / 10080)).length ≤ 6 := by
  rw [Go.Lib.decDigits_length]
  exact nDigits_le 5 _ (by omega)

theorem textN_le (t : Nat) (h : t ≤ 2147483648) : (textN t).length ≤ 16 := by
  rw [textN_length]
  have := dec_len6 t h
  omega

/-- The time that a text would be of. -/
def cand (s : List UInt8) : Nat :=
  let a := s.takeWhile (fun c => c != 32)
  let r := s.drop (a.length + 1)
  (decFrom 0 a).getD 0 * 10080 + dayIx (r.take 3) * 1440 + (decFrom 0 ((r.drop 4).take 2)).getD 0 * 60 + (decFrom 0 ((r.drop 7).take 2)).getD 0

theorem takeWhile_app {α : Type} (p : α → Bool) : ∀ (a : List α) (x : α) (r : List α), (∀ c ∈ a, p c = true) → p x = false → (a ++ x :: r).takeWhile p = a
  | [], x, r, _, hx => by simp [hx]
  | c :: a, x, r, h, hx => by
    have hc := h c (by simp)
    show (c :: (a ++ x :: r)).takeWhile p = c :: a
    rw [List.takeWhile_cons, hc]
    simp only [if_true]
    rw [takeWhile_app p a x r (fun d hd => h d (by simp [hd])) hx]

theorem cand_textN (t : Nat) : cand (textN t) = t := by
  have e1 : (textN t).takeWhile (fun c => c != 32) = decDigits (t / 10080) := by
    unfold textN
    refine takeWhile_app _ _ _ _ (fun c hc => ?_) (by decide)
    have := dec_digits _ c hc
    exact bne_iff_ne.2 (fun e => by rw [e] at this; exact absurd this.1 (by decide))
  unfold cand
  simp only [e1]
  have e2 : (textN t).drop ((decDigits (t / 10080)).length + 1) = word (t % 10080 / 1440) ++ (32 :: (two (t % 1440 / 60) ++ (58 :: two (t % 60)))) := by
    unfold textN
    rw [List.drop_append, List.drop_eq_nil_of_le (by omega)]
    simp
  rw [e2]
  have hw := word_length (t % 10080 / 1440)
  have e3 : (word (t % 10080 / 1440) ++ (32 :: (two (t % 1440 / 60) ++ (58 :: two (t % 60))))).take 3 = word (t % 10080 / 1440) := by
    rw [← hw, List.take_left']; rfl
  have e4 : ((word (t % 10080 / 1440) ++ (32 :: (two (t % 1440 / 60) ++ (58 :: two (t % 60))))).drop 4).take 2 = two (t % 1440 / 60) := by
    rw [List.drop_append, List.drop_eq_nil_of_le (by omega), hw]
    simp [two]
  have e5 : ((word (t % 10080 / 1440) ++ (32 :: (two (t % 1440 / 60) ++ (58 :: two (t % 60))))).drop 7).take 2 = two (t % 60) := by
    rw [List.drop_append, List.drop_eq_nil_of_le (by omega), hw]
    simp [two]
  rw [e3, e4, e5, dayIx_word _ (by omega), decFrom_dec, decFrom_two _ (by omega), decFrom_two _ (by omega)]
  simp only [Option.getD_some]
  omega

theorem textN_inj (t u : Nat) (h : textN t = textN u) : t = u := by rw [← cand_textN t, h, cand_textN]

/-- The time whose text s is. -/
def parsed (s : List UInt8) : Option Nat := if cand s ≤ 2147483648 ∧ textN (cand s) = s then some (cand s) else none

theorem parsed_text (t : Nat) (h : t ≤ 2147483648) : parsed (textN t) = some t := by
  unfold parsed
  rw [cand_textN, if_pos ⟨h, rfl⟩]

theorem parsed_some {s : List UInt8} {t : Nat} (h : parsed s = some t) : t ≤ 2147483648 ∧ textN t = s := by
  unfold parsed at h
  split at h
  · next h2 => injection h with e; subst e; exact h2
  · cases h

theorem parsed_none {s : List UInt8} (h : ∀ t, t ≤ 2147483648 → textN t ≠ s) : parsed s = none := by
  cases e : parsed s with
  | none => rfl
  | some t => exact absurd (parsed_some e).2 (h t (parsed_some e).1)

theorem textN_ne (t : Nat) : textN t ≠ [] := by
  intro e
  have := textN_length t
  rw [e] at this
  simp at this

/-- What is answered: a number, and an error's. -/
def rv (o : Option Nat) : Int := ((o.getD 0 : Nat) : Int)
def re (o : Option Nat) : Int := if o.isSome then 0 else 1

/-- If a number's text is s, it is what s is parsed to. -/
theorem parsed_of (s : List UInt8) (t : Int) (hs : s ≠ []) (h : text t = s) : ∃ n : Nat, t = (n : Int) ∧ parsed s = some n := by
  cases hr : right t with
  | false => rw [text_not t hr] at h; exact absurd h.symm hs
  | true =>
    have hb := (right_iff t).1 hr
    obtain ⟨n, rfl⟩ := Int.eq_ofNat_of_zero_le hb.1
    rw [text_nat n (by omega)] at h
    exact ⟨n, rfl, by rw [← h]; exact parsed_text n (by omega)⟩

end Go.Proofs.YtnnhhfajcecdkaaDoor
