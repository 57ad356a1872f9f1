/- Keys: the order of numbers is the order of their bytes. No function of the program is named here. -/
import Derived.Test.YtkjoojamkbpfcaaE3
namespace Go.Proofs.Ytkjoojamkbpfcaa
open Go.RowKit

theorem less_append : ∀ (x y u v : List UInt8), x.length = y.length → Op.bytesLess (x ++ u) (y ++ v) = (Op.bytesLess x y || (x == y && Op.bytesLess u v))
  | [], [], _, _, _ => by simp [Op.bytesLess]
  | [], _ :: _, _, _, h => by simp at h
  | _ :: _, [], _, _, h => by simp at h
  | a :: x, b :: y, u, v, h => by
    have ih := less_append x y u v (by simpa using h)
    simp only [List.cons_append, Op.bytesLess, ih]
    by_cases e : a = b
    · subst e
      simp [Bool.and_or_distrib_left]
    · have e1 : (a == b) = false := by simpa using e
      have e2 : ((a :: x) == (b :: y)) = false := by simp [e]
      rw [e1, e2]
      simp

theorem digs_mod (a k : Nat) : digs a k = digs (a % 256 ^ k) k := by
  have h := digs_high (a / 256 ^ k) (a % 256 ^ k) k k (Nat.le_refl _)
  rwa [Nat.div_add_mod' a (256 ^ k)] at h

theorem less_digs : ∀ (k a b : Nat), a < 256 ^ k → b < 256 ^ k → Op.bytesLess (digs a k) (digs b k) = decide (a < b)
  | 0, a, b, ha, hb => by
    simp at ha hb
    subst ha hb
    rfl
  | k + 1, a, b, ha, hb => by
    have hm : 0 < 256 ^ k := Nat.pow_pos (by omega)
    rw [Nat.pow_succ] at ha hb
    have qa : a / 256 ^ k < 256 := Nat.div_lt_of_lt_mul ha
    have qb : b / 256 ^ k < 256 := Nat.div_lt_of_lt_mul hb
    have ih := less_digs k (a % 256 ^ k) (b % 256 ^ k) (Nat.mod_lt _ hm) (Nat.mod_lt _ hm)
    rw [← digs_mod, ← digs_mod] at ih
    have ta : (byteAt a k).toNat = a / 256 ^ k := by rw [byteAt_toNat, Nat.mod_eq_of_lt qa]
    have tb : (byteAt b k).toNat = b / 256 ^ k := by rw [byteAt_toNat, Nat.mod_eq_of_lt qb]
    show Op.bytesLess (byteAt a k :: digs a k) (byteAt b k :: digs b k) = decide (a < b)
    have da := Nat.div_add_mod a (256 ^ k)
    have db := Nat.div_add_mod b (256 ^ k)
    have ra := Nat.mod_lt a hm
    have rb := Nat.mod_lt b hm
    simp only [Op.bytesLess, ih]
    rw [Bool.eq_iff_iff]
    simp only [Bool.or_eq_true, Bool.and_eq_true, decide_eq_true_eq, beq_iff_eq, UInt8.lt_iff_toNat_lt, ← UInt8.toNat_inj, ta, tb]
    generalize 256 ^ k = m at *
    generalize a / m = p at *
    generalize b / m = q at *
    generalize a % m = r at *
    generalize b % m = s at *
    subst da db
    constructor
    · rintro (h | ⟨h1, h2⟩)
      · have : m * p + m ≤ m * q := by rw [← Nat.mul_succ]; exact Nat.mul_le_mul_left m h
        omega
      · subst h1; omega
    · intro h
      rcases Nat.lt_trichotomy p q with h1 | h1 | h1
      · exact Or.inl h1
      · subst h1; exact Or.inr ⟨rfl, by omega⟩
      · have : m * q + m ≤ m * p := by rw [← Nat.mul_succ]; exact Nat.mul_le_mul_left m h1
        omega

theorem digs_eq (k a b : Nat) (ha : a < 256 ^ k) (hb : b < 256 ^ k) : (digs a k == digs b k) = decide (a = b) := by
  rw [Bool.eq_iff_iff, beq_iff_eq, decide_eq_true_eq]
  constructor
  · intro h
    rw [← num_digs_lt ha, ← num_digs_lt hb, h]
  · rintro rfl; rfl

/-- The key's bytes. -/
def keyL (t : Tp) : List UInt8 := [116] ++ (t.tok.data.toList ++ (digs t.time.toNat 4 ++ (digs t.dev.toNat 2 ++ digs t.ctr.toNat 4)))

theorem key_less (t u : Tp) (ht : tapOk t = true) (hu : tapOk u = true) (he : t.tok = u.tok) :
    Op.bytesLess (keyL t) (keyL u) = (decide (t.time < u.time) || (decide (t.time = u.time) && (decide (t.dev < u.dev) || (decide (t.dev = u.dev) && decide (t.ctr < u.ctr))))) := by
  simp only [tapOk, Bool.and_eq_true, isIn_iff] at ht hu
  unfold keyL
  rw [he, less_append _ _ _ _ rfl, less_irrefl, less_append _ _ _ _ rfl, less_irrefl, less_append _ _ _ _ (by rw [digs_length, digs_length]), less_append _ _ _ _ (by rw [digs_length, digs_length]),
    less_digs 4 _ _ (by omega) (by omega), less_digs 2 _ _ (by omega) (by omega), less_digs 4 _ _ (by omega) (by omega), digs_eq 4 _ _ (by omega) (by omega), digs_eq 2 _ _ (by omega) (by omega)]
  simp only [beq_self_eq_true, Bool.false_or, Bool.true_and]
  rw [show decide (t.time.toNat < u.time.toNat) = decide (t.time < u.time) from decide_eq_decide.2 (by omega), show decide (t.time.toNat = u.time.toNat) = decide (t.time = u.time) from decide_eq_decide.2 (by omega),
    show decide (t.dev.toNat < u.dev.toNat) = decide (t.dev < u.dev) from decide_eq_decide.2 (by omega), show decide (t.dev.toNat = u.dev.toNat) = decide (t.dev = u.dev) from decide_eq_decide.2 (by omega), show decide (t.ctr.toNat < u.ctr.toNat) = decide (t.ctr < u.ctr) from decide_eq_decide.2 (by omega)]

end Go.Proofs.Ytkjoojamkbpfcaa
