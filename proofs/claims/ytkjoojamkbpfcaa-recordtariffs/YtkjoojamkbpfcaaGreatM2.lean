/- Plain facts: a number and its bytes, there and back; what was put is taken, kind by kind; what was taken is put. -/
import Derived.Test.YtkjoojamkbpfcaaGreatM1
namespace Go.Proofs.YtkjoojamkbpfcaaGreat
open Go.RowKit

theorem num_acc (l : List UInt8) (n : Nat) : l.foldl (fun n b => n * 256 + b.toNat) n = n * 256 ^ l.length + num l := by
  unfold num
  induction l generalizing n with
  | nil => simp
  | cons b l ih =>
    rw [List.foldl_cons, List.foldl_cons, ih, ih (0 * 256 + b.toNat), List.length_cons, Nat.pow_succ, Nat.mul_comm (256 ^ l.length) 256, ← Nat.mul_assoc, Nat.add_mul]
    simp [Nat.add_assoc]

theorem num_cons (b : UInt8) (l : List UInt8) : num (b :: l) = b.toNat * 256 ^ l.length + num l := by
  have := num_acc l (0 * 256 + b.toNat)
  simpa [num] using this

theorem byteAt_toNat (n k : Nat) : (byteAt n k).toNat = n / 256 ^ k % 256 := by
  unfold byteAt
  simp

theorem num_digs (n k : Nat) : num (digs n k) = n % 256 ^ k := by
  induction k with
  | zero => simp [digs, num, Nat.mod_one]
  | succ k ih =>
    rw [digs, num_cons, ih, digs_length, byteAt_toNat, Nat.pow_succ, Nat.mod_mul, Nat.mul_comm]
    omega

theorem num_digs_lt {n k : Nat} (h : n < 256 ^ k) : num (digs n k) = n := by rw [num_digs, Nat.mod_eq_of_lt h]

theorem byteAt_high (c m k i : Nat) (h : i < k) : byteAt (c * 256 ^ k + m) i = byteAt m i := by
  unfold byteAt
  congr 1
  obtain ⟨d, rfl⟩ : ∃ d, k = i + 1 + d := ⟨k - (i + 1), by omega⟩
  have e : c * 256 ^ (i + 1 + d) = 256 ^ i * (256 * (c * 256 ^ d)) := by
    rw [Nat.pow_add, Nat.pow_succ]
    simp [Nat.mul_comm, Nat.mul_left_comm, Nat.mul_assoc]
  rw [e, Nat.mul_add_div (Nat.pow_pos (by omega)), Nat.mul_add_mod]

theorem digs_high (c m k : Nat) : ∀ j, j ≤ k → digs (c * 256 ^ k + m) j = digs m j
  | 0, _ => rfl
  | j + 1, h => by rw [digs, digs, digs_high c m k j (by omega), byteAt_high c m k j (by omega)]

theorem digs_num (l : List UInt8) : digs (num l) l.length = l := by
  induction l with
  | nil => rfl
  | cons b l ih =>
    rw [List.length_cons, digs, num_cons, digs_high _ _ _ _ (Nat.le_refl _), ih]
    congr 1
    unfold byteAt
    have hp : 0 < 256 ^ l.length := Nat.pow_pos (by omega)
    rw [Nat.mul_comm, Nat.mul_add_div hp, Nat.div_eq_of_lt (num_lt l), Nat.add_zero, Nat.mod_eq_of_lt b.toNat_lt]
    simp

theorem u64_i64 (N : Nat) (h : N < 18446744073709551616) : (IntKind.u64.wrap (wrap64 (N : Int))).toNat = N := by
  have e : wrap64 (N : Int) = (N : Int) ∨ wrap64 (N : Int) = (N : Int) - 18446744073709551616 := by
    simp only [wrap64]
    omega
  rw [IntKind.wrap_u64]
  rcases e with e | e <;> rw [e] <;> omega

theorem i64_u64 (n : Int) (h1 : -9223372036854775808 ≤ n) (h2 : n ≤ 9223372036854775807) : wrap64 (((IntKind.u64.wrap n).toNat : Nat) : Int) = n := by
  rw [IntKind.wrap_u64]
  simp only [wrap64]
  omega

theorem bytes_size (s : ByteArray) : s.data.toList.length = s.size := by rw [Array.length_toList]; rfl

section
variable {bs ms tail : List UInt8} {a : Nat}

theorem left_eq (ha : a ≤ bs.length) (h : bs.drop a = ms ++ tail) : bs.length = a + ms.length + tail.length := by
  have := congrArg List.length h
  rw [List.length_drop, List.length_append] at this
  omega

theorem take_eq {k : Nat} (h : bs.drop a = ms ++ tail) (hk : ms.length = k) : (bs.drop a).take k = ms := by
  rw [h, ← hk]; simp

theorem back_number {n size : Int} (hn : n ≤ 9223372036854775807) (hq : wNumber n size = some ms) (ha : a ≤ bs.length) (h : bs.drop a = ms ++ tail) : oNumber bs a size = .ok (.int .i64 n, a + ms.length) := by
  unfold wNumber at hq
  split at hq
  · rename_i hc
    obtain ⟨h1, h2, h3, h4⟩ := hc
    injection hq with hq
    subst hq
    have hl := left_eq ha h
    rw [digs_length] at hl
    have ht := take_eq h (digs_length n.toNat size.toNat)
    have e256 : ((256 ^ size.toNat : Nat) : Int) = (256 : Int) ^ size.toNat := by rw [Int.natCast_pow]; rfl
    have hlt : n.toNat < 256 ^ size.toNat := by rw [← e256] at h4; omega
    have hnum := num_digs_lt hlt
    unfold oNumber
    rw [if_neg (by omega), if_neg (by omega), ht, hnum, if_neg (by omega), digs_length]
    congr 2
    congr 1
    omega
  · cases hq

theorem back_int {n : Int} (h1 : -9223372036854775808 ≤ n) (h2 : n ≤ 9223372036854775807) (hq : wInt n = some ms) (ha : a ≤ bs.length) (h : bs.drop a = ms ++ tail) : oInt bs a = .ok (.int .i64 n, a + ms.length) := by
  unfold wInt at hq
  injection hq with hq
  subst hq
  have hl := left_eq ha h
  rw [digs_length] at hl
  have ht := take_eq h (digs_length (IntKind.u64.wrap n).toNat 8)
  have hlt : (IntKind.u64.wrap n).toNat < 256 ^ 8 := by rw [IntKind.wrap_u64]; have : (256 : Nat) ^ 8 = 18446744073709551616 := by decide
                                                        omega
  unfold oInt
  rw [if_neg (by omega), ht, num_digs_lt hlt, i64_u64 n h1 h2, digs_length]

theorem back_float {b : Nat} (hb : b < 18446744073709551616) (hq : wFloat b = some ms) (ha : a ≤ bs.length) (h : bs.drop a = ms ++ tail) :
    oFloat bs a = .ok (.float .f64 (if nanB b then 9221120237041090560 else b), a + ms.length) := by
  unfold wFloat at hq
  injection hq with hq
  subst hq
  have hl := left_eq ha h
  rw [digs_length] at hl
  have ht := take_eq h (digs_length (if nanB b then 9221120237041090560 else b) 8)
  have h8 : (256 : Nat) ^ 8 = 18446744073709551616 := by decide
  have hlt : (if nanB b = true then 9221120237041090560 else b) < 256 ^ 8 := by rw [h8]; split <;> omega
  unfold oFloat
  rw [if_neg (by omega), ht, num_digs_lt hlt, digs_length, if_neg]
  rintro ⟨h1, h2⟩
  by_cases hn : nanB b = true
  · rw [if_pos hn] at h2; exact h2 rfl
  · rw [if_neg hn] at h1; exact hn h1

theorem back_bool {is : Bool} (hq : wBool is = some ms) (ha : a ≤ bs.length) (h : bs.drop a = ms ++ tail) : oBool bs a = .ok (.bool is, a + ms.length) := by
  unfold wBool at hq
  injection hq with hq
  subst hq
  have hl := left_eq ha h
  rw [digs_length] at hl
  have ht := take_eq h (digs_length (if is = true then 1 else 0) 1)
  have hlt : (if is = true then 1 else 0) < 256 ^ 1 := by cases is <;> simp
  unfold oBool
  rw [if_neg (by omega), ht, num_digs_lt hlt, digs_length]
  cases is <;> simp

theorem back_count {n : Int} (hq : wCount n = some ms) (ha : a ≤ bs.length) (h : bs.drop a = ms ++ tail) : oCount bs a n = .ok (.int .i64 n, a + ms.length) := by
  unfold wCount at hq
  split at hq
  · rename_i hc
    obtain ⟨h1, h2⟩ := hc
    injection hq with hq
    subst hq
    have hl := left_eq ha h
    rw [digs_length] at hl
    have ht := take_eq h (digs_length n.toNat 2)
    have hlt : n.toNat < 256 ^ 2 := by omega
    unfold oCount
    rw [if_neg (by omega), if_neg (by omega), ht, num_digs_lt hlt, if_neg (by omega), digs_length]
    congr 2
    congr 1
    omega
  · cases hq

theorem back_fixed {s : ByteArray} {size : Int} (hq : wFixed s size = some ms) (ha : a ≤ bs.length) (h : bs.drop a = ms ++ tail) : oFixed bs a size = .ok (.string s, a + ms.length) := by
  unfold wFixed at hq
  split at hq
  · rename_i hc
    obtain ⟨h1, h2, h3⟩ := hc
    injection hq with hq
    subst hq
    have hl := left_eq ha h
    rw [bytes_size] at hl
    have hk : size.toNat = s.size := by omega
    have ht := take_eq h (bytes_size s)
    unfold oFixed
    rw [if_neg (by omega), if_neg (by omega), hk, ht, bytes_size]
  · cases hq

theorem back_text {s : ByteArray} (hq : wText s = some ms) (ha : a ≤ bs.length) (h : bs.drop a = ms ++ tail) : oText bs a s.size = .ok (.string s, a + ms.length) := by
  unfold wText at hq
  split at hq
  · rename_i hc
    injection hq with hq
    subst hq
    have hl := left_eq ha h
    rw [List.length_append, digs_length, bytes_size] at hl
    have h' : bs.drop a = digs s.size 2 ++ (s.data.toList ++ tail) := by rw [h, List.append_assoc]
    have ht := take_eq h' (digs_length s.size 2)
    have hlt : s.size < 256 ^ 2 := by omega
    have hd : bs.drop (a + 2) = s.data.toList ++ tail := by
      rw [← List.drop_drop, h', List.drop_left' (digs_length s.size 2)]
    have ht2 := take_eq hd (bytes_size s)
    unfold oText
    rw [if_neg (by omega), if_neg (by omega), ht, num_digs_lt hlt, if_neg (by omega), if_neg (by omega), ht2, List.length_append, digs_length, bytes_size, Nat.add_assoc]
  · cases hq

end
end Go.Proofs.YtkjoojamkbpfcaaGreat
