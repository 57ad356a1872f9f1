import Derived.Test.YtlhgfnpialndaaaC2
/- Plain facts on the bytes of pieces: those of two lists one behind the other, how many they are. -/
namespace Go.Proofs.Ytlhgfnpialndaaa
open Go.RowKit

theorem stepW_assoc (a b c : Option (List UInt8)) : stepW (stepW a b) c = stepW a (stepW b c) := by
  cases a <;> cases b <;> cases c <;> simp [stepW]

/-- The bytes of pieces. -/
def fold (l : List Pc) : Option (List UInt8) := l.foldl putW (some [])

theorem fold_nil : fold [] = some [] := rfl
theorem fold_snoc (l : List Pc) (q : Pc) : fold (l ++ [q]) = putW (fold l) q := by simp [fold]

theorem foldl_step (l : List Pc) (s : Option (List UInt8)) : l.foldl putW s = stepW s (fold l) := by
  unfold fold
  induction l generalizing s with
  | nil => simp [stepW_nil]
  | cons q l ih =>
    rw [List.foldl_cons, List.foldl_cons, ih, ih (putW (some []) q)]
    have e : putW (some []) q = q.bytes := by unfold putW; cases q.bytes <;> simp [stepW]
    rw [e, ← stepW_assoc]
    rfl

theorem fold_append (a b : List Pc) : fold (a ++ b) = stepW (fold a) (fold b) := by
  rw [← foldl_step]
  simp [fold]

theorem digs_le (n k : Nat) : (digs n k).length = k := digs_length n k

theorem bytes_le {q : Pc} {ms : List UInt8} (h : q.bytes = some ms) : ms.length ≤ 65537 := by
  have size_eq : ∀ s : ByteArray, s.data.toList.length = s.size := fun s => by rw [Array.length_toList]; rfl
  unfold Pc.bytes at h
  split at h
  · unfold wNumber at h
    split at h
    · injection h with h; subst h; rw [digs_length]; omega
    · cases h
  split at h
  · unfold wInt at h
    injection h with h; subst h; rw [digs_length]; omega
  split at h
  · unfold wFloat at h
    injection h with h; subst h; rw [digs_length]; omega
  split at h
  · unfold wBool at h
    injection h with h; subst h; rw [digs_length]; omega
  split at h
  · unfold wText at h
    split at h
    · injection h with h; subst h; rw [List.length_append, digs_length, size_eq]; omega
    · cases h
  split at h
  · unfold wFixed at h
    split at h
    · injection h with h; subst h; rw [size_eq]; omega
    · cases h
  split at h
  · unfold wCount at h
    split at h
    · injection h with h; subst h; rw [digs_length]; omega
    · cases h
  · injection h with h; subst h; simp

theorem putW_le {s : Option (List UInt8)} {q : Pc} {N : Nat} (hs : ∀ bs, s = some bs → bs.length ≤ N) : ∀ bs, putW s q = some bs → bs.length ≤ N + 65537 := by
  intro bs h
  unfold putW at h
  cases s with
  | none => rw [stepW_none] at h; cases h
  | some b =>
    cases hq : q.bytes with
    | none => rw [hq] at h; cases h
    | some ms =>
      rw [hq] at h
      simp only [stepW] at h
      injection h with h
      subst h
      rw [List.length_append]
      have := hs b rfl
      have := bytes_le hq
      omega

theorem fold_le (l : List Pc) : ∀ bs, fold l = some bs → bs.length ≤ 65537 * l.length := by
  suffices h : ∀ (l : List Pc) (s : Option (List UInt8)) (N : Nat), (∀ bs, s = some bs → bs.length ≤ N) → ∀ bs, l.foldl putW s = some bs → bs.length ≤ N + 65537 * l.length by
    intro bs hb
    have := h l (some []) 0 (fun bs e => by injection e with e; subst e; simp) bs hb
    omega
  intro l
  induction l with
  | nil => intro s N hs bs h; simpa using hs bs h
  | cons q l ih =>
    intro s N hs bs h
    have := ih (putW s q) (N + 65537) (putW_le hs) bs h
    rw [List.length_cons]
    omega

/-- Which of the first pieces the law's round i puts. -/
def part (i : Int) (k : Nat) (l : List Pc) : List Pc := if i = 0 then l.take k else if i = 1 then l.drop k else l

theorem part_length (i : Int) (k : Nat) (l : List Pc) : (part i k l).length ≤ l.length := by
  unfold part
  split
  · rw [List.length_take]; omega
  · split
    · rw [List.length_drop]; omega
    · exact Nat.le_refl _

theorem take_next (ps : List Pc) (n : Nat) (h : n < ps.length) : ps.take (n + 1) = ps.take n ++ [ps[n]] := List.take_succ_eq_append_getElem h

theorem part0_lt (ps : List Pc) (k n : Nat) (h : n < ps.length) (hk : n < k) : part 0 k (ps.take (n + 1)) = part 0 k (ps.take n) ++ [ps[n]] := by
  simp only [part, if_true]
  rw [List.take_take, List.take_take, Nat.min_eq_right (by omega), Nat.min_eq_right (by omega), take_next ps n h]
theorem part0_ge (ps : List Pc) (k n : Nat) (_h : n < ps.length) (hk : ¬ n < k) : part 0 k (ps.take (n + 1)) = part 0 k (ps.take n) := by
  simp only [part, if_true]
  rw [List.take_take, List.take_take, Nat.min_eq_left (by omega), Nat.min_eq_left (by omega)]
theorem part1_lt (ps : List Pc) (k n : Nat) (_h : n < ps.length) (hk : n < k) : part 1 k (ps.take (n + 1)) = part 1 k (ps.take n) := by
  have e : ∀ m, m ≤ k → (ps.take m).drop k = [] := fun m hm => List.drop_of_length_le (by rw [List.length_take]; omega)
  show (ps.take (n + 1)).drop k = (ps.take n).drop k
  rw [e _ (by omega), e _ (by omega)]
theorem part1_ge (ps : List Pc) (k n : Nat) (h : n < ps.length) (hk : ¬ n < k) : part 1 k (ps.take (n + 1)) = part 1 k (ps.take n) ++ [ps[n]] := by
  show (ps.take (n + 1)).drop k = (ps.take n).drop k ++ [ps[n]]
  rw [take_next ps n h, List.drop_append_of_le_length (by rw [List.length_take]; omega)]
theorem part2 (ps : List Pc) (k n : Nat) (h : n < ps.length) : part 2 k (ps.take (n + 1)) = part 2 k (ps.take n) ++ [ps[n]] := take_next ps n h

theorem parts_join (ps : List Pc) (k : Nat) : fold (part 2 k ps) = stepW (fold (part 0 k ps)) (fold (part 1 k ps)) := by
  rw [← fold_append]
  show fold ps = fold (ps.take k ++ ps.drop k)
  rw [List.take_append_drop]

end Go.Proofs.Ytlhgfnpialndaaa

/- Plain facts: a number and its bytes, there and back; what was put is taken, kind by kind; what was taken is put. -/
namespace Go.Proofs.Ytlhgfnpialndaaa
open Go.RowKit

theorem num_acc (l : List UInt8) (n : Nat) : l.foldl (fun n b => n * 256 + b.toNat) n = n * 256 ^ l.length + num l := by
  unfold num
  induction l generalizing n with
  | nil => simp
  | cons b l ih =>
    rw [List.foldl_cons, List.foldl_cons, ih, ih (0 * 256 + b.toNat), List.length_cons, Nat.pow_succ, Nat.mul_comm (256 ^ l.length) 256, ← Nat.mul_assoc, Nat.add_mul]
    simp [Nat.add_assoc]

theorem num_cons (b : UInt8) (l : List UInt8) : num (b :: l) = b.toNat * 256 ^ l.length + num l := by
  have := num_acc l (0 * 256 + b.toNat)
  simpa [num] using this

theorem byteAt_toNat (n k : Nat) : (byteAt n k).toNat = n / 256 ^ k % 256 := by
  unfold byteAt
  simp

theorem num_digs (n k : Nat) : num (digs n k) = n % 256 ^ k := by
  induction k with
  | zero => simp [digs, num, Nat.mod_one]
  | succ k ih =>
    rw [digs, num_cons, ih, digs_length, byteAt_toNat, Nat.pow_succ, Nat.mod_mul, Nat.mul_comm]
    omega

theorem num_digs_lt {n k : Nat} (h : n < 256 ^ k) : num (digs n k) = n := by rw [num_digs, Nat.mod_eq_of_lt h]

theorem byteAt_high (c m k i : Nat) (h : i < k) : byteAt (c * 256 ^ k + m) i = byteAt m i := by
  unfold byteAt
  congr 1
  obtain ⟨d, rfl⟩ : ∃ d, k = i + 1 + d := ⟨k - (i + 1), by omega⟩
  have e : c * 256 ^ (i + 1 + d) = 256 ^ i * (256 * (c * 256 ^ d)) := by
    rw [Nat.pow_add, Nat.pow_succ]
    simp [Nat.mul_comm, Nat.mul_left_comm, Nat.mul_assoc]
  rw [e, Nat.mul_add_div (Nat.pow_pos (by omega)), Nat.mul_add_mod]

theorem digs_high (c m k : Nat) : ∀ j, j ≤ k → digs (c * 256 ^ k + m) j = digs m j
  | 0, _ => rfl
  | j + 1, h => by rw [digs, digs, digs_high c m k j (by omega), byteAt_high c m k j (by omega)]

theorem digs_num (l : List UInt8) : digs (num l) l.length = l := by
  induction l with
  | nil => rfl
  | cons b l ih =>
    rw [List.length_cons, digs, num_cons, digs_high _ _ _ _ (Nat.le_refl _), ih]
    congr 1
    unfold byteAt
    have hp : 0 < 256 ^ l.length := Nat.pow_pos (by omega)
    rw [Nat.mul_comm, Nat.mul_add_div hp, Nat.div_eq_of_lt (num_lt l), Nat.add_zero, Nat.mod_eq_of_lt b.toNat_lt]
    simp

theorem u64_i64 (N : Nat) (h : N < 18446744073709551616) : (IntKind.u64.wrap (wrap64 (N : Int))).toNat = N := by
  have e : wrap64 (N : Int) = (N : Int) ∨ wrap64 (N : Int) = (N : Int) - 18446744073709551616 := by
    simp only [wrap64]
    omega
  rw [IntKind.wrap_u64]
  rcases e with e | e <;> rw [e] <;> omega

theorem i64_u64 (n : Int) (h1 : -9223372036854775808 ≤ n) (h2 : n ≤ 9223372036854775807) : wrap64 (((IntKind.u64.wrap n).toNat : Nat) : Int) = n := by
  rw [IntKind.wrap_u64]
  simp only [wrap64]
  omega

theorem bytes_size (s : ByteArray) : s.data.toList.length = s.size := by rw [Array.length_toList]; rfl

section
variable {bs ms tail : List UInt8} {a : Nat}

theorem left_eq (ha : a ≤ bs.length) (h : bs.drop a = ms ++ tail) : bs.length = a + ms.length + tail.length := by
  have := congrArg List.length h
  rw [List.length_drop, List.length_append] at this
  omega

theorem take_eq {k : Nat} (h : bs.drop a = ms ++ tail) (hk : ms.length = k) : (bs.drop a).take k = ms := by
  rw [h, ← hk]; simp

theorem back_number {n size : Int} (hn : n ≤ 9223372036854775807) (hq : wNumber n size = some ms) (ha : a ≤ bs.length) (h : bs.drop a = ms ++ tail) : oNumber bs a size = .ok (.int .i64 n, a + ms.length) := by
  unfold wNumber at hq
  split at hq
  · rename_i hc
    obtain ⟨h1, h2, h3, h4⟩ := hc
    injection hq with hq
    subst hq
    have hl := left_eq ha h
    rw [digs_length] at hl
    have ht := take_eq h (digs_length n.toNat size.toNat)
    have e256 : ((256 ^ size.toNat : Nat) : Int) = (256 : Int) ^ size.toNat := by rw [Int.natCast_pow]; rfl
    have hlt : n.toNat < 256 ^ size.toNat := by rw [← e256] at h4; omega
    have hnum := num_digs_lt hlt
    unfold oNumber
    rw [if_neg (by omega), if_neg (by omega), ht, hnum, if_neg (by omega), digs_length]
    congr 2
    congr 1
    omega
  · cases hq

theorem back_int {n : Int} (h1 : -9223372036854775808 ≤ n) (h2 : n ≤ 9223372036854775807) (hq : wInt n = some ms) (ha : a ≤ bs.length) (h : bs.drop a = ms ++ tail) : oInt bs a = .ok (.int .i64 n, a + ms.length) := by
  unfold wInt at hq
  injection hq with hq
  subst hq
  have hl := left_eq ha h
  rw [digs_length] at hl
  have ht := take_eq h (digs_length (IntKind.u64.wrap n).toNat 8)
  have hlt : (IntKind.u64.wrap n).toNat < 256 ^ 8 := by rw [IntKind.wrap_u64]; have : (256 : Nat) ^ 8 = 18446744073709551616 := by decide
                                                        omega
  unfold oInt
  rw [if_neg (by omega), ht, num_digs_lt hlt, i64_u64 n h1 h2, digs_length]

theorem back_float {b : Nat} (hb : b < 18446744073709551616) (hq : wFloat b = some ms) (ha : a ≤ bs.length) (h : bs.drop a = ms ++ tail) :
    oFloat bs a = .ok (.float .f64 (if nanB b then 9221120237041090560 else b), a + ms.length) := by
  unfold wFloat at hq
  injection hq with hq
  subst hq
  have hl := left_eq ha h
  rw [digs_length] at hl
  have ht := take_eq h (digs_length (if nanB b then 9221120237041090560 else b) 8)
  have h8 : (256 : Nat) ^ 8 = 18446744073709551616 := by decide
  have hlt : (if nanB b = true then 9221120237041090560 else b) < 256 ^ 8 := by rw [h8]; split <;> omega
  unfold oFloat
  rw [if_neg (by omega), ht, num_digs_lt hlt, digs_length, if_neg]
  rintro ⟨h1, h2⟩
  by_cases hn : nanB b = true
  · rw [if_pos hn] at h2; exact h2 rfl
  · rw [if_neg hn] at h1; exact hn h1

theorem back_bool {is : Bool} (hq : wBool is = some ms) (ha : a ≤ bs.length) (h : bs.drop a = ms ++ tail) : oBool bs a = .ok (.bool is, a + ms.length) := by
  unfold wBool at hq
  injection hq with hq
  subst hq
  have hl := left_eq ha h
  rw [digs_length] at hl
  have ht := take_eq h (digs_length (if is = true then 1 else 0) 1)
  have hlt : (if is = true then 1 else 0) < 256 ^ 1 := by cases is <;> simp
  unfold oBool
  rw [if_neg (by omega), ht, num_digs_lt hlt, digs_length]
  cases is <;> simp

theorem back_count {n : Int} (hq : wCount n = some ms) (ha : a ≤ bs.length) (h : bs.drop a = ms ++ tail) : oCount bs a n = .ok (.int .i64 n, a + ms.length) := by
  unfold wCount at hq
  split at hq
  · rename_i hc
    obtain ⟨h1, h2⟩ := hc
    injection hq with hq
    subst hq
    have hl := left_eq ha h
    rw [digs_length] at hl
    have ht := take_eq h (digs_length n.toNat 2)
    have hlt : n.toNat < 256 ^ 2 := by omega
    unfold oCount
    rw [if_neg (by omega), if_neg (by omega), ht, num_digs_lt hlt, if_neg (by omega), digs_length]
    congr 2
    congr 1
    omega
  · cases hq

theorem back_fixed {s : ByteArray} {size : Int} (hq : wFixed s size = some ms) (ha : a ≤ bs.length) (h : bs.drop a = ms ++ tail) : oFixed bs a size = .ok (.string s, a + ms.length) := by
  unfold wFixed at hq
  split at hq
  · rename_i hc
    obtain ⟨h1, h2, h3⟩ := hc
    injection hq with hq
    subst hq
    have hl := left_eq ha h
    rw [bytes_size] at hl
    have hk : size.toNat = s.size := by omega
    have ht := take_eq h (bytes_size s)
    unfold oFixed
    rw [if_neg (by omega), if_neg (by omega), hk, ht, bytes_size]
  · cases hq

theorem back_text {s : ByteArray} (hq : wText s = some ms) (ha : a ≤ bs.length) (h : bs.drop a = ms ++ tail) : oText bs a s.size = .ok (.string s, a + ms.length) := by
  unfold wText at hq
  split at hq
  · rename_i hc
    injection hq with hq
    subst hq
    have hl := left_eq ha h
    rw [List.length_append, digs_length, bytes_size] at hl
    have h' : bs.drop a = digs s.size 2 ++ (s.data.toList ++ tail) := by rw [h, List.append_assoc]
    have ht := take_eq h' (digs_length s.size 2)
    have hlt : s.size < 256 ^ 2 := by omega
    have hd : bs.drop (a + 2) = s.data.toList ++ tail := by
      rw [← List.drop_drop, h', List.drop_left' (digs_length s.size 2)]
    have ht2 := take_eq hd (bytes_size s)
    unfold oText
    rw [if_neg (by omega), if_neg (by omega), ht, num_digs_lt hlt, if_neg (by omega), if_neg (by omega), ht2, List.length_append, digs_length, bytes_size, Nat.add_assoc]
  · cases hq

end
end Go.Proofs.Ytlhgfnpialndaaa

/- Plain facts: what a reader takes a writer puts as the bytes that it was taken from, kind by kind. -/
namespace Go.Proofs.Ytlhgfnpialndaaa
open Go.RowKit

section
variable {bs : List UInt8} {a a' : Nat} {v : Value}

theorem row_len {k : Nat} (h : a + k ≤ bs.length) : ((bs.drop a).take k).length = k := by
  rw [List.length_take, List.length_drop]; omega

theorem form_number {size : Int} (h : oNumber bs a size = .ok (v, a')) :
    ∃ n : Int, v = .int .i64 n ∧ n ≤ 9223372036854775807 ∧ wNumber n size = some ((bs.drop a).take (a' - a)) ∧ a ≤ a' ∧ a' ≤ bs.length := by
  unfold oNumber at h
  split at h
  · cases h
  split at h
  · cases h
  split at h
  · cases h
  · rename_i h1 h2 h3
    injection h with h
    injection h with e1 e2
    subst e1 e2
    have hl : ((bs.drop a).take size.toNat).length = size.toNat := row_len (by omega)
    refine ⟨_, rfl, by omega, ?_, by omega, by omega⟩
    have hlt := num_lt ((bs.drop a).take size.toNat)
    rw [hl] at hlt
    have e256 : ((256 ^ size.toNat : Nat) : Int) = (256 : Int) ^ size.toNat := by rw [Int.natCast_pow]; rfl
    unfold wNumber
    rw [if_pos ⟨by omega, by omega, by omega, by rw [← e256]; exact Int.ofNat_lt.2 hlt⟩, Nat.add_sub_cancel_left, Int.toNat_natCast]
    have := digs_num ((bs.drop a).take size.toNat)
    rw [hl] at this
    rw [this]

theorem form_int (h : oInt bs a = .ok (v, a')) :
    ∃ n : Int, v = .int .i64 n ∧ n ≤ 9223372036854775807 ∧ wInt n = some ((bs.drop a).take (a' - a)) ∧ a ≤ a' ∧ a' ≤ bs.length := by
  unfold oInt at h
  split at h
  · cases h
  · rename_i h1
    injection h with h
    injection h with e1 e2
    subst e1 e2
    have hl : ((bs.drop a).take 8).length = 8 := row_len (by omega)
    have hlt := pow64 ((bs.drop a).take 8) (by omega)
    refine ⟨_, rfl, by simp only [wrap64]; omega, ?_, by omega, by omega⟩
    unfold wInt
    rw [u64_i64 _ hlt, Nat.add_sub_cancel_left]
    have := digs_num ((bs.drop a).take 8)
    rw [hl] at this
    rw [this]

theorem form_float (h : oFloat bs a = .ok (v, a')) :
    ∃ n : Nat, v = .float .f64 n ∧ wFloat n = some ((bs.drop a).take (a' - a)) ∧ a ≤ a' ∧ a' ≤ bs.length := by
  unfold oFloat at h
  split at h
  · cases h
  split at h
  · cases h
  · rename_i h1 h2
    injection h with h
    injection h with e1 e2
    subst e1 e2
    have hl : ((bs.drop a).take 8).length = 8 := row_len (by omega)
    refine ⟨_, rfl, ?_, by omega, by omega⟩
    have e : (if nanB (num ((bs.drop a).take 8)) = true then 9221120237041090560 else num ((bs.drop a).take 8)) = num ((bs.drop a).take 8) := by
      split
      · rename_i hn
        by_cases he : num ((bs.drop a).take 8) = 9221120237041090560
        · exact he.symm
        · exact absurd ⟨hn, he⟩ h2
      · rfl
    unfold wFloat
    rw [e, Nat.add_sub_cancel_left]
    have := digs_num ((bs.drop a).take 8)
    rw [hl] at this
    rw [this]

theorem form_bool (h : oBool bs a = .ok (v, a')) :
    ∃ n : Bool, v = .bool n ∧ wBool n = some ((bs.drop a).take (a' - a)) ∧ a ≤ a' ∧ a' ≤ bs.length := by
  unfold oBool at h
  split at h
  · cases h
  split at h
  · cases h
  · rename_i h1 h2
    injection h with h
    injection h with e1 e2
    subst e1 e2
    have hl : ((bs.drop a).take 1).length = 1 := row_len (by omega)
    refine ⟨_, rfl, ?_, by omega, by omega⟩
    have e : (if (num ((bs.drop a).take 1) == 1) = true then 1 else 0) = num ((bs.drop a).take 1) := by
      split
      · rename_i hn; exact (beq_iff_eq.1 hn).symm
      · rename_i hn
        have : ¬ num ((bs.drop a).take 1) = 1 := fun t => hn (beq_iff_eq.2 t)
        omega
    unfold wBool
    rw [e, Nat.add_sub_cancel_left]
    have := digs_num ((bs.drop a).take 1)
    rw [hl] at this
    rw [this]

theorem form_count {most : Int} (h : oCount bs a most = .ok (v, a')) :
    ∃ n : Int, v = .int .i64 n ∧ n ≤ 9223372036854775807 ∧ wCount n = some ((bs.drop a).take (a' - a)) ∧ a ≤ a' ∧ a' ≤ bs.length := by
  unfold oCount at h
  split at h
  · cases h
  split at h
  · cases h
  split at h
  · cases h
  · rename_i h1 h2 h3
    injection h with h
    injection h with e1 e2
    subst e1 e2
    have hl : ((bs.drop a).take 2).length = 2 := row_len (by omega)
    have hlt := num_lt ((bs.drop a).take 2)
    rw [hl] at hlt
    refine ⟨_, rfl, by omega, ?_, by omega, by omega⟩
    unfold wCount
    rw [if_pos ⟨by omega, by omega⟩, Nat.add_sub_cancel_left, Int.toNat_natCast]
    have := digs_num ((bs.drop a).take 2)
    rw [hl] at this
    rw [this]

theorem bytes_mk (l : List UInt8) : (⟨l.toArray⟩ : ByteArray).size = l.length := rfl

theorem form_fixed {size : Int} (h : oFixed bs a size = .ok (v, a')) :
    ∃ t : ByteArray, v = .string t ∧ wFixed t size = some ((bs.drop a).take (a' - a)) ∧ a ≤ a' ∧ a' ≤ bs.length ∧ a + t.size ≤ bs.length := by
  unfold oFixed at h
  split at h
  · cases h
  split at h
  · cases h
  · rename_i h1 h2
    injection h with h
    injection h with e1 e2
    subst e1 e2
    have hl : ((bs.drop a).take size.toNat).length = size.toNat := row_len (by omega)
    have hsz := bytes_mk ((bs.drop a).take size.toNat)
    rw [hl] at hsz
    refine ⟨_, rfl, ?_, by omega, by omega, by omega⟩
    unfold wFixed
    rw [if_pos ⟨by omega, by omega, by omega⟩, Nat.add_sub_cancel_left]

theorem form_text {most : Int} (h : oText bs a most = .ok (v, a')) :
    ∃ t : ByteArray, v = .string t ∧ wText t = some ((bs.drop a).take (a' - a)) ∧ a ≤ a' ∧ a' ≤ bs.length ∧ a + 2 + t.size ≤ bs.length := by
  unfold oText at h
  split at h
  · cases h
  split at h
  · cases h
  split at h
  · cases h
  split at h
  · cases h
  · rename_i h1 h2 h3 h4
    injection h with h
    injection h with e1 e2
    subst e1 e2
    have hl : ((bs.drop a).take 2).length = 2 := row_len (by omega)
    have hlt := num_lt ((bs.drop a).take 2)
    rw [hl] at hlt
    generalize hN : num ((bs.drop a).take 2) = N at *
    have hl2 : ((bs.drop (a + 2)).take N).length = N := row_len (by omega)
    have hsz := bytes_mk ((bs.drop (a + 2)).take N)
    rw [hl2] at hsz
    refine ⟨_, rfl, ?_, by omega, by omega, by omega⟩
    unfold wText
    rw [if_pos (by omega), hsz]
    have := digs_num ((bs.drop a).take 2)
    rw [hl, hN] at this
    rw [this, show a + 2 + N - a = 2 + N by omega, List.take_add, List.drop_drop]

end
end Go.Proofs.Ytlhgfnpialndaaa

/- The law's own function taken, the reader's End, the document's Bits. -/
namespace Go.Proofs.Ytlhgfnpialndaaa
open Go.RowKit

theorem stepR_bad {s : RS} (hc : s.c ≠ 0) (z : Value) (o : Except Int (Value × Nat)) : stepR s z o = (z, s) := by simp only [stepR, hc, if_false]

def bitsN (b : Nat) : Nat := if nanB b then 9221120237041090560 else b

theorem bitsN_idem (b : Nat) : bitsN (bitsN b) = bitsN b := by
  unfold bitsN
  by_cases h : nanB b = true
  · rw [if_pos h]; split <;> rfl
  · rw [if_neg h, if_neg h]

theorem RAt.setOther {w : World} {p g : Nat} {bs : List UInt8} {a l : Nat} {c f : Int} (h : RAt w p g bs a l c f) {b o : Nat} (hp : b ≠ p) (hg : 0 < bs.length → b ≠ g) (v : Value) : RAt (w.setCell ⟨b, o, none⟩ v) p g bs a l c f := by
  have e : ∀ b' i, b ≠ b' → (w.setCell ⟨b, o, none⟩ v).cell? ⟨b', i, none⟩ = w.cell? ⟨b', i, none⟩ := fun b' i hi => World.cell?_setCell_other _ _ _ _ (by intro h; injection h with h1 h2; exact hi h1)
  refine ⟨?_, (e _ _ hp).trans h.c1, (e _ _ hp).trans h.c2, (e _ _ hp).trans h.c3, (e _ _ hp).trans h.c4, fun i hi => by rw [World.frozen?_setCell]; exact h.fz i hi, fun j hj => (e _ _ (hg (by omega))).trans (h.row j hj), h.ne, h.le, h.small⟩
  obtain ⟨ao, cap, h0, r⟩ := h.c0
  exact ⟨ao, cap, (e _ _ hp).trans h0, r⟩

theorem RAt.rowlt {w : World} {p g : Nat} {bs : List UInt8} {a l : Nat} {c f : Int} (h : RAt w p g bs a l c f) (h0 : 0 < bs.length) : g < w.heap.size := World.block_lt_of_cell? _ _ (h.row 0 h0)

/-- How a piece that was put comes out. -/
def Taken (p g : Nat) (bs : List UInt8) (s : RS) (n : Nat) (w : World) (e : Ending) (w' : World) : Prop :=
  e = .returned (.bool true) ∧ (∃ l', (RS.mk (s.a + n) l' 0 s.f).At w' p g bs) ∧ Fr (· = p) w w'

theorem bytes_other {q : Pc} (hk : q.kind < 0 ∨ 6 < q.kind) : q.bytes = some [] := by
  unfold Pc.bytes
  rw [if_neg (by omega), if_neg (by omega), if_neg (by omega), if_neg (by omega), if_neg (by omega), if_neg (by omega), if_neg (by omega)]

end Go.Proofs.Ytlhgfnpialndaaa

