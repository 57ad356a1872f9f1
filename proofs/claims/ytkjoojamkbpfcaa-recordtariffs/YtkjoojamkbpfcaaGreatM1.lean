/- Plain facts on the bytes of pieces: those of two lists one behind the other, how many they are. -/
import Derived.Test.YtkjoojamkbpfcaaGreatC2
namespace Go.Proofs.YtkjoojamkbpfcaaGreat
open Go.RowKit

theorem stepW_assoc (a b c : Option (List UInt8)) : stepW (stepW a b) c = stepW a (stepW b c) := by
  cases a <;> cases b <;> cases c <;> simp [stepW]

/-- The bytes of pieces. -/
def fold (l : List Pc) : Option (List UInt8) := l.foldl putW (some [])

theorem fold_nil : fold [] = some [] := rfl
theorem fold_snoc (l : List Pc) (q : Pc) : fold (l ++ [q]) = putW (fold l) q := by simp [fold]

theorem foldl_step (l : List Pc) (s : Option (List UInt8)) : l.foldl putW s = stepW s (fold l) := by
  unfold fold
  induction l generalizing s with
  | nil => simp [stepW_nil]
  | cons q l ih =>
    rw [List.foldl_cons, List.foldl_cons, ih, ih (putW (some []) q)]
    have e : putW (some []) q = q.bytes := by unfold putW; cases q.bytes <;> simp [stepW]
    rw [e, ← stepW_assoc]
    rfl

theorem fold_append (a b : List Pc) : fold (a ++ b) = stepW (fold a) (fold b) := by
  rw [← foldl_step]
  simp [fold]

theorem digs_le (n k : Nat) : (digs n k).length = k := digs_length n k

theorem bytes_le {q : Pc} {ms : List UInt8} (h : q.bytes = some ms) : ms.length ≤ 65537 := by
  have size_eq : ∀ s : ByteArray, s.data.toList.length = s.size := fun s => by rw [Array.length_toList]; rfl
  unfold Pc.bytes at h
  split at h
  · unfold wNumber at h
    split at h
    · injection h with h; subst h; rw [digs_length]; omega
    · cases h
  split at h
  · unfold wInt at h
    injection h with h; subst h; rw [digs_length]; omega
  split at h
  · unfold wFloat at h
    injection h with h; subst h; rw [digs_length]; omega
  split at h
  · unfold wBool at h
    injection h with h; subst h; rw [digs_length]; omega
  split at h
  · unfold wText at h
    split at h
    · injection h with h; subst h; rw [List.length_append, digs_length, size_eq]; omega
    · cases h
  split at h
  · unfold wFixed at h
    split at h
    · injection h with h; subst h; rw [size_eq]; omega
    · cases h
  split at h
  · unfold wCount at h
    split at h
    · injection h with h; subst h; rw [digs_length]; omega
    · cases h
  · injection h with h; subst h; simp

theorem putW_le {s : Option (List UInt8)} {q : Pc} {N : Nat} (hs : ∀ bs, s = some bs → bs.length ≤ N) : ∀ bs, putW s q = some bs → bs.length ≤ N + 65537 := by
  intro bs h
  unfold putW at h
  cases s with
  | none => rw [stepW_none] at h; cases h
  | some b =>
    cases hq : q.bytes with
    | none => rw [hq] at h; cases h
    | some ms =>
      rw [hq] at h
      simp only [stepW] at h
      injection h with h
      subst h
      rw [List.length_append]
      have := hs b rfl
      have := bytes_le hq
      omega

theorem fold_le (l : List Pc) : ∀ bs, fold l = some bs → bs.length ≤ 65537 * l.length := by
  suffices h : ∀ (l : List Pc) (s : Option (List UInt8)) (N : Nat), (∀ bs, s = some bs → bs.length ≤ N) → ∀ bs, l.foldl putW s = some bs → bs.length ≤ N + 65537 * l.length by
    intro bs hb
    have := h l (some []) 0 (fun bs e => by injection e with e; subst e; simp) bs hb
    omega
  intro l
  induction l with
  | nil => intro s N hs bs h; simpa using hs bs h
  | cons q l ih =>
    intro s N hs bs h
    have := ih (putW s q) (N + 65537) (putW_le hs) bs h
    rw [List.length_cons]
    omega

/-- Which of the first pieces the law's round i puts. -/
def part (i : Int) (k : Nat) (l : List Pc) : List Pc := if i = 0 then l.take k else if i = 1 then l.drop k else l

theorem part_length (i : Int) (k : Nat) (l : List Pc) : (part i k l).length ≤ l.length := by
  unfold part
  split
  · rw [List.length_take]; omega
  · split
    · rw [List.length_drop]; omega
    · exact Nat.le_refl _

theorem take_next (ps : List Pc) (n : Nat) (h : n < ps.length) : ps.take (n + 1) = ps.take n ++ [ps[n]] := List.take_succ_eq_append_getElem h

theorem part0_lt (ps : List Pc) (k n : Nat) (h : n < ps.length) (hk : n < k) : part 0 k (ps.take (n + 1)) = part 0 k (ps.take n) ++ [ps[n]] := by
  simp only [part, if_true]
  rw [List.take_take, List.take_take, Nat.min_eq_right (by omega), Nat.min_eq_right (by omega), take_next ps n h]
theorem part0_ge (ps : List Pc) (k n : Nat) (_h : n < ps.length) (hk : ¬ n < k) : part 0 k (ps.take (n + 1)) = part 0 k (ps.take n) := by
  simp only [part, if_true]
  rw [List.take_take, List.take_take, Nat.min_eq_left (by omega), Nat.min_eq_left (by omega)]
theorem part1_lt (ps : List Pc) (k n : Nat) (_h : n < ps.length) (hk : n < k) : part 1 k (ps.take (n + 1)) = part 1 k (ps.take n) := by
  have e : ∀ m, m ≤ k → (ps.take m).drop k = [] := fun m hm => List.drop_of_length_le (by rw [List.length_take]; omega)
  show (ps.take (n + 1)).drop k = (ps.take n).drop k
  rw [e _ (by omega), e _ (by omega)]
theorem part1_ge (ps : List Pc) (k n : Nat) (h : n < ps.length) (hk : ¬ n < k) : part 1 k (ps.take (n + 1)) = part 1 k (ps.take n) ++ [ps[n]] := by
  show (ps.take (n + 1)).drop k = (ps.take n).drop k ++ [ps[n]]
  rw [take_next ps n h, List.drop_append_of_le_length (by rw [List.length_take]; omega)]
theorem part2 (ps : List Pc) (k n : Nat) (h : n < ps.length) : part 2 k (ps.take (n + 1)) = part 2 k (ps.take n) ++ [ps[n]] := take_next ps n h

theorem parts_join (ps : List Pc) (k : Nat) : fold (part 2 k ps) = stepW (fold (part 0 k ps)) (fold (part 1 k ps)) := by
  rw [← fold_append]
  show fold ps = fold (ps.take k ++ ps.drop k)
  rw [List.take_append_drop]

end Go.Proofs.YtkjoojamkbpfcaaGreat
