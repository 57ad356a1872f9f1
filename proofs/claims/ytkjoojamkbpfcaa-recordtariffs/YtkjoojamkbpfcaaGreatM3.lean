/- Plain facts: what a reader takes a writer puts as the bytes that it was taken from, kind by kind. -/
import Derived.Test.YtkjoojamkbpfcaaGreatM2
namespace Go.Proofs.YtkjoojamkbpfcaaGreat
open Go.RowKit

section
variable {bs : List UInt8} {a a' : Nat} {v : Value}

theorem row_len {k : Nat} (h : a + k ≤ bs.length) : ((bs.drop a).take k).length = k := by
  rw [List.length_take, List.length_drop]; omega

theorem form_number {size : Int} (h : oNumber bs a size = .ok (v, a')) :
    ∃ n : Int, v = .int .i64 n ∧ n ≤ 9223372036854775807 ∧ wNumber n size = some ((bs.drop a).take (a' - a)) ∧ a ≤ a' ∧ a' ≤ bs.length := by
  unfold oNumber at h
  split at h
  · cases h
  split at h
  · cases h
  split at h
  · cases h
  · rename_i h1 h2 h3
    injection h with h
    injection h with e1 e2
    subst e1 e2
    have hl : ((bs.drop a).take size.toNat).length = size.toNat := row_len (by omega)
    refine ⟨_, rfl, by omega, ?_, by omega, by omega⟩
    have hlt := num_lt ((bs.drop a).take size.toNat)
    rw [hl] at hlt
    have e256 : ((256 ^ size.toNat : Nat) : Int) = (256 : Int) ^ size.toNat := by rw [Int.natCast_pow]; rfl
    unfold wNumber
    rw [if_pos ⟨by omega, by omega, by omega, by rw [← e256]; exact Int.ofNat_lt.2 hlt⟩, Nat.add_sub_cancel_left, Int.toNat_natCast]
    have := digs_num ((bs.drop a).take size.toNat)
    rw [hl] at this
    rw [this]

theorem form_int (h : oInt bs a = .ok (v, a')) :
    ∃ n : Int, v = .int .i64 n ∧ n ≤ 9223372036854775807 ∧ wInt n = some ((bs.drop a).take (a' - a)) ∧ a ≤ a' ∧ a' ≤ bs.length := by
  unfold oInt at h
  split at h
  · cases h
  · rename_i h1
    injection h with h
    injection h with e1 e2
    subst e1 e2
    have hl : ((bs.drop a).take 8).length = 8 := row_len (by omega)
    have hlt := pow64 ((bs.drop a).take 8) (by omega)
    refine ⟨_, rfl, by simp only [wrap64]; omega, ?_, by omega, by omega⟩
    unfold wInt
    rw [u64_i64 _ hlt, Nat.add_sub_cancel_left]
    have := digs_num ((bs.drop a).take 8)
    rw [hl] at this
    rw [this]

theorem form_float (h : oFloat bs a = .ok (v, a')) :
    ∃ n : Nat, v = .float .f64 n ∧ wFloat n = some ((bs.drop a).take (a' - a)) ∧ a ≤ a' ∧ a' ≤ bs.length := by
  unfold oFloat at h
  split at h
  · cases h
  split at h
  · cases h
  · rename_i h1 h2
    injection h with h
    injection h with e1 e2
    subst e1 e2
    have hl : ((bs.drop a).take 8).length = 8 := row_len (by omega)
    refine ⟨_, rfl, ?_, by omega, by omega⟩
    have e : (if nanB (num ((bs.drop a).take 8)) = true then 9221120237041090560 else num ((bs.drop a).take 8)) = num ((bs.drop a).take 8) := by
      split
      · rename_i hn
        by_cases he : num ((bs.drop a).take 8) = 9221120237041090560
        · exact he.symm
        · exact absurd ⟨hn, he⟩ h2
      · rfl
    unfold wFloat
    rw [e, Nat.add_sub_cancel_left]
    have := digs_num ((bs.drop a).take 8)
    rw [hl] at this
    rw [this]

theorem form_bool (h : oBool bs a = .ok (v, a')) :
    ∃ n : Bool, v = .bool n ∧ wBool n = some ((bs.drop a).take (a' - a)) ∧ a ≤ a' ∧ a' ≤ bs.length := by
  unfold oBool at h
  split at h
  · cases h
  split at h
  · cases h
  · rename_i h1 h2
    injection h with h
    injection h with e1 e2
    subst e1 e2
    have hl : ((bs.drop a).take 1).length = 1 := row_len (by omega)
    refine ⟨_, rfl, ?_, by omega, by omega⟩
    have e : (if (num ((bs.drop a).take 1) == 1) = true then 1 else 0) = num ((bs.drop a).take 1) := by
      split
      · rename_i hn; exact (beq_iff_eq.1 hn).symm
      · rename_i hn
        have : ¬ num ((bs.drop a).take 1) = 1 := fun t => hn (beq_iff_eq.2 t)
        omega
    unfold wBool
    rw [e, Nat.add_sub_cancel_left]
    have := digs_num ((bs.drop a).take 1)
    rw [hl] at this
    rw [this]

theorem form_count {most : Int} (h : oCount bs a most = .ok (v, a')) :
    ∃ n : Int, v = .int .i64 n ∧ n ≤ 9223372036854775807 ∧ wCount n = some ((bs.drop a).take (a' - a)) ∧ a ≤ a' ∧ a' ≤ bs.length := by
  unfold oCount at h
  split at h
  · cases h
  split at h
  · cases h
  split at h
  · cases h
  · rename_i h1 h2 h3
    injection h with h
    injection h with e1 e2
    subst e1 e2
    have hl : ((bs.drop a).take 2).length = 2 := row_len (by omega)
    have hlt := num_lt ((bs.drop a).take 2)
    rw [hl] at hlt
    refine ⟨_, rfl, by omega, ?_, by omega, by omega⟩
    unfold wCount
    rw [if_pos ⟨by omega, by omega⟩, Nat.add_sub_cancel_left, Int.toNat_natCast]
    have := digs_num ((bs.drop a).take 2)
    rw [hl] at this
    rw [this]

theorem bytes_mk (l : List UInt8) : (⟨l.toArray⟩ : ByteArray).size = l.length := rfl

theorem form_fixed {size : Int} (h : oFixed bs a size = .ok (v, a')) :
    ∃ t : ByteArray, v = .string t ∧ wFixed t size = some ((bs.drop a).take (a' - a)) ∧ a ≤ a' ∧ a' ≤ bs.length ∧ a + t.size ≤ bs.length := by
  unfold oFixed at h
  split at h
  · cases h
  split at h
  · cases h
  · rename_i h1 h2
    injection h with h
    injection h with e1 e2
    subst e1 e2
    have hl : ((bs.drop a).take size.toNat).length = size.toNat := row_len (by omega)
    have hsz := bytes_mk ((bs.drop a).take size.toNat)
    rw [hl] at hsz
    refine ⟨_, rfl, ?_, by omega, by omega, by omega⟩
    unfold wFixed
    rw [if_pos ⟨by omega, by omega, by omega⟩, Nat.add_sub_cancel_left]

theorem form_text {most : Int} (h : oText bs a most = .ok (v, a')) :
    ∃ t : ByteArray, v = .string t ∧ wText t = some ((bs.drop a).take (a' - a)) ∧ a ≤ a' ∧ a' ≤ bs.length ∧ a + 2 + t.size ≤ bs.length := by
  unfold oText at h
  split at h
  · cases h
  split at h
  · cases h
  split at h
  · cases h
  split at h
  · cases h
  · rename_i h1 h2 h3 h4
    injection h with h
    injection h with e1 e2
    subst e1 e2
    have hl : ((bs.drop a).take 2).length = 2 := row_len (by omega)
    have hlt := num_lt ((bs.drop a).take 2)
    rw [hl] at hlt
    generalize hN : num ((bs.drop a).take 2) = N at *
    have hl2 : ((bs.drop (a + 2)).take N).length = N := row_len (by omega)
    have hsz := bytes_mk ((bs.drop (a + 2)).take N)
    rw [hl2] at hsz
    refine ⟨_, rfl, ?_, by omega, by omega, by omega⟩
    unfold wText
    rw [if_pos (by omega), hsz]
    have := digs_num ((bs.drop a).take 2)
    rw [hl, hN] at this
    rw [this, show a + 2 + N - a = 2 + N by omega, List.take_add, List.drop_drop]

end
end Go.Proofs.YtkjoojamkbpfcaaGreat
