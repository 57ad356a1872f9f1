/- The document's writer: contracts of its calls. Each leaves the writer as the program's own does ('stepW'). -/
import Derived.Test.YtkjoojamkbpfcaaH1
import Derived.Laws.IdiomStrings
namespace Go.Proofs.Ytkjoojamkbpfcaa
open Go.RowKit

section
variable {w : World} {p g : Nat} {s : Option (List UInt8)}

theorem Lies.nil (w : World) : Lies w (.slice none 0 0) [] := ⟨none, 0, rfl, fun h => absurd h (by simp)⟩

theorem yNumber (h : YSt w p g s) (hfit : ∀ bs, s = some bs → bs.length + 8 ≤ 140737488355328) (n size : Int) (hn : n ≤ 9223372036854775807) :
    Calls Try.prog 40 #[.pointer (some ⟨p, 0, none⟩), .int .i64 n, .int .i64 size] w fun e w' => e = .returned (.tuple #[]) ∧ YPuts p g (stepW s (wNumber n size)) w w' := by
  have H := hide h
  clear h
  by_cases hb : size < 1 ∨ 8 < size ∨ n < 0
  · have e0 : stepW s (wNumber n size) = none := by
      rw [show wNumber n size = none by unfold wNumber; rw [if_neg (by omega)]]
      cases s <;> rfl
    rw [e0]
    by_cases h1 : size < 1
    · have d1 : decide (size < 1) = true := by simp; omega
      go_enter Try.func40, Try.ntmps40
      go_wp2_with fail
      refine (yput_no (unhide H) _).mono ?_
      rintro e w1 ⟨rfl, hP⟩
      have HP := hide hP
      clear hP
      go_wp2
      exact bodyPost_ret (v := .tuple #[]) (results_none rfl _ _ _) rfl ⟨rfl, unhide HP⟩
    · have d1 : decide (size < 1) = false := by simp; omega
      by_cases h2 : 8 < size
      · have d2 : decide (8 < size) = true := by simp; omega
        go_enter Try.func40, Try.ntmps40
        go_wp2_with fail
        refine (yput_no (unhide H) _).mono ?_
        rintro e w1 ⟨rfl, hP⟩
        have HP := hide hP
        clear hP
        go_wp2
        exact bodyPost_ret (v := .tuple #[]) (results_none rfl _ _ _) rfl ⟨rfl, unhide HP⟩
      · have d2 : decide (8 < size) = false := by simp; omega
        have d3 : decide (n < 0) = true := by simp; omega
        go_enter Try.func40, Try.ntmps40
        go_wp2_with fail
        refine (yput_no (unhide H) _).mono ?_
        rintro e w1 ⟨rfl, hP⟩
        have HP := hide hP
        clear hP
        go_wp2
        exact bodyPost_ret (v := .tuple #[]) (results_none rfl _ _ _) rfl ⟨rfl, unhide HP⟩
  obtain ⟨k, rfl⟩ : ∃ k : Nat, size = k := ⟨size.toNat, by omega⟩
  obtain ⟨m, rfl⟩ : ∃ m : Nat, n = m := ⟨n.toNat, by omega⟩
  have d1 : decide ((k : Int) < 1) = false := by simp; omega
  have d2 : decide (8 < (k : Int)) = false := by simp; omega
  have d3 : decide ((m : Int) < 0) = false := by simp
  have e1 : wNumber m k = if (decide (m < 256 ^ k)) = true then some (digs m k) else none := by
    unfold wNumber
    have e2 : ((m : Int) < 256 ^ (k : Int).toNat) ↔ m < 256 ^ k := by
      rw [Int.toNat_natCast]
      rw [show ((256 : Int) ^ k) = ((256 ^ k : Nat) : Int) by simp]
      exact Int.ofNat_lt
    by_cases h : m < 256 ^ k
    · rw [if_pos ⟨by omega, by omega, by omega, e2.2 h⟩, if_pos (by simpa using h)]
      simp
    · rw [if_neg (fun t => h (e2.1 t.2.2.2)), if_neg (by simpa using h)]
  rw [e1]
  have hm : m ≤ 9223372036854775807 := by omega
  have hk : k ≤ 8 := by omega
  have hwm : IntKind.u64.wrap (m : Int) = m := wrap_u64_small m (by omega)
  generalize hok : decide (m < 256 ^ k) = ok
  have HK := hide hok
  obtain ⟨st, Hst⟩ : ∃ st, Hid (stepW s (if ok = true then some (digs m k) else none) = st) := ⟨_, rfl⟩
  rw [unhide Hst]
  clear hok e1 hb
  go_enter Try.func40, Try.ntmps40
  go_wp2_with fail
  refine (yfits m k hm hk _).mono ?_
  rw [unhide HK]
  rintro e w1 ⟨rfl, rfl⟩
  go_wp2_with fail
  refine (ydigits m k hk _).mono ?_
  rintro e w1 ⟨v, gv, rfl, hrow, hF, hgv⟩
  have HD := hide (And.intro hrow hF)
  clear hrow hF hgv
  go_wp2_with fail
  refine (yput_any ((unhide H).frame (unhide HD).2 (fun t => t) (fun t => t)) ok v (digs m k) (unhide HD).1.lies (fun _ bs hbs => by have := hfit bs hbs; rw [digs_length]; omega)).mono ?_
  rw [unhide Hst]
  rintro e w2 ⟨rfl, hP⟩
  have HP := hide (YPuts.later (unhide HD).2 hP)
  clear hP
  go_wp2
  go_end0
  exact ⟨rfl, unhide HP⟩

theorem yInt (h : YSt w p g s) (hfit : ∀ bs, s = some bs → bs.length + 8 ≤ 140737488355328) (n : Int) :
    Calls Try.prog 67 #[.pointer (some ⟨p, 0, none⟩), .int .i64 n] w fun e w' => e = .returned (.tuple #[]) ∧ YPuts p g (stepW s (wInt n)) w w' := by
  have H := hide h
  clear h
  obtain ⟨N, hN⟩ : ∃ N : Nat, IntKind.u64.wrap n = N := ⟨(IntKind.u64.wrap n).toNat, by rw [IntKind.wrap_u64]; omega⟩
  rw [show wInt n = some (digs N 8) by unfold wInt; rw [hN, Int.toNat_natCast]]
  go_enter Try.func67, Try.ntmps67
  go_wp2_with fail
  refine (ydigits N 8 (by omega) _).mono ?_
  rintro e w1 ⟨v, gv, rfl, hrow, hF, hgv⟩
  have HD := hide (And.intro hrow hF)
  clear hrow hF hgv
  go_wp2_with fail
  refine (yput_any ((unhide H).frame (unhide HD).2 (fun t => t) (fun t => t)) true v (digs N 8) (unhide HD).1.lies (fun _ bs hbs => by have := hfit bs hbs; rw [digs_length]; omega)).mono ?_
  rintro e w2 ⟨rfl, hP⟩
  have HP := hide (YPuts.later (unhide HD).2 hP)
  clear hP
  go_wp2
  go_end0
  exact ⟨rfl, unhide HP⟩

theorem yBool (h : YSt w p g s) (hfit : ∀ bs, s = some bs → bs.length + 8 ≤ 140737488355328) (is : Bool) :
    Calls Try.prog 68 #[.pointer (some ⟨p, 0, none⟩), .bool is] w fun e w' => e = .returned (.tuple #[]) ∧ YPuts p g (stepW s (wBool is)) w w' := by
  have H := hide h
  have hlt := h.lt
  clear h
  cases is with
  | true =>
    rw [show wBool true = some [1] by decide +kernel]
    have HL := hide (show Lies (w.alloc (.cells #[.int .u8 1] 5)) (.slice (some ⟨w.heap.size, 0, none⟩) 1 1) [1] from ⟨_, 1, rfl, fun _ => ⟨_, 0, rfl, fun j hj => by obtain rfl : j = 0 := by simpa using hj
                                                                                                                                                                      simp⟩⟩)
    go_enter Try.func68, Try.ntmps68
    go_wp2_with fail
    refine (yput_any ((unhide H).alloc _) true _ [1] (unhide HL) (fun _ bs hbs => by have := hfit bs hbs; simp; omega)).mono ?_
    rintro e w2 ⟨rfl, hP⟩
    have HP := hide (YPuts.later ((Fr.refl _ w).alloc _) hP)
    clear hP
    go_wp2
    go_end0
    exact ⟨rfl, unhide HP⟩
  | false =>
    rw [show wBool false = some [0] by decide +kernel]
    have HL := hide (show Lies (w.alloc (.cells #[.int .u8 0] 5)) (.slice (some ⟨w.heap.size, 0, none⟩) 1 1) [0] from ⟨_, 1, rfl, fun _ => ⟨_, 0, rfl, fun j hj => by obtain rfl : j = 0 := by simpa using hj
                                                                                                                                                                      simp⟩⟩)
    go_enter Try.func68, Try.ntmps68
    go_wp2_with fail
    refine (yput_any ((unhide H).alloc _) true _ [0] (unhide HL) (fun _ bs hbs => by have := hfit bs hbs; simp; omega)).mono ?_
    rintro e w2 ⟨rfl, hP⟩
    have HP := hide (YPuts.later ((Fr.refl _ w).alloc _) hP)
    clear hP
    go_wp2
    go_end0
    exact ⟨rfl, unhide HP⟩

theorem yCount (h : YSt w p g s) (hfit : ∀ bs, s = some bs → bs.length + 8 ≤ 140737488355328) (n : Int) (hn : n ≤ 9223372036854775807) :
    Calls Try.prog 79 #[.pointer (some ⟨p, 0, none⟩), .int .i64 n] w fun e w' => e = .returned (.tuple #[]) ∧ YPuts p g (stepW s (wCount n)) w w' := by
  have HC := hide (yNumber h hfit n 2 hn)
  have e : wCount n = wNumber n 2 := by
    unfold wCount wNumber
    by_cases h : 0 ≤ n ∧ n ≤ 65535
    · rw [if_pos h, if_pos ⟨by omega, by omega, h.1, by simp; omega⟩]; rfl
    · rw [if_neg h, if_neg (fun t => h ⟨t.2.2.1, by have := t.2.2.2; simp at this; omega⟩)]
  rw [e]
  clear h e
  go_enter Try.func79, Try.ntmps79
  go_wp2_with fail
  refine (unhide HC).mono ?_
  rintro e w2 ⟨rfl, hP⟩
  have HP := hide hP
  clear hP
  go_wp2
  go_end0
  exact ⟨rfl, unhide HP⟩

end
end Go.Proofs.Ytkjoojamkbpfcaa
