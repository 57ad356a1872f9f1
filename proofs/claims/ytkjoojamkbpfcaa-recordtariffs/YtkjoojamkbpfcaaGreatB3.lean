/- Contracts of what the writer's calls hand to put, one a kind of piece. -/
import Derived.Test.YtkjoojamkbpfcaaGreatB2
namespace Go.Proofs.YtkjoojamkbpfcaaGreat
open Go.RowKit

/-- How a piece comes out: its bytes are put; or it is given up, and nothing has turned. -/
def Put (p g : Nat) (bs : List UInt8) (w : World) (o : Option (List UInt8)) (e : Ending) (w' : World) : Prop :=
  match o with
  | some ms => e = .returned (.tuple #[]) ∧ Puts p g (bs ++ ms) w w'
  | none => e = gave 1 ∧ w = w'

def wNumber (n size : Int) : Option (List UInt8) := if 1 ≤ size ∧ size ≤ 8 ∧ 0 ≤ n ∧ n < 256 ^ size.toNat then some (digs n.toNat size.toNat) else none
def wInt (n : Int) : Option (List UInt8) := some (digs (IntKind.u64.wrap n).toNat 8)
def wFloat (b : Nat) : Option (List UInt8) := some (digs (if nanB b then 9221120237041090560 else b) 8)
def wBool (is : Bool) : Option (List UInt8) := some (digs (if is then 1 else 0) 1)
def wText (s : ByteArray) : Option (List UInt8) := if s.size ≤ 65535 then some (digs s.size 2 ++ s.data.toList) else none
def wFixed (s : ByteArray) (size : Int) : Option (List UInt8) := if 0 ≤ size ∧ size ≤ 65535 ∧ (s.size : Int) = size then some s.data.toList else none
def wCount (n : Int) : Option (List UInt8) := if 0 ≤ n ∧ n ≤ 65535 then some (digs n.toNat 2) else none

section
variable {w : World} {p g : Nat} {bs : List UInt8}

theorem float_put (h : WAt w p g bs) (hfit : bs.length + 8 ≤ 140737488355328) (b : Nat) (sb rb : Nat) (hs : w.cell? ⟨sb, 0, none⟩ = some (.float .f64 b)) (hr : w.cell? ⟨rb, 0, none⟩ = some (.pointer (some ⟨p, 0, none⟩))) :
    Calls Tryz.prog 113 #[.pointer (some ⟨sb, 0, none⟩), .pointer (some ⟨rb, 0, none⟩)] w (Put p g bs w (wFloat b)) := by
  have H := hide h
  have htb := tobits
  clear h
  by_cases hn : nanB b = true
  · rw [show wFloat b = some (digs 9221120237041090560 8) by simp only [wFloat, hn, if_true]]
    go_enter Tryz.func113, Tryz.ntmps113
    go_wp2_with fail
    refine (isnan_any b _).mono ?_
    rintro e w2 ⟨rfl, rfl⟩
    go_wp2_with fail
    refine (wdigits_any (unhide H) 9221120237041090560 8 (by omega) hfit).mono ?_
    rintro e w1 ⟨rfl, hP⟩
    have HP := hide hP
    clear hP
    go_wp2
    go_end0
    exact ⟨rfl, unhide HP⟩
  · have hn' : nanB b = false := by simpa using hn
    rw [show wFloat b = some (digs b 8) by simp only [wFloat, hn', if_false, Bool.false_eq_true]]
    clear hn
    go_enter Tryz.func113, Tryz.ntmps113
    go_wp2_with fail
    refine (isnan_any b _).mono ?_
    rintro e w2 ⟨rfl, rfl⟩
    go_wp2_with fail
    refine (wdigits_any (unhide H) b 8 (by omega) hfit).mono ?_
    rintro e w1 ⟨rfl, hP⟩
    have HP := hide hP
    clear hP
    go_wp2
    go_end0
    exact ⟨rfl, unhide HP⟩

theorem count_put (h : WAt w p g bs) (hfit : bs.length + 2 ≤ 140737488355328) (n : Int) (sb rb : Nat) (hs : w.cell? ⟨sb, 0, none⟩ = some (.int .i64 n)) (hr : w.cell? ⟨rb, 0, none⟩ = some (.pointer (some ⟨p, 0, none⟩))) :
    Calls Tryz.prog 107 #[.pointer (some ⟨sb, 0, none⟩), .pointer (some ⟨rb, 0, none⟩)] w (Put p g bs w (wCount n)) := by
  have H := hide h
  clear h
  by_cases h1 : 0 ≤ n
  · have hd1 : decide (0 ≤ n) = true := by simp; omega
    by_cases h2 : n ≤ 65535
    · have hd2 : decide (n ≤ 65535) = true := by simp; omega
      obtain ⟨N, rfl⟩ : ∃ N : Nat, n = N := ⟨n.toNat, by omega⟩
      rw [show wCount N = some (digs N 2) by simp [wCount]; omega]
      go_enter Tryz.func107, Tryz.ntmps107
      go_wp2_with fail
      refine (must_ok 1 _).mono ?_
      rintro e w1 ⟨rfl, rfl⟩
      go_wp2_with fail
      refine (wdigits_any (unhide H) N 2 (by omega) hfit).mono ?_
      rintro e w1 ⟨rfl, hP⟩
      have HP := hide hP
      clear hP
      go_wp2
      go_end0
      exact ⟨rfl, unhide HP⟩
    · have hd2 : decide (n ≤ 65535) = false := by simp; omega
      rw [show wCount n = none by simp [wCount]; omega]
      go_enter Tryz.func107, Tryz.ntmps107
      go_wp2_with fail
      refine (must_no 1 _).mono ?_
      rintro e w1 ⟨rfl, rfl⟩
      go_wp2
      exact ⟨rfl, rfl, rfl⟩
  · have hd1 : decide (0 ≤ n) = false := by simp; omega
    rw [show wCount n = none by simp [wCount]; omega]
    go_enter Tryz.func107, Tryz.ntmps107
    go_wp2_with fail
    refine (must_no 1 _).mono ?_
    rintro e w1 ⟨rfl, rfl⟩
    go_wp2
    exact ⟨rfl, rfl, rfl⟩

theorem number_put (h : WAt w p g bs) (hfit : bs.length + 8 ≤ 140737488355328) (n size : Int) (hn : n ≤ 9223372036854775807) (sb nb rb : Nat) (hs : w.cell? ⟨sb, 0, none⟩ = some (.int .i64 size)) (hnb : w.cell? ⟨nb, 0, none⟩ = some (.int .i64 n)) (hr : w.cell? ⟨rb, 0, none⟩ = some (.pointer (some ⟨p, 0, none⟩))) :
    Calls Tryz.prog 118 #[.pointer (some ⟨sb, 0, none⟩), .pointer (some ⟨nb, 0, none⟩), .pointer (some ⟨rb, 0, none⟩)] w (Put p g bs w (wNumber n size)) := by
  have H := hide h
  clear h
  by_cases h1 : 1 ≤ size
  case neg =>
    have hd1 : decide (1 ≤ size) = false := by simp; omega
    rw [show wNumber n size = none by simp [wNumber]; omega]
    go_enter Tryz.func118, Tryz.ntmps118
    go_wp2_with fail
    refine (must_no 1 _).mono ?_
    rintro e w1 ⟨rfl, rfl⟩
    go_wp2
    exact ⟨rfl, rfl, rfl⟩
  have hd1 : decide (1 ≤ size) = true := by simp; omega
  by_cases h2 : size ≤ 8
  case neg =>
    have hd2 : decide (size ≤ 8) = false := by simp; omega
    rw [show wNumber n size = none by simp [wNumber]; omega]
    go_enter Tryz.func118, Tryz.ntmps118
    go_wp2_with fail
    refine (must_no 1 _).mono ?_
    rintro e w1 ⟨rfl, rfl⟩
    go_wp2
    exact ⟨rfl, rfl, rfl⟩
  have hd2 : decide (size ≤ 8) = true := by simp; omega
  by_cases h3 : 0 ≤ n
  case neg =>
    have hd3 : decide (0 ≤ n) = false := by simp; omega
    rw [show wNumber n size = none by simp [wNumber]; omega]
    go_enter Tryz.func118, Tryz.ntmps118
    go_wp2_with fail
    refine (must_ok 1 _).mono ?_
    rintro e w1 ⟨rfl, rfl⟩
    go_wp2_with fail
    refine (must_no 1 _).mono ?_
    rintro e w1 ⟨rfl, rfl⟩
    go_wp2
    exact ⟨rfl, rfl, rfl⟩
  have hd3 : decide (0 ≤ n) = true := by simp; omega
  obtain ⟨N, rfl⟩ : ∃ N : Nat, n = N := ⟨n.toNat, by omega⟩
  obtain ⟨k, rfl⟩ : ∃ k : Nat, size = k := ⟨size.toNat, by omega⟩
  by_cases h4 : k = 8
  · subst h4
    rw [show wNumber N (8 : Nat) = some (digs N 8) by
      have : N < 256 ^ 8 := by have : (256 : Nat) ^ 8 = 18446744073709551616 := by decide
                               omega
      simp [wNumber]; omega]
    go_enter Tryz.func118, Tryz.ntmps118
    go_wp2_with fail
    refine (must_ok 1 _).mono ?_
    rintro e w1 ⟨rfl, rfl⟩
    go_wp2_with fail
    refine (must_ok 1 _).mono ?_
    rintro e w1 ⟨rfl, rfl⟩
    go_wp2_with fail
    refine (wdigits_any (unhide H) N 8 (by omega) hfit).mono ?_
    rintro e w1 ⟨rfl, hP⟩
    have HP := hide hP
    clear hP
    go_wp2
    go_end0
    exact ⟨rfl, unhide HP⟩
  · have hk7 : k ≤ 7 := by omega
    have hd4 : ((k : Int) == 8) = false := by simp; omega
    have e256 : ((256 ^ k : Nat) : Int) = (256 : Int) ^ k := by rw [Int.natCast_pow]; rfl
    have hdiv : (N : Int) / 2 ^ (8 * k) = ((N / 256 ^ k : Nat) : Int) := by
      have e3 : (2 : Int) ^ (8 * k) = ((256 ^ k : Nat) : Int) := by rw [Int.pow_mul]; simp
      rw [e3, ← Int.natCast_ediv]
    obtain ⟨M, HM⟩ : ∃ M, Hid (N / 256 ^ k = M) := ⟨_, rfl⟩
    rw [unhide HM] at hdiv
    by_cases h5 : M = 0
    · have hlt : N < 256 ^ k := by
        have hp : 0 < 256 ^ k := Nat.pow_pos (by omega)
        rw [← unhide HM] at h5
        exact (Nat.div_eq_zero_iff.1 h5).resolve_left (by omega)
      rw [show wNumber N k = some (digs N k) by
        unfold wNumber
        rw [if_pos ⟨h1, h2, h3, by rw [Int.toNat_natCast, ← e256]; exact Int.ofNat_lt.2 hlt⟩]; rfl]
      have hd5 : ((N : Int) / 2 ^ (8 * k) == 0) = true := by rw [hdiv]; simp; omega
      clear h5 hlt HM e256 hdiv
      go_enter Tryz.func118, Tryz.ntmps118
      go_wp2_with fail
      refine (must_ok 1 _).mono ?_
      rintro e w1 ⟨rfl, rfl⟩
      go_wp2_with fail
      refine (must_ok 1 _).mono ?_
      rintro e w1 ⟨rfl, rfl⟩
      go_wp2_with fail
      refine (wdigits_any (unhide H) N k (by omega) (by omega)).mono ?_
      rintro e w1 ⟨rfl, hP⟩
      have HP := hide hP
      clear hP
      go_wp2
      go_end0
      exact ⟨rfl, unhide HP⟩
    · have hlt : ¬ N < 256 ^ k := by
        rw [← unhide HM] at h5
        intro hl
        exact h5 (Nat.div_eq_of_lt hl)
      rw [show wNumber N k = none by
        unfold wNumber
        rw [if_neg (fun t => hlt (by have := t.2.2.2; rw [Int.toNat_natCast, ← e256] at this; exact Int.ofNat_lt.1 this))]]
      have hd5 : ((N : Int) / 2 ^ (8 * k) == 0) = false := by rw [hdiv]; simp; omega
      clear h5 hlt HM e256 hdiv
      go_enter Tryz.func118, Tryz.ntmps118
      go_wp2_with fail
      refine (must_ok 1 _).mono ?_
      rintro e w1 ⟨rfl, rfl⟩
      go_wp2_with fail
      refine (must_no 1 _).mono ?_
      rintro e w1 ⟨rfl, rfl⟩
      go_wp2
      exact ⟨rfl, rfl, rfl⟩

end
end Go.Proofs.YtkjoojamkbpfcaaGreat
