/- Contracts of what the reader's calls hand to take, one a kind of piece. -/
import Derived.Test.YtkjoojamkbpfcaaGreatA1
namespace Go.Proofs.YtkjoojamkbpfcaaGreat
open Go.RowKit

/-- The panic with which a piece is given up. -/
abbrev gave (x : Int) : Ending := .panicked [{ v := .iface 31 (.int .i64 x), recovered := false }]

/-- How a piece comes out: a value and where the next one begins; or what is wrong. -/
def Took (p g : Nat) (bs : List UInt8) (l : Nat) (c f : Int) (w : World) (o : Except Int (Value × Nat)) (e : Ending) (w' : World) : Prop :=
  match o with
  | .ok (v, a') => e = .returned v ∧ RAt w' p g bs a' l c f ∧ Fr (· = p) w w'
  | .error x => e = gave x ∧ (∃ a', RAt w' p g bs a' l c f) ∧ Fr (· = p) w w'

def oNumber (bs : List UInt8) (a : Nat) (size : Int) : Except Int (Value × Nat) :=
  if size < 1 ∨ 8 < size then .error 1
  else if (bs.length : Int) - a < size then .error 10
  else if 9223372036854775807 < num ((bs.drop a).take size.toNat) then .error 11
  else .ok (.int .i64 (num ((bs.drop a).take size.toNat)), a + size.toNat)

def oInt (bs : List UInt8) (a : Nat) : Except Int (Value × Nat) :=
  if (bs.length : Int) - a < 8 then .error 10
  else .ok (.int .i64 (wrap64 (num ((bs.drop a).take 8))), a + 8)

def oBool (bs : List UInt8) (a : Nat) : Except Int (Value × Nat) :=
  if (bs.length : Int) - a < 1 then .error 10
  else if 1 < num ((bs.drop a).take 1) then .error 11
  else .ok (.bool (num ((bs.drop a).take 1) == 1), a + 1)

def oCount (bs : List UInt8) (a : Nat) (most : Int) : Except Int (Value × Nat) :=
  if most < 0 then .error 1
  else if (bs.length : Int) - a < 2 then .error 10
  else if most < num ((bs.drop a).take 2) then .error 12
  else .ok (.int .i64 (num ((bs.drop a).take 2)), a + 2)

section
variable {w : World} {p g : Nat} {bs : List UInt8} {a l : Nat} {c f : Int}

theorem number_piece (h : RAt w p g bs a l c f) (size : Int) (sb rb : Nat) (hs : w.cell? ⟨sb, 0, none⟩ = some (.int .i64 size)) (hr : w.cell? ⟨rb, 0, none⟩ = some (.pointer (some ⟨p, 0, none⟩))) :
    Calls Tryz.prog 119 #[.pointer (some ⟨sb, 0, none⟩), .pointer (some ⟨rb, 0, none⟩)] w (Took p g bs l c f w (oNumber bs a size)) := by
  have H := hide h
  have hlt := World.block_lt_of_cell? _ _ hs
  clear h
  by_cases h1 : size < 1 ∨ 8 < size
  · rw [show oNumber bs a size = .error 1 by simp [oNumber, h1]]
    go_enter Tryz.func119, Tryz.ntmps119
    rcases h1 with h1 | h1
    · have hd : decide (1 ≤ size) = false := by simp; omega
      go_wp2_with fail
      refine (must_no 1 _).mono ?_
      rintro e w1 ⟨rfl, rfl⟩
      go_wp2
      exact ⟨rfl, rfl, ⟨_, unhide H⟩, Fr.refl _ _⟩
    · have hd : decide (1 ≤ size) = true := by simp; omega
      have hd2 : decide (size ≤ 8) = false := by simp; omega
      go_wp2_with fail
      refine (must_no 1 _).mono ?_
      rintro e w1 ⟨rfl, rfl⟩
      go_wp2
      exact ⟨rfl, rfl, ⟨_, unhide H⟩, Fr.refl _ _⟩
  obtain ⟨k, rfl⟩ : ∃ k : Nat, size = k := ⟨size.toNat, by omega⟩
  have hd : decide (1 ≤ (k : Int)) = true := by simp; omega
  have hd2 : decide ((k : Int) ≤ 8) = true := by simp; omega
  by_cases h2 : (bs.length : Int) - a < k
  · rw [show oNumber bs a k = .error 10 by simp [oNumber, h1, h2]]
    go_enter Tryz.func119, Tryz.ntmps119
    go_wp2_with fail
    refine (must_ok 1 _).mono ?_
    rintro e w1 ⟨rfl, rfl⟩
    go_wp2_with fail
    refine (digits_short (unhide H) k h2).mono ?_
    rintro e w1 ⟨rfl, j, rfl⟩
    go_wp2
    exact ⟨rfl, rfl, ⟨_, (unhide H).drewN j⟩, (Fr.refl _ _).drewN j⟩
  have hle := (unhide H).le
  obtain ⟨N, HN⟩ : ∃ N, Hid (num ((bs.drop a).take k) = N) := ⟨_, rfl⟩
  have e1 : oNumber bs a k = if 9223372036854775807 < N then .error 11 else .ok (.int .i64 N, a + k) := by rw [← unhide HN]; simp [oNumber, h1, h2]
  have ht : bs.length ≥ a + k ∧ k ≤ 8 := by omega
  clear h1 h2
  by_cases h3 : 9223372036854775807 < N
  · rw [e1, if_pos h3]
    clear e1
    have h3' : decide ((N : Int) ≤ 9223372036854775807) = false := by simp; omega
    have H3 := hide h3
    clear h3
    go_enter Tryz.func119, Tryz.ntmps119
    go_wp2_with fail
    refine (must_ok 1 _).mono ?_
    rintro e w1 ⟨rfl, rfl⟩
    go_wp2_with fail
    refine (digits_ok (unhide H) k ht.1 ht.2).mono ?_
    rw [unhide HN]
    rintro e w1 ⟨rfl, hR, hF⟩
    have H1 := hide (And.intro hR hF)
    clear hR hF
    go_wp2_with fail
    refine (must_no 11 _).mono ?_
    rintro e w2 ⟨rfl, rfl⟩
    go_wp2
    exact ⟨rfl, rfl, ⟨_, (unhide H1).1⟩, (unhide H1).2⟩
  · rw [e1, if_neg h3]
    clear e1
    have h3' : decide ((N : Int) ≤ 9223372036854775807) = true := by simp; omega
    have h4 : (N : Int) ≤ 9223372036854775807 := by omega
    clear h3
    go_enter Tryz.func119, Tryz.ntmps119
    go_wp2_with fail
    refine (must_ok 1 _).mono ?_
    rintro e w1 ⟨rfl, rfl⟩
    go_wp2_with fail
    refine (digits_ok (unhide H) k ht.1 ht.2).mono ?_
    rw [unhide HN]
    rintro e w1 ⟨rfl, hR, hF⟩
    have H1 := hide (And.intro hR hF)
    clear hR hF
    go_wp2_with fail
    refine (must_ok 11 _).mono ?_
    rintro e w2 ⟨rfl, rfl⟩
    go_wp2
    go_ret
    exact ⟨rfl, (unhide H1).1, (unhide H1).2⟩

/-- function count: its own contract, at any bound. -/
theorem count_any (h : RAt w p g bs a l c f) (most : Int) :
    Calls Tryz.prog 112 #[.pointer (some ⟨p, 0, none⟩), .int .i64 most] w (Took p g bs l c f w (oCount bs a most)) := by
  have H := hide h
  have hle := h.le
  clear h
  by_cases h1 : most < 0
  · rw [show oCount bs a most = .error 1 by simp [oCount, h1]]
    have hd : decide (0 ≤ most) = false := by simp; omega
    go_enter Tryz.func112, Tryz.ntmps112
    go_wp2_with fail
    refine (must_no 1 _).mono ?_
    rintro e w1 ⟨rfl, rfl⟩
    go_wp2
    exact ⟨rfl, rfl, ⟨_, unhide H⟩, Fr.refl _ _⟩
  have hd : decide (0 ≤ most) = true := by simp; omega
  by_cases h2 : (bs.length : Int) - a < 2
  · rw [show oCount bs a most = .error 10 by simp [oCount, h1, h2]]
    go_enter Tryz.func112, Tryz.ntmps112
    go_wp2_with fail
    refine (must_ok 1 _).mono ?_
    rintro e w1 ⟨rfl, rfl⟩
    go_wp2_with fail
    refine (digits_short (unhide H) 2 h2).mono ?_
    rintro e w1 ⟨rfl, j, rfl⟩
    go_wp2
    exact ⟨rfl, rfl, ⟨_, (unhide H).drewN j⟩, (Fr.refl _ _).drewN j⟩
  have ht : a + 2 ≤ bs.length := by omega
  obtain ⟨N, HN⟩ : ∃ N, Hid (num ((bs.drop a).take 2) = N) := ⟨_, rfl⟩
  have hN : N < 65536 := by
    rw [← unhide HN]
    refine Nat.lt_of_lt_of_le (num_lt _) (Nat.le_trans (Nat.pow_le_pow_right (by omega) (List.length_take_le 2 _)) (by decide))
  by_cases h3 : most < N
  · rw [show oCount bs a most = .error 12 by unfold oCount; rw [if_neg h1, if_neg h2, unhide HN, if_pos h3]]
    have h3' : decide ((N : Int) ≤ most) = false := by simp; omega
    have H3 := hide h3
    clear h1 h2 h3
    go_enter Tryz.func112, Tryz.ntmps112
    go_wp2_with fail
    refine (must_ok 1 _).mono ?_
    rintro e w1 ⟨rfl, rfl⟩
    go_wp2_with fail
    refine (digits_ok (unhide H) 2 ht (by omega)).mono ?_
    rw [unhide HN]
    rintro e w1 ⟨rfl, hR, hF⟩
    have H1 := hide (And.intro hR hF)
    clear hR hF
    go_wp2_with fail
    refine (must_no 12 _).mono ?_
    rintro e w2 ⟨rfl, rfl⟩
    go_wp2
    exact ⟨rfl, rfl, ⟨_, (unhide H1).1⟩, (unhide H1).2⟩
  · rw [show oCount bs a most = .ok (.int .i64 N, a + 2) by unfold oCount; rw [if_neg h1, if_neg h2, unhide HN, if_neg h3]]
    have h3' : decide ((N : Int) ≤ most) = true := by simp; omega
    have H3 := hide h3
    clear h1 h2 h3
    go_enter Tryz.func112, Tryz.ntmps112
    go_wp2_with fail
    refine (must_ok 1 _).mono ?_
    rintro e w1 ⟨rfl, rfl⟩
    go_wp2_with fail
    refine (digits_ok (unhide H) 2 ht (by omega)).mono ?_
    rw [unhide HN]
    rintro e w1 ⟨rfl, hR, hF⟩
    have H1 := hide (And.intro hR hF)
    clear hR hF
    go_wp2_with fail
    refine (must_ok 12 _).mono ?_
    rintro e w2 ⟨rfl, rfl⟩
    go_wp2
    go_ret
    exact ⟨rfl, (unhide H1).1, (unhide H1).2⟩

theorem count_piece (h : RAt w p g bs a l c f) (most : Int) (rb sb : Nat) (hr : w.cell? ⟨rb, 0, none⟩ = some (.pointer (some ⟨p, 0, none⟩))) (hs : w.cell? ⟨sb, 0, none⟩ = some (.int .i64 most)) :
    Calls Tryz.prog 111 #[.pointer (some ⟨rb, 0, none⟩), .pointer (some ⟨sb, 0, none⟩)] w (Took p g bs l c f w (oCount bs a most)) := by
  have H := hide h
  clear h
  generalize ho : oCount bs a most = o
  have HO := hide ho
  clear ho
  go_enter Tryz.func111, Tryz.ntmps111
  go_wp2_with fail
  refine (count_any (unhide H) most).mono ?_
  rw [unhide HO]
  clear HO
  cases o with
  | error x =>
    rintro e w1 ⟨rfl, h1, h2⟩
    have H1 := hide (And.intro h1 h2)
    clear h1 h2
    go_wp2
    exact ⟨rfl, rfl, unhide H1⟩
  | ok v =>
    rintro e w1 ⟨rfl, h1, h2⟩
    have H1 := hide (And.intro h1 h2)
    clear h1 h2
    go_wp2
    go_ret
    exact ⟨rfl, unhide H1⟩

end
end Go.Proofs.YtkjoojamkbpfcaaGreat
