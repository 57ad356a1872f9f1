/- Contracts of the small functions of package wire: must, failed, At, Fault, Left, next, digits, count. -/
import Derived.Test.YtkjoojamkbpfcaaGreatRows
import Derived.Test.YtkjoojamkbpfcaaGreatA0
import Derived.Defers
import Derived.Recover
import Derived.Deep.QuietTactic
import Derived.BigQuiet
namespace Go.Proofs.YtkjoojamkbpfcaaGreat
open Go.RowKit

theorem must_ok (c : Int) (w : World) :
    Calls Tryz.prog 108 #[.bool true, .int .i64 c] w fun e w' => e = .returned (.tuple #[]) ∧ w = w' := by
  go_enter Tryz.func108, Tryz.ntmps108
  go_wp2
  go_end0
  exact ⟨rfl, rfl⟩

theorem must_no (c : Int) (w : World) :
    Calls Tryz.prog 108 #[.bool false, .int .i64 c] w fun e w' => e = .panicked [{ v := .iface 31 (.int .i64 c), recovered := false }] ∧ w = w' := by
  go_enter Tryz.func108, Tryz.ntmps108
  go_wp2
  exact ⟨rfl, rfl, rfl⟩

theorem failed_any (p : Nat) (c : Int) (w : World) (h3 : w.cell? ⟨p, 3, none⟩ = some (.int .i64 c)) :
    Calls Tryz.prog 100 #[.pointer (some ⟨p, 0, none⟩)] w fun e w' => e = .returned (.bool (c != 0)) ∧ w = w' := by
  go_enter Tryz.func100, Tryz.ntmps100
  go_wp2
  go_ret
  exact ⟨rfl, rfl⟩

theorem left_any (p : Nat) (a n : Nat) (ao : Option Addr) (cap : Nat) (w : World) (h0 : w.cell? ⟨p, 0, none⟩ = some (.slice ao n cap)) (h1 : w.cell? ⟨p, 1, none⟩ = some (.int .i64 a)) (ha : a ≤ n) (hn : n ≤ 140737488355328) :
    Calls Tryz.prog 101 #[.pointer (some ⟨p, 0, none⟩)] w fun e w' => e = .returned (.int .i64 (n - a)) ∧ ∃ k, w' = w.drewN k := by
  go_enter Tryz.func101, Tryz.ntmps101
  go_wp2
  go_quiet (fail)
  go_wp2
  go_ret
  exact ⟨rfl, nq, rfl⟩

/-- what 'next' answers: a row of the reader's own bytes -/
theorem next_ok0 (p g : Nat) (a n k : Nat) (ao : Option Addr) (cap : Nat) (w : World) (h0 : w.cell? ⟨p, 0, none⟩ = some (.slice ao n cap)) (h1 : w.cell? ⟨p, 1, none⟩ = some (.int .i64 a)) (f1 : w.frozen? ⟨p, 1, none⟩ = false)
    (hak : a + k ≤ n) (hn : n ≤ 140737488355328) (hcap : n ≤ cap) (hcm : cap ≤ 9223372036854775807) (hao : 0 < cap → ao = some ⟨g, 0, none⟩) :
    Calls Tryz.prog 124 #[.pointer (some ⟨p, 0, none⟩), .int .i64 k] w fun e w' => (∃ A, e = .returned (.slice A k (cap - a)) ∧ (0 < k → A = some ⟨g, a, none⟩)) ∧ ∃ j, w' = (w.setCell ⟨p, 1, none⟩ (.int .i64 (a + k))).drewN j := by
  go_enter Tryz.func124, Tryz.ntmps124
  go_wp2_with fail
  refine (left_any p a n ao cap _ h0 h1 (by omega) hn).mono ?_
  rintro e w1 ⟨rfl, j1, rfl⟩
  have hd : decide ((k : Int) ≤ (n : Int) - a) = true := by simp; omega
  go_wp2_with fail
  refine (must_ok 10 _).mono ?_
  rintro e w2 ⟨rfl, rfl⟩
  go_wp2_with fail
  have hb1 : (a : Int) ≤ (a : Int) + k := by omega
  have hb2 : (a : Int) + k ≤ cap := by omega
  go_quiet (fail)
  go_wp2
  · go_ret
    refine ⟨⟨_, rfl, fun h0k => absurd h0k (by omega)⟩, j1 + nq, by rw [← World.drewN_drewN]; rfl⟩
  · go_ret
    refine ⟨⟨_, rfl, fun h0k => ?_⟩, j1 + nq, by rw [← World.drewN_drewN]; rfl⟩
    rw [hao (by omega)]
    simp only [Option.map_some, Addr.add, Nat.zero_add]
    split <;> simp_all

section
variable {w : World} {p g : Nat} {bs : List UInt8} {a l : Nat} {c f : Int}

theorem left_r (h : RAt w p g bs a l c f) :
    Calls Tryz.prog 101 #[.pointer (some ⟨p, 0, none⟩)] w fun e w' => e = .returned (.int .i64 (bs.length - a)) ∧ ∃ k, w' = w.drewN k := by
  obtain ⟨ao, cap, h0, _⟩ := h.c0
  exact left_any p a bs.length ao cap w h0 h.c1 h.le h.small

theorem next_ok (h : RAt w p g bs a l c f) (k : Nat) (hak : a + k ≤ bs.length) :
    Calls Tryz.prog 124 #[.pointer (some ⟨p, 0, none⟩), .int .i64 k] w fun e w' => (∃ A cap, e = .returned (.slice A k cap) ∧ k ≤ cap ∧ (0 < k → A = some ⟨g, a, none⟩)) ∧ RAt w' p g bs (a + k) l c f ∧ Fr (· = p) w w' := by
  obtain ⟨ao, cap, h0, hcap, hcm, hao⟩ := h.c0
  refine (next_ok0 p g a bs.length k ao cap w h0 h.c1 (h.fz 1 (by omega)) hak h.small hcap hcm hao).mono ?_
  rintro e w' ⟨⟨A, rfl, hA⟩, j, rfl⟩
  exact ⟨⟨A, _, rfl, by omega, hA⟩, (h.setAt (a + k) hak).drewN j, ((Fr.refl (· = p) _).setCell (p := ⟨p, 1, none⟩) (fun _ => rfl) _).drewN j⟩

theorem next_short (h : RAt w p g bs a l c f) (k : Int) (hak : (bs.length : Int) - a < k) :
    Calls Tryz.prog 124 #[.pointer (some ⟨p, 0, none⟩), .int .i64 k] w fun e w' => e = .panicked [{ v := .iface 31 (.int .i64 10), recovered := false }] ∧ ∃ j, w' = w.drewN j := by
  have H := hide h
  have hd : decide ((k : Int) ≤ (bs.length : Int) - a) = false := by simp; omega
  clear h
  go_enter Tryz.func124, Tryz.ntmps124
  go_wp2_with fail
  refine (left_r (unhide H)).mono ?_
  rintro e w1 ⟨rfl, j1, rfl⟩
  go_wp2_with fail
  refine (must_no 10 _).mono ?_
  rintro e w2 ⟨rfl, rfl⟩
  go_wp2
  exact ⟨rfl, rfl, _, rfl⟩

theorem digits_ok (h : RAt w p g bs a l c f) (k : Nat) (hak : a + k ≤ bs.length) (hk8 : k ≤ 8) :
    Calls Tryz.prog 117 #[.pointer (some ⟨p, 0, none⟩), .int .i64 k] w fun e w' => e = .returned (.int .u64 (num ((bs.drop a).take k))) ∧ RAt w' p g bs (a + k) l c f ∧ Fr (· = p) w w' := by
  have H := hide h
  have hsmall := h.small
  clear h
  go_enter Tryz.func117, Tryz.ntmps117
  go_wp2_with fail
  refine (next_ok (unhide H) k hak).mono ?_
  rintro e w1 ⟨⟨A, cap, rfl, hcap, hA⟩, hR, hF⟩
  have H1 := hide (And.intro hR hF)
  clear hR hF H
  go_wp2
  go_loop [5, 12] (fun nv i => ∃ j : Nat, j ≤ k ∧ i = .int .i64 j ∧ nv = .int .u64 (num ((bs.drop a).take j))) (fun _ i => k - (intOf i).toNat)
  case atStart => exact ⟨0, Nat.zero_le _, rfl, rfl⟩
  case round =>
    obtain ⟨j, hj, rfl, rfl⟩ := hrel
    by_cases hlt : j < k
    · obtain rfl := hA (by omega)
      have hL : a + j < bs.length := by omega
      have hcj := (unhide H1).1.row (a + j) hL
      have HS : Hid (num ((bs.drop a).take (j + 1)) = num ((bs.drop a).take j) * 256 + bs[a + j].toNat) := by
        show _ = _
        rw [take_more _ _ (by rw [List.length_drop]; omega), num_snoc, List.getElem_drop]
      have hsm := pow56 ((bs.drop a).take j) (by have := List.length_take_le j (bs.drop a); omega)
      go_wp2
      refine ⟨⟨j + 1, by omega, by go_num, ?_⟩, by simp [intOf]; omega⟩
      rw [or_digit _ _ hsm (UInt8.toNat_lt _), unhide HS]
    · obtain rfl : j = k := by omega
      go_wp2
      go_ret
      exact ⟨rfl, unhide H1⟩

theorem digits_short (h : RAt w p g bs a l c f) (k : Int) (hak : (bs.length : Int) - a < k) :
    Calls Tryz.prog 117 #[.pointer (some ⟨p, 0, none⟩), .int .i64 k] w fun e w' => e = .panicked [{ v := .iface 31 (.int .i64 10), recovered := false }] ∧ ∃ j, w' = w.drewN j := by
  have H := hide h
  clear h
  go_enter Tryz.func117, Tryz.ntmps117
  go_wp2_with fail
  refine (next_short (unhide H) k hak).mono ?_
  rintro e w1 ⟨rfl, j1, rfl⟩
  go_wp2
  exact ⟨rfl, rfl, _, rfl⟩

end
end Go.Proofs.YtkjoojamkbpfcaaGreat
