/- Contracts of what the writer's Fixed and Text hand to put. -/
import Derived.Test.YtkjoojamkbpfcaaGreatB3
namespace Go.Proofs.YtkjoojamkbpfcaaGreat
open Go.RowKit

section
variable {w : World} {p g : Nat} {bs : List UInt8}

theorem puts_drew {w w1 : World} {p g g2 : Nat} {cs ms : List UInt8} {ao ao' : Option Addr} {cap cap' : Nat} (h : WAt w p g cs) (c0 : w.cell? ⟨p, 0, none⟩ = some (.slice ao cs.length cap)) (hne : 0 < cap → g ≠ p)
    (hr : Row w1 (.slice ao' (cs.length + ms.length) cap') g2 (cs ++ ms) ∧ Fr (fun k => k = g ∧ 0 < cap) w.drew w1 ∧ ((g2 = g ∧ cap' = cap) ∨ w.drew.heap.size ≤ g2)) :
    Puts p g (cs ++ ms) w (w1.setCell ⟨p, 0, none⟩ (.slice ao' (cs.length + ms.length) cap')) := by
  obtain ⟨r1, r2, r3⟩ := hr
  have hst := (h.drew).store (ao := ao') (cap := cap') (ms := ms) (c0 : w.drew.cell? ⟨p, 0, none⟩ = some (.slice ao cs.length cap)) hne r1 r2 r3
  exact Puts.later (Fr.refl _ w).drew hst

theorem fixed_no (size : Int) (s : ByteArray) (sb tb rb : Nat) (hs : w.cell? ⟨sb, 0, none⟩ = some (.int .i64 size)) (ht : w.cell? ⟨tb, 0, none⟩ = some (.string s)) (hc : ¬ (0 ≤ size ∧ size ≤ 65535 ∧ (s.size : Int) = size)) :
    Calls Tryz.prog 121 #[.pointer (some ⟨sb, 0, none⟩), .pointer (some ⟨tb, 0, none⟩), .pointer (some ⟨rb, 0, none⟩)] w fun e w' => e = gave 1 ∧ w = w' := by
  by_cases h1 : 0 ≤ size
  case neg =>
    have hd1 : decide (0 ≤ size) = false := by simp; omega
    clear hc
    go_enter Tryz.func121, Tryz.ntmps121
    go_wp2_with fail
    refine (must_no 1 _).mono ?_
    rintro e w1 ⟨rfl, rfl⟩
    go_wp2
    exact ⟨rfl, rfl, rfl⟩
  have hd1 : decide (0 ≤ size) = true := by simp; omega
  by_cases h2 : size ≤ 65535
  case neg =>
    have hd2 : decide (size ≤ 65535) = false := by simp; omega
    clear hc
    go_enter Tryz.func121, Tryz.ntmps121
    go_wp2_with fail
    refine (must_no 1 _).mono ?_
    rintro e w1 ⟨rfl, rfl⟩
    go_wp2
    exact ⟨rfl, rfl, rfl⟩
  have hd2 : decide (size ≤ 65535) = true := by simp; omega
  have hd3 : ((s.size : Int) == size) = false := by simp; omega
  clear hc
  go_enter Tryz.func121, Tryz.ntmps121
  go_wp2_with fail
  refine (must_no 1 _).mono ?_
  rintro e w1 ⟨rfl, rfl⟩
  go_wp2
  exact ⟨rfl, rfl, rfl⟩

set_option maxHeartbeats 1000000 in
theorem fixed_yes (h : WAt w p g bs) (s : ByteArray) (hfit : bs.length + s.size ≤ 140737488355328) (sb tb rb : Nat) (hs : w.cell? ⟨sb, 0, none⟩ = some (.int .i64 s.size)) (ht : w.cell? ⟨tb, 0, none⟩ = some (.string s)) (hr : w.cell? ⟨rb, 0, none⟩ = some (.pointer (some ⟨p, 0, none⟩)))
    (hc : s.size ≤ 65535) (hrg : rb ≠ g) :
    Calls Tryz.prog 121 #[.pointer (some ⟨sb, 0, none⟩), .pointer (some ⟨tb, 0, none⟩), .pointer (some ⟨rb, 0, none⟩)] w fun e w' => e = .returned (.tuple #[]) ∧ Puts p g (bs ++ s.data.toList) w w' := by
  obtain ⟨i0, hi, hz0, hz1, hz2⟩ := info_parts Tryz.info5
  have H := hide h
  obtain ⟨ao, cap, c0, hne, hrow⟩ := h.c0
  have f0 := h.f0
  have hpl := h.lt
  have HW := hide (And.intro hne hrow)
  have hrl := World.block_lt_of_cell? _ _ hr
  clear h hne hrow
  have hd1 : decide (0 ≤ (s.size : Int)) = true := by simp
  have hd2 : decide ((s.size : Int) ≤ 65535) = true := by simp; omega
  have hd3 : ((s.size : Int) == (s.size : Int)) = true := by simp
  have hfit' : bs.length + s.data.toList.length ≤ 140737488355328 := hfit
  go_enter Tryz.func121, Tryz.ntmps121
  go_wp2_with fail
  refine (must_ok 1 _).mono ?_
  rintro e w1 ⟨rfl, rfl⟩
  go_wp2_with fail
  go_region_law (refine step_append_row rfl (.tmp 20) (.tmp 21) 28 9 rfl 5 i0 Tryz.underlying28 hi hz0 hz1 hz2 (ao := ao) (cap := cap) (g := g) (bs := bs) rfl ((unhide HW).2.stay (fun _ => rfl)) _ s.data.toList rfl (src_string Tryz.underlying9 s _) hfit' ?_; intro ao' cap' w1 g2 hr1 hf hg; have k0 := (hf.cell (a := ⟨p, 0, none⟩) hpl (fun t => (unhide HW).1 t.2 t.1.symm)); have k1 := (hf.frozen (a := ⟨p, 0, none⟩) hpl (fun t => (unhide HW).1 t.2 t.1.symm)); have k2 := (hf.cell (a := ⟨rb, 0, none⟩) hrl (fun t => hrg t.1)).trans hr; have HR := hide (And.intro hr1 (And.intro hf hg)); clear hr1 hf hg)
  all_goals
    have HP2 := hide (puts_drew (ms := s.data.toList) (unhide H) c0 (unhide HW).1 (unhide HR))
    clear HR HW k0 k1 k2 c0 f0 H
    go_wp2
    go_end0
    exact ⟨rfl, unhide HP2⟩

theorem fixed_put (h : WAt w p g bs) (s : ByteArray) (size : Int) (hfit : s.size ≤ 65535 → bs.length + s.size ≤ 140737488355328) (sb tb rb : Nat) (hs : w.cell? ⟨sb, 0, none⟩ = some (.int .i64 size)) (ht : w.cell? ⟨tb, 0, none⟩ = some (.string s)) (hr : w.cell? ⟨rb, 0, none⟩ = some (.pointer (some ⟨p, 0, none⟩))) (hrg : rb ≠ g) :
    Calls Tryz.prog 121 #[.pointer (some ⟨sb, 0, none⟩), .pointer (some ⟨tb, 0, none⟩), .pointer (some ⟨rb, 0, none⟩)] w (Put p g bs w (wFixed s size)) := by
  by_cases hc : 0 ≤ size ∧ size ≤ 65535 ∧ (s.size : Int) = size
  · rw [show wFixed s size = some s.data.toList by unfold wFixed; rw [if_pos hc]]
    obtain ⟨h1, h2, h3⟩ := hc
    subst h3
    exact fixed_yes h s (hfit (by omega)) sb tb rb hs ht hr (by omega) hrg
  · rw [show wFixed s size = none by unfold wFixed; rw [if_neg hc]]
    exact fixed_no size s sb tb rb hs ht hc

end
end Go.Proofs.YtkjoojamkbpfcaaGreat
