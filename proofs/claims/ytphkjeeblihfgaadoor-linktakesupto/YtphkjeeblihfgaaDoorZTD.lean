import Derived.Test.YtphkjeeblihfgaaDoorZG9
import Derived.Test.YtphkjeeblihfgaaDoorZG4
/- Contract: the law's sameItems, of rows that are the same. -/
namespace Go.Proofs.YtphkjeeblihfgaaDoor
open Go.RowKit

set_option maxHeartbeats 2000000 in
set_option maxRecDepth 20000 in
theorem sameitems_eq (w : World) (its : List Itm) (io : Option Addr) (ic : Nat) (io' : Option Addr) (ic' : Nat) (hA : ItsAt w io its) (hB : ItsAt w io' its) :
    Calls Tryd.prog 16 #[.slice io its.length ic, .slice io' its.length ic'] w fun e w' => e = .returned (.bool true) ∧ Hid (Fr (fun _ => False) w w') := by
  have hsI : (its.length : Int) ≤ 140737488355328 := by have h : its.length ≤ 140737488355328 := hA.small; omega
  have HX := hide (And.intro hA hB)
  clear hA hB
  go_enter Tryd.func16, Tryd.ntmps16
  go_wp2
  go_loopw [5] (fun iv wr => ∃ (i : Nat), i ≤ its.length ∧ iv = .int .i64 i ∧ Hid (Fr (fun _ => False) w wr)) (fun iv _ => its.length - (intOf iv).toNat)
  case atStart => exact ⟨0, Nat.zero_le _, rfl, hide (Fr.refl _ _)⟩
  case round =>
    obtain ⟨i, hi, rfl, HI⟩ := hrel
    by_cases hil : i < its.length
    · have hiI : (i : Int) < (its.length : Int) := by omega
      obtain ⟨b1, o1, e1, h1⟩ := ((unhide HX).1.later (unhide HI)).cells (by omega)
      obtain ⟨b2, o2, e2, h2⟩ := ((unhide HX).2.later (unhide HI)).cells (by omega)
      obtain ⟨s1, a1, p1, k1, m1⟩ := h1 i hil
      obtain ⟨s2, a2, p2, k2, m2⟩ := h2 i hil
      subst e1 e2
      clear h1 h2
      generalize its[i] = x at *
      obtain ⟨xs, xb⟩ := x
      simp only at s1 k1 m1 s2 k2 m2
      have HS : Hid (∀ u, Fr (fun _ => False) wr u → u.cell? ⟨b1, o1 + i * 2, none⟩ = some (.int .i64 xs) ∧ u.cell? ⟨b2, o2 + i * 2, none⟩ = some (.int .i64 xs) ∧ u.cell? ⟨b1, o1 + i * 2 + 1, none⟩ = some (.slice a1 xb.length p1) ∧ u.cell? ⟨b2, o2 + i * 2 + 1, none⟩ = some (.slice a2 xb.length p2) ∧ (convert 34 9 (.slice a1 xb.length p1)).run Tryd.prog u = .ok (.string ⟨xb.toArray⟩) u ∧ (convert 34 9 (.slice a2 xb.length p2)).run Tryd.prog u = .ok (.string ⟨xb.toArray⟩) u) := hide (fun u hu => ⟨(hu.cell (World.block_lt_of_cell? _ _ s1) (fun t => t)).trans s1, (hu.cell (World.block_lt_of_cell? _ _ s2) (fun t => t)).trans s2, (hu.cell (World.block_lt_of_cell? _ _ k1) (fun t => t)).trans k1, (hu.cell (World.block_lt_of_cell? _ _ k2) (fun t => t)).trans k2, conv_batL (m1.later hu), conv_batL (m2.later hu)⟩)
      clear m1 m2 k1 k2 s1 s2
      go_wp2_with fail
      go_region_held3 (fun u => u.cell? ⟨b1, o1 + i * 2, none⟩ = some (.int .i64 xs) ∧ u.cell? ⟨b2, o2 + i * 2, none⟩ = some (.int .i64 xs) ∧ u.cell? ⟨b1, o1 + i * 2 + 1, none⟩ = some (.slice a1 xb.length p1) ∧ u.cell? ⟨b2, o2 + i * 2 + 1, none⟩ = some (.slice a2 xb.length p2) ∧ (convert 34 9 (.slice a1 xb.length p1)).run Tryd.prog u = .ok (.string ⟨xb.toArray⟩) u ∧ (convert 34 9 (.slice a2 xb.length p2)).run Tryd.prog u = .ok (.string ⟨xb.toArray⟩) u) (first | exact unhide HS _ ((Fr.refl _ _).drew)) (fail)
      go_wp2
      exact ⟨⟨i + 1, by omega, by go_num, hide ((unhide HI).drew)⟩, by simp [intOf]; omega⟩
    · obtain rfl : i = its.length := by omega
      go_wp2
      go_ret
      exact ⟨rfl, HI⟩

end Go.Proofs.YtphkjeeblihfgaaDoor

