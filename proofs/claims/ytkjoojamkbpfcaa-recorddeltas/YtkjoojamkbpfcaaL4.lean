/- Are two deltas the same? -/
import Derived.Test.YtkjoojamkbpfcaaG5
import Derived.Test.YtkjoojamkbpfcaaG3
import Derived.Test.YtkjoojamkbpfcaaL2
namespace Go.Proofs.Ytkjoojamkbpfcaa
open Go.RowKit

theorem sameTokens_is (w : World) (l : List ByteArray) (a1 : Option Addr) (c1 : Nat) (a2 : Option Addr) (c2 : Nat) (h1 : SAt w a1 l) (h2 : SAt w a2 l) (hl : l.length ≤ 140737488355328) :
    Calls Try.prog 60 #[.slice a1 l.length c1, .slice a2 l.length c2] w fun e w' => e = .returned (.bool true) ∧ Fr (fun _ => False) w w' := by
  have H1 := hide h1
  have H2 := hide h2
  clear h1 h2
  go_enter Try.func60, Try.ntmps60
  go_wp2
  go_loopw [5] (fun iv wr => ∃ (i : Nat), i ≤ l.length ∧ iv = .int .i64 i ∧ Hid (Fr (fun _ => False) w wr)) (fun iv _ => l.length - (intOf iv).toNat)
  case atStart => exact ⟨0, Nat.zero_le _, rfl, Fr.refl _ _⟩
  case round =>
    obtain ⟨i, hi, rfl, HI⟩ := hrel
    by_cases hil : i < l.length
    · obtain ⟨b1, o1, rfl, e1⟩ := ((unhide H1).keep (unhide HI)).at hil
      obtain ⟨b2, o2, rfl, e2⟩ := ((unhide H2).keep (unhide HI)).at hil
      generalize l[i] = x at *
      go_wp2
      go_quiet (fail)
      go_wp2
      exact ⟨⟨i + 1, by omega, by go_num, (unhide HI).drewN _⟩, by simp [intOf]; omega⟩
    · obtain rfl : i = l.length := by omega
      go_wp2
      go_ret
      exact ⟨rfl, unhide HI⟩

theorem sameDelta_is (w : World) (d : Dl) (a1 : Option Addr) (c1 : Nat) (a2 : Option Addr) (c2 : Nat) (b1 : Option Addr) (k1 : Nat) (b2 : Option Addr) (k2 : Nat) (h1 : SAt w a1 d.add) (h2 : SAt w a2 d.gone) (h3 : SAt w b1 d.add) (h4 : SAt w b2 d.gone) (hl1 : d.add.length ≤ 140737488355328) (hl2 : d.gone.length ≤ 140737488355328) :
    Calls Try.prog 23 #[.agg (dlC d a1 c1 a2 c2), .agg (dlC d b1 k1 b2 k2)] w fun e w' => e = .returned (.bool true) ∧ Fr (fun _ => False) w w' := by
  have R1 := hide (fun (w' : World) (hf : Fr (fun _ => False) w w') => sameTokens_is w' d.add a1 c1 b1 k1 (h1.keep hf) (h3.keep hf) hl1)
  have R2 := hide (fun (w' : World) (hf : Fr (fun _ => False) w w') => sameTokens_is w' d.gone a2 c2 b2 k2 (h2.keep hf) (h4.keep hf) hl2)
  clear h1 h2 h3 h4 hl1 hl2
  unfold dlC
  have HX0 : Hid (Fr (fun _ => False) w ((w.alloc (.cells #[.int .i64 d.ver, .slice a1 d.add.length c1, .slice a2 d.gone.length c2] 41)).alloc (.cells #[.int .i64 d.ver, .slice b1 d.add.length k1, .slice b2 d.gone.length k2] 41)) ∧ Bx ((w.alloc (.cells #[.int .i64 d.ver, .slice a1 d.add.length c1, .slice a2 d.gone.length c2] 41)).alloc (.cells #[.int .i64 d.ver, .slice b1 d.add.length k1, .slice b2 d.gone.length k2] 41)) w.heap.size #[.int .i64 d.ver, .slice a1 d.add.length c1, .slice a2 d.gone.length c2] 41 ∧ Bx ((w.alloc (.cells #[.int .i64 d.ver, .slice a1 d.add.length c1, .slice a2 d.gone.length c2] 41)).alloc (.cells #[.int .i64 d.ver, .slice b1 d.add.length k1, .slice b2 d.gone.length k2] 41)) (w.heap.size + 1) #[.int .i64 d.ver, .slice b1 d.add.length k1, .slice b2 d.gone.length k2] 41) := hide (by
    have h2 := Bx.new (w.alloc (.cells #[.int .i64 d.ver, .slice a1 d.add.length c1, .slice a2 d.gone.length c2] 41)) #[.int .i64 d.ver, .slice b1 d.add.length k1, .slice b2 d.gone.length k2] 41
    rw [heap_alloc] at h2
    exact ⟨((Fr.refl _ w).alloc _).alloc _, (Bx.new _ _ _).alloc _, h2⟩)
  go_enter Try.func23, Try.ntmps23
  go_wp2_with fail
  refine (unhide R1 _ (unhide HX0).1).mono ?_
  rintro e w1 ⟨rfl, hF⟩
  obtain ⟨B, HB⟩ : ∃ B, Hid (w.heap.size = B) := ⟨_, rfl⟩
  have HX1 : Hid (Fr (fun _ => False) w w1 ∧ Bx w1 B #[.int .i64 d.ver, .slice a1 d.add.length c1, .slice a2 d.gone.length c2] 41 ∧ Bx w1 (B + 1) #[.int .i64 d.ver, .slice b1 d.add.length k1, .slice b2 d.gone.length k2] 41) := hide (by
    rw [← unhide HB]
    obtain ⟨k0, k1, k2⟩ := unhide HX0
    exact ⟨k0.trans hF (fun _ _ t => t), k1.keep hF, k2.keep hF⟩)
  rw [unhide HB]
  have x2 : w1.cell? ⟨B, 2, none⟩ = some (.slice a2 d.gone.length c2) := (unhide HX1).2.1.cell 2
  have y2 : w1.cell? ⟨B + 1, 2, none⟩ = some (.slice b2 d.gone.length k2) := (unhide HX1).2.2.cell 2
  clear hF HX0
  go_wp2_with fail
  refine (unhide R2 _ (unhide HX1).1).mono ?_
  rintro e w2 ⟨rfl, hF⟩
  have x0 : w2.cell? ⟨B, 0, none⟩ = some (.int .i64 d.ver) := ((unhide HX1).2.1.keep hF).cell 0
  have y0 : w2.cell? ⟨B + 1, 0, none⟩ = some (.int .i64 d.ver) := ((unhide HX1).2.2.keep hF).cell 0
  have HF2 : Hid (Fr (fun _ => False) w w2) := hide ((unhide HX1).1.trans hF (fun _ _ t => t))
  clear hF x2 y2
  go_wp2
  go_ret
  exact ⟨by first | rfl | simp, unhide HF2⟩

end Go.Proofs.Ytkjoojamkbpfcaa
