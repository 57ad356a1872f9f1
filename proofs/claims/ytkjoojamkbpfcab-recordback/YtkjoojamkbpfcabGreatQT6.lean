import Derived.Test.YtkjoojamkbpfcabGreatQT2
import Derived.Test.YtkjoojamkbpfcabGreatQE1
import Derived.Lib.QuietBelow
/- A span without its prices, and the closures that compare such spans as whole structs. -/
namespace Go.Proofs.YtkjoojamkbpfcabGreat
open Go.RowKit

theorem fr_below {w w' : World} (h : Fr (fun _ => False) w w') : Below w.heap.size w w' := h.below (Nat.le_refl _) (fun _ t => t.elim)
theorem below_fr {w w' : World} (h : Below w.heap.size w w') : Fr (fun _ => False) w w' := Fr.of_below h (fun k hk hk2 => absurd hk (by omega))

/-- A span as a value. -/
abbrev spA (s : Spn) : Value := .agg #[.int .i64 s.fr, .int .i64 s.to, .int .i64 s.single, .int .i64 s.daily, .int .i64 s.weekly]

theorem bare_any (w : World) (s : Spn) : Calls Tryz.prog 115 #[spA s] w fun e w' => e = .returned (.agg #[.int .i64 s.fr, .int .i64 s.to, .int .i64 0, .int .i64 0, .int .i64 0]) ∧ Fr (fun _ => False) w w' := by
  obtain ⟨x0, x1, x2, x3, x4⟩ := s
  go_enter Tryz.func115, Tryz.ntmps115
  go_wp2
  refine bodyPost_ret (v := .agg #[.int .i64 x0, .int .i64 x1, .int .i64 0, .int .i64 0, .int .i64 0]) (by simp [results, Tryz.results115, go_sem]) rfl ⟨rfl, ?_⟩
  exact ((Fr.refl _ w).alloc _).alloc _

def sameB (s x : Spn) : Bool := s.fr == x.fr && s.to == x.to && 0 == x.single && 0 == x.daily && 0 == x.weekly

theorem two_boxes (w : World) (x y : Spn) : Hid (∀ W, W = (w.alloc (.cells #[.int .i64 x.fr, .int .i64 x.to, .int .i64 x.single, .int .i64 x.daily, .int .i64 x.weekly] 110)).alloc (.cells #[.int .i64 y.fr, .int .i64 y.to, .int .i64 y.single, .int .i64 y.daily, .int .i64 y.weekly] 110) →
    (W.cell? ⟨w.heap.size, 0, none⟩ = some (.int .i64 x.fr) ∧ W.cell? ⟨w.heap.size, 1, none⟩ = some (.int .i64 x.to) ∧ W.cell? ⟨w.heap.size, 2, none⟩ = some (.int .i64 x.single) ∧ W.cell? ⟨w.heap.size, 3, none⟩ = some (.int .i64 x.daily) ∧ W.cell? ⟨w.heap.size, 4, none⟩ = some (.int .i64 x.weekly)) ∧
    (W.cell? ⟨w.heap.size + 1, 0, none⟩ = some (.int .i64 y.fr) ∧ W.cell? ⟨w.heap.size + 1, 1, none⟩ = some (.int .i64 y.to) ∧ W.cell? ⟨w.heap.size + 1, 2, none⟩ = some (.int .i64 y.single) ∧ W.cell? ⟨w.heap.size + 1, 3, none⟩ = some (.int .i64 y.daily) ∧ W.cell? ⟨w.heap.size + 1, 4, none⟩ = some (.int .i64 y.weekly)) ∧
    Fr (fun _ => False) w W) := by
  refine hide fun W hW => ?_
  subst hW
  have hlt : w.heap.size < (w.alloc (.cells #[.int .i64 x.fr, .int .i64 x.to, .int .i64 x.single, .int .i64 x.daily, .int .i64 x.weekly] 110)).heap.size := by rw [heap_alloc]; exact Nat.lt_succ_self _
  refine ⟨⟨?_, ?_, ?_, ?_, ?_⟩, ⟨?_, ?_, ?_, ?_, ?_⟩, ((Fr.refl _ w).alloc _).alloc _⟩
  iterate 5 (first | (rw [World.cell?_alloc_lt _ _ _ hlt, World.cell?_alloc_new]; rfl) | skip)
  all_goals (rw [← heap_alloc w (.cells #[.int .i64 x.fr, .int .i64 x.to, .int .i64 x.single, .int .i64 x.daily, .int .i64 x.weekly] 110), World.cell?_alloc_new]; rfl)

theorem zones1_any (w : World) (s x : Spn) : Calls Tryz.prog 114 #[spA s, spA x] w fun e w' => e = .returned (.bool (sameB s x)) ∧ Fr (fun _ => False) w w' := by
  have HB := two_boxes w s x
  obtain ⟨y0, y1, y2, y3, y4⟩ := x
  obtain ⟨x0, x1, x2, x3, x4⟩ := s
  go_enter Tryz.func114, Tryz.ntmps114
  go_wp2_with fail
  obtain ⟨W, hW⟩ : ∃ W, W = (w.alloc (.cells #[.int .i64 x0, .int .i64 x1, .int .i64 x2, .int .i64 x3, .int .i64 x4] 110)).alloc (.cells #[.int .i64 y0, .int .i64 y1, .int .i64 y2, .int .i64 y3, .int .i64 y4] 110) := ⟨_, rfl⟩
  obtain ⟨⟨c0, c1, c2, c3, c4⟩, ⟨d0, d1, d2, d3, d4⟩, hF⟩ := unhide HB W hW
  rw [← hW]
  have HF := hide hF
  clear hF HB hW
  have X0 := fun d os => cell_regrown c0 d os
  have X1 := fun d os => cell_regrown c1 d os
  have X2 := fun d os => cell_regrown c2 d os
  have X3 := fun d os => cell_regrown c3 d os
  have X4 := fun d os => cell_regrown c4 d os
  have Y0 := fun d os => cell_regrown d0 d os
  have Y1 := fun d os => cell_regrown d1 d os
  have Y2 := fun d os => cell_regrown d2 d os
  have Y3 := fun d os => cell_regrown d3 d os
  have Y4 := fun d os => cell_regrown d4 d os
  clear c0 c1 c2 c3 c4 d0 d1 d2 d3 d4
  have e1 := eg39
  have e2 := eq39
  refine wp_region_quiet_below (by kernel_rfl) (by kernel_rfl) ?_
  (go_big_quiet_want; go_big_quiet_op; go_big_quiet_on)
  (go_big_quiet_want; go_big_quiet_op; go_big_quiet_call (exact Calls.regrown_of ((bare_any _ ⟨x0, x1, x2, x3, x4⟩).mono fun _ _ h => ⟨h.1, fr_below h.2⟩)))
  repeat (first | go_big_quiet_skip | (go_big_quiet_want; go_big_quiet_op; go_big_quiet_on))
  refine wpQuiet_nil ?_
  intro _ hw'
  obtain ⟨⟨dq, osq⟩, hw''⟩ := hw'
  subst hw''
  have HB := hide ((unhide HF).trans (below_fr (below_regrown W dq osq)) (fun _ _ t => t))
  go_wp2
  go_ret
  exact ⟨rfl, unhide HB⟩

/-- A station as a value. -/
abbrev stA (s : Stn) : Value := .agg #[.int .i64 s.id, .int .i64 s.zone, .int .i64 s.group]

end Go.Proofs.YtkjoojamkbpfcabGreat

