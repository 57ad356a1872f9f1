import Derived.Test.YtkjoojamkbpfcaaGreatL1
import Derived.Laws.StructEq
/- Structs compared; the law's own examples (function awake). -/
namespace Go.Proofs.YtkjoojamkbpfcaaGreat
open Go.RowKit

theorem eqFault (w : World) (a b : Int) : (Op.equalIn 10000 37 (.agg #[.int .i64 a, .int .i64 b]) (.agg #[.int .i64 a, .int .i64 b])).run Tryz.prog w = .ok true w := by
  have u3 := Tryz.underlying3
  have u4 := Tryz.underlying31
  have hS : Tryz.prog.underlying 37 = some (.struct (Tryz.prog.fieldsOf 37)) := by kernel_rfl
  have hp : Tryz.prog.stoodInHeld 37 = false := by kernel_rfl
  rw [show (10000 : Nat) = 9999 + 1 from rfl, run_equalIn_agg w 9999 37 _ _ hS hp]
  simp only [Program.fieldsOf, Tryz.underlying37]
  go_simp

theorem eqTap (w : World) (a b d e f : Int) (c : ByteArray) : (Op.equalIn 10000 47 (.agg #[.int .i64 a, .int .i64 b, .string c, .int .i64 d, .int .i64 e, .int .i64 f]) (.agg #[.int .i64 a, .int .i64 b, .string c, .int .i64 d, .int .i64 e, .int .i64 f])).run Tryz.prog w = .ok true w := by
  have u3 := Tryz.underlying3
  have u4 := Tryz.underlying9
  have hS : Tryz.prog.underlying 47 = some (.struct (Tryz.prog.fieldsOf 47)) := by kernel_rfl
  have hp : Tryz.prog.stoodInHeld 47 = false := by kernel_rfl
  rw [show (10000 : Nat) = 9999 + 1 from rfl, run_equalIn_agg w 9999 47 _ _ hS hp]
  simp only [Program.fieldsOf, Tryz.underlying47]
  go_simp

abbrev awTok : ByteArray := ⟨#[97, 98, 99, 100, 101, 102, 103, 104]⟩
abbrev awBs : List UInt8 := [0, 1, 0, 0, 0, 2, 97, 98, 99, 100, 101, 102, 103, 104, 1, 1, 2, 0, 0, 0, 5]
theorem aw_w : tapW ⟨1, 2, awTok, 1, 258, 5⟩ = (awBs, 0) := by kernel_rfl
theorem aw_r : tapRd awBs = (⟨1, 2, awTok, 1, 258, 5⟩, 0, 0) := by kernel_rfl
theorem aw_4 : tapW ⟨1, 2, awTok, 4, 258, 5⟩ = ([], 80) := by kernel_rfl

set_option maxHeartbeats 1000000 in
theorem awake_any (w : World) : Calls Tryz.prog 4 #[] w fun e w' => e = .returned (.bool true) ∧ Fr (fun _ => False) w w' := by
  have RW := hide (recTap_any ⟨1, 2, awTok, 1, 258, 5⟩)
  have R4 := hide (recTap_any ⟨1, 2, awTok, 4, 258, 5⟩)
  rw [aw_w] at RW
  rw [aw_4] at R4
  have RR := hide (fun (w : World) ao cap h => readTap_any w ao cap awBs h)
  rw [aw_r] at RR
  have hEF := eqFault
  unfold tpC at RW R4
  unfold ReadTap tpC at RR
  simp only at RW R4 RR
  go_enter Tryz.func4, Tryz.ntmps4
  go_wp2_with fail
  refine (unhide RW _).mono ?_
  rintro e w1 ⟨ao, cap, gb, rfl, hrow, hgb, hF1⟩
  have HG : Hid (w.heap.size + 1 ≤ gb ∧ ao = some ⟨gb, 0, none⟩ ∧ 21 ≤ cap) := hide (by
    obtain ⟨ao', cap', e, q1, q2, q3, q4⟩ := hrow.shape
    injection e with e1 e2 e3
    subst e1 e3
    have h21 : 21 ≤ cap := q1
    exact ⟨by have := hgb (by omega); rw [heap_alloc] at this; exact this, q3 (by omega), h21⟩)
  have HR1 := hide hrow
  obtain ⟨B, HB⟩ : ∃ B, Hid (w.heap.size = B) := ⟨_, rfl⟩
  have HX1 : Hid (Fr (fun _ => False) w w1 ∧ Bx w1 B #[.int .i64 1, .int .i64 2, .string awTok, .int .i64 1, .int .i64 258, .int .i64 5] 47) := hide ⟨((Fr.refl _ w).alloc _).trans hF1 (fun _ _ t => t), by rw [← unhide HB]; exact (Bx.new _ _ _).keep hF1⟩
  rw [unhide HB] at ⊢
  clear hrow hgb hF1
  go_wp2_with fail
  refine (unhide RR _ ao cap ((unhide HR1).bin (by simp))).mono ?_
  rintro e w2 ⟨rfl, hF2⟩
  obtain ⟨x1, x2⟩ := unhide HX1
  have b2 := (x2.keep hF2).lt
  have t0 : w2.cell? ⟨B, 0, none⟩ = some (.int .i64 1) := (x2.keep hF2).cell 0
  have t1 : w2.cell? ⟨B, 1, none⟩ = some (.int .i64 2) := (x2.keep hF2).cell 1
  have t2 : w2.cell? ⟨B, 2, none⟩ = some (.string awTok) := (x2.keep hF2).cell 2
  have t3 : w2.cell? ⟨B, 3, none⟩ = some (.int .i64 1) := (x2.keep hF2).cell 3
  have t4 : w2.cell? ⟨B, 4, none⟩ = some (.int .i64 258) := (x2.keep hF2).cell 4
  have t5 : w2.cell? ⟨B, 5, none⟩ = some (.int .i64 5) := (x2.keep hF2).cell 5
  have z3 : w2.frozen? ⟨B, 3, none⟩ = false := (x2.keep hF2).frozen 3
  have HR2 := hide ((unhide HR1).frame hF2 (fun t => t))
  have HF2 := hide (x1.trans hF2 (fun _ _ t => t))
  clear hF2 x1 x2 HX1 HR1
  go_wp2_with fail
  have HF3 : Hid (Fr (fun _ => False) w (((w2.setCell ⟨B, 3, none⟩ (.int .i64 4)).alloc (.cells #[.int .i64 1, .int .i64 2, .string awTok, .int .i64 1, .int .i64 258, .int .i64 5] 47)).alloc (.cells #[.int .i64 0, .int .i64 0] 37))) := hide ((((unhide HF2).setCell (p := ⟨B, 3, none⟩) (fun h => absurd h (by rw [← unhide HB]; exact Nat.lt_irrefl _)) _).alloc _).alloc _)
  refine (unhide R4 _).mono ?_
  rintro e w3 ⟨ao3, cap3, gb3, rfl, hrow3, hgb3, hF3⟩
  obtain ⟨hg1, hao, hc21⟩ := unhide HG
  have hBg : B ≠ gb := by rw [← unhide HB]; omega
  have hR3 : Row w3 (.slice ao awBs.length cap) gb awBs := ((((unhide HR2).stay (fun hx => (Below.heap_setCell _ _ _ _ hBg.symm))).stay (fun hx => Below.heap_alloc _ _ _ hx)).stay (fun hx => Below.heap_alloc _ _ _ hx)).frame hF3 (fun t => t)
  have i1 : w3.cell? ⟨gb, 1, none⟩ = some (.int .u8 1) := hR3.cells 1 (by decide)
  have i16 : w3.cell? ⟨gb, 16, none⟩ = some (.int .u8 2) := hR3.cells 16 (by decide)
  have hu := Bx.new (w2.setCell ⟨B, 3, none⟩ (.int .i64 4)) #[.int .i64 1, .int .i64 2, .string awTok, .int .i64 1, .int .i64 258, .int .i64 5] 47
  have hf := Bx.new ((w2.setCell ⟨B, 3, none⟩ (.int .i64 4)).alloc (.cells #[.int .i64 1, .int .i64 2, .string awTok, .int .i64 1, .int .i64 258, .int .i64 5] 47)) #[.int .i64 0, .int .i64 0] 37
  rw [heap_alloc] at hf
  have hsz : (w2.setCell ⟨B, 3, none⟩ (.int .i64 4)).heap.size = w2.heap.size := by simp [World.setCell]
  rw [hsz] at hu hf
  have u4 : w3.cell? ⟨w2.heap.size, 4, none⟩ = some (.int .i64 258) := ((hu.alloc _).keep hF3).cell 4
  have f0 : w3.cell? ⟨w2.heap.size + 1, 0, none⟩ = some (.int .i64 0) := (hf.keep hF3).cell 0
  have f1 : w3.cell? ⟨w2.heap.size + 1, 1, none⟩ = some (.int .i64 0) := (hf.keep hF3).cell 1
  have HF4 := hide ((unhide HF3).trans hF3 (fun _ _ t => t))
  clear hrow3 hgb3 hF3 hR3 hu hf hsz t0 t1 t2 t3 t4 t5 z3 HR2 HF2 HF3 hg1 hBg b2
  subst hao
  go_wp2
  go_ret
  exact ⟨by first | rfl | simp, unhide HF4⟩

end Go.Proofs.YtkjoojamkbpfcaaGreat

