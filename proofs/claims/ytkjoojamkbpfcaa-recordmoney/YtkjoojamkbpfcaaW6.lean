/- The walk of the law RecordMoney. -/
import Derived.Test.YtkjoojamkbpfcaaL3
namespace Go.Proofs.Ytkjoojamkbpfcaa
open Go.RowKit

set_option maxHeartbeats 4000000 in
set_option maxRecDepth 100000 in
theorem money_walk (w : World) (t : En) (hft : entryFits t) (a : Ac) (hfa : accountFits a) (ao : Option Addr) (cap : Nat) (bs : List UInt8) (hB : BInC w ao cap bs) :
    Calls Try.prog 6 #[.agg (enC t), .agg (acC a), .slice ao bs.length cap] w fun e w' => e = .returned (.bool true) ∧ Fr (fun _ => False) w w' := by
  have RP := hide (recEntry_any t)
  have RR := hide (refEntry_any t hft)
  have RQ := hide (recAccount_any a)
  have RS := hide (refAccount_any a hfa)
  obtain ⟨A, HA⟩ : ∃ A, Hid (entryW t = A) := ⟨_, rfl⟩
  obtain ⟨C, HC⟩ : ∃ A, Hid (accountW a = A) := ⟨_, rfl⟩
  have HLA : Hid (A.1.length ≤ 140737488355328) := hide (by rw [← unhide HA]; exact Nat.le_trans (entryW_le t) (by omega))
  have HLC : Hid (C.1.length ≤ 140737488355328) := hide (by rw [← unhide HC]; exact Nat.le_trans (accountW_le a) (by omega))
  rw [unhide HA] at RP RR
  rw [unhide HC] at RQ RS
  have RT := hide (fun (w : World) ao cap h => readEntry_any w ao cap bs h)
  have RU := hide (fun (w : World) ao cap h => readAccount_any w ao cap bs h)
  have RV := hide (fun (w : World) ao cap h => refReadEntry_any w ao cap bs h)
  have RW := hide (fun (w : World) ao cap h => refReadAccount_any w ao cap bs h)
  obtain ⟨X, HX⟩ : ∃ R, Hid (entryRd bs = R) := ⟨_, rfl⟩
  obtain ⟨Y, HY⟩ : ∃ R, Hid (accountRd bs = R) := ⟨_, rfl⟩
  rw [unhide HX] at RT RV
  rw [unhide HY] at RU RW
  have HB := hide hB
  have hEF := eqFault
  have hEE := eqEntry
  have hEA := eqAccount
  unfold enC acC at *
  unfold ReadEntry enC at RT RV
  unfold ReadAccount acC at RU RW
  obtain ⟨run, tok, amount, paid⟩ := t
  obtain ⟨atok, charged, apaid⟩ := a
  obtain ⟨⟨run2, tok2, amount2, paid2⟩, Xc, Xf⟩ := X
  obtain ⟨⟨atok2, charged2, apaid2⟩, Yc, Yf⟩ := Y
  obtain ⟨eb, ec⟩ := A
  obtain ⟨cb, cc⟩ := C
  simp only at RP RQ RR RS RT RU RV RW HLA HLC ⊢
  clear hB HA HC HX HY hft hfa
  go_enter Try.func6, Try.ntmps6
  go_wp2_with fail
  refine (awake_any _).mono ?_
  rintro e w1 ⟨rfl, hF1⟩
  obtain ⟨B, HBe⟩ : ∃ B, Hid (w.heap.size = B) := ⟨_, rfl⟩
  obtain ⟨B2, HB2⟩ : ∃ B2, Hid (B + 1 = B2) := ⟨_, rfl⟩
  have HX0 : Hid (Fr (fun _ => False) w w1 ∧ Bx w1 B #[.int .i64 run, .string tok, .int .i64 amount, .bool paid] 48 ∧ Bx w1 B2 #[.string atok, .int .i64 charged, .int .i64 apaid] 50) := hide (by
    have h2 := Bx.new (w.alloc (.cells #[.int .i64 run, .string tok, .int .i64 amount, .bool paid] 48)) #[.string atok, .int .i64 charged, .int .i64 apaid] 50
    rw [heap_alloc] at h2
    refine ⟨(((Fr.refl _ w).alloc _).alloc _).trans hF1 (fun _ _ t => t), ?_, ?_⟩
    · rw [← unhide HBe]; exact ((Bx.new _ _ _).alloc _).keep hF1
    · rw [← unhide HB2, ← unhide HBe]; exact h2.keep hF1)
  rw [unhide HBe, unhide HB2] at ⊢
  clear hF1
  have t_0 : w1.cell? ⟨B, 0, none⟩ = some (.int .i64 run) := (unhide HX0).2.1.cell 0
  have t_1 : w1.cell? ⟨B, 1, none⟩ = some (.string tok) := (unhide HX0).2.1.cell 1
  have t_2 : w1.cell? ⟨B, 2, none⟩ = some (.int .i64 amount) := (unhide HX0).2.1.cell 2
  have t_3 : w1.cell? ⟨B, 3, none⟩ = some (.bool paid) := (unhide HX0).2.1.cell 3
  go_wp2_with fail
  refine (unhide RP _).mono ?_
  rintro e w2 ⟨po, pc, pg, rfl, hrow, hxg, hF⟩
  have HX1 : Hid (Fr (fun _ => False) w w2 ∧ Bx w2 B #[.int .i64 run, .string tok, .int .i64 amount, .bool paid] 48 ∧ Bx w2 B2 #[.string atok, .int .i64 charged, .int .i64 apaid] 50 ∧ Row w2 (.slice po eb.length pc) pg eb) := hide (by
    obtain ⟨k0_, k1_, k2_⟩ := unhide HX0
    have hA : Fr (fun _ => False) w1 w2 := hF
    exact ⟨k0_.trans hA (fun _ _ t => t), k1_.keep hA, k2_.keep hA, hrow⟩)
  clear t_0 t_1 t_2 t_3 hrow hxg hF HX0
  have t_0 : w2.cell? ⟨B2, 0, none⟩ = some (.string atok) := (unhide HX1).2.2.1.cell 0
  have t_1 : w2.cell? ⟨B2, 1, none⟩ = some (.int .i64 charged) := (unhide HX1).2.2.1.cell 1
  have t_2 : w2.cell? ⟨B2, 2, none⟩ = some (.int .i64 apaid) := (unhide HX1).2.2.1.cell 2
  go_wp2_with fail
  refine (unhide RQ _).mono ?_
  rintro e w3 ⟨qo, qc, qg, rfl, hrow, hxg, hF⟩
  have HX2 : Hid (Fr (fun _ => False) w w3 ∧ Bx w3 B #[.int .i64 run, .string tok, .int .i64 amount, .bool paid] 48 ∧ Bx w3 B2 #[.string atok, .int .i64 charged, .int .i64 apaid] 50 ∧ Row w3 (.slice po eb.length pc) pg eb ∧ Row w3 (.slice qo cb.length qc) qg cb) := hide (by
    obtain ⟨k0_, k1_, k2_, k3_⟩ := unhide HX1
    have hA : Fr (fun _ => False) w2 w3 := hF
    exact ⟨k0_.trans hA (fun _ _ t => t), k1_.keep hA, k2_.keep hA, k3_.frame hA (fun t => t), hrow⟩)
  clear t_0 t_1 t_2 hrow hxg hF HX1
  have t_0 : w3.cell? ⟨B, 0, none⟩ = some (.int .i64 run) := (unhide HX2).2.1.cell 0
  have t_1 : w3.cell? ⟨B, 1, none⟩ = some (.string tok) := (unhide HX2).2.1.cell 1
  have t_2 : w3.cell? ⟨B, 2, none⟩ = some (.int .i64 amount) := (unhide HX2).2.1.cell 2
  have t_3 : w3.cell? ⟨B, 3, none⟩ = some (.bool paid) := (unhide HX2).2.1.cell 3
  go_wp2_with fail
  refine (unhide RR _).mono ?_
  rintro e w4 ⟨ro, rc, rg, rfl, hrow, hxg, hF⟩
  have HX3 : Hid (Fr (fun _ => False) w w4 ∧ Bx w4 B #[.int .i64 run, .string tok, .int .i64 amount, .bool paid] 48 ∧ Bx w4 B2 #[.string atok, .int .i64 charged, .int .i64 apaid] 50 ∧ Row w4 (.slice po eb.length pc) pg eb ∧ Row w4 (.slice qo cb.length qc) qg cb ∧ Row w4 (.slice ro eb.length rc) rg eb) := hide (by
    obtain ⟨k0_, k1_, k2_, k3_, k4_⟩ := unhide HX2
    have hA : Fr (fun _ => False) w3 w4 := hF
    exact ⟨k0_.trans hA (fun _ _ t => t), k1_.keep hA, k2_.keep hA, k3_.frame hA (fun t => t), k4_.frame hA (fun t => t), hrow⟩)
  clear t_0 t_1 t_2 t_3 hrow hxg hF HX2
  have t_0 : w4.cell? ⟨B2, 0, none⟩ = some (.string atok) := (unhide HX3).2.2.1.cell 0
  have t_1 : w4.cell? ⟨B2, 1, none⟩ = some (.int .i64 charged) := (unhide HX3).2.2.1.cell 1
  have t_2 : w4.cell? ⟨B2, 2, none⟩ = some (.int .i64 apaid) := (unhide HX3).2.2.1.cell 2
  go_wp2_with fail
  refine (unhide RS _).mono ?_
  rintro e w5 ⟨so, sc, sg, rfl, hrow, hxg, hF⟩
  have HX4 : Hid (Fr (fun _ => False) w w5 ∧ Bx w5 B #[.int .i64 run, .string tok, .int .i64 amount, .bool paid] 48 ∧ Bx w5 B2 #[.string atok, .int .i64 charged, .int .i64 apaid] 50 ∧ Row w5 (.slice po eb.length pc) pg eb ∧ Row w5 (.slice qo cb.length qc) qg cb ∧ Row w5 (.slice ro eb.length rc) rg eb ∧ Row w5 (.slice so cb.length sc) sg cb) := hide (by
    obtain ⟨k0_, k1_, k2_, k3_, k4_, k5_⟩ := unhide HX3
    have hA : Fr (fun _ => False) w4 w5 := hF
    exact ⟨k0_.trans hA (fun _ _ t => t), k1_.keep hA, k2_.keep hA, k3_.frame hA (fun t => t), k4_.frame hA (fun t => t), k5_.frame hA (fun t => t), hrow⟩)
  clear t_0 t_1 t_2 hrow hxg hF HX3
  go_wp2_with fail
  refine (unhide RT _ ao cap ((unhide HB).keep (unhide HX4).1).b).mono ?_
  rintro e w6 ⟨rfl, hF⟩
  have HX5 : Hid (Fr (fun _ => False) w ((w6.alloc (.cells #[.int .i64 run2, .string tok2, .int .i64 amount2, .bool paid2] 48)).alloc (.cells #[.int .i64 Xc, .int .i64 Xf] 31)) ∧ Bx ((w6.alloc (.cells #[.int .i64 run2, .string tok2, .int .i64 amount2, .bool paid2] 48)).alloc (.cells #[.int .i64 Xc, .int .i64 Xf] 31)) B #[.int .i64 run, .string tok, .int .i64 amount, .bool paid] 48 ∧ Bx ((w6.alloc (.cells #[.int .i64 run2, .string tok2, .int .i64 amount2, .bool paid2] 48)).alloc (.cells #[.int .i64 Xc, .int .i64 Xf] 31)) B2 #[.string atok, .int .i64 charged, .int .i64 apaid] 50 ∧ Row ((w6.alloc (.cells #[.int .i64 run2, .string tok2, .int .i64 amount2, .bool paid2] 48)).alloc (.cells #[.int .i64 Xc, .int .i64 Xf] 31)) (.slice po eb.length pc) pg eb ∧ Row ((w6.alloc (.cells #[.int .i64 run2, .string tok2, .int .i64 amount2, .bool paid2] 48)).alloc (.cells #[.int .i64 Xc, .int .i64 Xf] 31)) (.slice qo cb.length qc) qg cb ∧ Row ((w6.alloc (.cells #[.int .i64 run2, .string tok2, .int .i64 amount2, .bool paid2] 48)).alloc (.cells #[.int .i64 Xc, .int .i64 Xf] 31)) (.slice ro eb.length rc) rg eb ∧ Row ((w6.alloc (.cells #[.int .i64 run2, .string tok2, .int .i64 amount2, .bool paid2] 48)).alloc (.cells #[.int .i64 Xc, .int .i64 Xf] 31)) (.slice so cb.length sc) sg cb ∧ Bx ((w6.alloc (.cells #[.int .i64 run2, .string tok2, .int .i64 amount2, .bool paid2] 48)).alloc (.cells #[.int .i64 Xc, .int .i64 Xf] 31)) w6.heap.size #[.int .i64 run2, .string tok2, .int .i64 amount2, .bool paid2] 48 ∧ Bx ((w6.alloc (.cells #[.int .i64 run2, .string tok2, .int .i64 amount2, .bool paid2] 48)).alloc (.cells #[.int .i64 Xc, .int .i64 Xf] 31)) (w6.heap.size + 1) #[.int .i64 Xc, .int .i64 Xf] 31) := hide (by
    obtain ⟨k0_, k1_, k2_, k3_, k4_, k5_, k6_⟩ := unhide HX4
    have hA : Fr (fun _ => False) w5 ((w6.alloc (.cells #[.int .i64 run2, .string tok2, .int .i64 amount2, .bool paid2] 48)).alloc (.cells #[.int .i64 Xc, .int .i64 Xf] 31)) := (hF.alloc _).alloc _
    have h2_ := Bx.new (w6.alloc (.cells #[.int .i64 run2, .string tok2, .int .i64 amount2, .bool paid2] 48)) #[.int .i64 Xc, .int .i64 Xf] 31
    rw [heap_alloc] at h2_
    exact ⟨k0_.trans hA (fun _ _ t => t), k1_.keep hA, k2_.keep hA, k3_.frame hA (fun t => t), k4_.frame hA (fun t => t), k5_.frame hA (fun t => t), k6_.frame hA (fun t => t), (Bx.new _ _ _).alloc _, h2_⟩)
  clear hF HX4
  go_wp2_with fail
  generalize (w6.alloc (.cells #[.int .i64 run2, .string tok2, .int .i64 amount2, .bool paid2] 48)).alloc (.cells #[.int .i64 Xc, .int .i64 Xf] 31) = w6g at *
  obtain ⟨U1, HU1⟩ : ∃ U, Hid (w6.heap.size = U) := ⟨_, rfl⟩
  obtain ⟨V1, HV1⟩ : ∃ V, Hid (U1 + 1 = V) := ⟨_, rfl⟩
  rw [unhide HU1, unhide HV1] at HX5 ⊢
  refine (unhide RU _ ao cap ((unhide HB).keep (unhide HX5).1).b).mono ?_
  rintro e w7 ⟨rfl, hF⟩
  have HX6 : Hid (Fr (fun _ => False) w ((w7.alloc (.cells #[.string atok2, .int .i64 charged2, .int .i64 apaid2] 50)).alloc (.cells #[.int .i64 Yc, .int .i64 Yf] 31)) ∧ Bx ((w7.alloc (.cells #[.string atok2, .int .i64 charged2, .int .i64 apaid2] 50)).alloc (.cells #[.int .i64 Yc, .int .i64 Yf] 31)) B #[.int .i64 run, .string tok, .int .i64 amount, .bool paid] 48 ∧ Bx ((w7.alloc (.cells #[.string atok2, .int .i64 charged2, .int .i64 apaid2] 50)).alloc (.cells #[.int .i64 Yc, .int .i64 Yf] 31)) B2 #[.string atok, .int .i64 charged, .int .i64 apaid] 50 ∧ Row ((w7.alloc (.cells #[.string atok2, .int .i64 charged2, .int .i64 apaid2] 50)).alloc (.cells #[.int .i64 Yc, .int .i64 Yf] 31)) (.slice po eb.length pc) pg eb ∧ Row ((w7.alloc (.cells #[.string atok2, .int .i64 charged2, .int .i64 apaid2] 50)).alloc (.cells #[.int .i64 Yc, .int .i64 Yf] 31)) (.slice qo cb.length qc) qg cb ∧ Row ((w7.alloc (.cells #[.string atok2, .int .i64 charged2, .int .i64 apaid2] 50)).alloc (.cells #[.int .i64 Yc, .int .i64 Yf] 31)) (.slice ro eb.length rc) rg eb ∧ Row ((w7.alloc (.cells #[.string atok2, .int .i64 charged2, .int .i64 apaid2] 50)).alloc (.cells #[.int .i64 Yc, .int .i64 Yf] 31)) (.slice so cb.length sc) sg cb ∧ Bx ((w7.alloc (.cells #[.string atok2, .int .i64 charged2, .int .i64 apaid2] 50)).alloc (.cells #[.int .i64 Yc, .int .i64 Yf] 31)) U1 #[.int .i64 run2, .string tok2, .int .i64 amount2, .bool paid2] 48 ∧ Bx ((w7.alloc (.cells #[.string atok2, .int .i64 charged2, .int .i64 apaid2] 50)).alloc (.cells #[.int .i64 Yc, .int .i64 Yf] 31)) V1 #[.int .i64 Xc, .int .i64 Xf] 31 ∧ Bx ((w7.alloc (.cells #[.string atok2, .int .i64 charged2, .int .i64 apaid2] 50)).alloc (.cells #[.int .i64 Yc, .int .i64 Yf] 31)) w7.heap.size #[.string atok2, .int .i64 charged2, .int .i64 apaid2] 50 ∧ Bx ((w7.alloc (.cells #[.string atok2, .int .i64 charged2, .int .i64 apaid2] 50)).alloc (.cells #[.int .i64 Yc, .int .i64 Yf] 31)) (w7.heap.size + 1) #[.int .i64 Yc, .int .i64 Yf] 31) := hide (by
    obtain ⟨k0_, k1_, k2_, k3_, k4_, k5_, k6_, k7_, k8_⟩ := unhide HX5
    have hA : Fr (fun _ => False) w6g ((w7.alloc (.cells #[.string atok2, .int .i64 charged2, .int .i64 apaid2] 50)).alloc (.cells #[.int .i64 Yc, .int .i64 Yf] 31)) := (hF.alloc _).alloc _
    have h2_ := Bx.new (w7.alloc (.cells #[.string atok2, .int .i64 charged2, .int .i64 apaid2] 50)) #[.int .i64 Yc, .int .i64 Yf] 31
    rw [heap_alloc] at h2_
    exact ⟨k0_.trans hA (fun _ _ t => t), k1_.keep hA, k2_.keep hA, k3_.frame hA (fun t => t), k4_.frame hA (fun t => t), k5_.frame hA (fun t => t), k6_.frame hA (fun t => t), k7_.keep hA, k8_.keep hA, (Bx.new _ _ _).alloc _, h2_⟩)
  clear hF HX5
  go_wp2_with fail
  generalize (w7.alloc (.cells #[.string atok2, .int .i64 charged2, .int .i64 apaid2] 50)).alloc (.cells #[.int .i64 Yc, .int .i64 Yf] 31) = w7g at *
  obtain ⟨U2, HU2⟩ : ∃ U, Hid (w7.heap.size = U) := ⟨_, rfl⟩
  obtain ⟨V2, HV2⟩ : ∃ V, Hid (U2 + 1 = V) := ⟨_, rfl⟩
  rw [unhide HU2, unhide HV2] at HX6 ⊢
  refine (unhide RV _ ao cap ((unhide HB).keep (unhide HX6).1)).mono ?_
  rintro e w8 ⟨rfl, hF⟩
  have HX7 : Hid (Fr (fun _ => False) w ((w8.alloc (.cells #[.int .i64 run2, .string tok2, .int .i64 amount2, .bool paid2] 48)).alloc (.cells #[.int .i64 Xc, .int .i64 Xf] 31)) ∧ Bx ((w8.alloc (.cells #[.int .i64 run2, .string tok2, .int .i64 amount2, .bool paid2] 48)).alloc (.cells #[.int .i64 Xc, .int .i64 Xf] 31)) B #[.int .i64 run, .string tok, .int .i64 amount, .bool paid] 48 ∧ Bx ((w8.alloc (.cells #[.int .i64 run2, .string tok2, .int .i64 amount2, .bool paid2] 48)).alloc (.cells #[.int .i64 Xc, .int .i64 Xf] 31)) B2 #[.string atok, .int .i64 charged, .int .i64 apaid] 50 ∧ Row ((w8.alloc (.cells #[.int .i64 run2, .string tok2, .int .i64 amount2, .bool paid2] 48)).alloc (.cells #[.int .i64 Xc, .int .i64 Xf] 31)) (.slice po eb.length pc) pg eb ∧ Row ((w8.alloc (.cells #[.int .i64 run2, .string tok2, .int .i64 amount2, .bool paid2] 48)).alloc (.cells #[.int .i64 Xc, .int .i64 Xf] 31)) (.slice qo cb.length qc) qg cb ∧ Row ((w8.alloc (.cells #[.int .i64 run2, .string tok2, .int .i64 amount2, .bool paid2] 48)).alloc (.cells #[.int .i64 Xc, .int .i64 Xf] 31)) (.slice ro eb.length rc) rg eb ∧ Row ((w8.alloc (.cells #[.int .i64 run2, .string tok2, .int .i64 amount2, .bool paid2] 48)).alloc (.cells #[.int .i64 Xc, .int .i64 Xf] 31)) (.slice so cb.length sc) sg cb ∧ Bx ((w8.alloc (.cells #[.int .i64 run2, .string tok2, .int .i64 amount2, .bool paid2] 48)).alloc (.cells #[.int .i64 Xc, .int .i64 Xf] 31)) U1 #[.int .i64 run2, .string tok2, .int .i64 amount2, .bool paid2] 48 ∧ Bx ((w8.alloc (.cells #[.int .i64 run2, .string tok2, .int .i64 amount2, .bool paid2] 48)).alloc (.cells #[.int .i64 Xc, .int .i64 Xf] 31)) V1 #[.int .i64 Xc, .int .i64 Xf] 31 ∧ Bx ((w8.alloc (.cells #[.int .i64 run2, .string tok2, .int .i64 amount2, .bool paid2] 48)).alloc (.cells #[.int .i64 Xc, .int .i64 Xf] 31)) U2 #[.string atok2, .int .i64 charged2, .int .i64 apaid2] 50 ∧ Bx ((w8.alloc (.cells #[.int .i64 run2, .string tok2, .int .i64 amount2, .bool paid2] 48)).alloc (.cells #[.int .i64 Xc, .int .i64 Xf] 31)) V2 #[.int .i64 Yc, .int .i64 Yf] 31 ∧ Bx ((w8.alloc (.cells #[.int .i64 run2, .string tok2, .int .i64 amount2, .bool paid2] 48)).alloc (.cells #[.int .i64 Xc, .int .i64 Xf] 31)) w8.heap.size #[.int .i64 run2, .string tok2, .int .i64 amount2, .bool paid2] 48 ∧ Bx ((w8.alloc (.cells #[.int .i64 run2, .string tok2, .int .i64 amount2, .bool paid2] 48)).alloc (.cells #[.int .i64 Xc, .int .i64 Xf] 31)) (w8.heap.size + 1) #[.int .i64 Xc, .int .i64 Xf] 31) := hide (by
    obtain ⟨k0_, k1_, k2_, k3_, k4_, k5_, k6_, k7_, k8_, k9_, k10_⟩ := unhide HX6
    have hA : Fr (fun _ => False) w7g ((w8.alloc (.cells #[.int .i64 run2, .string tok2, .int .i64 amount2, .bool paid2] 48)).alloc (.cells #[.int .i64 Xc, .int .i64 Xf] 31)) := (hF.alloc _).alloc _
    have h2_ := Bx.new (w8.alloc (.cells #[.int .i64 run2, .string tok2, .int .i64 amount2, .bool paid2] 48)) #[.int .i64 Xc, .int .i64 Xf] 31
    rw [heap_alloc] at h2_
    exact ⟨k0_.trans hA (fun _ _ t => t), k1_.keep hA, k2_.keep hA, k3_.frame hA (fun t => t), k4_.frame hA (fun t => t), k5_.frame hA (fun t => t), k6_.frame hA (fun t => t), k7_.keep hA, k8_.keep hA, k9_.keep hA, k10_.keep hA, (Bx.new _ _ _).alloc _, h2_⟩)
  clear hF HX6
  go_wp2_with fail
  generalize (w8.alloc (.cells #[.int .i64 run2, .string tok2, .int .i64 amount2, .bool paid2] 48)).alloc (.cells #[.int .i64 Xc, .int .i64 Xf] 31) = w8g at *
  obtain ⟨U3, HU3⟩ : ∃ U, Hid (w8.heap.size = U) := ⟨_, rfl⟩
  obtain ⟨V3, HV3⟩ : ∃ V, Hid (U3 + 1 = V) := ⟨_, rfl⟩
  rw [unhide HU3, unhide HV3] at HX7 ⊢
  refine (unhide RW _ ao cap ((unhide HB).keep (unhide HX7).1)).mono ?_
  rintro e w9 ⟨rfl, hF⟩
  have HX8 : Hid (Fr (fun _ => False) w ((w9.alloc (.cells #[.string atok2, .int .i64 charged2, .int .i64 apaid2] 50)).alloc (.cells #[.int .i64 Yc, .int .i64 Yf] 31)) ∧ Bx ((w9.alloc (.cells #[.string atok2, .int .i64 charged2, .int .i64 apaid2] 50)).alloc (.cells #[.int .i64 Yc, .int .i64 Yf] 31)) B #[.int .i64 run, .string tok, .int .i64 amount, .bool paid] 48 ∧ Bx ((w9.alloc (.cells #[.string atok2, .int .i64 charged2, .int .i64 apaid2] 50)).alloc (.cells #[.int .i64 Yc, .int .i64 Yf] 31)) B2 #[.string atok, .int .i64 charged, .int .i64 apaid] 50 ∧ Row ((w9.alloc (.cells #[.string atok2, .int .i64 charged2, .int .i64 apaid2] 50)).alloc (.cells #[.int .i64 Yc, .int .i64 Yf] 31)) (.slice po eb.length pc) pg eb ∧ Row ((w9.alloc (.cells #[.string atok2, .int .i64 charged2, .int .i64 apaid2] 50)).alloc (.cells #[.int .i64 Yc, .int .i64 Yf] 31)) (.slice qo cb.length qc) qg cb ∧ Row ((w9.alloc (.cells #[.string atok2, .int .i64 charged2, .int .i64 apaid2] 50)).alloc (.cells #[.int .i64 Yc, .int .i64 Yf] 31)) (.slice ro eb.length rc) rg eb ∧ Row ((w9.alloc (.cells #[.string atok2, .int .i64 charged2, .int .i64 apaid2] 50)).alloc (.cells #[.int .i64 Yc, .int .i64 Yf] 31)) (.slice so cb.length sc) sg cb ∧ Bx ((w9.alloc (.cells #[.string atok2, .int .i64 charged2, .int .i64 apaid2] 50)).alloc (.cells #[.int .i64 Yc, .int .i64 Yf] 31)) U1 #[.int .i64 run2, .string tok2, .int .i64 amount2, .bool paid2] 48 ∧ Bx ((w9.alloc (.cells #[.string atok2, .int .i64 charged2, .int .i64 apaid2] 50)).alloc (.cells #[.int .i64 Yc, .int .i64 Yf] 31)) V1 #[.int .i64 Xc, .int .i64 Xf] 31 ∧ Bx ((w9.alloc (.cells #[.string atok2, .int .i64 charged2, .int .i64 apaid2] 50)).alloc (.cells #[.int .i64 Yc, .int .i64 Yf] 31)) U2 #[.string atok2, .int .i64 charged2, .int .i64 apaid2] 50 ∧ Bx ((w9.alloc (.cells #[.string atok2, .int .i64 charged2, .int .i64 apaid2] 50)).alloc (.cells #[.int .i64 Yc, .int .i64 Yf] 31)) V2 #[.int .i64 Yc, .int .i64 Yf] 31 ∧ Bx ((w9.alloc (.cells #[.string atok2, .int .i64 charged2, .int .i64 apaid2] 50)).alloc (.cells #[.int .i64 Yc, .int .i64 Yf] 31)) U3 #[.int .i64 run2, .string tok2, .int .i64 amount2, .bool paid2] 48 ∧ Bx ((w9.alloc (.cells #[.string atok2, .int .i64 charged2, .int .i64 apaid2] 50)).alloc (.cells #[.int .i64 Yc, .int .i64 Yf] 31)) V3 #[.int .i64 Xc, .int .i64 Xf] 31 ∧ Bx ((w9.alloc (.cells #[.string atok2, .int .i64 charged2, .int .i64 apaid2] 50)).alloc (.cells #[.int .i64 Yc, .int .i64 Yf] 31)) w9.heap.size #[.string atok2, .int .i64 charged2, .int .i64 apaid2] 50 ∧ Bx ((w9.alloc (.cells #[.string atok2, .int .i64 charged2, .int .i64 apaid2] 50)).alloc (.cells #[.int .i64 Yc, .int .i64 Yf] 31)) (w9.heap.size + 1) #[.int .i64 Yc, .int .i64 Yf] 31) := hide (by
    obtain ⟨k0_, k1_, k2_, k3_, k4_, k5_, k6_, k7_, k8_, k9_, k10_, k11_, k12_⟩ := unhide HX7
    have hA : Fr (fun _ => False) w8g ((w9.alloc (.cells #[.string atok2, .int .i64 charged2, .int .i64 apaid2] 50)).alloc (.cells #[.int .i64 Yc, .int .i64 Yf] 31)) := (hF.alloc _).alloc _
    have h2_ := Bx.new (w9.alloc (.cells #[.string atok2, .int .i64 charged2, .int .i64 apaid2] 50)) #[.int .i64 Yc, .int .i64 Yf] 31
    rw [heap_alloc] at h2_
    exact ⟨k0_.trans hA (fun _ _ t => t), k1_.keep hA, k2_.keep hA, k3_.frame hA (fun t => t), k4_.frame hA (fun t => t), k5_.frame hA (fun t => t), k6_.frame hA (fun t => t), k7_.keep hA, k8_.keep hA, k9_.keep hA, k10_.keep hA, k11_.keep hA, k12_.keep hA, (Bx.new _ _ _).alloc _, h2_⟩)
  clear hF HX7
  go_wp2_with fail
  generalize (w9.alloc (.cells #[.string atok2, .int .i64 charged2, .int .i64 apaid2] 50)).alloc (.cells #[.int .i64 Yc, .int .i64 Yf] 31) = w9g at *
  obtain ⟨U4, HU4⟩ : ∃ U, Hid (w9.heap.size = U) := ⟨_, rfl⟩
  obtain ⟨V4, HV4⟩ : ∃ V, Hid (U4 + 1 = V) := ⟨_, rfl⟩
  rw [unhide HU4, unhide HV4] at HX8 ⊢
  refine (same_is ((unhide HX8).2.2.2.1.bin (unhide HLA)) ((unhide HX8).2.2.2.2.2.1.bin (unhide HLA))).mono ?_
  rintro e q ⟨rfl, hq⟩
  obtain rfl := hq.symm
  go_wp2_with fail
  refine (same_is ((unhide HX8).2.2.2.2.1.bin (unhide HLC)) ((unhide HX8).2.2.2.2.2.2.1.bin (unhide HLC))).mono ?_
  rintro e q ⟨rfl, hq⟩
  obtain rfl := hq.symm
  have u1_0 : w9g.cell? ⟨U1, 0, none⟩ = some (.int .i64 run2) := (unhide HX8).2.2.2.2.2.2.2.1.cell 0
  have u1_1 : w9g.cell? ⟨U1, 1, none⟩ = some (.string tok2) := (unhide HX8).2.2.2.2.2.2.2.1.cell 1
  have u1_2 : w9g.cell? ⟨U1, 2, none⟩ = some (.int .i64 amount2) := (unhide HX8).2.2.2.2.2.2.2.1.cell 2
  have u1_3 : w9g.cell? ⟨U1, 3, none⟩ = some (.bool paid2) := (unhide HX8).2.2.2.2.2.2.2.1.cell 3
  have u2_0 : w9g.cell? ⟨U2, 0, none⟩ = some (.string atok2) := (unhide HX8).2.2.2.2.2.2.2.2.2.1.cell 0
  have u2_1 : w9g.cell? ⟨U2, 1, none⟩ = some (.int .i64 charged2) := (unhide HX8).2.2.2.2.2.2.2.2.2.1.cell 1
  have u2_2 : w9g.cell? ⟨U2, 2, none⟩ = some (.int .i64 apaid2) := (unhide HX8).2.2.2.2.2.2.2.2.2.1.cell 2
  have u3_0 : w9g.cell? ⟨U3, 0, none⟩ = some (.int .i64 run2) := (unhide HX8).2.2.2.2.2.2.2.2.2.2.2.1.cell 0
  have u3_1 : w9g.cell? ⟨U3, 1, none⟩ = some (.string tok2) := (unhide HX8).2.2.2.2.2.2.2.2.2.2.2.1.cell 1
  have u3_2 : w9g.cell? ⟨U3, 2, none⟩ = some (.int .i64 amount2) := (unhide HX8).2.2.2.2.2.2.2.2.2.2.2.1.cell 2
  have u3_3 : w9g.cell? ⟨U3, 3, none⟩ = some (.bool paid2) := (unhide HX8).2.2.2.2.2.2.2.2.2.2.2.1.cell 3
  have u4_0 : w9g.cell? ⟨U4, 0, none⟩ = some (.string atok2) := (unhide HX8).2.2.2.2.2.2.2.2.2.2.2.2.2.1.cell 0
  have u4_1 : w9g.cell? ⟨U4, 1, none⟩ = some (.int .i64 charged2) := (unhide HX8).2.2.2.2.2.2.2.2.2.2.2.2.2.1.cell 1
  have u4_2 : w9g.cell? ⟨U4, 2, none⟩ = some (.int .i64 apaid2) := (unhide HX8).2.2.2.2.2.2.2.2.2.2.2.2.2.1.cell 2
  have v1_0 : w9g.cell? ⟨V1, 0, none⟩ = some (.int .i64 Xc) := (unhide HX8).2.2.2.2.2.2.2.2.1.cell 0
  have v1_1 : w9g.cell? ⟨V1, 1, none⟩ = some (.int .i64 Xf) := (unhide HX8).2.2.2.2.2.2.2.2.1.cell 1
  have v2_0 : w9g.cell? ⟨V2, 0, none⟩ = some (.int .i64 Yc) := (unhide HX8).2.2.2.2.2.2.2.2.2.2.1.cell 0
  have v2_1 : w9g.cell? ⟨V2, 1, none⟩ = some (.int .i64 Yf) := (unhide HX8).2.2.2.2.2.2.2.2.2.2.1.cell 1
  have v3_0 : w9g.cell? ⟨V3, 0, none⟩ = some (.int .i64 Xc) := (unhide HX8).2.2.2.2.2.2.2.2.2.2.2.2.1.cell 0
  have v3_1 : w9g.cell? ⟨V3, 1, none⟩ = some (.int .i64 Xf) := (unhide HX8).2.2.2.2.2.2.2.2.2.2.2.2.1.cell 1
  have v4_0 : w9g.cell? ⟨V4, 0, none⟩ = some (.int .i64 Yc) := (unhide HX8).2.2.2.2.2.2.2.2.2.2.2.2.2.2.cell 0
  have v4_1 : w9g.cell? ⟨V4, 1, none⟩ = some (.int .i64 Yf) := (unhide HX8).2.2.2.2.2.2.2.2.2.2.2.2.2.2.cell 1
  go_wp2
  go_ret
  exact ⟨by first | rfl | simp, (unhide HX8).1⟩

end Go.Proofs.Ytkjoojamkbpfcaa
