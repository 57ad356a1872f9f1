/- The walk of the law RecordKeys. -/
import Derived.Test.YtkjoojamkbpfcaaJ1
import Derived.Test.YtkjoojamkbpfcaaL2
namespace Go.Proofs.Ytkjoojamkbpfcaa
open Go.RowKit

theorem toList_of (l : List UInt8) : (⟨l.toArray⟩ : ByteArray).toList = l := by rw [ByteArray.toList_eq]
theorem toList_inj {a b : ByteArray} (h : a.toList = b.toList) : a = b := by
  rw [ByteArray.toList_eq, ByteArray.toList_eq] at h
  cases a with
  | mk a => cases b with
    | mk b => exact congrArg ByteArray.mk (Array.ext' h)

set_option maxHeartbeats 4000000 in
set_option maxRecDepth 100000 in
theorem keys_walk (w : World) (t u : Tp) :
    Calls Try.prog 4 #[.agg (tpC t), .agg (tpC u)] w fun e w' => e = .returned (.bool true) ∧ Fr (fun _ => False) w w' := by
  have RP := hide (recKey_any t)
  have RQ := hide (recKey_any u)
  have RR := hide (refKey_any t)
  have RS := hide (refKey_any u)
  have HO := hide (fun h1 h2 h3 => key_less t u h1 h2 h3)
  obtain ⟨bt, hbt⟩ : ∃ b, tapOk t = b := ⟨_, rfl⟩
  obtain ⟨bu, hbu⟩ : ∃ b, tapOk u = b := ⟨_, rfl⟩
  have HT : Hid (keyC t = (if bt then 0 else 80) ∧ keyS t = (if bt then keyL t else [])) := hide ⟨by unfold keyC; rw [hbt], by unfold keyS; rw [hbt]⟩
  have HU : Hid (keyC u = (if bu then 0 else 80) ∧ keyS u = (if bu then keyL u else [])) := hide ⟨by unfold keyC; rw [hbu], by unfold keyS; rw [hbu]⟩
  have HBT := hide hbt
  have HBU := hide hbu
  clear hbt hbu
  obtain ⟨kt, Hkt⟩ : ∃ k : ByteArray, Hid (k = ⟨(keyS t).toArray⟩) := ⟨_, rfl⟩
  obtain ⟨ku, Hku⟩ : ∃ k : ByteArray, Hid (k = ⟨(keyS u).toArray⟩) := ⟨_, rfl⟩
  obtain ⟨ct, Hct⟩ : ∃ k : Int, Hid (k = keyC t) := ⟨_, rfl⟩
  obtain ⟨cu, Hcu⟩ : ∃ k : Int, Hid (k = keyC u) := ⟨_, rfl⟩
  rw [← unhide Hkt, ← unhide Hct] at RP RR
  rw [← unhide Hku, ← unhide Hcu] at RQ RS
  unfold tpC at *
  obtain ⟨dev, ctr, tok, kind, place, time⟩ := t
  obtain ⟨dev2, ctr2, tok2, kind2, place2, time2⟩ := u
  simp only at RP RQ RR RS HO ⊢
  go_enter Try.func4, Try.ntmps4
  go_wp2_with fail
  refine (awake_any _).mono ?_
  rintro e w1 ⟨rfl, hF1⟩
  obtain ⟨B, HBe⟩ : ∃ B, Hid (w.heap.size = B) := ⟨_, rfl⟩
  obtain ⟨B2, HB2⟩ : ∃ B2, Hid (B + 1 = B2) := ⟨_, rfl⟩
  have HX1 : Hid (Fr (fun _ => False) w w1 ∧ Bx w1 B #[.int .i64 dev, .int .i64 ctr, .string tok, .int .i64 kind, .int .i64 place, .int .i64 time] 23 ∧ Bx w1 B2 #[.int .i64 dev2, .int .i64 ctr2, .string tok2, .int .i64 kind2, .int .i64 place2, .int .i64 time2] 23) := hide (by
    have h2 := Bx.new (w.alloc (.cells #[.int .i64 dev, .int .i64 ctr, .string tok, .int .i64 kind, .int .i64 place, .int .i64 time] 23)) #[.int .i64 dev2, .int .i64 ctr2, .string tok2, .int .i64 kind2, .int .i64 place2, .int .i64 time2] 23
    rw [heap_alloc] at h2
    refine ⟨(((Fr.refl _ w).alloc _).alloc _).trans hF1 (fun _ _ t => t), ?_, ?_⟩
    · rw [← unhide HBe]; exact ((Bx.new _ _ _).alloc _).keep hF1
    · rw [← unhide HB2, ← unhide HBe]; exact h2.keep hF1)
  rw [unhide HBe, unhide HB2]
  clear hF1
  have t0 : w1.cell? ⟨B, 0, none⟩ = some (.int .i64 dev) := (unhide HX1).2.1.cell 0
  have t1 : w1.cell? ⟨B, 1, none⟩ = some (.int .i64 ctr) := (unhide HX1).2.1.cell 1
  have t2 : w1.cell? ⟨B, 2, none⟩ = some (.string tok) := (unhide HX1).2.1.cell 2
  have t3 : w1.cell? ⟨B, 3, none⟩ = some (.int .i64 kind) := (unhide HX1).2.1.cell 3
  have t4 : w1.cell? ⟨B, 4, none⟩ = some (.int .i64 place) := (unhide HX1).2.1.cell 4
  have t5 : w1.cell? ⟨B, 5, none⟩ = some (.int .i64 time) := (unhide HX1).2.1.cell 5
  go_wp2_with fail
  refine (unhide RP _).mono ?_
  rintro e w2 ⟨rfl, hF⟩
  have HX2 : Hid (Fr (fun _ => False) w w2 ∧ Bx w2 B #[.int .i64 dev, .int .i64 ctr, .string tok, .int .i64 kind, .int .i64 place, .int .i64 time] 23 ∧ Bx w2 B2 #[.int .i64 dev2, .int .i64 ctr2, .string tok2, .int .i64 kind2, .int .i64 place2, .int .i64 time2] 23) := hide ⟨(unhide HX1).1.trans hF (fun _ _ t => t), (unhide HX1).2.1.keep hF, (unhide HX1).2.2.keep hF⟩
  clear hF t0 t1 t2 t3 t4 t5 HX1
  have t0 : w2.cell? ⟨B2, 0, none⟩ = some (.int .i64 dev2) := (unhide HX2).2.2.cell 0
  have t1 : w2.cell? ⟨B2, 1, none⟩ = some (.int .i64 ctr2) := (unhide HX2).2.2.cell 1
  have t2 : w2.cell? ⟨B2, 2, none⟩ = some (.string tok2) := (unhide HX2).2.2.cell 2
  have t3 : w2.cell? ⟨B2, 3, none⟩ = some (.int .i64 kind2) := (unhide HX2).2.2.cell 3
  have t4 : w2.cell? ⟨B2, 4, none⟩ = some (.int .i64 place2) := (unhide HX2).2.2.cell 4
  have t5 : w2.cell? ⟨B2, 5, none⟩ = some (.int .i64 time2) := (unhide HX2).2.2.cell 5
  go_wp2_with fail
  refine (unhide RQ _).mono ?_
  rintro e w3 ⟨rfl, hF⟩
  have HX3 : Hid (Fr (fun _ => False) w w3 ∧ Bx w3 B #[.int .i64 dev, .int .i64 ctr, .string tok, .int .i64 kind, .int .i64 place, .int .i64 time] 23 ∧ Bx w3 B2 #[.int .i64 dev2, .int .i64 ctr2, .string tok2, .int .i64 kind2, .int .i64 place2, .int .i64 time2] 23) := hide ⟨(unhide HX2).1.trans hF (fun _ _ t => t), (unhide HX2).2.1.keep hF, (unhide HX2).2.2.keep hF⟩
  clear hF t0 t1 t2 t3 t4 t5 HX2
  have t0 : w3.cell? ⟨B, 0, none⟩ = some (.int .i64 dev) := (unhide HX3).2.1.cell 0
  have t1 : w3.cell? ⟨B, 1, none⟩ = some (.int .i64 ctr) := (unhide HX3).2.1.cell 1
  have t2 : w3.cell? ⟨B, 2, none⟩ = some (.string tok) := (unhide HX3).2.1.cell 2
  have t3 : w3.cell? ⟨B, 3, none⟩ = some (.int .i64 kind) := (unhide HX3).2.1.cell 3
  have t4 : w3.cell? ⟨B, 4, none⟩ = some (.int .i64 place) := (unhide HX3).2.1.cell 4
  have t5 : w3.cell? ⟨B, 5, none⟩ = some (.int .i64 time) := (unhide HX3).2.1.cell 5
  go_wp2_with fail
  refine (unhide RR _).mono ?_
  rintro e w4 ⟨rfl, hF⟩
  have HX4 : Hid (Fr (fun _ => False) w w4 ∧ Bx w4 B #[.int .i64 dev, .int .i64 ctr, .string tok, .int .i64 kind, .int .i64 place, .int .i64 time] 23 ∧ Bx w4 B2 #[.int .i64 dev2, .int .i64 ctr2, .string tok2, .int .i64 kind2, .int .i64 place2, .int .i64 time2] 23) := hide ⟨(unhide HX3).1.trans hF (fun _ _ t => t), (unhide HX3).2.1.keep hF, (unhide HX3).2.2.keep hF⟩
  clear hF t0 t1 t2 t3 t4 t5 HX3
  have t0 : w4.cell? ⟨B2, 0, none⟩ = some (.int .i64 dev2) := (unhide HX4).2.2.cell 0
  have t1 : w4.cell? ⟨B2, 1, none⟩ = some (.int .i64 ctr2) := (unhide HX4).2.2.cell 1
  have t2 : w4.cell? ⟨B2, 2, none⟩ = some (.string tok2) := (unhide HX4).2.2.cell 2
  have t3 : w4.cell? ⟨B2, 3, none⟩ = some (.int .i64 kind2) := (unhide HX4).2.2.cell 3
  have t4 : w4.cell? ⟨B2, 4, none⟩ = some (.int .i64 place2) := (unhide HX4).2.2.cell 4
  have t5 : w4.cell? ⟨B2, 5, none⟩ = some (.int .i64 time2) := (unhide HX4).2.2.cell 5
  go_wp2_with fail
  refine (unhide RS _).mono ?_
  rintro e w5 ⟨rfl, hF⟩
  have HX5 : Hid (Fr (fun _ => False) w w5 ∧ Bx w5 B #[.int .i64 dev, .int .i64 ctr, .string tok, .int .i64 kind, .int .i64 place, .int .i64 time] 23 ∧ Bx w5 B2 #[.int .i64 dev2, .int .i64 ctr2, .string tok2, .int .i64 kind2, .int .i64 place2, .int .i64 time2] 23) := hide ⟨(unhide HX4).1.trans hF (fun _ _ t => t), (unhide HX4).2.1.keep hF, (unhide HX4).2.2.keep hF⟩
  clear hF t0 t1 t2 t3 t4 t5 HX4
  have t0 : w5.cell? ⟨B, 0, none⟩ = some (.int .i64 dev) := (unhide HX5).2.1.cell 0
  have t1 : w5.cell? ⟨B, 1, none⟩ = some (.int .i64 ctr) := (unhide HX5).2.1.cell 1
  have t2 : w5.cell? ⟨B, 2, none⟩ = some (.string tok) := (unhide HX5).2.1.cell 2
  have t3 : w5.cell? ⟨B, 3, none⟩ = some (.int .i64 kind) := (unhide HX5).2.1.cell 3
  have t4 : w5.cell? ⟨B, 4, none⟩ = some (.int .i64 place) := (unhide HX5).2.1.cell 4
  have t5 : w5.cell? ⟨B, 5, none⟩ = some (.int .i64 time) := (unhide HX5).2.1.cell 5
  have s0 : w5.cell? ⟨B2, 0, none⟩ = some (.int .i64 dev2) := (unhide HX5).2.2.cell 0
  have s1 : w5.cell? ⟨B2, 1, none⟩ = some (.int .i64 ctr2) := (unhide HX5).2.2.cell 1
  have s2 : w5.cell? ⟨B2, 2, none⟩ = some (.string tok2) := (unhide HX5).2.2.cell 2
  have s3 : w5.cell? ⟨B2, 3, none⟩ = some (.int .i64 kind2) := (unhide HX5).2.2.cell 3
  have s4 : w5.cell? ⟨B2, 4, none⟩ = some (.int .i64 place2) := (unhide HX5).2.2.cell 4
  have s5 : w5.cell? ⟨B2, 5, none⟩ = some (.int .i64 time2) := (unhide HX5).2.2.cell 5
  have HLS : Hid (ct = 0 → cu = 0 → tok.toList == tok2.toList → (decide (time < time2) || (decide (time = time2) && (decide (dev < dev2) || (decide (dev = dev2) && decide (ctr < ctr2))))) = Op.bytesLess kt.toList ku.toList) := hide (by
    intro h1 h2 h3
    have e1 : bt = true := by
      cases bt with
      | true => rfl
      | false => rw [unhide Hct, (unhide HT).1] at h1; simp at h1
    have e2 : bu = true := by
      cases bu with
      | true => rfl
      | false => rw [unhide Hcu, (unhide HU).1] at h2; simp at h2
    subst e1 e2
    have e3 : tok = tok2 := toList_inj (eq_of_beq h3)
    have h5 := unhide HO (unhide HBT) (unhide HBU) e3
    rw [unhide Hkt, unhide Hku, (unhide HT).2, (unhide HU).2, toList_of, toList_of]
    exact h5.symm)
  clear HO HT HU HBT HBU Hkt Hku Hct Hcu
  by_cases h1 : ct = 0
  · by_cases h2 : cu = 0
    · by_cases h3 : (tok.toList == tok2.toList) = true
      · have h4 := unhide HLS h1 h2 h3
        subst h1 h2
        clear RP RQ RR RS HLS
        have H4 := hide h4
        clear h4
        go_wp2
        all_goals
          go_ret
          refine ⟨?_, (unhide HX5).1⟩
          have h4 := unhide H4
          simp_all
      · have h3' : (tok.toList == tok2.toList) = false := by simpa using h3
        clear h3
        subst h1 h2
        go_wp2
        go_ret
        exact ⟨rfl, (unhide HX5).1⟩
    · have h2' : (cu == 0) = false := by simpa using h2
      subst h1
      go_wp2
      go_ret
      exact ⟨rfl, (unhide HX5).1⟩
  · have h1' : (ct == 0) = false := by simpa using h1
    go_wp2
    go_ret
    exact ⟨rfl, (unhide HX5).1⟩

end Go.Proofs.Ytkjoojamkbpfcaa
