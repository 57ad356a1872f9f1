import Derived.Test.YtdbnppbfoohjjaaQUX
import Derived.Test.YtdbnppbfoohjjaaQY
import Derived.Test.YtdbnppbfoohjjaaQRX
import Derived.Deep.QuietTactic
import Derived.BigQuiet
/- The document's own Same: the same tariff in two places is the same. -/
namespace Go.Proofs.Ytdbnppbfoohjjaa
open Go.RowKit

theorem ordN_self (a : Nat) : ordN a a = 0 := by simp [ordN, cmpN]

theorem neq35 (w : World) (a b c : Int) : (binOp .neq 85 (.agg #[.int .i64 a, .int .i64 b, .int .i64 c]) (.agg #[.int .i64 a, .int .i64 b, .int .i64 c])).run Try.prog w = .ok (.bool false) w := by
  rw [run_neq_struct, eq35]
  simp [Result.andThen]
theorem neq39 (w : World) (a b c d e : Int) : (binOp .neq 36 (.agg #[.int .i64 a, .int .i64 b, .int .i64 c, .int .i64 d, .int .i64 e]) (.agg #[.int .i64 a, .int .i64 b, .int .i64 c, .int .i64 d, .int .i64 e])).run Try.prog w = .ok (.bool false) w := by
  rw [run_neq_struct, eq39]
  simp [Result.andThen]
theorem neq46 (w : World) (a b : Int) : (binOp .neq 87 (.agg #[.int .i64 a, .int .i64 b]) (.agg #[.int .i64 a, .int .i64 b])).run Try.prog w = .ok (.bool false) w := by
  rw [run_neq_struct, eq46]
  simp [Result.andThen]

set_option maxHeartbeats 4000000 in
set_option maxRecDepth 100000 in
theorem same_anyT (w : World) (A A2 : Ad) (t : Tf) (h : TAt w A t) (h2 : TAt w A2 t) : Calls Try.prog 47 #[tv A t, tv A2 t] w fun e w' => e = .returned (.bool true) ∧ Fr (fun _ => False) w w' := by
  obtain ⟨B, HBE⟩ : ∃ B, Hid (B = w.heap.size) := ⟨_, rfl⟩
  obtain ⟨W0, hW0⟩ : ∃ W0, W0 = (w.alloc (.cells (tc A t) 27)).alloc (.cells (tc A2 t) 27) := ⟨_, rfl⟩
  have HF0 : Hid (Fr (fun _ => False) w W0) := hide (by rw [hW0]; exact ((Fr.refl _ w).alloc _).alloc _)
  have hb : TB W0 B A t := by rw [hW0, unhide HBE]; exact (TB.new w A t).keep ((Fr.refl _ _).alloc _)
  have hb2 : TB W0 (B + 1) A2 t := by rw [hW0, unhide HBE, ← heap_alloc w (.cells (tc A t) 27)]; exact TB.new _ A2 t
  have HB := hide (And.intro hb hb2)
  have H := hide (And.intro (h.keep (unhide HF0)) (h2.keep (unhide HF0)))
  have RO := rorder_any W0 t.off t.off h.off h.off
  rw [ordN_self] at RO
  have lS := h.lS
  have lP := h.lP
  have lB := h.lB
  clear h h2
  have c0 : W0.cell? ⟨B, 0, none⟩ = some (.slice A.aS t.st.length A.cS) := hb.cell 0
  have d0 : W0.cell? ⟨B + 1, 0, none⟩ = some (.slice A2.aS t.st.length A2.cS) := hb2.cell 0
  have c1 : W0.cell? ⟨B, 1, none⟩ = some (.slice A.aP t.sp.length A.cP) := hb.cell 1
  have d1 : W0.cell? ⟨B + 1, 1, none⟩ = some (.slice A2.aP t.sp.length A2.cP) := hb2.cell 1
  have c2 : W0.cell? ⟨B, 2, none⟩ = some (.slice A.aB t.bd.length A.cB) := hb.cell 2
  have d2 : W0.cell? ⟨B + 1, 2, none⟩ = some (.slice A2.aB t.bd.length A2.cB) := hb2.cell 2
  have c3 : W0.cell? ⟨B, 3, none⟩ = some (.float .f64 t.off) := hb.cell 3
  have d3 : W0.cell? ⟨B + 1, 3, none⟩ = some (.float .f64 t.off) := hb2.cell 3
  clear hb hb2
  unfold tc at hW0
  unfold tv tc
  go_enter Try.func47, Try.ntmps47
  go_wp2_with fail
  rw [← hW0, ← unhide HBE]
  clear hW0
  refine RO.mono ?_
  rintro e w1 ⟨rfl, rfl⟩
  clear RO c0 c1 c2 c3 d0 d1 d2 d3
  go_wp2
  go_loopw [5] (fun iv wq => ∃ (i : Nat), i ≤ t.st.length ∧ iv = .int .i64 i ∧ Hid (Fr (fun _ => False) w1 wq)) (fun iv _ => t.st.length - (intOf iv).toNat)
  case atStart => exact ⟨0, Nat.zero_le _, rfl, (hide (Fr.refl (fun _ => False) w1))⟩
  case round =>
    obtain ⟨i, hi, rfl, HI0⟩ := hrel
    have HBwr := hide (And.intro ((unhide HB).1.keep (unhide HI0)) ((unhide HB).2.keep (unhide HI0)))
    have cA : wr.cell? ⟨B, 0, none⟩ = some (.slice A.aS t.st.length A.cS) := (unhide HBwr).1.cell 0
    have dA : wr.cell? ⟨B + 1, 0, none⟩ = some (.slice A2.aS t.st.length A2.cS) := (unhide HBwr).2.cell 0
    by_cases hil : i < t.st.length
    · obtain ⟨b, off, eA, x0, x1, x2⟩ := ((unhide H).1.st.keep (unhide HI0)).st hil
      obtain ⟨b', off', eA', y0, y1, y2⟩ := ((unhide H).2.st.keep (unhide HI0)).st hil
      rw [eA] at cA
      rw [eA'] at dA
      generalize t.st[i] = s at *
      have e1 := eg35
      have e2 := neq35
      clear eA eA' HBwr
      go_wp2_with fail
      go_big_quiet (fail)
      go_wp2
      exact ⟨⟨i + 1, by omega, by go_num, (unhide HI0).drewN _⟩, by simp [intOf]; omega⟩
    · obtain rfl : i = t.st.length := by omega
      have HJ0 := HI0
      clear HI0 HBwr dA
      go_wp2
      clear cA
      go_loopw [6] (fun iv wq => ∃ (i : Nat), i ≤ t.sp.length ∧ iv = .int .i64 i ∧ Hid (Fr (fun _ => False) w1 wq)) (fun iv _ => t.sp.length - (intOf iv).toNat)
      case atStart => exact ⟨0, Nat.zero_le _, rfl, (unhide HJ0)⟩
      case round =>
        obtain ⟨i, hi, rfl, HI1⟩ := hrel
        have HBwr := hide (And.intro ((unhide HB).1.keep (unhide HI1)) ((unhide HB).2.keep (unhide HI1)))
        have cA : wr.cell? ⟨B, 1, none⟩ = some (.slice A.aP t.sp.length A.cP) := (unhide HBwr).1.cell 1
        have dA : wr.cell? ⟨B + 1, 1, none⟩ = some (.slice A2.aP t.sp.length A2.cP) := (unhide HBwr).2.cell 1
        by_cases hil : i < t.sp.length
        · obtain ⟨b, off, eA, x0, x1, x2, x3, x4⟩ := ((unhide H).1.sp.keep (unhide HI1)).sp hil
          obtain ⟨b', off', eA', y0, y1, y2, y3, y4⟩ := ((unhide H).2.sp.keep (unhide HI1)).sp hil
          rw [eA] at cA
          rw [eA'] at dA
          generalize t.sp[i] = s at *
          have e1 := eg39
          have e2 := neq39
          clear eA eA' HBwr
          go_wp2_with fail
          go_big_quiet (fail)
          go_wp2
          exact ⟨⟨i + 1, by omega, by go_num, (unhide HI1).drewN _⟩, by simp [intOf]; omega⟩
        · obtain rfl : i = t.sp.length := by omega
          have HJ1 := HI1
          clear HI1 HBwr dA
          go_wp2
          clear cA
          go_loopw [7] (fun iv wq => ∃ (i : Nat), i ≤ t.bd.length ∧ iv = .int .i64 i ∧ Hid (Fr (fun _ => False) w1 wq)) (fun iv _ => t.bd.length - (intOf iv).toNat)
          case atStart => exact ⟨0, Nat.zero_le _, rfl, (unhide HJ1)⟩
          case round =>
            obtain ⟨i, hi, rfl, HI2⟩ := hrel
            have HBwr := hide (And.intro ((unhide HB).1.keep (unhide HI2)) ((unhide HB).2.keep (unhide HI2)))
            have cA : wr.cell? ⟨B, 2, none⟩ = some (.slice A.aB t.bd.length A.cB) := (unhide HBwr).1.cell 2
            have dA : wr.cell? ⟨B + 1, 2, none⟩ = some (.slice A2.aB t.bd.length A2.cB) := (unhide HBwr).2.cell 2
            by_cases hil : i < t.bd.length
            · obtain ⟨b, off, eA, x0, x1⟩ := ((unhide H).1.bd.keep (unhide HI2)).bd hil
              obtain ⟨b', off', eA', y0, y1⟩ := ((unhide H).2.bd.keep (unhide HI2)).bd hil
              rw [eA] at cA
              rw [eA'] at dA
              generalize t.bd[i] = s at *
              have e1 := eg46
              have e2 := neq46
              clear eA eA' HBwr
              go_wp2_with fail
              go_big_quiet (fail)
              go_wp2
              exact ⟨⟨i + 1, by omega, by go_num, (unhide HI2).drewN _⟩, by simp [intOf]; omega⟩
            · obtain rfl : i = t.bd.length := by omega
              have HJ2 := HI2
              have HBz := HBwr
              have c4 : wr.cell? ⟨B, 4, none⟩ = some (.int .i64 t.bus) := (unhide HBz).1.cell 4
              have d4 : wr.cell? ⟨B + 1, 4, none⟩ = some (.int .i64 t.bus) := (unhide HBz).2.cell 4
              have c5 : wr.cell? ⟨B, 5, none⟩ = some (.int .i64 t.busDaily) := (unhide HBz).1.cell 5
              have d5 : wr.cell? ⟨B + 1, 5, none⟩ = some (.int .i64 t.busDaily) := (unhide HBz).2.cell 5
              have c6 : wr.cell? ⟨B, 6, none⟩ = some (.int .i64 t.busWeekly) := (unhide HBz).1.cell 6
              have d6 : wr.cell? ⟨B + 1, 6, none⟩ = some (.int .i64 t.busWeekly) := (unhide HBz).2.cell 6
              have c7 : wr.cell? ⟨B, 7, none⟩ = some (.int .i64 t.hopper) := (unhide HBz).1.cell 7
              have d7 : wr.cell? ⟨B + 1, 7, none⟩ = some (.int .i64 t.hopper) := (unhide HBz).2.cell 7
              have c8 : wr.cell? ⟨B, 8, none⟩ = some (.int .i64 t.most) := (unhide HBz).1.cell 8
              have d8 : wr.cell? ⟨B + 1, 8, none⟩ = some (.int .i64 t.most) := (unhide HBz).2.cell 8
              have c9 : wr.cell? ⟨B, 9, none⟩ = some (.int .i64 t.longest) := (unhide HBz).1.cell 9
              have d9 : wr.cell? ⟨B + 1, 9, none⟩ = some (.int .i64 t.longest) := (unhide HBz).2.cell 9
              have c10 : wr.cell? ⟨B, 10, none⟩ = some (.int .i64 t.change) := (unhide HBz).1.cell 10
              have d10 : wr.cell? ⟨B + 1, 10, none⟩ = some (.int .i64 t.change) := (unhide HBz).2.cell 10
              have c11 : wr.cell? ⟨B, 11, none⟩ = some (.int .i64 t.passback) := (unhide HBz).1.cell 11
              have d11 : wr.cell? ⟨B + 1, 11, none⟩ = some (.int .i64 t.passback) := (unhide HBz).2.cell 11
              have c12 : wr.cell? ⟨B, 12, none⟩ = some (.int .i64 t.delay) := (unhide HBz).1.cell 12
              have d12 : wr.cell? ⟨B + 1, 12, none⟩ = some (.int .i64 t.delay) := (unhide HBz).2.cell 12
              have c13 : wr.cell? ⟨B, 13, none⟩ = some (.int .i64 t.threshold) := (unhide HBz).1.cell 13
              have d13 : wr.cell? ⟨B + 1, 13, none⟩ = some (.int .i64 t.threshold) := (unhide HBz).2.cell 13
              clear HI2 HBwr HBz dA H HB
              go_wp2
              go_ret
              exact ⟨by first | rfl | simp, (unhide HF0).trans (unhide HJ2) (fun _ _ t => t)⟩

end Go.Proofs.Ytdbnppbfoohjjaa

