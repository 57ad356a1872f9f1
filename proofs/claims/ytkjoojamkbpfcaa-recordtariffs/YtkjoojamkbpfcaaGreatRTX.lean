/- Proved: the law RecordTariffs answers true for every tariff and every slice of bytes, and its arguments read afterwards as they read before. No condition but the form's own reach. -/
import Derived.Test.YtkjoojamkbpfcaaGreatGT
import Derived.Test.YtkjoojamkbpfcaaGreatGU
import Derived.Test.YtkjoojamkbpfcaaGreatL2
import Derived.Test.YtkjoojamkbpfcaaGreatQLX
import Derived.Deep.Cut
import Derived.Test.YtkjoojamkbpfcaaGreatO1
import Derived.Test.YtkjoojamkbpfcaaGreatQO1
/- The walk of the law RecordTariffs. -/
namespace Go.Proofs.YtkjoojamkbpfcaaGreat
open Go.RowKit
attribute [local go_sem] run_store_float

theorem Row.frame0 {S : Nat → Prop} {w w' : World} {ao : Option Addr} {cap g : Nat} {bs : List UInt8} (h : Row w (.slice ao bs.length cap) g bs) (hf : Fr S w w') (hg : 0 < cap → ¬ S g) : Row w' (.slice ao bs.length cap) g bs := by
  by_cases hc : 0 < cap
  · exact h.frame hf (hg hc)
  · obtain ⟨ao', cap', e, h1, h2, h3, h4⟩ := h.shape
    injection e with e1 e2 e3
    subst e1 e3
    exact ⟨⟨_, _, rfl, h1, h2, h3, fun j hj => absurd hj (by omega)⟩, fun j hj => absurd hj (by omega)⟩
theorem row_lt {w : World} {ao : Option Addr} {cap g : Nat} {bs : List UInt8} (h : Row w (.slice ao bs.length cap) g bs) (hc : 0 < cap) : g < w.heap.size := by
  obtain ⟨ao', cap', e, h1, h2, h3, h4⟩ := h.shape
  injection e with e1 e2 e3
  subst e1 e3
  obtain ⟨k1, _⟩ := h4 0 hc
  obtain ⟨v, hv⟩ := Option.isSome_iff_exists.1 k1
  exact World.block_lt_of_cell? _ _ hv
theorem tarRd_few (bs : List UInt8) : (tarRd bs).1.st.length ≤ 200 ∧ (tarRd bs).1.sp.length ≤ 45 := by
  have h := (tar_shape bs s00).2.2.2.2
  unfold tarRd
  split
  · simp [tarZ]
  split
  · exact ⟨h.1, h.2.1⟩
  · simp [tarZ]

set_option maxHeartbeats 16000000 in
set_option maxRecDepth 100000 in
theorem tariffs_walk (w : World) (A : Ad) (t : Tf) (hT : TAt w A t) (ao : Option Addr) (cap : Nat) (bs : List UInt8) (hB : BInC w ao cap bs) (hfit : bs.length + 2 ≤ 140737488355328) :
    Calls Tryz.prog 3 #[tv A t, .slice ao bs.length cap] w fun e w' => e = .returned (.bool true) ∧ Fr (fun _ => False) w w' := by
  have RL := hide (fun (w : World) h => lent_anyT w A t h)
  have RX := hide (fun (w : World) (L : Ad) h => recTariff_any t L w h)
  have RK := hide (fun (w : World) (L : Ad) gS gP gB h1 h2 h3 => kept_anyT w L A t gS gP gB h1 h2 h3)
  have RY := hide (fun (w : World) h => refTariff_any t A w h)
  have LX := hide (tarW_le t)
  generalize tarW t = r0 at *
  obtain ⟨x, xe⟩ := r0
  have RR := hide (fun (w : World) ai ci h => readTariff_any w ai ci bs h)
  have RV := hide (fun (w : World) ai ci h => refReadTariff_any w ai ci bs h)
  have HFW := hide (tarRd_few bs)
  generalize tarRd bs = r at *
  obtain ⟨y, yc, yf⟩ := r
  have RS := hide (fun (w : World) (A1 A2 : Ad) h1 h2 => same_anyT w A1 A2 y h1 h2)
  simp only at RX RY LX HFW
  unfold ReadTariff tv tc at RR RV
  unfold tv tc at RL RX RK RY RS ⊢
  simp only at RR RV
  have HT := hide hT
  have HBI := hide hB
  have HFT := hide hfit
  have hEF := eqFault
  clear hT hB hfit
  go_enter Tryz.func3, Tryz.ntmps3
  go_wp2_with fail
  refine (awake_any _).mono ?_
  rintro e v0 ⟨rfl, hF⟩
  have HX0 : Hid (Fr (fun _ => False) w v0 ∧ Bx v0 w.heap.size #[.slice A.aS t.st.length A.cS, .slice A.aP t.sp.length A.cP, .slice A.aB t.bd.length A.cB, .float .f64 t.off, .int .i64 t.bus, .int .i64 t.busDaily, .int .i64 t.busWeekly, .int .i64 t.hopper, .int .i64 t.most, .int .i64 t.longest, .int .i64 t.change, .int .i64 t.passback, .int .i64 t.delay, .int .i64 t.threshold] 27) := hide ⟨((Fr.refl _ w).alloc _).trans hF (fun _ _ t => t), (Bx.new w _ _).keep hF⟩
  obtain ⟨B1, HB⟩ : ∃ B, Hid (w.heap.size = B) := ⟨_, rfl⟩
  have HB0 : Hid (w.heap.size ≤ B1 ∧ B1 < v0.heap.size) := hide ⟨by have := unhide HB; omega, by rw [← unhide HB]; exact (unhide HX0).2.lt⟩
  rw [unhide HB] at HX0 ⊢
  clear HB hF
  have q0 : v0.cell? ⟨B1, 0, none⟩ = some (.slice A.aS t.st.length A.cS) := (unhide HX0).2.cell 0
  have q1 : v0.cell? ⟨B1, 1, none⟩ = some (.slice A.aP t.sp.length A.cP) := (unhide HX0).2.cell 1
  have q2 : v0.cell? ⟨B1, 2, none⟩ = some (.slice A.aB t.bd.length A.cB) := (unhide HX0).2.cell 2
  have q3 : v0.cell? ⟨B1, 3, none⟩ = some (.float .f64 t.off) := (unhide HX0).2.cell 3
  have q4 : v0.cell? ⟨B1, 4, none⟩ = some (.int .i64 t.bus) := (unhide HX0).2.cell 4
  have q5 : v0.cell? ⟨B1, 5, none⟩ = some (.int .i64 t.busDaily) := (unhide HX0).2.cell 5
  have q6 : v0.cell? ⟨B1, 6, none⟩ = some (.int .i64 t.busWeekly) := (unhide HX0).2.cell 6
  have q7 : v0.cell? ⟨B1, 7, none⟩ = some (.int .i64 t.hopper) := (unhide HX0).2.cell 7
  have q8 : v0.cell? ⟨B1, 8, none⟩ = some (.int .i64 t.most) := (unhide HX0).2.cell 8
  have q9 : v0.cell? ⟨B1, 9, none⟩ = some (.int .i64 t.longest) := (unhide HX0).2.cell 9
  have q10 : v0.cell? ⟨B1, 10, none⟩ = some (.int .i64 t.change) := (unhide HX0).2.cell 10
  have q11 : v0.cell? ⟨B1, 11, none⟩ = some (.int .i64 t.passback) := (unhide HX0).2.cell 11
  have q12 : v0.cell? ⟨B1, 12, none⟩ = some (.int .i64 t.delay) := (unhide HX0).2.cell 12
  have q13 : v0.cell? ⟨B1, 13, none⟩ = some (.int .i64 t.threshold) := (unhide HX0).2.cell 13
  go_wp2_with fail
  refine (unhide RL v0 ((unhide HT).keep (unhide HX0).1)).mono ?_
  rintro e v1 ⟨L, gS, gP, gB, rfl, hL⟩
  have HX1 : Hid (Fr (fun _ => False) w (v1.alloc (.cells #[.slice L.aS t.st.length L.cS, .slice L.aP t.sp.length L.cP, .slice L.aB t.bd.length L.cB, .float .f64 t.off, .int .i64 t.bus, .int .i64 t.busDaily, .int .i64 t.busWeekly, .int .i64 t.hopper, .int .i64 t.most, .int .i64 t.longest, .int .i64 t.change, .int .i64 t.passback, .int .i64 t.delay, .int .i64 t.threshold] 27)) ∧ Bx (v1.alloc (.cells #[.slice L.aS t.st.length L.cS, .slice L.aP t.sp.length L.cP, .slice L.aB t.bd.length L.cB, .float .f64 t.off, .int .i64 t.bus, .int .i64 t.busDaily, .int .i64 t.busWeekly, .int .i64 t.hopper, .int .i64 t.most, .int .i64 t.longest, .int .i64 t.change, .int .i64 t.passback, .int .i64 t.delay, .int .i64 t.threshold] 27)) B1 #[.slice A.aS t.st.length A.cS, .slice A.aP t.sp.length A.cP, .slice A.aB t.bd.length A.cB, .float .f64 t.off, .int .i64 t.bus, .int .i64 t.busDaily, .int .i64 t.busWeekly, .int .i64 t.hopper, .int .i64 t.most, .int .i64 t.longest, .int .i64 t.change, .int .i64 t.passback, .int .i64 t.delay, .int .i64 t.threshold] 27 ∧ Bx (v1.alloc (.cells #[.slice L.aS t.st.length L.cS, .slice L.aP t.sp.length L.cP, .slice L.aB t.bd.length L.cB, .float .f64 t.off, .int .i64 t.bus, .int .i64 t.busDaily, .int .i64 t.busWeekly, .int .i64 t.hopper, .int .i64 t.most, .int .i64 t.longest, .int .i64 t.change, .int .i64 t.passback, .int .i64 t.delay, .int .i64 t.threshold] 27)) v1.heap.size #[.slice L.aS t.st.length L.cS, .slice L.aP t.sp.length L.cP, .slice L.aB t.bd.length L.cB, .float .f64 t.off, .int .i64 t.bus, .int .i64 t.busDaily, .int .i64 t.busWeekly, .int .i64 t.hopper, .int .i64 t.most, .int .i64 t.longest, .int .i64 t.change, .int .i64 t.passback, .int .i64 t.delay, .int .i64 t.threshold] 27 ∧ TAt (v1.alloc (.cells #[.slice L.aS t.st.length L.cS, .slice L.aP t.sp.length L.cP, .slice L.aB t.bd.length L.cB, .float .f64 t.off, .int .i64 t.bus, .int .i64 t.busDaily, .int .i64 t.busWeekly, .int .i64 t.hopper, .int .i64 t.most, .int .i64 t.longest, .int .i64 t.change, .int .i64 t.passback, .int .i64 t.delay, .int .i64 t.threshold] 27)) L t ∧ Kp (v1.alloc (.cells #[.slice L.aS t.st.length L.cS, .slice L.aP t.sp.length L.cP, .slice L.aB t.bd.length L.cB, .float .f64 t.off, .int .i64 t.bus, .int .i64 t.busDaily, .int .i64 t.busWeekly, .int .i64 t.hopper, .int .i64 t.most, .int .i64 t.longest, .int .i64 t.change, .int .i64 t.passback, .int .i64 t.delay, .int .i64 t.threshold] 27)) L t gS gP gB) := hide (by
    have h0 := (Fr.refl (fun _ => False) v1).alloc (.cells #[.slice L.aS t.st.length L.cS, .slice L.aP t.sp.length L.cP, .slice L.aB t.bd.length L.cB, .float .f64 t.off, .int .i64 t.bus, .int .i64 t.busDaily, .int .i64 t.busWeekly, .int .i64 t.hopper, .int .i64 t.most, .int .i64 t.longest, .int .i64 t.change, .int .i64 t.passback, .int .i64 t.delay, .int .i64 t.threshold] 27)
    have h1 := hL.fr.trans h0 (fun _ _ t => t)
    exact ⟨(unhide HX0).1.trans h1 (fun _ _ t => t), (unhide HX0).2.keep h1, Bx.new _ _ _, (hL.tat ((unhide HT).keep (unhide HX0).1)).keep h0, hL.kp.keep h0⟩)
  have HB1 : Hid (v0.heap.size ≤ gS ∧ v0.heap.size ≤ gP ∧ v0.heap.size ≤ gB ∧ gS < v1.heap.size ∧ gP < v1.heap.size ∧ gB < v1.heap.size) := hide ⟨hL.oS.new, hL.oP.new, hL.oB.new, hL.oS.row.lt (by omega) hL.oS.pos, hL.oP.row.lt (by omega) hL.oP.pos, hL.oB.row.lt (by omega) hL.oB.pos⟩
  clear hL HX0 q0 q1 q2 q3 q4 q5 q6 q7 q8 q9 q10 q11 q12 q13
  go_upto_region 3 with (fail)
  have HB2 : Hid (v1.heap.size < (v1.alloc (.cells #[.slice L.aS t.st.length L.cS, .slice L.aP t.sp.length L.cP, .slice L.aB t.bd.length L.cB, .float .f64 t.off, .int .i64 t.bus, .int .i64 t.busDaily, .int .i64 t.busWeekly, .int .i64 t.hopper, .int .i64 t.most, .int .i64 t.longest, .int .i64 t.change, .int .i64 t.passback, .int .i64 t.delay, .int .i64 t.threshold] 27)).heap.size) := hide (by rw [heap_alloc]; omega)
  generalize (v1.alloc (.cells #[.slice L.aS t.st.length L.cS, .slice L.aP t.sp.length L.cP, .slice L.aB t.bd.length L.cB, .float .f64 t.off, .int .i64 t.bus, .int .i64 t.busDaily, .int .i64 t.busWeekly, .int .i64 t.hopper, .int .i64 t.most, .int .i64 t.longest, .int .i64 t.change, .int .i64 t.passback, .int .i64 t.delay, .int .i64 t.threshold] 27)) = t1 at *
  obtain ⟨B2, HB⟩ : ∃ B, Hid (v1.heap.size = B) := ⟨_, rfl⟩
  rw [unhide HB] at HX1 HB1 HB2 ⊢
  clear HB
  have q0 : t1.cell? ⟨B2, 0, none⟩ = some (.slice L.aS t.st.length L.cS) := (unhide HX1).2.2.1.cell 0
  have q1 : t1.cell? ⟨B2, 1, none⟩ = some (.slice L.aP t.sp.length L.cP) := (unhide HX1).2.2.1.cell 1
  have q2 : t1.cell? ⟨B2, 2, none⟩ = some (.slice L.aB t.bd.length L.cB) := (unhide HX1).2.2.1.cell 2
  have q3 : t1.cell? ⟨B2, 3, none⟩ = some (.float .f64 t.off) := (unhide HX1).2.2.1.cell 3
  have q4 : t1.cell? ⟨B2, 4, none⟩ = some (.int .i64 t.bus) := (unhide HX1).2.2.1.cell 4
  have q5 : t1.cell? ⟨B2, 5, none⟩ = some (.int .i64 t.busDaily) := (unhide HX1).2.2.1.cell 5
  have q6 : t1.cell? ⟨B2, 6, none⟩ = some (.int .i64 t.busWeekly) := (unhide HX1).2.2.1.cell 6
  have q7 : t1.cell? ⟨B2, 7, none⟩ = some (.int .i64 t.hopper) := (unhide HX1).2.2.1.cell 7
  have q8 : t1.cell? ⟨B2, 8, none⟩ = some (.int .i64 t.most) := (unhide HX1).2.2.1.cell 8
  have q9 : t1.cell? ⟨B2, 9, none⟩ = some (.int .i64 t.longest) := (unhide HX1).2.2.1.cell 9
  have q10 : t1.cell? ⟨B2, 10, none⟩ = some (.int .i64 t.change) := (unhide HX1).2.2.1.cell 10
  have q11 : t1.cell? ⟨B2, 11, none⟩ = some (.int .i64 t.passback) := (unhide HX1).2.2.1.cell 11
  have q12 : t1.cell? ⟨B2, 12, none⟩ = some (.int .i64 t.delay) := (unhide HX1).2.2.1.cell 12
  have q13 : t1.cell? ⟨B2, 13, none⟩ = some (.int .i64 t.threshold) := (unhide HX1).2.2.1.cell 13
  go_wp2_with fail
  refine (unhide RX t1 L (unhide HX1).2.2.2.1).mono ?_
  rintro e v2 ⟨xo, xc, xg, rfl, hrow, hnew, hF⟩
  have HX2 : Hid (Fr (fun _ => False) w v2 ∧ Bx v2 B1 #[.slice A.aS t.st.length A.cS, .slice A.aP t.sp.length A.cP, .slice A.aB t.bd.length A.cB, .float .f64 t.off, .int .i64 t.bus, .int .i64 t.busDaily, .int .i64 t.busWeekly, .int .i64 t.hopper, .int .i64 t.most, .int .i64 t.longest, .int .i64 t.change, .int .i64 t.passback, .int .i64 t.delay, .int .i64 t.threshold] 27 ∧ Bx v2 B2 #[.slice L.aS t.st.length L.cS, .slice L.aP t.sp.length L.cP, .slice L.aB t.bd.length L.cB, .float .f64 t.off, .int .i64 t.bus, .int .i64 t.busDaily, .int .i64 t.busWeekly, .int .i64 t.hopper, .int .i64 t.most, .int .i64 t.longest, .int .i64 t.change, .int .i64 t.passback, .int .i64 t.delay, .int .i64 t.threshold] 27 ∧ TAt v2 L t ∧ Kp v2 L t gS gP gB ∧ Row v2 (.slice xo x.length xc) xg x) := hide (by
    obtain ⟨k0, k1, k2, k3, k4⟩ := unhide HX1
    exact ⟨k0.trans hF (fun _ _ t => t), k1.keep hF, k2.keep hF, k3.keep hF, k4.keep hF, hrow⟩)
  have HXG : Hid (0 < xc → B2 < xg ∧ xg < v2.heap.size) := hide (fun hc => ⟨by have := hnew hc; have := unhide HB2; omega, row_lt hrow hc⟩)
  have HB3 : Hid (t1.heap.size ≤ v2.heap.size) := hide hF.size
  clear hrow hnew hF HX1 q0 q1 q2 q3 q4 q5 q6 q7 q8 q9 q10 q11 q12 q13
  have q0 : v2.cell? ⟨B2, 0, none⟩ = some (.slice L.aS t.st.length L.cS) := (unhide HX2).2.2.1.cell 0
  have q1 : v2.cell? ⟨B2, 1, none⟩ = some (.slice L.aP t.sp.length L.cP) := (unhide HX2).2.2.1.cell 1
  have q2 : v2.cell? ⟨B2, 2, none⟩ = some (.slice L.aB t.bd.length L.cB) := (unhide HX2).2.2.1.cell 2
  have q3 : v2.cell? ⟨B2, 3, none⟩ = some (.float .f64 t.off) := (unhide HX2).2.2.1.cell 3
  have q4 : v2.cell? ⟨B2, 4, none⟩ = some (.int .i64 t.bus) := (unhide HX2).2.2.1.cell 4
  have q5 : v2.cell? ⟨B2, 5, none⟩ = some (.int .i64 t.busDaily) := (unhide HX2).2.2.1.cell 5
  have q6 : v2.cell? ⟨B2, 6, none⟩ = some (.int .i64 t.busWeekly) := (unhide HX2).2.2.1.cell 6
  have q7 : v2.cell? ⟨B2, 7, none⟩ = some (.int .i64 t.hopper) := (unhide HX2).2.2.1.cell 7
  have q8 : v2.cell? ⟨B2, 8, none⟩ = some (.int .i64 t.most) := (unhide HX2).2.2.1.cell 8
  have q9 : v2.cell? ⟨B2, 9, none⟩ = some (.int .i64 t.longest) := (unhide HX2).2.2.1.cell 9
  have q10 : v2.cell? ⟨B2, 10, none⟩ = some (.int .i64 t.change) := (unhide HX2).2.2.1.cell 10
  have q11 : v2.cell? ⟨B2, 11, none⟩ = some (.int .i64 t.passback) := (unhide HX2).2.2.1.cell 11
  have q12 : v2.cell? ⟨B2, 12, none⟩ = some (.int .i64 t.delay) := (unhide HX2).2.2.1.cell 12
  have q13 : v2.cell? ⟨B2, 13, none⟩ = some (.int .i64 t.threshold) := (unhide HX2).2.2.1.cell 13
  have s0 : v2.cell? ⟨B1, 0, none⟩ = some (.slice A.aS t.st.length A.cS) := (unhide HX2).2.1.cell 0
  have s1 : v2.cell? ⟨B1, 1, none⟩ = some (.slice A.aP t.sp.length A.cP) := (unhide HX2).2.1.cell 1
  have s2 : v2.cell? ⟨B1, 2, none⟩ = some (.slice A.aB t.bd.length A.cB) := (unhide HX2).2.1.cell 2
  have s3 : v2.cell? ⟨B1, 3, none⟩ = some (.float .f64 t.off) := (unhide HX2).2.1.cell 3
  have s4 : v2.cell? ⟨B1, 4, none⟩ = some (.int .i64 t.bus) := (unhide HX2).2.1.cell 4
  have s5 : v2.cell? ⟨B1, 5, none⟩ = some (.int .i64 t.busDaily) := (unhide HX2).2.1.cell 5
  have s6 : v2.cell? ⟨B1, 6, none⟩ = some (.int .i64 t.busWeekly) := (unhide HX2).2.1.cell 6
  have s7 : v2.cell? ⟨B1, 7, none⟩ = some (.int .i64 t.hopper) := (unhide HX2).2.1.cell 7
  have s8 : v2.cell? ⟨B1, 8, none⟩ = some (.int .i64 t.most) := (unhide HX2).2.1.cell 8
  have s9 : v2.cell? ⟨B1, 9, none⟩ = some (.int .i64 t.longest) := (unhide HX2).2.1.cell 9
  have s10 : v2.cell? ⟨B1, 10, none⟩ = some (.int .i64 t.change) := (unhide HX2).2.1.cell 10
  have s11 : v2.cell? ⟨B1, 11, none⟩ = some (.int .i64 t.passback) := (unhide HX2).2.1.cell 11
  have s12 : v2.cell? ⟨B1, 12, none⟩ = some (.int .i64 t.delay) := (unhide HX2).2.1.cell 12
  have s13 : v2.cell? ⟨B1, 13, none⟩ = some (.int .i64 t.threshold) := (unhide HX2).2.1.cell 13
  go_wp2_with fail
  refine (unhide RK v2 L gS gP gB (unhide HX2).2.2.2.1 ((unhide HT).keep (unhide HX2).1) (unhide HX2).2.2.2.2.1).mono ?_
  rintro e v3 ⟨rfl, hF⟩
  have HX3 : Hid (Fr (fun _ => False) w v3 ∧ Bx v3 B1 #[.slice A.aS t.st.length A.cS, .slice A.aP t.sp.length A.cP, .slice A.aB t.bd.length A.cB, .float .f64 t.off, .int .i64 t.bus, .int .i64 t.busDaily, .int .i64 t.busWeekly, .int .i64 t.hopper, .int .i64 t.most, .int .i64 t.longest, .int .i64 t.change, .int .i64 t.passback, .int .i64 t.delay, .int .i64 t.threshold] 27 ∧ Row v3 (.slice xo x.length xc) xg x) := hide (by
    obtain ⟨k0, k1, k2, k3, k4, k5⟩ := unhide HX2
    obtain ⟨b1, b2⟩ := unhide HB0
    obtain ⟨c1, c2, c3, c4, c5, c6⟩ := unhide HB1
    exact ⟨k0.trans hF (fun q hq t => by omega), k1.frame hF (fun t => by omega), k5.frame0 hF (fun hc t => by have := unhide HXG hc; omega)⟩)
  have HB4 : Hid (v2.heap.size ≤ v3.heap.size) := hide hF.size
  clear hF HX2 q0 q1 q2 q3 q4 q5 q6 q7 q8 q9 q10 q11 q12 q13 s0 s1 s2 s3 s4 s5 s6 s7 s8 s9 s10 s11 s12 s13
  have q0 : v3.cell? ⟨B1, 0, none⟩ = some (.slice A.aS t.st.length A.cS) := (unhide HX3).2.1.cell 0
  have q1 : v3.cell? ⟨B1, 1, none⟩ = some (.slice A.aP t.sp.length A.cP) := (unhide HX3).2.1.cell 1
  have q2 : v3.cell? ⟨B1, 2, none⟩ = some (.slice A.aB t.bd.length A.cB) := (unhide HX3).2.1.cell 2
  have q3 : v3.cell? ⟨B1, 3, none⟩ = some (.float .f64 t.off) := (unhide HX3).2.1.cell 3
  have q4 : v3.cell? ⟨B1, 4, none⟩ = some (.int .i64 t.bus) := (unhide HX3).2.1.cell 4
  have q5 : v3.cell? ⟨B1, 5, none⟩ = some (.int .i64 t.busDaily) := (unhide HX3).2.1.cell 5
  have q6 : v3.cell? ⟨B1, 6, none⟩ = some (.int .i64 t.busWeekly) := (unhide HX3).2.1.cell 6
  have q7 : v3.cell? ⟨B1, 7, none⟩ = some (.int .i64 t.hopper) := (unhide HX3).2.1.cell 7
  have q8 : v3.cell? ⟨B1, 8, none⟩ = some (.int .i64 t.most) := (unhide HX3).2.1.cell 8
  have q9 : v3.cell? ⟨B1, 9, none⟩ = some (.int .i64 t.longest) := (unhide HX3).2.1.cell 9
  have q10 : v3.cell? ⟨B1, 10, none⟩ = some (.int .i64 t.change) := (unhide HX3).2.1.cell 10
  have q11 : v3.cell? ⟨B1, 11, none⟩ = some (.int .i64 t.passback) := (unhide HX3).2.1.cell 11
  have q12 : v3.cell? ⟨B1, 12, none⟩ = some (.int .i64 t.delay) := (unhide HX3).2.1.cell 12
  have q13 : v3.cell? ⟨B1, 13, none⟩ = some (.int .i64 t.threshold) := (unhide HX3).2.1.cell 13
  go_wp2_with fail
  refine (unhide RY v3 ((unhide HT).keep (unhide HX3).1)).mono ?_
  rintro e v4 ⟨yo, yk, yg, rfl, hrow, hnew, hF⟩
  have HX4 : Hid (Fr (fun _ => False) w v4 ∧ Row v4 (.slice xo x.length xc) xg x ∧ Row v4 (.slice yo x.length yk) yg x) := hide (by
    obtain ⟨k0, k1, k2⟩ := unhide HX3
    exact ⟨k0.trans hF (fun _ _ t => t), k2.frame hF (fun t => t), hrow⟩)
  have HYG : Hid (0 < yk → v3.heap.size ≤ yg ∧ yg < v4.heap.size) := hide (fun hc => ⟨hnew hc, row_lt hrow hc⟩)
  have HB5 : Hid (v3.heap.size ≤ v4.heap.size) := hide hF.size
  clear hrow hnew hF HX3 q0 q1 q2 q3 q4 q5 q6 q7 q8 q9 q10 q11 q12 q13
  go_wp2_with fail
  refine (lent_any ((unhide HBI).b.keep (unhide HX4).1) (unhide HFT)).mono ?_
  rintro e v5 ⟨io, ic, ig, rfl, hLB, hF⟩
  have HX5 : Hid (Fr (fun _ => False) w v5 ∧ Row v5 (.slice xo x.length xc) xg x ∧ Row v5 (.slice yo x.length yk) yg x ∧ LentB v4 v5 io ic ig bs) := hide (by
    obtain ⟨k0, k1, k2⟩ := unhide HX4
    exact ⟨k0.trans hF (fun _ _ t => t), k1.frame hF (fun t => t), k2.frame hF (fun t => t), hLB⟩)
  have HB6 : Hid (v4.heap.size ≤ ig ∧ ig < v5.heap.size) := hide ⟨hLB.new, row_lt hLB.row (by have := hLB.cap; omega)⟩
  clear hLB hF HX4
  go_wp2_with fail
  refine (unhide RR v5 io ic ((unhide HX5).2.2.2.bin (by have := unhide HFT; omega)).b).mono ?_
  rintro e v6 ⟨⟨uS, kS, uP, kP, uB, kB⟩, g0, g1, g2, rfl, hN, hF⟩
  have HX6 : Hid (Fr (fun _ => False) w ((v6.alloc (.cells #[.slice uS y.st.length kS, .slice uP y.sp.length kP, .slice uB y.bd.length kB, .float .f64 y.off, .int .i64 y.bus, .int .i64 y.busDaily, .int .i64 y.busWeekly, .int .i64 y.hopper, .int .i64 y.most, .int .i64 y.longest, .int .i64 y.change, .int .i64 y.passback, .int .i64 y.delay, .int .i64 y.threshold] 27)).alloc (.cells #[.int .i64 yc, .int .i64 yf] 37)) ∧ Row ((v6.alloc (.cells #[.slice uS y.st.length kS, .slice uP y.sp.length kP, .slice uB y.bd.length kB, .float .f64 y.off, .int .i64 y.bus, .int .i64 y.busDaily, .int .i64 y.busWeekly, .int .i64 y.hopper, .int .i64 y.most, .int .i64 y.longest, .int .i64 y.change, .int .i64 y.passback, .int .i64 y.delay, .int .i64 y.threshold] 27)).alloc (.cells #[.int .i64 yc, .int .i64 yf] 37)) (.slice xo x.length xc) xg x ∧ Row ((v6.alloc (.cells #[.slice uS y.st.length kS, .slice uP y.sp.length kP, .slice uB y.bd.length kB, .float .f64 y.off, .int .i64 y.bus, .int .i64 y.busDaily, .int .i64 y.busWeekly, .int .i64 y.hopper, .int .i64 y.most, .int .i64 y.longest, .int .i64 y.change, .int .i64 y.passback, .int .i64 y.delay, .int .i64 y.threshold] 27)).alloc (.cells #[.int .i64 yc, .int .i64 yf] 37)) (.slice yo x.length yk) yg x ∧ LentB v4 ((v6.alloc (.cells #[.slice uS y.st.length kS, .slice uP y.sp.length kP, .slice uB y.bd.length kB, .float .f64 y.off, .int .i64 y.bus, .int .i64 y.busDaily, .int .i64 y.busWeekly, .int .i64 y.hopper, .int .i64 y.most, .int .i64 y.longest, .int .i64 y.change, .int .i64 y.passback, .int .i64 y.delay, .int .i64 y.threshold] 27)).alloc (.cells #[.int .i64 yc, .int .i64 yf] 37)) io ic ig bs ∧ TNew v5 ((v6.alloc (.cells #[.slice uS y.st.length kS, .slice uP y.sp.length kP, .slice uB y.bd.length kB, .float .f64 y.off, .int .i64 y.bus, .int .i64 y.busDaily, .int .i64 y.busWeekly, .int .i64 y.hopper, .int .i64 y.most, .int .i64 y.longest, .int .i64 y.change, .int .i64 y.passback, .int .i64 y.delay, .int .i64 y.threshold] 27)).alloc (.cells #[.int .i64 yc, .int .i64 yf] 37)) y ⟨uS, kS, uP, kP, uB, kB⟩ g0 g1 g2 ∧ Bx ((v6.alloc (.cells #[.slice uS y.st.length kS, .slice uP y.sp.length kP, .slice uB y.bd.length kB, .float .f64 y.off, .int .i64 y.bus, .int .i64 y.busDaily, .int .i64 y.busWeekly, .int .i64 y.hopper, .int .i64 y.most, .int .i64 y.longest, .int .i64 y.change, .int .i64 y.passback, .int .i64 y.delay, .int .i64 y.threshold] 27)).alloc (.cells #[.int .i64 yc, .int .i64 yf] 37)) v6.heap.size #[.slice uS y.st.length kS, .slice uP y.sp.length kP, .slice uB y.bd.length kB, .float .f64 y.off, .int .i64 y.bus, .int .i64 y.busDaily, .int .i64 y.busWeekly, .int .i64 y.hopper, .int .i64 y.most, .int .i64 y.longest, .int .i64 y.change, .int .i64 y.passback, .int .i64 y.delay, .int .i64 y.threshold] 27 ∧ Bx ((v6.alloc (.cells #[.slice uS y.st.length kS, .slice uP y.sp.length kP, .slice uB y.bd.length kB, .float .f64 y.off, .int .i64 y.bus, .int .i64 y.busDaily, .int .i64 y.busWeekly, .int .i64 y.hopper, .int .i64 y.most, .int .i64 y.longest, .int .i64 y.change, .int .i64 y.passback, .int .i64 y.delay, .int .i64 y.threshold] 27)).alloc (.cells #[.int .i64 yc, .int .i64 yf] 37)) (v6.heap.size + 1) #[.int .i64 yc, .int .i64 yf] 37) := hide (by
    obtain ⟨k0, k1, k2, k3⟩ := unhide HX5
    have h0 := ((Fr.refl (fun _ => False) v6).alloc (.cells #[.slice uS y.st.length kS, .slice uP y.sp.length kP, .slice uB y.bd.length kB, .float .f64 y.off, .int .i64 y.bus, .int .i64 y.busDaily, .int .i64 y.busWeekly, .int .i64 y.hopper, .int .i64 y.most, .int .i64 y.longest, .int .i64 y.change, .int .i64 y.passback, .int .i64 y.delay, .int .i64 y.threshold] 27)).alloc (.cells #[.int .i64 yc, .int .i64 yf] 37)
    have h1 := hF.trans h0 (fun _ _ t => t)
    have h2 := Bx.new (v6.alloc (.cells #[.slice uS y.st.length kS, .slice uP y.sp.length kP, .slice uB y.bd.length kB, .float .f64 y.off, .int .i64 y.bus, .int .i64 y.busDaily, .int .i64 y.busWeekly, .int .i64 y.hopper, .int .i64 y.most, .int .i64 y.longest, .int .i64 y.change, .int .i64 y.passback, .int .i64 y.delay, .int .i64 y.threshold] 27)) #[.int .i64 yc, .int .i64 yf] 37
    rw [heap_alloc] at h2
    exact ⟨k0.trans h1 (fun _ _ t => t), k1.frame h1 (fun t => t), k2.frame h1 (fun t => t), k3.keep h1, hN.go h0 (fun _ t => t.elim), (Bx.new _ _ _).alloc _, h2⟩)
  have HG0 : Hid (0 < kS → v5.heap.size ≤ g0 ∧ g0 < v6.heap.size) := hide (fun hc => ⟨hN.k0.new hc, hN.k0.row.lt (by omega) hc⟩)
  have HG1 : Hid (0 < kP → v5.heap.size ≤ g1 ∧ g1 < v6.heap.size) := hide (fun hc => ⟨hN.k1.new hc, hN.k1.row.lt (by omega) hc⟩)
  have HG01 : Hid (0 < kS → 0 < kP → g0 ≠ g1) := hide hN.ne.1
  have HB7 : Hid (v5.heap.size ≤ v6.heap.size) := hide hF.size
  clear hN hF HX5
  go_upto_region 8 with (fail)
  have HB8 : Hid (v6.heap.size + 1 < ((v6.alloc (.cells #[.slice uS y.st.length kS, .slice uP y.sp.length kP, .slice uB y.bd.length kB, .float .f64 y.off, .int .i64 y.bus, .int .i64 y.busDaily, .int .i64 y.busWeekly, .int .i64 y.hopper, .int .i64 y.most, .int .i64 y.longest, .int .i64 y.change, .int .i64 y.passback, .int .i64 y.delay, .int .i64 y.threshold] 27)).alloc (.cells #[.int .i64 yc, .int .i64 yf] 37)).heap.size) := hide (by rw [heap_alloc, heap_alloc]; omega)
  generalize ((v6.alloc (.cells #[.slice uS y.st.length kS, .slice uP y.sp.length kP, .slice uB y.bd.length kB, .float .f64 y.off, .int .i64 y.bus, .int .i64 y.busDaily, .int .i64 y.busWeekly, .int .i64 y.hopper, .int .i64 y.most, .int .i64 y.longest, .int .i64 y.change, .int .i64 y.passback, .int .i64 y.delay, .int .i64 y.threshold] 27)).alloc (.cells #[.int .i64 yc, .int .i64 yf] 37)) = t6 at *
  obtain ⟨V1, HV⟩ : ∃ B, Hid (v6.heap.size + 1 = B) := ⟨_, rfl⟩
  rw [unhide HV] at HX6 HB8 ⊢
  obtain ⟨U1, HU⟩ : ∃ B, Hid (v6.heap.size = B) := ⟨_, rfl⟩
  have HB9 : Hid (v6.heap.size = U1 ∧ U1 < V1) := hide ⟨unhide HU, by have := unhide HV; have := unhide HU; omega⟩
  rw [unhide HU] at HX6 ⊢
  clear HV HU
  go_wp2_with fail
  refine (unhide RR t6 io ic ((unhide HX6).2.2.2.1.bin (by have := unhide HFT; omega)).b).mono ?_
  rintro e v7 ⟨A2, h0, h1, h2, rfl, hN, hF⟩
  have HX7 : Hid (Fr (fun _ => False) w ((v7.alloc (.cells #[.slice A2.aS y.st.length A2.cS, .slice A2.aP y.sp.length A2.cP, .slice A2.aB y.bd.length A2.cB, .float .f64 y.off, .int .i64 y.bus, .int .i64 y.busDaily, .int .i64 y.busWeekly, .int .i64 y.hopper, .int .i64 y.most, .int .i64 y.longest, .int .i64 y.change, .int .i64 y.passback, .int .i64 y.delay, .int .i64 y.threshold] 27)).alloc (.cells #[.int .i64 yc, .int .i64 yf] 37)) ∧ Row ((v7.alloc (.cells #[.slice A2.aS y.st.length A2.cS, .slice A2.aP y.sp.length A2.cP, .slice A2.aB y.bd.length A2.cB, .float .f64 y.off, .int .i64 y.bus, .int .i64 y.busDaily, .int .i64 y.busWeekly, .int .i64 y.hopper, .int .i64 y.most, .int .i64 y.longest, .int .i64 y.change, .int .i64 y.passback, .int .i64 y.delay, .int .i64 y.threshold] 27)).alloc (.cells #[.int .i64 yc, .int .i64 yf] 37)) (.slice xo x.length xc) xg x ∧ Row ((v7.alloc (.cells #[.slice A2.aS y.st.length A2.cS, .slice A2.aP y.sp.length A2.cP, .slice A2.aB y.bd.length A2.cB, .float .f64 y.off, .int .i64 y.bus, .int .i64 y.busDaily, .int .i64 y.busWeekly, .int .i64 y.hopper, .int .i64 y.most, .int .i64 y.longest, .int .i64 y.change, .int .i64 y.passback, .int .i64 y.delay, .int .i64 y.threshold] 27)).alloc (.cells #[.int .i64 yc, .int .i64 yf] 37)) (.slice yo x.length yk) yg x ∧ LentB v4 ((v7.alloc (.cells #[.slice A2.aS y.st.length A2.cS, .slice A2.aP y.sp.length A2.cP, .slice A2.aB y.bd.length A2.cB, .float .f64 y.off, .int .i64 y.bus, .int .i64 y.busDaily, .int .i64 y.busWeekly, .int .i64 y.hopper, .int .i64 y.most, .int .i64 y.longest, .int .i64 y.change, .int .i64 y.passback, .int .i64 y.delay, .int .i64 y.threshold] 27)).alloc (.cells #[.int .i64 yc, .int .i64 yf] 37)) io ic ig bs ∧ TNew v5 ((v7.alloc (.cells #[.slice A2.aS y.st.length A2.cS, .slice A2.aP y.sp.length A2.cP, .slice A2.aB y.bd.length A2.cB, .float .f64 y.off, .int .i64 y.bus, .int .i64 y.busDaily, .int .i64 y.busWeekly, .int .i64 y.hopper, .int .i64 y.most, .int .i64 y.longest, .int .i64 y.change, .int .i64 y.passback, .int .i64 y.delay, .int .i64 y.threshold] 27)).alloc (.cells #[.int .i64 yc, .int .i64 yf] 37)) y ⟨uS, kS, uP, kP, uB, kB⟩ g0 g1 g2 ∧ Bx ((v7.alloc (.cells #[.slice A2.aS y.st.length A2.cS, .slice A2.aP y.sp.length A2.cP, .slice A2.aB y.bd.length A2.cB, .float .f64 y.off, .int .i64 y.bus, .int .i64 y.busDaily, .int .i64 y.busWeekly, .int .i64 y.hopper, .int .i64 y.most, .int .i64 y.longest, .int .i64 y.change, .int .i64 y.passback, .int .i64 y.delay, .int .i64 y.threshold] 27)).alloc (.cells #[.int .i64 yc, .int .i64 yf] 37)) U1 #[.slice uS y.st.length kS, .slice uP y.sp.length kP, .slice uB y.bd.length kB, .float .f64 y.off, .int .i64 y.bus, .int .i64 y.busDaily, .int .i64 y.busWeekly, .int .i64 y.hopper, .int .i64 y.most, .int .i64 y.longest, .int .i64 y.change, .int .i64 y.passback, .int .i64 y.delay, .int .i64 y.threshold] 27 ∧ Bx ((v7.alloc (.cells #[.slice A2.aS y.st.length A2.cS, .slice A2.aP y.sp.length A2.cP, .slice A2.aB y.bd.length A2.cB, .float .f64 y.off, .int .i64 y.bus, .int .i64 y.busDaily, .int .i64 y.busWeekly, .int .i64 y.hopper, .int .i64 y.most, .int .i64 y.longest, .int .i64 y.change, .int .i64 y.passback, .int .i64 y.delay, .int .i64 y.threshold] 27)).alloc (.cells #[.int .i64 yc, .int .i64 yf] 37)) V1 #[.int .i64 yc, .int .i64 yf] 37 ∧ TNew t6 ((v7.alloc (.cells #[.slice A2.aS y.st.length A2.cS, .slice A2.aP y.sp.length A2.cP, .slice A2.aB y.bd.length A2.cB, .float .f64 y.off, .int .i64 y.bus, .int .i64 y.busDaily, .int .i64 y.busWeekly, .int .i64 y.hopper, .int .i64 y.most, .int .i64 y.longest, .int .i64 y.change, .int .i64 y.passback, .int .i64 y.delay, .int .i64 y.threshold] 27)).alloc (.cells #[.int .i64 yc, .int .i64 yf] 37)) y A2 h0 h1 h2 ∧ Bx ((v7.alloc (.cells #[.slice A2.aS y.st.length A2.cS, .slice A2.aP y.sp.length A2.cP, .slice A2.aB y.bd.length A2.cB, .float .f64 y.off, .int .i64 y.bus, .int .i64 y.busDaily, .int .i64 y.busWeekly, .int .i64 y.hopper, .int .i64 y.most, .int .i64 y.longest, .int .i64 y.change, .int .i64 y.passback, .int .i64 y.delay, .int .i64 y.threshold] 27)).alloc (.cells #[.int .i64 yc, .int .i64 yf] 37)) v7.heap.size #[.slice A2.aS y.st.length A2.cS, .slice A2.aP y.sp.length A2.cP, .slice A2.aB y.bd.length A2.cB, .float .f64 y.off, .int .i64 y.bus, .int .i64 y.busDaily, .int .i64 y.busWeekly, .int .i64 y.hopper, .int .i64 y.most, .int .i64 y.longest, .int .i64 y.change, .int .i64 y.passback, .int .i64 y.delay, .int .i64 y.threshold] 27 ∧ Bx ((v7.alloc (.cells #[.slice A2.aS y.st.length A2.cS, .slice A2.aP y.sp.length A2.cP, .slice A2.aB y.bd.length A2.cB, .float .f64 y.off, .int .i64 y.bus, .int .i64 y.busDaily, .int .i64 y.busWeekly, .int .i64 y.hopper, .int .i64 y.most, .int .i64 y.longest, .int .i64 y.change, .int .i64 y.passback, .int .i64 y.delay, .int .i64 y.threshold] 27)).alloc (.cells #[.int .i64 yc, .int .i64 yf] 37)) (v7.heap.size + 1) #[.int .i64 yc, .int .i64 yf] 37) := hide (by
    obtain ⟨k0, k1, k2, k3, k4, k5, k6⟩ := unhide HX6
    have f0 := ((Fr.refl (fun _ => False) v7).alloc (.cells #[.slice A2.aS y.st.length A2.cS, .slice A2.aP y.sp.length A2.cP, .slice A2.aB y.bd.length A2.cB, .float .f64 y.off, .int .i64 y.bus, .int .i64 y.busDaily, .int .i64 y.busWeekly, .int .i64 y.hopper, .int .i64 y.most, .int .i64 y.longest, .int .i64 y.change, .int .i64 y.passback, .int .i64 y.delay, .int .i64 y.threshold] 27)).alloc (.cells #[.int .i64 yc, .int .i64 yf] 37)
    have f1 := hF.trans f0 (fun _ _ t => t)
    have f2 := Bx.new (v7.alloc (.cells #[.slice A2.aS y.st.length A2.cS, .slice A2.aP y.sp.length A2.cP, .slice A2.aB y.bd.length A2.cB, .float .f64 y.off, .int .i64 y.bus, .int .i64 y.busDaily, .int .i64 y.busWeekly, .int .i64 y.hopper, .int .i64 y.most, .int .i64 y.longest, .int .i64 y.change, .int .i64 y.passback, .int .i64 y.delay, .int .i64 y.threshold] 27)) #[.int .i64 yc, .int .i64 yf] 37
    rw [heap_alloc] at f2
    exact ⟨k0.trans f1 (fun _ _ t => t), k1.frame f1 (fun t => t), k2.frame f1 (fun t => t), k3.keep f1, k4.go f1 (fun _ t => t.elim), k5.keep f1, k6.keep f1, hN.go f0 (fun _ t => t.elim), (Bx.new _ _ _).alloc _, f2⟩)
  have HB10 : Hid (t6.heap.size ≤ v7.heap.size) := hide hF.size
  clear hN hF HX6
  go_upto_region 9 with (fail)
  have HB11 : Hid (v7.heap.size + 1 < ((v7.alloc (.cells #[.slice A2.aS y.st.length A2.cS, .slice A2.aP y.sp.length A2.cP, .slice A2.aB y.bd.length A2.cB, .float .f64 y.off, .int .i64 y.bus, .int .i64 y.busDaily, .int .i64 y.busWeekly, .int .i64 y.hopper, .int .i64 y.most, .int .i64 y.longest, .int .i64 y.change, .int .i64 y.passback, .int .i64 y.delay, .int .i64 y.threshold] 27)).alloc (.cells #[.int .i64 yc, .int .i64 yf] 37)).heap.size) := hide (by rw [heap_alloc, heap_alloc]; omega)
  generalize ((v7.alloc (.cells #[.slice A2.aS y.st.length A2.cS, .slice A2.aP y.sp.length A2.cP, .slice A2.aB y.bd.length A2.cB, .float .f64 y.off, .int .i64 y.bus, .int .i64 y.busDaily, .int .i64 y.busWeekly, .int .i64 y.hopper, .int .i64 y.most, .int .i64 y.longest, .int .i64 y.change, .int .i64 y.passback, .int .i64 y.delay, .int .i64 y.threshold] 27)).alloc (.cells #[.int .i64 yc, .int .i64 yf] 37)) = t7 at *
  obtain ⟨V2, HV⟩ : ∃ B, Hid (v7.heap.size + 1 = B) := ⟨_, rfl⟩
  rw [unhide HV] at HX7 HB11 ⊢
  obtain ⟨U2, HU⟩ : ∃ B, Hid (v7.heap.size = B) := ⟨_, rfl⟩
  have HB12 : Hid (t6.heap.size ≤ U2 ∧ U2 < V2) := hide ⟨by have := unhide HU; have := unhide HB10; omega, by have := unhide HV; have := unhide HU; omega⟩
  rw [unhide HU] at HX7 ⊢
  clear HV HU
  go_wp2_with fail
  refine (kept_any ((unhide HBI).b.keep (unhide HX7).1) (unhide HX7).2.2.2.1 (unhide HFT)).mono ?_
  rintro e v8 ⟨rfl, hF⟩
  have HX8 : Hid (Fr (fun _ => False) w v8 ∧ Row v8 (.slice xo x.length xc) xg x ∧ Row v8 (.slice yo x.length yk) yg x ∧ TNew v5 v8 y ⟨uS, kS, uP, kP, uB, kB⟩ g0 g1 g2 ∧ Bx v8 U1 #[.slice uS y.st.length kS, .slice uP y.sp.length kP, .slice uB y.bd.length kB, .float .f64 y.off, .int .i64 y.bus, .int .i64 y.busDaily, .int .i64 y.busWeekly, .int .i64 y.hopper, .int .i64 y.most, .int .i64 y.longest, .int .i64 y.change, .int .i64 y.passback, .int .i64 y.delay, .int .i64 y.threshold] 27 ∧ Bx v8 V1 #[.int .i64 yc, .int .i64 yf] 37 ∧ TNew t6 v8 y A2 h0 h1 h2 ∧ Bx v8 U2 #[.slice A2.aS y.st.length A2.cS, .slice A2.aP y.sp.length A2.cP, .slice A2.aB y.bd.length A2.cB, .float .f64 y.off, .int .i64 y.bus, .int .i64 y.busDaily, .int .i64 y.busWeekly, .int .i64 y.hopper, .int .i64 y.most, .int .i64 y.longest, .int .i64 y.change, .int .i64 y.passback, .int .i64 y.delay, .int .i64 y.threshold] 27 ∧ Bx v8 V2 #[.int .i64 yc, .int .i64 yf] 37) := hide (by
    obtain ⟨k0, k1, k2, k3, k4, k5, k6, k7, k8, k9⟩ := unhide HX7
    have b0 := unhide HB0
    have b1 := unhide HB1
    have b2 := unhide HB2
    have b3 := unhide HB3
    have b4 := unhide HB4
    have b5 := unhide HB5
    have b6 := unhide HB6
    have b7 := unhide HB7
    have b8 := unhide HB8
    have b9 := unhide HB9
    have b12 := unhide HB12
    exact ⟨k0.trans hF (fun q hq t => by have : q = ig := t; omega), k1.frame0 hF (fun hc t => by have : xg = ig := t; have := unhide HXG hc; omega), k2.frame0 hF (fun hc t => by have : yg = ig := t; have := unhide HYG hc; omega), k4.go hF (fun q hq => by have : q = ig := hq; omega), k5.frame hF (fun t => by have : U1 = ig := t; omega), k6.frame hF (fun t => by have : V1 = ig := t; omega), k7.go hF (fun q hq => by have : q = ig := hq; omega), k8.frame hF (fun t => by have : U2 = ig := t; omega), k9.frame hF (fun t => by have : V2 = ig := t; omega)⟩)
  have HB13 : Hid (t7.heap.size ≤ v8.heap.size) := hide hF.size
  clear hF HX7
  go_wp2_with fail
  refine (unhide RV v8 ao cap ((unhide HBI).keep (unhide HX8).1)).mono ?_
  rintro e v9 ⟨A3, j0, j1, j2, rfl, hN, hF⟩
  have HX9 : Hid (Fr (fun _ => False) w ((v9.alloc (.cells #[.slice A3.aS y.st.length A3.cS, .slice A3.aP y.sp.length A3.cP, .slice A3.aB y.bd.length A3.cB, .float .f64 y.off, .int .i64 y.bus, .int .i64 y.busDaily, .int .i64 y.busWeekly, .int .i64 y.hopper, .int .i64 y.most, .int .i64 y.longest, .int .i64 y.change, .int .i64 y.passback, .int .i64 y.delay, .int .i64 y.threshold] 27)).alloc (.cells #[.int .i64 yc, .int .i64 yf] 37)) ∧ Row ((v9.alloc (.cells #[.slice A3.aS y.st.length A3.cS, .slice A3.aP y.sp.length A3.cP, .slice A3.aB y.bd.length A3.cB, .float .f64 y.off, .int .i64 y.bus, .int .i64 y.busDaily, .int .i64 y.busWeekly, .int .i64 y.hopper, .int .i64 y.most, .int .i64 y.longest, .int .i64 y.change, .int .i64 y.passback, .int .i64 y.delay, .int .i64 y.threshold] 27)).alloc (.cells #[.int .i64 yc, .int .i64 yf] 37)) (.slice xo x.length xc) xg x ∧ Row ((v9.alloc (.cells #[.slice A3.aS y.st.length A3.cS, .slice A3.aP y.sp.length A3.cP, .slice A3.aB y.bd.length A3.cB, .float .f64 y.off, .int .i64 y.bus, .int .i64 y.busDaily, .int .i64 y.busWeekly, .int .i64 y.hopper, .int .i64 y.most, .int .i64 y.longest, .int .i64 y.change, .int .i64 y.passback, .int .i64 y.delay, .int .i64 y.threshold] 27)).alloc (.cells #[.int .i64 yc, .int .i64 yf] 37)) (.slice yo x.length yk) yg x ∧ TNew v5 ((v9.alloc (.cells #[.slice A3.aS y.st.length A3.cS, .slice A3.aP y.sp.length A3.cP, .slice A3.aB y.bd.length A3.cB, .float .f64 y.off, .int .i64 y.bus, .int .i64 y.busDaily, .int .i64 y.busWeekly, .int .i64 y.hopper, .int .i64 y.most, .int .i64 y.longest, .int .i64 y.change, .int .i64 y.passback, .int .i64 y.delay, .int .i64 y.threshold] 27)).alloc (.cells #[.int .i64 yc, .int .i64 yf] 37)) y ⟨uS, kS, uP, kP, uB, kB⟩ g0 g1 g2 ∧ Bx ((v9.alloc (.cells #[.slice A3.aS y.st.length A3.cS, .slice A3.aP y.sp.length A3.cP, .slice A3.aB y.bd.length A3.cB, .float .f64 y.off, .int .i64 y.bus, .int .i64 y.busDaily, .int .i64 y.busWeekly, .int .i64 y.hopper, .int .i64 y.most, .int .i64 y.longest, .int .i64 y.change, .int .i64 y.passback, .int .i64 y.delay, .int .i64 y.threshold] 27)).alloc (.cells #[.int .i64 yc, .int .i64 yf] 37)) U1 #[.slice uS y.st.length kS, .slice uP y.sp.length kP, .slice uB y.bd.length kB, .float .f64 y.off, .int .i64 y.bus, .int .i64 y.busDaily, .int .i64 y.busWeekly, .int .i64 y.hopper, .int .i64 y.most, .int .i64 y.longest, .int .i64 y.change, .int .i64 y.passback, .int .i64 y.delay, .int .i64 y.threshold] 27 ∧ Bx ((v9.alloc (.cells #[.slice A3.aS y.st.length A3.cS, .slice A3.aP y.sp.length A3.cP, .slice A3.aB y.bd.length A3.cB, .float .f64 y.off, .int .i64 y.bus, .int .i64 y.busDaily, .int .i64 y.busWeekly, .int .i64 y.hopper, .int .i64 y.most, .int .i64 y.longest, .int .i64 y.change, .int .i64 y.passback, .int .i64 y.delay, .int .i64 y.threshold] 27)).alloc (.cells #[.int .i64 yc, .int .i64 yf] 37)) V1 #[.int .i64 yc, .int .i64 yf] 37 ∧ TNew t6 ((v9.alloc (.cells #[.slice A3.aS y.st.length A3.cS, .slice A3.aP y.sp.length A3.cP, .slice A3.aB y.bd.length A3.cB, .float .f64 y.off, .int .i64 y.bus, .int .i64 y.busDaily, .int .i64 y.busWeekly, .int .i64 y.hopper, .int .i64 y.most, .int .i64 y.longest, .int .i64 y.change, .int .i64 y.passback, .int .i64 y.delay, .int .i64 y.threshold] 27)).alloc (.cells #[.int .i64 yc, .int .i64 yf] 37)) y A2 h0 h1 h2 ∧ Bx ((v9.alloc (.cells #[.slice A3.aS y.st.length A3.cS, .slice A3.aP y.sp.length A3.cP, .slice A3.aB y.bd.length A3.cB, .float .f64 y.off, .int .i64 y.bus, .int .i64 y.busDaily, .int .i64 y.busWeekly, .int .i64 y.hopper, .int .i64 y.most, .int .i64 y.longest, .int .i64 y.change, .int .i64 y.passback, .int .i64 y.delay, .int .i64 y.threshold] 27)).alloc (.cells #[.int .i64 yc, .int .i64 yf] 37)) U2 #[.slice A2.aS y.st.length A2.cS, .slice A2.aP y.sp.length A2.cP, .slice A2.aB y.bd.length A2.cB, .float .f64 y.off, .int .i64 y.bus, .int .i64 y.busDaily, .int .i64 y.busWeekly, .int .i64 y.hopper, .int .i64 y.most, .int .i64 y.longest, .int .i64 y.change, .int .i64 y.passback, .int .i64 y.delay, .int .i64 y.threshold] 27 ∧ Bx ((v9.alloc (.cells #[.slice A3.aS y.st.length A3.cS, .slice A3.aP y.sp.length A3.cP, .slice A3.aB y.bd.length A3.cB, .float .f64 y.off, .int .i64 y.bus, .int .i64 y.busDaily, .int .i64 y.busWeekly, .int .i64 y.hopper, .int .i64 y.most, .int .i64 y.longest, .int .i64 y.change, .int .i64 y.passback, .int .i64 y.delay, .int .i64 y.threshold] 27)).alloc (.cells #[.int .i64 yc, .int .i64 yf] 37)) V2 #[.int .i64 yc, .int .i64 yf] 37 ∧ TNew v8 ((v9.alloc (.cells #[.slice A3.aS y.st.length A3.cS, .slice A3.aP y.sp.length A3.cP, .slice A3.aB y.bd.length A3.cB, .float .f64 y.off, .int .i64 y.bus, .int .i64 y.busDaily, .int .i64 y.busWeekly, .int .i64 y.hopper, .int .i64 y.most, .int .i64 y.longest, .int .i64 y.change, .int .i64 y.passback, .int .i64 y.delay, .int .i64 y.threshold] 27)).alloc (.cells #[.int .i64 yc, .int .i64 yf] 37)) y A3 j0 j1 j2 ∧ Bx ((v9.alloc (.cells #[.slice A3.aS y.st.length A3.cS, .slice A3.aP y.sp.length A3.cP, .slice A3.aB y.bd.length A3.cB, .float .f64 y.off, .int .i64 y.bus, .int .i64 y.busDaily, .int .i64 y.busWeekly, .int .i64 y.hopper, .int .i64 y.most, .int .i64 y.longest, .int .i64 y.change, .int .i64 y.passback, .int .i64 y.delay, .int .i64 y.threshold] 27)).alloc (.cells #[.int .i64 yc, .int .i64 yf] 37)) v9.heap.size #[.slice A3.aS y.st.length A3.cS, .slice A3.aP y.sp.length A3.cP, .slice A3.aB y.bd.length A3.cB, .float .f64 y.off, .int .i64 y.bus, .int .i64 y.busDaily, .int .i64 y.busWeekly, .int .i64 y.hopper, .int .i64 y.most, .int .i64 y.longest, .int .i64 y.change, .int .i64 y.passback, .int .i64 y.delay, .int .i64 y.threshold] 27 ∧ Bx ((v9.alloc (.cells #[.slice A3.aS y.st.length A3.cS, .slice A3.aP y.sp.length A3.cP, .slice A3.aB y.bd.length A3.cB, .float .f64 y.off, .int .i64 y.bus, .int .i64 y.busDaily, .int .i64 y.busWeekly, .int .i64 y.hopper, .int .i64 y.most, .int .i64 y.longest, .int .i64 y.change, .int .i64 y.passback, .int .i64 y.delay, .int .i64 y.threshold] 27)).alloc (.cells #[.int .i64 yc, .int .i64 yf] 37)) (v9.heap.size + 1) #[.int .i64 yc, .int .i64 yf] 37) := hide (by
    obtain ⟨k0, k1, k2, k4, k5, k6, k7, k8, k9⟩ := unhide HX8
    have f0 := ((Fr.refl (fun _ => False) v9).alloc (.cells #[.slice A3.aS y.st.length A3.cS, .slice A3.aP y.sp.length A3.cP, .slice A3.aB y.bd.length A3.cB, .float .f64 y.off, .int .i64 y.bus, .int .i64 y.busDaily, .int .i64 y.busWeekly, .int .i64 y.hopper, .int .i64 y.most, .int .i64 y.longest, .int .i64 y.change, .int .i64 y.passback, .int .i64 y.delay, .int .i64 y.threshold] 27)).alloc (.cells #[.int .i64 yc, .int .i64 yf] 37)
    have f1 := hF.trans f0 (fun _ _ t => t)
    have f2 := Bx.new (v9.alloc (.cells #[.slice A3.aS y.st.length A3.cS, .slice A3.aP y.sp.length A3.cP, .slice A3.aB y.bd.length A3.cB, .float .f64 y.off, .int .i64 y.bus, .int .i64 y.busDaily, .int .i64 y.busWeekly, .int .i64 y.hopper, .int .i64 y.most, .int .i64 y.longest, .int .i64 y.change, .int .i64 y.passback, .int .i64 y.delay, .int .i64 y.threshold] 27)) #[.int .i64 yc, .int .i64 yf] 37
    rw [heap_alloc] at f2
    exact ⟨k0.trans f1 (fun _ _ t => t), k1.frame f1 (fun t => t), k2.frame f1 (fun t => t), k4.go f1 (fun _ t => t.elim), k5.keep f1, k6.keep f1, k7.go f1 (fun _ t => t.elim), k8.keep f1, k9.keep f1, hN.go f0 (fun _ t => t.elim), (Bx.new _ _ _).alloc _, f2⟩)
  have HB14 : Hid (v8.heap.size ≤ v9.heap.size) := hide hF.size
  clear hN hF HX8
  go_upto_region 11 with (fail)
  generalize ((v9.alloc (.cells #[.slice A3.aS y.st.length A3.cS, .slice A3.aP y.sp.length A3.cP, .slice A3.aB y.bd.length A3.cB, .float .f64 y.off, .int .i64 y.bus, .int .i64 y.busDaily, .int .i64 y.busWeekly, .int .i64 y.hopper, .int .i64 y.most, .int .i64 y.longest, .int .i64 y.change, .int .i64 y.passback, .int .i64 y.delay, .int .i64 y.threshold] 27)).alloc (.cells #[.int .i64 yc, .int .i64 yf] 37)) = t9 at *
  obtain ⟨V3, HV⟩ : ∃ B, Hid (v9.heap.size + 1 = B) := ⟨_, rfl⟩
  rw [unhide HV] at HX9 ⊢
  obtain ⟨U3, HU⟩ : ∃ B, Hid (v9.heap.size = B) := ⟨_, rfl⟩
  have HB15 : Hid (v8.heap.size ≤ U3 ∧ U3 < V3) := hide ⟨by have := unhide HU; have := unhide HB14; omega, by have := unhide HV; have := unhide HU; omega⟩
  rw [unhide HU] at HX9 ⊢
  clear HV HU
  have q0 : t9.cell? ⟨U1, 0, none⟩ = some (.slice uS y.st.length kS) := (unhide HX9).2.2.2.2.1.cell 0
  have q1 : t9.cell? ⟨U1, 1, none⟩ = some (.slice uP y.sp.length kP) := (unhide HX9).2.2.2.2.1.cell 1
  have q2 : t9.cell? ⟨U1, 2, none⟩ = some (.slice uB y.bd.length kB) := (unhide HX9).2.2.2.2.1.cell 2
  have q3 : t9.cell? ⟨U1, 3, none⟩ = some (.float .f64 y.off) := (unhide HX9).2.2.2.2.1.cell 3
  have q4 : t9.cell? ⟨U1, 4, none⟩ = some (.int .i64 y.bus) := (unhide HX9).2.2.2.2.1.cell 4
  have q5 : t9.cell? ⟨U1, 5, none⟩ = some (.int .i64 y.busDaily) := (unhide HX9).2.2.2.2.1.cell 5
  have q6 : t9.cell? ⟨U1, 6, none⟩ = some (.int .i64 y.busWeekly) := (unhide HX9).2.2.2.2.1.cell 6
  have q7 : t9.cell? ⟨U1, 7, none⟩ = some (.int .i64 y.hopper) := (unhide HX9).2.2.2.2.1.cell 7
  have q8 : t9.cell? ⟨U1, 8, none⟩ = some (.int .i64 y.most) := (unhide HX9).2.2.2.2.1.cell 8
  have q9 : t9.cell? ⟨U1, 9, none⟩ = some (.int .i64 y.longest) := (unhide HX9).2.2.2.2.1.cell 9
  have q10 : t9.cell? ⟨U1, 10, none⟩ = some (.int .i64 y.change) := (unhide HX9).2.2.2.2.1.cell 10
  have q11 : t9.cell? ⟨U1, 11, none⟩ = some (.int .i64 y.passback) := (unhide HX9).2.2.2.2.1.cell 11
  have q12 : t9.cell? ⟨U1, 12, none⟩ = some (.int .i64 y.delay) := (unhide HX9).2.2.2.2.1.cell 12
  have q13 : t9.cell? ⟨U1, 13, none⟩ = some (.int .i64 y.threshold) := (unhide HX9).2.2.2.2.1.cell 13
  have s0 : t9.cell? ⟨U3, 0, none⟩ = some (.slice A3.aS y.st.length A3.cS) := (unhide HX9).2.2.2.2.2.2.2.2.2.2.1.cell 0
  have s1 : t9.cell? ⟨U3, 1, none⟩ = some (.slice A3.aP y.sp.length A3.cP) := (unhide HX9).2.2.2.2.2.2.2.2.2.2.1.cell 1
  have s2 : t9.cell? ⟨U3, 2, none⟩ = some (.slice A3.aB y.bd.length A3.cB) := (unhide HX9).2.2.2.2.2.2.2.2.2.2.1.cell 2
  have s3 : t9.cell? ⟨U3, 3, none⟩ = some (.float .f64 y.off) := (unhide HX9).2.2.2.2.2.2.2.2.2.2.1.cell 3
  have s4 : t9.cell? ⟨U3, 4, none⟩ = some (.int .i64 y.bus) := (unhide HX9).2.2.2.2.2.2.2.2.2.2.1.cell 4
  have s5 : t9.cell? ⟨U3, 5, none⟩ = some (.int .i64 y.busDaily) := (unhide HX9).2.2.2.2.2.2.2.2.2.2.1.cell 5
  have s6 : t9.cell? ⟨U3, 6, none⟩ = some (.int .i64 y.busWeekly) := (unhide HX9).2.2.2.2.2.2.2.2.2.2.1.cell 6
  have s7 : t9.cell? ⟨U3, 7, none⟩ = some (.int .i64 y.hopper) := (unhide HX9).2.2.2.2.2.2.2.2.2.2.1.cell 7
  have s8 : t9.cell? ⟨U3, 8, none⟩ = some (.int .i64 y.most) := (unhide HX9).2.2.2.2.2.2.2.2.2.2.1.cell 8
  have s9 : t9.cell? ⟨U3, 9, none⟩ = some (.int .i64 y.longest) := (unhide HX9).2.2.2.2.2.2.2.2.2.2.1.cell 9
  have s10 : t9.cell? ⟨U3, 10, none⟩ = some (.int .i64 y.change) := (unhide HX9).2.2.2.2.2.2.2.2.2.2.1.cell 10
  have s11 : t9.cell? ⟨U3, 11, none⟩ = some (.int .i64 y.passback) := (unhide HX9).2.2.2.2.2.2.2.2.2.2.1.cell 11
  have s12 : t9.cell? ⟨U3, 12, none⟩ = some (.int .i64 y.delay) := (unhide HX9).2.2.2.2.2.2.2.2.2.2.1.cell 12
  have s13 : t9.cell? ⟨U3, 13, none⟩ = some (.int .i64 y.threshold) := (unhide HX9).2.2.2.2.2.2.2.2.2.2.1.cell 13
  go_wp2_with fail
  refine (unhide RS t9 ⟨uS, kS, uP, kP, uB, kB⟩ A3 (unhide HX9).2.2.2.1.at (unhide HX9).2.2.2.2.2.2.2.2.2.1.at).mono ?_
  rintro e v10 ⟨rfl, hF⟩
  have HX10 : Hid (Fr (fun _ => False) w v10 ∧ Row v10 (.slice xo x.length xc) xg x ∧ Row v10 (.slice yo x.length yk) yg x ∧ TNew v5 v10 y ⟨uS, kS, uP, kP, uB, kB⟩ g0 g1 g2 ∧ Bx v10 U1 #[.slice uS y.st.length kS, .slice uP y.sp.length kP, .slice uB y.bd.length kB, .float .f64 y.off, .int .i64 y.bus, .int .i64 y.busDaily, .int .i64 y.busWeekly, .int .i64 y.hopper, .int .i64 y.most, .int .i64 y.longest, .int .i64 y.change, .int .i64 y.passback, .int .i64 y.delay, .int .i64 y.threshold] 27 ∧ Bx v10 V1 #[.int .i64 yc, .int .i64 yf] 37 ∧ TNew t6 v10 y A2 h0 h1 h2 ∧ Bx v10 U2 #[.slice A2.aS y.st.length A2.cS, .slice A2.aP y.sp.length A2.cP, .slice A2.aB y.bd.length A2.cB, .float .f64 y.off, .int .i64 y.bus, .int .i64 y.busDaily, .int .i64 y.busWeekly, .int .i64 y.hopper, .int .i64 y.most, .int .i64 y.longest, .int .i64 y.change, .int .i64 y.passback, .int .i64 y.delay, .int .i64 y.threshold] 27 ∧ Bx v10 V2 #[.int .i64 yc, .int .i64 yf] 37 ∧ TNew v8 v10 y A3 j0 j1 j2 ∧ Bx v10 U3 #[.slice A3.aS y.st.length A3.cS, .slice A3.aP y.sp.length A3.cP, .slice A3.aB y.bd.length A3.cB, .float .f64 y.off, .int .i64 y.bus, .int .i64 y.busDaily, .int .i64 y.busWeekly, .int .i64 y.hopper, .int .i64 y.most, .int .i64 y.longest, .int .i64 y.change, .int .i64 y.passback, .int .i64 y.delay, .int .i64 y.threshold] 27 ∧ Bx v10 V3 #[.int .i64 yc, .int .i64 yf] 37) := hide (by
    obtain ⟨k0, k1, k2, k4, k5, k6, k7, k8, k9, k10, k11, k12⟩ := unhide HX9
    exact ⟨k0.trans hF (fun _ _ t => t), k1.frame hF (fun t => t), k2.frame hF (fun t => t), k4.go hF (fun _ t => t.elim), k5.keep hF, k6.keep hF, k7.go hF (fun _ t => t.elim), k8.keep hF, k9.keep hF, k10.go hF (fun _ t => t.elim), k11.keep hF, k12.keep hF⟩)
  clear hF HX9 q0 q1 q2 q3 q4 q5 q6 q7 q8 q9 q10 q11 q12 q13 s0 s1 s2 s3 s4 s5 s6 s7 s8 s9 s10 s11 s12 s13
  have HRM : Hid (Room v10 g0 (kS * 3) ∧ Room v10 g1 (kP * 5) ∧ y.st.length ≤ kS ∧ y.sp.length ≤ kP ∧ (0 < kS → uS = some ⟨g0, 0, none⟩) ∧ (0 < kP → uP = some ⟨g1, 0, none⟩)) := hide (by
    obtain ⟨k0, k1, k2, k4, _⟩ := unhide HX10
    refine ⟨k4.k0.row.room', k4.k1.row.room', ?_, ?_, k4.k0.row.ad, k4.k1.row.ad⟩
    · have := k4.k0.row.le
      rw [stV_length] at this
      simp only at this
      omega
    · have := k4.k1.row.le
      rw [spV_length] at this
      simp only at this
      omega)
  have HLN := HFW
  have hl1 := (unhide HLN).1
  have hl2 := (unhide HLN).2
  go_wp2
  go_loopw [21] (fun iv wr => ∃ i : Nat, i ≤ y.st.length ∧ iv = .int .i64 i ∧ Hid (Fr (fun q => (q = g0 ∧ 0 < kS) ∨ (q = g1 ∧ 0 < kP)) v10 wr ∧ Room wr g0 (kS * 3) ∧ Room wr g1 (kP * 5))) (fun iv _ => y.st.length - (intOf iv).toNat)
  case atStart => exact ⟨0, Nat.zero_le _, rfl, Fr.refl _ _, (unhide HRM).1, (unhide HRM).2.1⟩
  case round =>
    obtain ⟨i, hi, rfl, HS⟩ := hrel
    obtain ⟨wa, rfl⟩ : ∃ wa, wa = wr := ⟨_, rfl⟩
    have HU1 : Hid (Bx wa U1 #[.slice uS y.st.length kS, .slice uP y.sp.length kP, .slice uB y.bd.length kB, .float .f64 y.off, .int .i64 y.bus, .int .i64 y.busDaily, .int .i64 y.busWeekly, .int .i64 y.hopper, .int .i64 y.most, .int .i64 y.longest, .int .i64 y.change, .int .i64 y.passback, .int .i64 y.delay, .int .i64 y.threshold] 27) := hide ((unhide HX10).2.2.2.2.1.frame (unhide HS).1 (fun t => by
      have h9 := unhide HB9
      rcases t with ⟨t1, t2⟩ | ⟨t1, t2⟩
      · have := unhide HG0 t2; omega
      · have := unhide HG1 t2; omega))
    by_cases hlt : i < y.st.length
    · have hks : i < kS := by have := (unhide HRM).2.2.1; omega
      have hu := (unhide HRM).2.2.2.2.1 (by omega)
      obtain ⟨⟨z0, b0⟩, f0⟩ := (unhide HS).2.1 (i * 3) (by omega)
      have HN : Hid (Fr (fun q => (q = g0 ∧ 0 < kS) ∨ (q = g1 ∧ 0 < kP)) v10 (wa.setCell ⟨g0, i * 3, none⟩ (.int .i64 (-1))) ∧ Room (wa.setCell ⟨g0, i * 3, none⟩ (.int .i64 (-1))) g0 (kS * 3) ∧ Room (wa.setCell ⟨g0, i * 3, none⟩ (.int .i64 (-1))) g1 (kP * 5)) := hide ⟨(unhide HS).1.setCell (p := ⟨g0, i * 3, none⟩) (fun _ => Or.inl ⟨rfl, by omega⟩) _, (unhide HS).2.1.any _ _ _, (unhide HS).2.2.any _ _ _⟩
      subst hu
      have cb : wa.cell? ⟨U1, 0, none⟩ = some (.slice (some ⟨g0, 0, none⟩) y.st.length kS) := (unhide HU1).cell 0
      clear HS HU1 HRM
      go_wp2
      exact ⟨⟨i + 1, by omega, by go_num, unhide HN⟩, by simp [intOf]; omega⟩
    · obtain rfl : i = y.st.length := by omega
      have cb : wa.cell? ⟨U1, 0, none⟩ = some (.slice uS y.st.length kS) := (unhide HU1).cell 0
      have cb1 : wa.cell? ⟨U1, 1, none⟩ = some (.slice uP y.sp.length kP) := (unhide HU1).cell 1
      clear HU1 hlt hi
      go_wp2
      clear cb cb1
      go_loopw [22] (fun iv wr => ∃ i : Nat, i ≤ y.sp.length ∧ iv = .int .i64 i ∧ Hid (Fr (fun q => (q = g0 ∧ 0 < kS) ∨ (q = g1 ∧ 0 < kP)) v10 wr ∧ Room wr g0 (kS * 3) ∧ Room wr g1 (kP * 5))) (fun iv _ => y.sp.length - (intOf iv).toNat)
      case atStart => exact ⟨0, Nat.zero_le _, rfl, unhide HS⟩
      case round =>
        clear HS
        obtain ⟨i, hi, rfl, HS⟩ := hrel
        obtain ⟨wa, rfl⟩ : ∃ wa, wa = wr := ⟨_, rfl⟩
        have HU1 : Hid (Bx wa U1 #[.slice uS y.st.length kS, .slice uP y.sp.length kP, .slice uB y.bd.length kB, .float .f64 y.off, .int .i64 y.bus, .int .i64 y.busDaily, .int .i64 y.busWeekly, .int .i64 y.hopper, .int .i64 y.most, .int .i64 y.longest, .int .i64 y.change, .int .i64 y.passback, .int .i64 y.delay, .int .i64 y.threshold] 27) := hide ((unhide HX10).2.2.2.2.1.frame (unhide HS).1 (fun t => by
          have h9 := unhide HB9
          rcases t with ⟨t1, t2⟩ | ⟨t1, t2⟩
          · have := unhide HG0 t2; omega
          · have := unhide HG1 t2; omega))
        by_cases hlt : i < y.sp.length
        · have hks : i < kP := by have := (unhide HRM).2.2.2.1; omega
          have hu := (unhide HRM).2.2.2.2.2 (by omega)
          obtain ⟨⟨z0, b0⟩, f0⟩ := (unhide HS).2.2 (i * 5 + 2) (by omega)
          have HN : Hid (Fr (fun q => (q = g0 ∧ 0 < kS) ∨ (q = g1 ∧ 0 < kP)) v10 (wa.setCell ⟨g1, i * 5 + 2, none⟩ (.int .i64 (-1))) ∧ Room (wa.setCell ⟨g1, i * 5 + 2, none⟩ (.int .i64 (-1))) g0 (kS * 3) ∧ Room (wa.setCell ⟨g1, i * 5 + 2, none⟩ (.int .i64 (-1))) g1 (kP * 5)) := hide ⟨(unhide HS).1.setCell (p := ⟨g1, i * 5 + 2, none⟩) (fun _ => Or.inr ⟨rfl, by omega⟩) _, (unhide HS).2.1.any _ _ _, (unhide HS).2.2.any _ _ _⟩
          subst hu
          have cb : wa.cell? ⟨U1, 1, none⟩ = some (.slice (some ⟨g1, 0, none⟩) y.sp.length kP) := (unhide HU1).cell 1
          clear HS HU1 HRM
          go_wp2
          exact ⟨⟨i + 1, by omega, by go_num, unhide HN⟩, by simp [intOf]; omega⟩
        · obtain rfl : i = y.sp.length := by omega
          have cb1 : wa.cell? ⟨U1, 1, none⟩ = some (.slice uP y.sp.length kP) := (unhide HU1).cell 1
          have HX11 : Hid (Fr (fun _ => False) w wa ∧ Row wa (.slice xo x.length xc) xg x ∧ Row wa (.slice yo x.length yk) yg x ∧ Bx wa V1 #[.int .i64 yc, .int .i64 yf] 37 ∧ TNew t6 wa y A2 h0 h1 h2 ∧ Bx wa U2 #[.slice A2.aS y.st.length A2.cS, .slice A2.aP y.sp.length A2.cP, .slice A2.aB y.bd.length A2.cB, .float .f64 y.off, .int .i64 y.bus, .int .i64 y.busDaily, .int .i64 y.busWeekly, .int .i64 y.hopper, .int .i64 y.most, .int .i64 y.longest, .int .i64 y.change, .int .i64 y.passback, .int .i64 y.delay, .int .i64 y.threshold] 27 ∧ Bx wa V2 #[.int .i64 yc, .int .i64 yf] 37 ∧ TNew v8 wa y A3 j0 j1 j2 ∧ Bx wa U3 #[.slice A3.aS y.st.length A3.cS, .slice A3.aP y.sp.length A3.cP, .slice A3.aB y.bd.length A3.cB, .float .f64 y.off, .int .i64 y.bus, .int .i64 y.busDaily, .int .i64 y.busWeekly, .int .i64 y.hopper, .int .i64 y.most, .int .i64 y.longest, .int .i64 y.change, .int .i64 y.passback, .int .i64 y.delay, .int .i64 y.threshold] 27 ∧ Bx wa V3 #[.int .i64 yc, .int .i64 yf] 37) := hide (by
            obtain ⟨k0, k1, k2, k4, k5, k6, k7, k8, k9, k10, k11, k12⟩ := unhide HX10
            have hF := (unhide HS).1
            have b0 := unhide HB0
            have b1 := unhide HB1
            have b2 := unhide HB2
            have b3 := unhide HB3
            have b4 := unhide HB4
            have b5 := unhide HB5
            have b6 := unhide HB6
            have b7 := unhide HB7
            have b8 := unhide HB8
            have b9 := unhide HB9
            have b10 := unhide HB10
            have b11 := unhide HB11
            have b12 := unhide HB12
            have b13 := unhide HB13
            have b15 := unhide HB15
            have key : ∀ q, ((q = g0 ∧ 0 < kS) ∨ (q = g1 ∧ 0 < kP)) → v5.heap.size ≤ q ∧ q < U1 := fun q t => by
              rcases t with ⟨t1, t2⟩ | ⟨t1, t2⟩
              · have := unhide HG0 t2; omega
              · have := unhide HG1 t2; omega
            exact ⟨k0.trans hF (fun q hq t => by have := key q t; omega), k1.frame0 hF (fun hc t => by have := key _ t; have := unhide HXG hc; omega), k2.frame0 hF (fun hc t => by have := key _ t; have := unhide HYG hc; omega), k6.frame hF (fun t => by have := key _ t; omega), k7.go hF (fun q t => by have := key q t; omega), k8.frame hF (fun t => by have := key _ t; omega), k9.frame hF (fun t => by have := key _ t; omega), k10.go hF (fun q t => by have := key q t; omega), k11.frame hF (fun t => by have := key _ t; omega), k12.frame hF (fun t => by have := key _ t; omega)⟩)
          clear HS HU1 HX10 HRM hlt hi
          have q0 : wa.cell? ⟨U2, 0, none⟩ = some (.slice A2.aS y.st.length A2.cS) := (unhide HX11).2.2.2.2.2.1.cell 0
          have q1 : wa.cell? ⟨U2, 1, none⟩ = some (.slice A2.aP y.sp.length A2.cP) := (unhide HX11).2.2.2.2.2.1.cell 1
          have q2 : wa.cell? ⟨U2, 2, none⟩ = some (.slice A2.aB y.bd.length A2.cB) := (unhide HX11).2.2.2.2.2.1.cell 2
          have q3 : wa.cell? ⟨U2, 3, none⟩ = some (.float .f64 y.off) := (unhide HX11).2.2.2.2.2.1.cell 3
          have q4 : wa.cell? ⟨U2, 4, none⟩ = some (.int .i64 y.bus) := (unhide HX11).2.2.2.2.2.1.cell 4
          have q5 : wa.cell? ⟨U2, 5, none⟩ = some (.int .i64 y.busDaily) := (unhide HX11).2.2.2.2.2.1.cell 5
          have q6 : wa.cell? ⟨U2, 6, none⟩ = some (.int .i64 y.busWeekly) := (unhide HX11).2.2.2.2.2.1.cell 6
          have q7 : wa.cell? ⟨U2, 7, none⟩ = some (.int .i64 y.hopper) := (unhide HX11).2.2.2.2.2.1.cell 7
          have q8 : wa.cell? ⟨U2, 8, none⟩ = some (.int .i64 y.most) := (unhide HX11).2.2.2.2.2.1.cell 8
          have q9 : wa.cell? ⟨U2, 9, none⟩ = some (.int .i64 y.longest) := (unhide HX11).2.2.2.2.2.1.cell 9
          have q10 : wa.cell? ⟨U2, 10, none⟩ = some (.int .i64 y.change) := (unhide HX11).2.2.2.2.2.1.cell 10
          have q11 : wa.cell? ⟨U2, 11, none⟩ = some (.int .i64 y.passback) := (unhide HX11).2.2.2.2.2.1.cell 11
          have q12 : wa.cell? ⟨U2, 12, none⟩ = some (.int .i64 y.delay) := (unhide HX11).2.2.2.2.2.1.cell 12
          have q13 : wa.cell? ⟨U2, 13, none⟩ = some (.int .i64 y.threshold) := (unhide HX11).2.2.2.2.2.1.cell 13
          have s0 : wa.cell? ⟨U3, 0, none⟩ = some (.slice A3.aS y.st.length A3.cS) := (unhide HX11).2.2.2.2.2.2.2.2.1.cell 0
          have s1 : wa.cell? ⟨U3, 1, none⟩ = some (.slice A3.aP y.sp.length A3.cP) := (unhide HX11).2.2.2.2.2.2.2.2.1.cell 1
          have s2 : wa.cell? ⟨U3, 2, none⟩ = some (.slice A3.aB y.bd.length A3.cB) := (unhide HX11).2.2.2.2.2.2.2.2.1.cell 2
          have s3 : wa.cell? ⟨U3, 3, none⟩ = some (.float .f64 y.off) := (unhide HX11).2.2.2.2.2.2.2.2.1.cell 3
          have s4 : wa.cell? ⟨U3, 4, none⟩ = some (.int .i64 y.bus) := (unhide HX11).2.2.2.2.2.2.2.2.1.cell 4
          have s5 : wa.cell? ⟨U3, 5, none⟩ = some (.int .i64 y.busDaily) := (unhide HX11).2.2.2.2.2.2.2.2.1.cell 5
          have s6 : wa.cell? ⟨U3, 6, none⟩ = some (.int .i64 y.busWeekly) := (unhide HX11).2.2.2.2.2.2.2.2.1.cell 6
          have s7 : wa.cell? ⟨U3, 7, none⟩ = some (.int .i64 y.hopper) := (unhide HX11).2.2.2.2.2.2.2.2.1.cell 7
          have s8 : wa.cell? ⟨U3, 8, none⟩ = some (.int .i64 y.most) := (unhide HX11).2.2.2.2.2.2.2.2.1.cell 8
          have s9 : wa.cell? ⟨U3, 9, none⟩ = some (.int .i64 y.longest) := (unhide HX11).2.2.2.2.2.2.2.2.1.cell 9
          have s10 : wa.cell? ⟨U3, 10, none⟩ = some (.int .i64 y.change) := (unhide HX11).2.2.2.2.2.2.2.2.1.cell 10
          have s11 : wa.cell? ⟨U3, 11, none⟩ = some (.int .i64 y.passback) := (unhide HX11).2.2.2.2.2.2.2.2.1.cell 11
          have s12 : wa.cell? ⟨U3, 12, none⟩ = some (.int .i64 y.delay) := (unhide HX11).2.2.2.2.2.2.2.2.1.cell 12
          have s13 : wa.cell? ⟨U3, 13, none⟩ = some (.int .i64 y.threshold) := (unhide HX11).2.2.2.2.2.2.2.2.1.cell 13
          go_wp2_with fail
          refine (unhide RS wa A2 A3 (unhide HX11).2.2.2.2.1.at (unhide HX11).2.2.2.2.2.2.2.1.at).mono ?_
          rintro e v12 ⟨rfl, hF⟩
          have HX12 : Hid (Fr (fun _ => False) w v12 ∧ Row v12 (.slice xo x.length xc) xg x ∧ Row v12 (.slice yo x.length yk) yg x ∧ Bx v12 V1 #[.int .i64 yc, .int .i64 yf] 37 ∧ Bx v12 V2 #[.int .i64 yc, .int .i64 yf] 37 ∧ Bx v12 V3 #[.int .i64 yc, .int .i64 yf] 37) := hide (by
            obtain ⟨k0, k1, k2, k6, k7, k8, k9, k10, k11, k12⟩ := unhide HX11
            exact ⟨k0.trans hF (fun _ _ t => t), k1.frame hF (fun t => t), k2.frame hF (fun t => t), k6.keep hF, k9.keep hF, k12.keep hF⟩)
          have SM := hide (same_is ((unhide HX12).2.1.bin (by have := unhide LX; omega)) ((unhide HX12).2.2.1.bin (by have := unhide LX; omega)))
          clear hF HX11 cb1 q0 q1 q2 q3 q4 q5 q6 q7 q8 q9 q10 q11 q12 q13 s0 s1 s2 s3 s4 s5 s6 s7 s8 s9 s10 s11 s12 s13
          have p0 : v12.cell? ⟨V1, 0, none⟩ = some (.int .i64 yc) := (unhide HX12).2.2.2.1.cell 0
          have p1 : v12.cell? ⟨V1, 1, none⟩ = some (.int .i64 yf) := (unhide HX12).2.2.2.1.cell 1
          have p2 : v12.cell? ⟨V2, 0, none⟩ = some (.int .i64 yc) := (unhide HX12).2.2.2.2.1.cell 0
          have p3 : v12.cell? ⟨V2, 1, none⟩ = some (.int .i64 yf) := (unhide HX12).2.2.2.2.1.cell 1
          have p4 : v12.cell? ⟨V3, 0, none⟩ = some (.int .i64 yc) := (unhide HX12).2.2.2.2.2.cell 0
          have p5 : v12.cell? ⟨V3, 1, none⟩ = some (.int .i64 yf) := (unhide HX12).2.2.2.2.2.cell 1
          go_wp2_with fail
          refine (unhide SM).mono ?_
          rintro e w99 ⟨rfl, h9⟩
          obtain rfl : v12 = w99 := h9.symm
          go_wp2
          go_ret
          exact ⟨by first | rfl | simp, (unhide HX12).1⟩

end Go.Proofs.YtkjoojamkbpfcaaGreat

namespace Go.Proofs.YtkjoojamkbpfcaaGreat
open Go.ChangeShapes Go.WideShapes Go.ChangeAt Go.RowKit Go.Deep

namespace recordTariffs

set_option maxRecDepth 100000 in
theorem lifted (os : Os) (started : os.Started) (H : Type) (enc : TypeId × Value → H) :
    ReturnsInHanded {} Tryz.checked os 3 .any (Rows.recordTariffsSpec.pre6 enc Tryz.prog Tryz.f3 Rows.recordTariffsRow.domain false) (Rows.recordTariffsSpec.post enc Tryz.prog Tryz.f3 false true false false) := by
  refine returnsInHanded_of_change_sized (C := Tryz.checked) own started (by kernel_rfl) Tryz.func3
    (ChangeSpec.witness6 (enc := enc) (C := Tryz.checked) false ⟨#[], #[.agg #[.slice none 0 0, .slice none 0 0, .slice none 0 0, .float .f64 0, .int .i64 0, .int .i64 0, .int .i64 0, .int .i64 0, .int .i64 0, .int .i64 0, .int .i64 0, .int .i64 0, .int .i64 0, .int .i64 0], .slice none 0 0], []⟩ 8 (by kernel_rfl) (by kernel_rfl) (by kernel_rfl) (by kernel_rfl)) ?_
  intro W base args ds gs before hval0 hW hcnd hsz0 _
  have hsz : (DataW.weightsEach Tryz.prog (Tryz.f3.params.toList ++ Rows.recordTariffsSpec.plain.varTypes Tryz.prog) (ds ++ gs)).all (· ≤ reachBytes) = true := hsz0
  have hval : ∀ (j : Nat) t v, Tryz.f3.params[j]? = some t → args[j]? = some v → Value.okWide Tryz.prog W .any base t v := hval0
  have hW' := hW
  obtain ⟨p, q, hA0, hV, rfl, hfz, hnd⟩ := hW
  have hA : DataW.TrodAll enc Tryz.prog W 0 (fun _ => true) true Tryz.f3.params.toList args.toList ds p := hA0
  rw [Tryz.params3] at hA hval hsz
  obtain ⟨v0, vs0, d0, ds0, p0, q0, hargs, rfl, rfl, h0, r0⟩ := trodAll_cons hA
  obtain ⟨v1, vs1, d1, ds1, p1, q1, rfl, rfl, rfl, h1, r1⟩ := trodAll_cons r0
  obtain ⟨rfl, rfl, rfl⟩ := trodAll_nil r1
  obtain rfl : args = #[v0, v1] := by cases args; simp_all
  obtain ⟨rfl, rfl⟩ := trodVars_none hV
  have k0 := h0
  have lt0 : ∀ x ∈ p0, x.block < W.heap.size := by obtain ⟨m, hm⟩ := k0; exact DataW.trod_lt m _ _ _ hm
  obtain ⟨A0, t0, rfl, hT0⟩ := open_arg (j := 0) (okWide_struct Tryz.underlying27 (hval 0 27 v0 rfl rfl)) h0 hsz rfl rfl
  have k1 := h1
  have lt1 : ∀ x ∈ p1, x.block < W.heap.size := by obtain ⟨m, hm⟩ := k1; exact DataW.trod_lt m _ _ _ hm
  obtain ⟨a1, c1, bs1, rfl, hb1, hn1⟩ := arg_bytes (j := 1) (okWide_slice Tryz.underlying28 (hval 1 28 v1 rfl rfl)) h1 hsz rfl rfl
  clear hA0 hval0
  refine (tariffs_walk W A0 t0 hT0 a1 c1 bs1 hb1 (by omega)).mono fun e W' ⟨he, hfr⟩ => ?_
  subst he
  have bel : Below W.heap.size W W' := hfr.below (Nat.le_refl _) (fun k t => t.elim)
  exact ⟨_, rfl, _, _, _, [], _, [], hW', trodAll_mk1 (shut_bool Tryz.underlying4 _), (trodAll_cons_mk (Below.trod laidOut (by kernel_rfl) (of_decide_eq_true (by kernel_rfl)) k0 bel lt0) (trodAll_cons_mk (Below.trod laidOut (by kernel_rfl) (of_decide_eq_true (by kernel_rfl)) k1 bel lt1) trodAll_mk0)), rfl, bel.frame _, fun h => by cases h⟩

theorem over : Rows.recordTariffsRow.holds Tryz.pinned (OpenSpec.ofChange Rows.recordTariffsSpec) :=
  OpenClaim.holds_of_wide 3 Tryz.f3 rfl rfl rfl rfl rfl rfl rfl ⟨rfl, rfl, rfl, rfl, rfl⟩ rfl rfl rfl rfl rfl (by kernel_rfl) Tryz.func3 (by kernel_rfl)
    (of_decide_eq_true (by kernel_rfl)) (by unfold Func.isWrapper; first | (rw [if_pos (by decide +kernel)]; kernel_rfl) | (rw [if_neg (by decide +kernel)]; exact ⟨rfl, rfl⟩))
    (fun os started H enc _ => lifted os started H enc)

end recordTariffs

/-- THE STATEMENT. -/
theorem recordTariffs_holds : Rows.RecordTariffsSaid := recordTariffs.over
#print axioms recordTariffs_holds
end Go.Proofs.YtkjoojamkbpfcaaGreat

