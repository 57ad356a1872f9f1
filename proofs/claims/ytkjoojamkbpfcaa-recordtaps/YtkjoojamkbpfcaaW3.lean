/- The walk of the law RecordTaps. -/
import Derived.Test.YtkjoojamkbpfcaaL2
namespace Go.Proofs.Ytkjoojamkbpfcaa
open Go.RowKit

set_option maxHeartbeats 2000000 in
set_option maxRecDepth 100000 in
theorem taps_walk (w : World) (t : Tp) (hfits : tapFits t) (ao : Option Addr) (cap : Nat) (bs : List UInt8) (hB : BInC w ao cap bs) (hfit : bs.length + 2 ≤ 140737488355328) :
    Calls Try.prog 3 #[.agg (tpC t), .slice ao bs.length cap] w fun e w' => e = .returned (.bool true) ∧ Fr (fun _ => False) w w' := by
  have RW := hide (recTap_any t)
  have RF := hide (refTap_any t hfits)
  obtain ⟨A, HA⟩ : ∃ A, Hid (tapW t = A) := ⟨_, rfl⟩
  have HM : Hid (A.1.length ≤ 1000) := hide (by rw [← unhide HA]; exact tapW_le t)
  rw [unhide HA] at RW RF
  obtain ⟨R, HR⟩ : ∃ R, Hid (tapRd bs = R) := ⟨_, rfl⟩
  have RR := hide (fun (w : World) ao cap h => readTap_any w ao cap bs h)
  have RS := hide (fun (w : World) ao cap h => refReadTap_any w ao cap bs h)
  rw [unhide HR] at RR RS
  have HB := hide hB
  have hEF := eqFault
  have hET := eqTap
  unfold tpC at *
  unfold ReadTap tpC at RR RS
  obtain ⟨dev, ctr, tok, kind, place, time⟩ := t
  obtain ⟨⟨dev', ctr', tok', kind', place', time'⟩, Rc, Rf⟩ := R
  obtain ⟨ab, ac⟩ := A
  simp only at RW RF RR RS HM ⊢
  clear hB HA HR hfits
  go_enter Try.func3, Try.ntmps3
  go_wp2_with fail
  refine (awake_any _).mono ?_
  rintro e w1 ⟨rfl, hF1⟩
  obtain ⟨B, HBe⟩ : ∃ B, Hid (w.heap.size = B) := ⟨_, rfl⟩
  have HX1 : Hid (Fr (fun _ => False) w w1 ∧ Bx w1 B #[.int .i64 dev, .int .i64 ctr, .string tok, .int .i64 kind, .int .i64 place, .int .i64 time] 23) := hide ⟨((Fr.refl _ w).alloc _).trans hF1 (fun _ _ t => t), by rw [← unhide HBe]; exact (Bx.new _ _ _).keep hF1⟩
  rw [unhide HBe] at ⊢
  clear hF1
  have t0 : w1.cell? ⟨B, 0, none⟩ = some (.int .i64 dev) := (unhide HX1).2.cell 0
  have t1 : w1.cell? ⟨B, 1, none⟩ = some (.int .i64 ctr) := (unhide HX1).2.cell 1
  have t2 : w1.cell? ⟨B, 2, none⟩ = some (.string tok) := (unhide HX1).2.cell 2
  have t3 : w1.cell? ⟨B, 3, none⟩ = some (.int .i64 kind) := (unhide HX1).2.cell 3
  have t4 : w1.cell? ⟨B, 4, none⟩ = some (.int .i64 place) := (unhide HX1).2.cell 4
  have t5 : w1.cell? ⟨B, 5, none⟩ = some (.int .i64 time) := (unhide HX1).2.cell 5
  go_wp2_with fail
  refine (unhide RW _).mono ?_
  rintro e w2 ⟨xo, xc, xg, rfl, hrow, hxg, hF⟩
  have HX2 : Hid (Fr (fun _ => False) w w2 ∧ Bx w2 B #[.int .i64 dev, .int .i64 ctr, .string tok, .int .i64 kind, .int .i64 place, .int .i64 time] 23 ∧ Row w2 (.slice xo ab.length xc) xg ab ∧ (0 < xc → w1.heap.size ≤ xg)) := hide ⟨(unhide HX1).1.trans hF (fun _ _ t => t), (unhide HX1).2.keep hF, hrow, hxg⟩
  have HS1 : Hid (w.heap.size ≤ w1.heap.size) := hide (unhide HX1).1.size
  clear hrow hxg hF t0 t1 t2 t3 t4 t5 HX1
  have t0 : w2.cell? ⟨B, 0, none⟩ = some (.int .i64 dev) := (unhide HX2).2.1.cell 0
  have t1 : w2.cell? ⟨B, 1, none⟩ = some (.int .i64 ctr) := (unhide HX2).2.1.cell 1
  have t2 : w2.cell? ⟨B, 2, none⟩ = some (.string tok) := (unhide HX2).2.1.cell 2
  have t3 : w2.cell? ⟨B, 3, none⟩ = some (.int .i64 kind) := (unhide HX2).2.1.cell 3
  have t4 : w2.cell? ⟨B, 4, none⟩ = some (.int .i64 place) := (unhide HX2).2.1.cell 4
  have t5 : w2.cell? ⟨B, 5, none⟩ = some (.int .i64 time) := (unhide HX2).2.1.cell 5
  go_wp2_with fail
  refine (unhide RW _).mono ?_
  rintro e w3 ⟨yo, yc, yg, rfl, hrow, hyg, hF⟩
  have HX3 : Hid (Fr (fun _ => False) w w3 ∧ Bx w3 B #[.int .i64 dev, .int .i64 ctr, .string tok, .int .i64 kind, .int .i64 place, .int .i64 time] 23 ∧ Row w3 (.slice xo ab.length xc) xg ab ∧ (0 < xc → w1.heap.size ≤ xg ∧ xg < w2.heap.size) ∧ Row w3 (.slice yo ab.length yc) yg ab ∧ (0 < yc → w2.heap.size ≤ yg)) := hide (by
    obtain ⟨k0, k1, k2, k3⟩ := unhide HX2
    exact ⟨k0.trans hF (fun _ _ t => t), k1.keep hF, k2.frame hF (fun t => t), fun hc => ⟨k3 hc, (Row.vrow k2).lt hc⟩, hrow, hyg⟩)
  clear hrow hyg hF t0 t1 t2 t3 t4 t5 HX2
  have t0 : w3.cell? ⟨B, 0, none⟩ = some (.int .i64 dev) := (unhide HX3).2.1.cell 0
  have t1 : w3.cell? ⟨B, 1, none⟩ = some (.int .i64 ctr) := (unhide HX3).2.1.cell 1
  have t2 : w3.cell? ⟨B, 2, none⟩ = some (.string tok) := (unhide HX3).2.1.cell 2
  have t3 : w3.cell? ⟨B, 3, none⟩ = some (.int .i64 kind) := (unhide HX3).2.1.cell 3
  have t4 : w3.cell? ⟨B, 4, none⟩ = some (.int .i64 place) := (unhide HX3).2.1.cell 4
  have t5 : w3.cell? ⟨B, 5, none⟩ = some (.int .i64 time) := (unhide HX3).2.1.cell 5
  go_wp2_with fail
  refine (unhide RF _).mono ?_
  rintro e w4 ⟨zo, zc, zg, rfl, hrow, hzg, hF⟩
  have HX4 : Hid (Fr (fun _ => False) w w4 ∧ Row w4 (.slice xo ab.length xc) xg ab ∧ (0 < xc → w1.heap.size ≤ xg ∧ xg < w2.heap.size) ∧ Row w4 (.slice yo ab.length yc) yg ab ∧ (0 < yc → w2.heap.size ≤ yg) ∧ Row w4 (.slice zo ab.length zc) zg ab) := hide (by
    obtain ⟨k0, k1, k2, k3, k4, k5⟩ := unhide HX3
    exact ⟨k0.trans hF (fun _ _ t => t), k2.frame hF (fun t => t), k3, k4.frame hF (fun t => t), k5, hrow⟩)
  clear hrow hzg hF t0 t1 t2 t3 t4 t5 HX3
  go_wp2_with fail
  refine (lent_any ((unhide HB).b.keep (unhide HX4).1) hfit).mono ?_
  rintro e w5 ⟨lo, lc, lg, rfl, hL, hF⟩
  have HX5 : Hid (Fr (fun _ => False) w w5 ∧ Row w5 (.slice xo ab.length xc) xg ab ∧ (0 < xc → w1.heap.size ≤ xg ∧ xg < w2.heap.size) ∧ Row w5 (.slice yo ab.length yc) yg ab ∧ (0 < yc → w2.heap.size ≤ yg) ∧ Row w5 (.slice zo ab.length zc) zg ab ∧ LentB w4 w5 lo lc lg bs ∧ w.heap.size ≤ lg ∧ (0 < xc → xg < lg) ∧ (0 < yc → yg < lg) ∧ (0 < zc → zg < lg)) := hide (by
    obtain ⟨k0, k1, k2, k3, k4, k5⟩ := unhide HX4
    have hn := hL.new
    have hs := k0.size
    exact ⟨k0.trans hF (fun _ _ t => t), k1.frame hF (fun t => t), k2, k3.frame hF (fun t => t), k4, k5.frame hF (fun t => t), hL, by omega, fun hc => Nat.lt_of_lt_of_le ((Row.vrow k1).lt hc) hn, fun hc => Nat.lt_of_lt_of_le ((Row.vrow k3).lt hc) hn, fun hc => Nat.lt_of_lt_of_le ((Row.vrow k5).lt hc) hn⟩)
  clear hL hF HX4
  go_wp2_with fail
  refine (unhide RR _ lo lc ((unhide HX5).2.2.2.2.2.2.1.bin (unhide HB).b.fit).b).mono ?_
  rintro e w6 ⟨rfl, hF⟩
  have HX6 : Hid (Fr (fun _ => False) w ((w6.alloc (.cells #[.int .i64 dev', .int .i64 ctr', .string tok', .int .i64 kind', .int .i64 place', .int .i64 time'] 23)).alloc (.cells #[.int .i64 Rc, .int .i64 Rf] 31)) ∧ Row ((w6.alloc (.cells #[.int .i64 dev', .int .i64 ctr', .string tok', .int .i64 kind', .int .i64 place', .int .i64 time'] 23)).alloc (.cells #[.int .i64 Rc, .int .i64 Rf] 31)) (.slice xo ab.length xc) xg ab ∧ Row ((w6.alloc (.cells #[.int .i64 dev', .int .i64 ctr', .string tok', .int .i64 kind', .int .i64 place', .int .i64 time'] 23)).alloc (.cells #[.int .i64 Rc, .int .i64 Rf] 31)) (.slice yo ab.length yc) yg ab ∧ Row ((w6.alloc (.cells #[.int .i64 dev', .int .i64 ctr', .string tok', .int .i64 kind', .int .i64 place', .int .i64 time'] 23)).alloc (.cells #[.int .i64 Rc, .int .i64 Rf] 31)) (.slice zo ab.length zc) zg ab ∧ LentB w4 ((w6.alloc (.cells #[.int .i64 dev', .int .i64 ctr', .string tok', .int .i64 kind', .int .i64 place', .int .i64 time'] 23)).alloc (.cells #[.int .i64 Rc, .int .i64 Rf] 31)) lo lc lg bs ∧ Bx ((w6.alloc (.cells #[.int .i64 dev', .int .i64 ctr', .string tok', .int .i64 kind', .int .i64 place', .int .i64 time'] 23)).alloc (.cells #[.int .i64 Rc, .int .i64 Rf] 31)) w6.heap.size #[.int .i64 dev', .int .i64 ctr', .string tok', .int .i64 kind', .int .i64 place', .int .i64 time'] 23 ∧ Bx ((w6.alloc (.cells #[.int .i64 dev', .int .i64 ctr', .string tok', .int .i64 kind', .int .i64 place', .int .i64 time'] 23)).alloc (.cells #[.int .i64 Rc, .int .i64 Rf] 31)) (w6.heap.size + 1) #[.int .i64 Rc, .int .i64 Rf] 31) := hide (by
    obtain ⟨k0, k1, k2, k3, k4, k5, k6, k7, k8, k9, k10⟩ := unhide HX5
    have hA : Fr (fun _ => False) w5 ((w6.alloc (.cells #[.int .i64 dev', .int .i64 ctr', .string tok', .int .i64 kind', .int .i64 place', .int .i64 time'] 23)).alloc (.cells #[.int .i64 Rc, .int .i64 Rf] 31)) := (hF.alloc _).alloc _
    have h2 := Bx.new (w6.alloc (.cells #[.int .i64 dev', .int .i64 ctr', .string tok', .int .i64 kind', .int .i64 place', .int .i64 time'] 23)) #[.int .i64 Rc, .int .i64 Rf] 31
    rw [heap_alloc] at h2
    exact ⟨k0.trans hA (fun _ _ t => t), k1.frame hA (fun t => t), k3.frame hA (fun t => t), k5.frame hA (fun t => t), k6.keep hA, (Bx.new _ _ _).alloc _, h2⟩)
  have HD : Hid (w.heap.size ≤ lg ∧ lg < w6.heap.size ∧ (0 < xc → w.heap.size ≤ xg ∧ xg < lg) ∧ (0 < yc → yg < lg) ∧ (0 < zc → zg < lg) ∧ (0 < xc → 0 < yc → xg ≠ yg)) := hide (by
    obtain ⟨k0, k1, k2, k3, k4, k5, k6, k7, k8, k9, k10⟩ := unhide HX5
    have h1 := (Row.vrow (k6.row)).lt (by have := k6.cap; omega)
    have h2 := hF.size
    have h3 := unhide HS1
    exact ⟨k7, by omega, fun hc => ⟨by have := k2 hc; omega, k8 hc⟩, k9, k10, fun h4 h5 => by have := k2 h4; have := k4 h5; omega⟩)
  clear hF HX5
  go_wp2_with fail
  generalize (w6.alloc (.cells #[.int .i64 dev', .int .i64 ctr', .string tok', .int .i64 kind', .int .i64 place', .int .i64 time'] 23)).alloc (.cells #[.int .i64 Rc, .int .i64 Rf] 31) = w7 at *
  obtain ⟨U, HU⟩ : ∃ U, Hid (w6.heap.size = U) := ⟨_, rfl⟩
  obtain ⟨V, HV⟩ : ∃ V, Hid (U + 1 = V) := ⟨_, rfl⟩
  rw [unhide HU, unhide HV] at HX6 ⊢
  rw [unhide HU] at HD
  refine (kept_any ((unhide HB).b.keep (unhide HX6).1) (unhide HX6).2.2.2.2.1 hfit).mono ?_
  rintro e w8 ⟨rfl, hF⟩
  have HX8 : Hid (Fr (fun _ => False) w w8 ∧ Row w8 (.slice xo ab.length xc) xg ab ∧ Row w8 (.slice yo ab.length yc) yg ab ∧ Row w8 (.slice zo ab.length zc) zg ab ∧ Bx w8 U #[.int .i64 dev', .int .i64 ctr', .string tok', .int .i64 kind', .int .i64 place', .int .i64 time'] 23 ∧ Bx w8 V #[.int .i64 Rc, .int .i64 Rf] 31) := hide (by
    obtain ⟨k0, k1, k2, k3, k4, k5, k6⟩ := unhide HX6
    obtain ⟨d1, d2, d3, d4, d5, d6⟩ := unhide HD
    have hv := unhide HV
    exact ⟨k0.trans hF (fun _ hi t => by omega), k1.elsewhere (fun hc => hF.block _ ((Row.vrow k1).lt hc) (by have := d3 hc; omega)), k2.elsewhere (fun hc => hF.block _ ((Row.vrow k2).lt hc) (by have := d4 hc; omega)), k3.elsewhere (fun hc => hF.block _ ((Row.vrow k3).lt hc) (by have := d5 hc; omega)), k5.frame hF (by omega), k6.frame hF (by omega)⟩)
  clear hF HX6
  go_wp2_with fail
  refine (unhide RS _ ao cap ((unhide HB).keep (unhide HX8).1)).mono ?_
  rintro e w9 ⟨rfl, hF⟩
  have HX9 : Hid (Fr (fun _ => False) w ((w9.alloc (.cells #[.int .i64 dev', .int .i64 ctr', .string tok', .int .i64 kind', .int .i64 place', .int .i64 time'] 23)).alloc (.cells #[.int .i64 Rc, .int .i64 Rf] 31)) ∧ Row ((w9.alloc (.cells #[.int .i64 dev', .int .i64 ctr', .string tok', .int .i64 kind', .int .i64 place', .int .i64 time'] 23)).alloc (.cells #[.int .i64 Rc, .int .i64 Rf] 31)) (.slice xo ab.length xc) xg ab ∧ Row ((w9.alloc (.cells #[.int .i64 dev', .int .i64 ctr', .string tok', .int .i64 kind', .int .i64 place', .int .i64 time'] 23)).alloc (.cells #[.int .i64 Rc, .int .i64 Rf] 31)) (.slice yo ab.length yc) yg ab ∧ Row ((w9.alloc (.cells #[.int .i64 dev', .int .i64 ctr', .string tok', .int .i64 kind', .int .i64 place', .int .i64 time'] 23)).alloc (.cells #[.int .i64 Rc, .int .i64 Rf] 31)) (.slice zo ab.length zc) zg ab ∧ Bx ((w9.alloc (.cells #[.int .i64 dev', .int .i64 ctr', .string tok', .int .i64 kind', .int .i64 place', .int .i64 time'] 23)).alloc (.cells #[.int .i64 Rc, .int .i64 Rf] 31)) U #[.int .i64 dev', .int .i64 ctr', .string tok', .int .i64 kind', .int .i64 place', .int .i64 time'] 23 ∧ Bx ((w9.alloc (.cells #[.int .i64 dev', .int .i64 ctr', .string tok', .int .i64 kind', .int .i64 place', .int .i64 time'] 23)).alloc (.cells #[.int .i64 Rc, .int .i64 Rf] 31)) V #[.int .i64 Rc, .int .i64 Rf] 31 ∧ Bx ((w9.alloc (.cells #[.int .i64 dev', .int .i64 ctr', .string tok', .int .i64 kind', .int .i64 place', .int .i64 time'] 23)).alloc (.cells #[.int .i64 Rc, .int .i64 Rf] 31)) w9.heap.size #[.int .i64 dev', .int .i64 ctr', .string tok', .int .i64 kind', .int .i64 place', .int .i64 time'] 23 ∧ Bx ((w9.alloc (.cells #[.int .i64 dev', .int .i64 ctr', .string tok', .int .i64 kind', .int .i64 place', .int .i64 time'] 23)).alloc (.cells #[.int .i64 Rc, .int .i64 Rf] 31)) (w9.heap.size + 1) #[.int .i64 Rc, .int .i64 Rf] 31) := hide (by
    obtain ⟨k0, k1, k2, k3, k4, k5⟩ := unhide HX8
    have hA : Fr (fun _ => False) w8 ((w9.alloc (.cells #[.int .i64 dev', .int .i64 ctr', .string tok', .int .i64 kind', .int .i64 place', .int .i64 time'] 23)).alloc (.cells #[.int .i64 Rc, .int .i64 Rf] 31)) := (hF.alloc _).alloc _
    have h2 := Bx.new (w9.alloc (.cells #[.int .i64 dev', .int .i64 ctr', .string tok', .int .i64 kind', .int .i64 place', .int .i64 time'] 23)) #[.int .i64 Rc, .int .i64 Rf] 31
    rw [heap_alloc] at h2
    exact ⟨k0.trans hA (fun _ _ t => t), k1.frame hA (fun t => t), k2.frame hA (fun t => t), k3.frame hA (fun t => t), k4.keep hA, k5.keep hA, (Bx.new _ _ _).alloc _, h2⟩)
  have HD9 : Hid (U < w9.heap.size) := hide ((unhide HX8).2.2.2.2.1.keep hF).lt
  clear hF HX8
  go_wp2_with fail
  generalize (w9.alloc (.cells #[.int .i64 dev', .int .i64 ctr', .string tok', .int .i64 kind', .int .i64 place', .int .i64 time'] 23)).alloc (.cells #[.int .i64 Rc, .int .i64 Rf] 31) = w10 at *
  obtain ⟨U2, HU2⟩ : ∃ U, Hid (w9.heap.size = U) := ⟨_, rfl⟩
  obtain ⟨V2, HV2⟩ : ∃ V, Hid (U2 + 1 = V) := ⟨_, rfl⟩
  rw [unhide HU2, unhide HV2] at HX9 ⊢
  rw [unhide HU2] at HD9
  have HL : Hid (ab.length ≤ 140737488355328) := hide (by have := unhide HM; omega)
  refine (same_is ((unhide HX9).2.1.bin (unhide HL)) ((unhide HX9).2.2.2.1.bin (unhide HL))).mono ?_
  rintro e q ⟨rfl, rfl⟩
  go_wp2_with fail
  refine (same_is ((unhide HX9).2.2.1.bin (unhide HL)) ((unhide HX9).2.2.2.1.bin (unhide HL))).mono ?_
  rintro e q ⟨rfl, rfl⟩
  go_wp2_with fail
  refine (owned_any (unhide HX9).2.1 ((unhide HX9).2.2.1.bin (unhide HL)) (fun b off e h0 hc => ?_) (by have := unhide HM; omega)).mono ?_
  · obtain ⟨ao', cap', e1, q1, q2, q3, q4⟩ := (unhide HX9).2.2.1.shape
    injection e1 with e2 e3 e4
    subst e2 e4
    rw [q3 (by omega)] at e
    injection e with e
    injection e with e5 e6
    subst e5
    exact (((unhide HD).2.2.2.2.2 hc (by omega)).symm)
  rintro e w11 ⟨rfl, hF⟩
  have HX11 : Hid (Fr (fun _ => False) w w11 ∧ Bx w11 U #[.int .i64 dev', .int .i64 ctr', .string tok', .int .i64 kind', .int .i64 place', .int .i64 time'] 23 ∧ Bx w11 V #[.int .i64 Rc, .int .i64 Rf] 31 ∧ Bx w11 U2 #[.int .i64 dev', .int .i64 ctr', .string tok', .int .i64 kind', .int .i64 place', .int .i64 time'] 23 ∧ Bx w11 V2 #[.int .i64 Rc, .int .i64 Rf] 31) := hide (by
    obtain ⟨k0, k1, k2, k3, k4, k5, k6, k7⟩ := unhide HX9
    obtain ⟨d1, d2, d3, d4, d5, d6⟩ := unhide HD
    have hv := unhide HV
    have hv2 := unhide HV2
    have hu := unhide HD9
    exact ⟨k0.trans hF (fun _ hi t => by have := d3 t.2; omega), k4.frame hF (fun t => by have := d3 t.2; omega), k5.frame hF (fun t => by have := d3 t.2; omega), k6.frame hF (fun t => by have := d3 t.2; omega), k7.frame hF (fun t => by have := d3 t.2; omega)⟩)
  clear hF HX9
  have u0 : w11.cell? ⟨U, 0, none⟩ = some (.int .i64 dev') := (unhide HX11).2.1.cell 0
  have u1 : w11.cell? ⟨U, 1, none⟩ = some (.int .i64 ctr') := (unhide HX11).2.1.cell 1
  have u2 : w11.cell? ⟨U, 2, none⟩ = some (.string tok') := (unhide HX11).2.1.cell 2
  have u3 : w11.cell? ⟨U, 3, none⟩ = some (.int .i64 kind') := (unhide HX11).2.1.cell 3
  have u4 : w11.cell? ⟨U, 4, none⟩ = some (.int .i64 place') := (unhide HX11).2.1.cell 4
  have u5 : w11.cell? ⟨U, 5, none⟩ = some (.int .i64 time') := (unhide HX11).2.1.cell 5
  have u2_0 : w11.cell? ⟨U2, 0, none⟩ = some (.int .i64 dev') := (unhide HX11).2.2.2.1.cell 0
  have u21 : w11.cell? ⟨U2, 1, none⟩ = some (.int .i64 ctr') := (unhide HX11).2.2.2.1.cell 1
  have u22 : w11.cell? ⟨U2, 2, none⟩ = some (.string tok') := (unhide HX11).2.2.2.1.cell 2
  have u23 : w11.cell? ⟨U2, 3, none⟩ = some (.int .i64 kind') := (unhide HX11).2.2.2.1.cell 3
  have u24 : w11.cell? ⟨U2, 4, none⟩ = some (.int .i64 place') := (unhide HX11).2.2.2.1.cell 4
  have u25 : w11.cell? ⟨U2, 5, none⟩ = some (.int .i64 time') := (unhide HX11).2.2.2.1.cell 5
  have v0 : w11.cell? ⟨V, 0, none⟩ = some (.int .i64 Rc) := (unhide HX11).2.2.1.cell 0
  have v1 : w11.cell? ⟨V, 1, none⟩ = some (.int .i64 Rf) := (unhide HX11).2.2.1.cell 1
  have v20 : w11.cell? ⟨V2, 0, none⟩ = some (.int .i64 Rc) := (unhide HX11).2.2.2.2.cell 0
  have v21 : w11.cell? ⟨V2, 1, none⟩ = some (.int .i64 Rf) := (unhide HX11).2.2.2.2.cell 1
  go_wp2
  go_ret
  exact ⟨by first | rfl | simp, (unhide HX11).1⟩

end Go.Proofs.Ytkjoojamkbpfcaa
