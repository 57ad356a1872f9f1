import Derived.Test.YtmgejkenpfihmaaFA0
import Derived.Deep.RegionHeld3
import Derived.Deep.Cut
import Derived.Deep.CutBlock
/- What a journey costs: the program's fare.single, ride, cost, Of. -/
namespace Go.Proofs.Ytmgejkenpfihmaa
open Go.RowKit

theorem fride_any (w : World) (A : Ad) (t : Tf) (r : Bool) : Calls Try.prog 38 #[tv A t, .bool r] w fun e w' => e = .returned (.int .i64 (if r = true then 0 else t.bus)) ∧ Fr (fun _ => False) w w' := by
  have HB : Hid (∀ k, (w.alloc (.cells (tc A t) 27)).cell? ⟨w.heap.size, k, none⟩ = (tc A t)[k]?) := hide (fun k => (TB.new w A t).cell k)
  unfold tv tc at *
  cases r with
  | true =>
    go_enter Try.func38, Try.ntmps38
    go_wp2
    go_ret
    exact ⟨rfl, (Fr.refl _ _).alloc _⟩
  | false =>
    go_enter Try.func38, Try.ntmps38
    go_wp2
    go_ret
    exact ⟨rfl, (Fr.refl _ _).alloc _⟩

set_option maxHeartbeats 1000000 in
theorem fsingle_any (w : World) (A : Ad) (t : Tf) (h : TAt w A t) (j : Jn) : Calls Try.prog 37 #[tv A t, .agg (jC j)] w fun e w' => e = .returned (.tuple #[.int .i64 (wholeV t j).1, .int .i64 (wholeV t j).2]) ∧ Fr (fun _ => False) w w' := by
  obtain ⟨k, f, o, s, n, r⟩ := j
  have HX : Hid (wholeV t ⟨k, f, o, s, n, r⟩ = if (stationOf t f).isSome = true ∧ (stationOf t o).isSome = true then singleR t ((stationOf t f).getD ⟨0, 0, 0⟩).zone ((stationOf t o).getD ⟨0, 0, 0⟩).zone (peakB t.bd s) else (0, 1)) := rfl
  have RF := hide (fun (u : World) (hu : Fr (fun _ => False) w u) => station_any u A t (h.keep hu) f)
  have RO := hide (fun (u : World) (hu : Fr (fun _ => False) w u) => station_any u A t (h.keep hu) o)
  have lB := h.lB
  have RP := hide (fun (u : World) (hu : Fr (fun _ => False) w u) => cpeak_any u A.aB A.cB t.bd (h.keep hu).bd (by omega) s)
  have RS := hide (fun (u : World) (hu : Fr (fun _ => False) w u) (pk : Bool) => single_any u A t (h.keep hu) ((stationOf t f).getD ⟨0, 0, 0⟩).zone ((stationOf t o).getD ⟨0, 0, 0⟩).zone pk)
  generalize wholeV t ⟨k, f, o, s, n, r⟩ = z at *
  generalize peakB t.bd s = pk at *
  generalize (stationOf t f).getD ⟨0, 0, 0⟩ = tf at *
  generalize (stationOf t o).getD ⟨0, 0, 0⟩ = tt at *
  generalize (stationOf t f).isSome = bf at *
  generalize (stationOf t o).isSome = bo at *
  obtain ⟨v, hv⟩ : ∃ v, v = (w.alloc (.cells (tc A t) 27)).alloc (.cells #[.int .i64 k, .int .i64 f, .int .i64 o, .int .i64 s, .int .i64 n, .bool r] 30) := ⟨_, rfl⟩
  have HFV : Hid (Fr (fun _ => False) w v) := hide (by rw [hv]; exact ((Fr.refl _ w).alloc _).alloc _)
  have hTB : TB v w.heap.size A t := by rw [hv]; exact (TB.new w A t).keep ((Fr.refl _ _).alloc _)
  have hJ : ∀ c, v.cell? ⟨w.heap.size + 1, c, none⟩ = (#[.int .i64 k, .int .i64 f, .int .i64 o, .int .i64 s, .int .i64 n, .bool r] : Array Value)[c]? := by
    intro c
    rw [hv, ← heap_alloc w (.cells (tc A t) 27), World.cell?_alloc_new]
  have j1 : v.cell? ⟨w.heap.size + 1, 1, none⟩ = some (.int .i64 f) := hJ 1
  have j2 : v.cell? ⟨w.heap.size + 1, 2, none⟩ = some (.int .i64 o) := hJ 2
  have j3 : v.cell? ⟨w.heap.size + 1, 3, none⟩ = some (.int .i64 s) := hJ 3
  obtain ⟨B, hB⟩ : ∃ B, B = w.heap.size := ⟨_, rfl⟩
  rw [← hB] at hTB j1 j2 j3
  have hlt : B < v.heap.size := hTB.lt
  have hlt1 : B + 1 < v.heap.size := World.block_lt_of_cell? _ _ j1
  have HC : Hid (∀ u, Fr (fun _ => False) v u → u.cell? ⟨B + 1, 1, none⟩ = some (.int .i64 f) ∧ u.cell? ⟨B + 1, 2, none⟩ = some (.int .i64 o) ∧ u.cell? ⟨B + 1, 3, none⟩ = some (.int .i64 s)) := hide (fun u hf => ⟨(hf.cell (a := ⟨B + 1, 1, none⟩) hlt1 (fun t => t)).trans j1, (hf.cell (a := ⟨B + 1, 2, none⟩) hlt1 (fun t => t)).trans j2, (hf.cell (a := ⟨B + 1, 3, none⟩) hlt1 (fun t => t)).trans j3⟩)
  have HTB := hide hTB
  have HV := hide hv
  have HB := hide hB
  clear hv hB hTB hJ hlt hlt1 h lB j2 j3
  unfold tv tc at *
  simp only [jC]
  go_enter Try.func37, Try.ntmps37
  go_upto_region 1 with (fail)
  rw [← unhide HV, ← unhide HB]
  clear HV
  go_wp2_with (refine wpList_load_tariff rfl (.tmp 2) rfl (g := B) (A := A) (t := t) rfl (unhide HTB) ?_)
  refine (unhide RF v (unhide HFV)).mono ?_
  rintro e w1 ⟨rfl, hF⟩
  have HF1 := hide hF
  have HTB1 := hide ((unhide HTB).keep hF)
  have HFW := hide ((unhide HFV).trans hF (fun _ _ t => t))
  obtain ⟨_, j2, _⟩ := unhide HC w1 hF
  clear hF RF HTB j1
  go_upto_region 2 with (fail)
  obtain ⟨v1, hv1⟩ : ∃ v1, v1 = w1.alloc (.cells #[.int .i64 tf.id, .int .i64 tf.zone, .int .i64 tf.group] 45) := ⟨_, rfl⟩
  have hFa : Fr (fun _ => False) w1 v1 := by rw [hv1]; exact (Fr.refl _ _).alloc _
  have y1 : v1.cell? ⟨w1.heap.size, 1, none⟩ = some (.int .i64 tf.zone) := by rw [hv1, World.cell?_alloc_new]; rfl
  obtain ⟨D, hD⟩ : ∃ D, D = w1.heap.size := ⟨_, rfl⟩
  rw [← hv1, ← hD]
  rw [← hD] at y1
  have HFX := hide ((unhide HFW).trans hFa (fun _ _ t => t))
  have HTB2 := hide ((unhide HTB1).keep hFa)
  have HFV1 := hide ((unhide HF1).trans hFa (fun _ _ t => t))
  clear j2 hv1 hFa HTB1 HFW hD
  obtain ⟨_, j2, _⟩ := unhide HC v1 (unhide HFV1)
  go_wp2_with (refine wpList_load_tariff rfl (.tmp 2) rfl (g := B) (A := A) (t := t) rfl (unhide HTB2) ?_)
  refine (unhide RO v1 (unhide HFX)).mono ?_
  rintro e w2 ⟨rfl, hF⟩
  have hDl : D < v1.heap.size := World.block_lt_of_cell? _ _ y1
  have y1b : w2.cell? ⟨D, 1, none⟩ = some (.int .i64 tf.zone) := (hF.cell (a := ⟨D, 1, none⟩) hDl (fun t => t)).trans y1
  have HTB3 := hide ((unhide HTB2).keep hF)
  have HFW2 := hide ((unhide HFX).trans hF (fun _ _ t => t))
  have HFV2 := hide ((unhide HFV1).trans hF (fun _ _ t => t))
  clear hF RO HTB2 j2 hDl HFX HFV1 y1 HF1
  go_upto_region 3 with (fail)
  obtain ⟨v2, hv2⟩ : ∃ v2, v2 = w2.alloc (.cells #[.int .i64 tt.id, .int .i64 tt.zone, .int .i64 tt.group] 45) := ⟨_, rfl⟩
  have hFa : Fr (fun _ => False) w2 v2 := by rw [hv2]; exact (Fr.refl _ _).alloc _
  have z1 : v2.cell? ⟨w2.heap.size, 1, none⟩ = some (.int .i64 tt.zone) := by rw [hv2, World.cell?_alloc_new]; rfl
  obtain ⟨E, hE⟩ : ∃ E, E = w2.heap.size := ⟨_, rfl⟩
  rw [← hv2, ← hE]
  rw [← hE] at z1
  have hDl : D < w2.heap.size := World.block_lt_of_cell? _ _ y1b
  have y1 : v2.cell? ⟨D, 1, none⟩ = some (.int .i64 tf.zone) := (hFa.cell (a := ⟨D, 1, none⟩) hDl (fun t => t)).trans y1b
  have HFX := hide ((unhide HFW2).trans hFa (fun _ _ t => t))
  have HTB4 := hide ((unhide HTB3).keep hFa)
  have HFV3 := hide ((unhide HFV2).trans hFa (fun _ _ t => t))
  clear hv2 hFa HTB3 HFW2 hE hDl y1b HFV2
  cases bf with
  | false =>
    have HZ : Hid (z = (0, 1)) := hide (by rw [unhide HX]; simp)
    clear HX RS RP HC HTB4 y1 z1
    go_wp2
    go_ret2
    exact ⟨by rw [unhide HZ]; rfl, unhide HFX⟩
  | true =>
    cases bo with
    | false =>
      have HZ : Hid (z = (0, 1)) := hide (by rw [unhide HX]; simp)
      clear HX RS RP HC HTB4 y1 z1
      go_wp2
      go_ret2
      exact ⟨by rw [unhide HZ]; rfl, unhide HFX⟩
    | true =>
      have HZ : Hid (z = singleR t tf.zone tt.zone pk) := hide (by rw [unhide HX]; simp)
      have hDl : D < v2.heap.size := World.block_lt_of_cell? _ _ y1
      have hEl : E < v2.heap.size := World.block_lt_of_cell? _ _ z1
      have HCB : Hid (∀ u, Fr (fun _ => False) v2 u → u.cell? ⟨B + 1, 3, none⟩ = some (.int .i64 s) ∧ u.cell? ⟨D, 1, none⟩ = some (.int .i64 tf.zone) ∧ u.cell? ⟨E, 1, none⟩ = some (.int .i64 tt.zone) ∧ u.cell? ⟨B, 0, none⟩ = some (.slice A.aS t.st.length A.cS) ∧ u.cell? ⟨B, 1, none⟩ = some (.slice A.aP t.sp.length A.cP) ∧ u.cell? ⟨B, 2, none⟩ = some (.slice A.aB t.bd.length A.cB) ∧ u.cell? ⟨B, 3, none⟩ = some (.float .f64 t.off) ∧ u.cell? ⟨B, 4, none⟩ = some (.int .i64 t.bus) ∧ u.cell? ⟨B, 5, none⟩ = some (.int .i64 t.busDaily) ∧ u.cell? ⟨B, 6, none⟩ = some (.int .i64 t.busWeekly) ∧ u.cell? ⟨B, 7, none⟩ = some (.int .i64 t.hopper) ∧ u.cell? ⟨B, 8, none⟩ = some (.int .i64 t.most) ∧ u.cell? ⟨B, 9, none⟩ = some (.int .i64 t.longest) ∧ u.cell? ⟨B, 10, none⟩ = some (.int .i64 t.change) ∧ u.cell? ⟨B, 11, none⟩ = some (.int .i64 t.passback) ∧ u.cell? ⟨B, 12, none⟩ = some (.int .i64 t.delay) ∧ u.cell? ⟨B, 13, none⟩ = some (.int .i64 t.threshold)) := hide (fun u hf => by
        have h1 := (unhide HTB4).keep hf
        exact ⟨(unhide HC u ((unhide HFV3).trans hf (fun _ _ t => t))).2.2, (hf.cell (a := ⟨D, 1, none⟩) hDl (fun t => t)).trans y1, (hf.cell (a := ⟨E, 1, none⟩) hEl (fun t => t)).trans z1, h1.cell 0, h1.cell 1, h1.cell 2, h1.cell 3, h1.cell 4, h1.cell 5, h1.cell 6, h1.cell 7, h1.cell 8, h1.cell 9, h1.cell 10, h1.cell 11, h1.cell 12, h1.cell 13⟩)
      have RP1 := hide (fun (u : World) (hu : Fr (fun _ => False) v2 u) => unhide RP u ((unhide HFX).trans hu (fun _ _ t => t)))
      have RS1 := hide (fun (u : World) (hu : Fr (fun _ => False) v2 u) => unhide RS u ((unhide HFX).trans hu (fun _ _ t => t)) pk)
      clear HX RS RP HC HTB4 y1 z1 hDl hEl HFV3
      generalize singleR t tf.zone tt.zone pk = sr at *
      obtain ⟨j3, y1, z1, d0, d1, d2, d3, d4, d5, d6, d7, d8, d9, d10, d11, d12, d13⟩ := unhide HCB v2 (Fr.refl _ _)
      go_wp2_with fail
      go_region_held3 (fun u => u.cell? ⟨B + 1, 3, none⟩ = some (.int .i64 s) ∧ u.cell? ⟨D, 1, none⟩ = some (.int .i64 tf.zone) ∧ u.cell? ⟨E, 1, none⟩ = some (.int .i64 tt.zone) ∧ u.cell? ⟨B, 0, none⟩ = some (.slice A.aS t.st.length A.cS) ∧ u.cell? ⟨B, 1, none⟩ = some (.slice A.aP t.sp.length A.cP) ∧ u.cell? ⟨B, 2, none⟩ = some (.slice A.aB t.bd.length A.cB) ∧ u.cell? ⟨B, 3, none⟩ = some (.float .f64 t.off) ∧ u.cell? ⟨B, 4, none⟩ = some (.int .i64 t.bus) ∧ u.cell? ⟨B, 5, none⟩ = some (.int .i64 t.busDaily) ∧ u.cell? ⟨B, 6, none⟩ = some (.int .i64 t.busWeekly) ∧ u.cell? ⟨B, 7, none⟩ = some (.int .i64 t.hopper) ∧ u.cell? ⟨B, 8, none⟩ = some (.int .i64 t.most) ∧ u.cell? ⟨B, 9, none⟩ = some (.int .i64 t.longest) ∧ u.cell? ⟨B, 10, none⟩ = some (.int .i64 t.change) ∧ u.cell? ⟨B, 11, none⟩ = some (.int .i64 t.passback) ∧ u.cell? ⟨B, 12, none⟩ = some (.int .i64 t.delay) ∧ u.cell? ⟨B, 13, none⟩ = some (.int .i64 t.threshold))
        ((refine unhide HCB _ ?_; repeat (first | (with_reducible exact Fr.refl _ _) | (with_reducible refine Fr.drew ?_) | (with_reducible refine Fr.trans ?_ (unhide HA) (fun _ _ t => t)) | (with_reducible refine Fr.trans ?_ (unhide HB2) (fun _ _ t => t)))))
        (first | (go_at_call 68; refine (unhide RP1 _ (by repeat (first | (with_reducible exact Fr.refl _ _) | (with_reducible refine Fr.drew ?_) | (with_reducible refine Fr.alloc ?_ _)))).mono ?_; rintro e wa ⟨rfl, hA⟩; have HA := hide hA; clear hA) | (go_at_call 15; refine (unhide RS1 _ (by repeat (first | (with_reducible exact Fr.refl _ _) | (with_reducible refine Fr.drew ?_) | (with_reducible refine Fr.trans ?_ (unhide HA) (fun _ _ t => t))))).mono ?_; rintro e wb ⟨rfl, hB2⟩; have HB2 := hide hB2; clear hB2))
      go_wp2_with fail
      go_ret2
      exact ⟨by rw [unhide HZ]; rfl, (unhide HFX).trans (by repeat (first | (with_reducible exact Fr.refl _ _) | (with_reducible refine Fr.drew ?_) | (with_reducible refine Fr.trans ?_ (unhide HA) (fun _ _ t => t)) | (with_reducible refine Fr.trans ?_ (unhide HB2) (fun _ _ t => t)))) (fun _ _ t => t)⟩

/-- What is wrong is no 0. -/
theorem jErr_cases (j : Jn) : jErr j = 0 ∨ jErr j = 1 ∨ jErr j = 60 := by
  unfold jErr
  split
  · split
    · split
      · exact .inr (.inl rfl)
      · exact .inl rfl
    · exact .inr (.inr rfl)
  · exact .inr (.inl rfl)

set_option maxHeartbeats 1000000 in
theorem fcost_any (w : World) (A : Ad) (t : Tf) (h : TAt w A t) (j : Jn) : Calls Try.prog 18 #[tv A t, .agg (jC j)] w fun e w' => e = .returned (.tuple #[.int .i64 (costV t j).1, .int .i64 (costV t j).2]) ∧ Fr (fun _ => False) w w' := by
  have HX : Hid (costV t j = if jErr j = 0 then (if j.kind = 1 then wholeV t j else if j.kind = 4 then (if j.free = true then 0 else t.bus, 0) else (t.most, 0)) else (0, jErr j)) := rfl
  have RE := hide (fun (u : World) => fright_any u j)
  have RW := hide (fun (u : World) (hu : Fr (fun _ => False) w u) => fsingle_any u A t (h.keep hu) j)
  have RR := hide (fun (u : World) => fride_any u A t j.free)
  generalize costV t j = z at *
  generalize jErr j = er at *
  generalize wholeV t j = wh at *
  obtain ⟨k, f, o, s, n, r⟩ := j
  obtain ⟨v, hv⟩ : ∃ v, v = (w.alloc (.cells (tc A t) 27)).alloc (.cells #[.int .i64 k, .int .i64 f, .int .i64 o, .int .i64 s, .int .i64 n, .bool r] 30) := ⟨_, rfl⟩
  have HFV : Hid (Fr (fun _ => False) w v) := hide (by rw [hv]; exact ((Fr.refl _ w).alloc _).alloc _)
  have hTB : TB v w.heap.size A t := by rw [hv]; exact (TB.new w A t).keep ((Fr.refl _ _).alloc _)
  have hJ : ∀ c, v.cell? ⟨w.heap.size + 1, c, none⟩ = (#[.int .i64 k, .int .i64 f, .int .i64 o, .int .i64 s, .int .i64 n, .bool r] : Array Value)[c]? := by
    intro c
    rw [hv, ← heap_alloc w (.cells (tc A t) 27), World.cell?_alloc_new]
  have j0 : v.cell? ⟨w.heap.size + 1, 0, none⟩ = some (.int .i64 k) := hJ 0
  have j1 : v.cell? ⟨w.heap.size + 1, 1, none⟩ = some (.int .i64 f) := hJ 1
  have j2 : v.cell? ⟨w.heap.size + 1, 2, none⟩ = some (.int .i64 o) := hJ 2
  have j3 : v.cell? ⟨w.heap.size + 1, 3, none⟩ = some (.int .i64 s) := hJ 3
  have j4 : v.cell? ⟨w.heap.size + 1, 4, none⟩ = some (.int .i64 n) := hJ 4
  have j5 : v.cell? ⟨w.heap.size + 1, 5, none⟩ = some (.bool r) := hJ 5
  obtain ⟨B, hB⟩ : ∃ B, B = w.heap.size := ⟨_, rfl⟩
  rw [← hB] at hTB j0 j1 j2 j3 j4 j5
  have hlt1 : B + 1 < v.heap.size := World.block_lt_of_cell? _ _ j1
  have HC : Hid (∀ u, Fr (fun _ => False) v u → u.cell? ⟨B + 1, 0, none⟩ = some (.int .i64 k) ∧ u.cell? ⟨B + 1, 1, none⟩ = some (.int .i64 f) ∧ u.cell? ⟨B + 1, 2, none⟩ = some (.int .i64 o) ∧ u.cell? ⟨B + 1, 3, none⟩ = some (.int .i64 s) ∧ u.cell? ⟨B + 1, 4, none⟩ = some (.int .i64 n) ∧ u.cell? ⟨B + 1, 5, none⟩ = some (.bool r)) := hide (fun u hf => ⟨(hf.cell (a := ⟨B + 1, 0, none⟩) hlt1 (fun t => t)).trans j0, (hf.cell (a := ⟨B + 1, 1, none⟩) hlt1 (fun t => t)).trans j1, (hf.cell (a := ⟨B + 1, 2, none⟩) hlt1 (fun t => t)).trans j2, (hf.cell (a := ⟨B + 1, 3, none⟩) hlt1 (fun t => t)).trans j3, (hf.cell (a := ⟨B + 1, 4, none⟩) hlt1 (fun t => t)).trans j4, (hf.cell (a := ⟨B + 1, 5, none⟩) hlt1 (fun t => t)).trans j5⟩)
  have HTB := hide hTB
  have HV := hide hv
  have HB := hide hB
  clear hv hB hTB hJ hlt1 h
  unfold tv at *
  simp only [jC] at *
  by_cases h0 : er = 0
  · subst h0
    have HX1 := HX
    rw [if_pos rfl] at HX1
    clear HX
    by_cases h1 : k = 1
    · subst h1
      rw [if_pos rfl] at HX1
      unfold tc at HV ⊢
      go_enter Try.func18, Try.ntmps18
      go_upto_region 1 with (fail)
      rw [← unhide HV, ← unhide HB]
      clear HV
      go_wp2_with fail
      refine (unhide RE v).mono ?_
      rintro e w1 ⟨rfl, hF⟩
      have HTB1 := hide ((unhide HTB).keep hF)
      have HF1 := hide ((unhide HFV).trans hF (fun _ _ t => t))
      clear j0 j1 j2 j3 j4 j5
      obtain ⟨j0, j1, j2, j3, j4, j5⟩ := unhide HC w1 hF
      clear hF HTB HFV RE RR
      have RW1 := unhide RW w1 (unhide HF1)
      go_wp2_with (refine wpList_load_tariff rfl (.tmp 2) rfl (g := B) (A := A) (t := t) rfl (unhide HTB1) ?_)
      refine RW1.mono ?_
      rintro e w2 ⟨rfl, hF⟩
      have HF2 := hide ((unhide HF1).trans hF (fun _ _ t => t))
      clear hF RW1 RW HTB1 HC j0 j1 j2 j3 j4 j5
      go_wp2
      go_ret2
      exact ⟨by rw [unhide HX1]; rfl, unhide HF2⟩
    · rw [if_neg h1] at HX1
      by_cases h4 : k = 4
      · subst h4
        rw [if_pos rfl] at HX1
        clear h1 RW
        unfold tc at HV ⊢
        go_enter Try.func18, Try.ntmps18
        go_upto_region 1 with (fail)
        rw [← unhide HV, ← unhide HB]
        clear HV
        go_wp2_with fail
        refine (unhide RE v).mono ?_
        rintro e w1 ⟨rfl, hF⟩
        have HTB1 := hide ((unhide HTB).keep hF)
        have HF1 := hide ((unhide HFV).trans hF (fun _ _ t => t))
        clear j0 j1 j2 j3 j4 j5
        obtain ⟨j0, j1, j2, j3, j4, j5⟩ := unhide HC w1 hF
        clear hF HTB HFV RE
        have RR1 := unhide RR w1
        generalize (if r = true then (0 : Int) else t.bus) = fr at *
        go_wp2_with (refine wpList_load_tariff rfl (.tmp 2) rfl (g := B) (A := A) (t := t) rfl (unhide HTB1) ?_)
        refine RR1.mono ?_
        rintro e w2 ⟨rfl, hF⟩
        have HF2 := hide ((unhide HF1).trans hF (fun _ _ t => t))
        clear hF RR1 RR HTB1 HC j0 j1 j2 j3 j4 j5
        go_wp2
        go_ret2
        exact ⟨by rw [unhide HX1]; rfl, unhide HF2⟩
      · rw [if_neg h4] at HX1
        clear RW RR
        unfold tc at HV ⊢
        go_enter Try.func18, Try.ntmps18
        go_upto_region 1 with (fail)
        rw [← unhide HV, ← unhide HB]
        clear HV
        go_wp2_with fail
        refine (unhide RE v).mono ?_
        rintro e w1 ⟨rfl, hF⟩
        have hTB1 := (unhide HTB).keep hF
        have m8 : w1.cell? ⟨B, 8, none⟩ = some (.int .i64 t.most) := hTB1.cell 8
        have HF1 := hide ((unhide HFV).trans hF (fun _ _ t => t))
        clear j0 j1 j2 j3 j4 j5
        obtain ⟨j0, j1, j2, j3, j4, j5⟩ := unhide HC w1 hF
        clear hF HTB HFV RE hTB1 HC
        go_wp2
        go_ret2
        exact ⟨by rw [unhide HX1]; rfl, unhide HF1⟩
  · have HX1 : Hid (z = (0, er)) := hide (by rw [unhide HX, if_neg h0])
    have hb2 : (er == 0) = false := by simp [h0]
    have hb3 : (er != 0) = true := by simp [h0]
    clear HX RW RR h0
    unfold tc at HV ⊢
    go_enter Try.func18, Try.ntmps18
    go_upto_region 1 with (fail)
    rw [← unhide HV, ← unhide HB]
    clear HV
    go_wp2_with fail
    refine (unhide RE v).mono ?_
    rintro e w1 ⟨rfl, hF⟩
    have HF1 := hide ((unhide HFV).trans hF (fun _ _ t => t))
    clear hF HTB HFV RE HC j0 j1 j2 j3 j4 j5
    go_wp2
    go_ret2
    exact ⟨by rw [unhide HX1]; rfl, unhide HF1⟩

end Go.Proofs.Ytmgejkenpfihmaa

