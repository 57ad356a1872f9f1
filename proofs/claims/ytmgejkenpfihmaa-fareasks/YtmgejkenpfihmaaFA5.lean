import Derived.Test.YtmgejkenpfihmaaFA1
import Derived.Test.YtmgejkenpfihmaaQV7
import Derived.Test.YtmgejkenpfihmaaBX
/- What a journey costs: the document's own Price. -/
namespace Go.Proofs.Ytmgejkenpfihmaa
open Go.RowKit

set_option maxHeartbeats 2000000 in
theorem rcost_any (w : World) (A : Ad) (t : Tf) (h : TAt w A t) (j : Jn) : Calls Try.prog 21 #[tv A t, .agg (jC j)] w fun e w' => e = .returned (.tuple #[.int .i64 (costV t j).1, .int .i64 (costV t j).2]) ∧ Fr (fun _ => False) w w' := by
  obtain ⟨k, f, o, s, n, r⟩ := j
  have HX : Hid (costV t ⟨k, f, o, s, n, r⟩ = if (if jKind k = true then (if timeB s = true ∧ timeB n = true ∧ s ≤ n then (if r = true ∧ k ≠ 4 then (1 : Int) else 0) else 60) else 1) = 0 then (if k = 1 then wholeV t ⟨k, f, o, s, n, r⟩ else if k = 4 then (if r = true then 0 else t.bus, 0) else (t.most, 0)) else (0, if jKind k = true then (if timeB s = true ∧ timeB n = true ∧ s ≤ n then (if r = true ∧ k ≠ 4 then (1 : Int) else 0) else 60) else 1)) := rfl
  have HWH : Hid (wholeV t ⟨k, f, o, s, n, r⟩ = if (stationOf t f).isSome = true ∧ (stationOf t o).isSome = true then singleR t ((stationOf t f).getD ⟨0, 0, 0⟩).zone ((stationOf t o).getD ⟨0, 0, 0⟩).zone (peakB t.bd s) else (0, 1)) := rfl
  have RF := hide (fun (u : World) (hu : Fr (fun _ => False) w u) => rstation_any u A t (h.keep hu) f)
  have RO := hide (fun (u : World) (hu : Fr (fun _ => False) w u) => rstation_any u A t (h.keep hu) o)
  have lB := h.lB
  have RP := hide (fun (u : World) (hu : Fr (fun _ => False) w u) => rpeakB_any u A.aB A.cB t.bd (h.keep hu).bd (by omega) s)
  have RG := hide (fun (u : World) (hu : Fr (fun _ => False) w u) (pk : Bool) => rsingle_any u A t (h.keep hu) ((stationOf t f).getD ⟨0, 0, 0⟩).zone ((stationOf t o).getD ⟨0, 0, 0⟩).zone pk)
  have RS := hide (fun (u : World) => rtimeB_any u s)
  have RN := hide (fun (u : World) => rtimeB_any u n)
  generalize costV t ⟨k, f, o, s, n, r⟩ = z at *
  generalize wholeV t ⟨k, f, o, s, n, r⟩ = wh at *
  generalize timeB s = bs at *
  generalize timeB n = bn at *
  generalize peakB t.bd s = pk at *
  generalize (stationOf t f).getD ⟨0, 0, 0⟩ = tf at *
  generalize (stationOf t o).getD ⟨0, 0, 0⟩ = tt at *
  generalize (stationOf t f).isSome = bf at *
  generalize (stationOf t o).isSome = bo at *
  obtain ⟨v, hv⟩ : ∃ v, v = (w.alloc (.cells (tc A t) 27)).alloc (.cells #[.int .i64 k, .int .i64 f, .int .i64 o, .int .i64 s, .int .i64 n, .bool r] 30) := ⟨_, rfl⟩
  have HFV : Hid (Fr (fun _ => False) w v) := hide (by rw [hv]; exact ((Fr.refl _ w).alloc _).alloc _)
  have hTB : TB v w.heap.size A t := by rw [hv]; exact (TB.new w A t).keep ((Fr.refl _ _).alloc _)
  have hJ : Bx v (w.heap.size + 1) #[.int .i64 k, .int .i64 f, .int .i64 o, .int .i64 s, .int .i64 n, .bool r] 30 := by
    rw [hv, ← heap_alloc w (.cells (tc A t) 27)]; exact Bx.new _ _ _
  obtain ⟨B, hB⟩ : ∃ B, B = w.heap.size := ⟨_, rfl⟩
  rw [← hB] at hTB hJ
  have HC : Hid (∀ u, Fr (fun _ => False) v u → u.cell? ⟨B + 1, 0, none⟩ = some (.int .i64 k) ∧ u.cell? ⟨B + 1, 1, none⟩ = some (.int .i64 f) ∧ u.cell? ⟨B + 1, 2, none⟩ = some (.int .i64 o) ∧ u.cell? ⟨B + 1, 3, none⟩ = some (.int .i64 s) ∧ u.cell? ⟨B + 1, 4, none⟩ = some (.int .i64 n) ∧ u.cell? ⟨B + 1, 5, none⟩ = some (.bool r)) := hide (fun u hf => have k := hJ.keep hf; ⟨k.cell 0, k.cell 1, k.cell 2, k.cell 3, k.cell 4, k.cell 5⟩)
  obtain ⟨j0, j1, j2, j3, j4, j5⟩ := unhide HC v (Fr.refl _ _)
  have HTB := hide hTB
  have HV := hide hv
  have HB := hide hB
  clear hv hB hTB hJ h lB
  unfold tv at *
  simp only [jC]
  by_cases h1 : k < 1
  · have hk : jKind k = false := by have : ¬ (1 ≤ k ∧ k ≤ 4) := by omega
                                    simp [jKind]; omega
    have HZ : Hid (z = (0, 1)) := hide (by rw [unhide HX]; simp [hk])
    clear HX hk RF RO RP RG HC HTB HWH
    unfold tc at HV ⊢
    go_enter Try.func21, Try.ntmps21
    go_upto_region 1 with (fail)
    rw [← unhide HV, ← unhide HB]
    clear HV
    go_wp2_with fail
    refine (unhide RS v).mono ?_
    rintro e w1 ⟨rfl, rfl⟩
    go_wp2_with fail
    refine (unhide RN w1).mono ?_
    rintro e w1 ⟨rfl, rfl⟩
    clear RS RN
    go_wp2
    all_goals
      go_ret2
      exact ⟨by rw [unhide HZ]; rfl, unhide HFV⟩
  by_cases h4 : 4 < k
  · have hk : jKind k = false := by have : ¬ (1 ≤ k ∧ k ≤ 4) := by omega
                                    simp [jKind]; omega
    have HZ : Hid (z = (0, 1)) := hide (by rw [unhide HX]; simp [hk])
    clear HX hk RF RO RP RG HC HTB HWH
    unfold tc at HV ⊢
    go_enter Try.func21, Try.ntmps21
    go_upto_region 1 with (fail)
    rw [← unhide HV, ← unhide HB]
    clear HV
    go_wp2_with fail
    refine (unhide RS v).mono ?_
    rintro e w1 ⟨rfl, rfl⟩
    go_wp2_with fail
    refine (unhide RN w1).mono ?_
    rintro e w1 ⟨rfl, rfl⟩
    clear RS RN
    go_wp2
    all_goals
      go_ret2
      exact ⟨by rw [unhide HZ]; rfl, unhide HFV⟩
  have hk : jKind k = true := by simp [jKind]; omega
  cases bs with
  | false =>
    have HZ : Hid (z = (0, 60)) := hide (by rw [unhide HX]; simp [hk])
    clear HX hk RF RO RP RG HC HTB HWH
    unfold tc at HV ⊢
    go_enter Try.func21, Try.ntmps21
    go_upto_region 1 with (fail)
    rw [← unhide HV, ← unhide HB]
    clear HV
    go_wp2_with fail
    refine (unhide RS v).mono ?_
    rintro e w1 ⟨rfl, rfl⟩
    go_wp2_with fail
    refine (unhide RN w1).mono ?_
    rintro e w1 ⟨rfl, rfl⟩
    clear RS RN
    go_wp2
    all_goals
      go_ret2
      exact ⟨by rw [unhide HZ]; rfl, unhide HFV⟩
  | true =>
    cases bn with
    | false =>
      have HZ : Hid (z = (0, 60)) := hide (by rw [unhide HX]; simp [hk])
      clear HX hk RF RO RP RG HC HTB HWH
      unfold tc at HV ⊢
      go_enter Try.func21, Try.ntmps21
      go_upto_region 1 with (fail)
      rw [← unhide HV, ← unhide HB]
      clear HV
      go_wp2_with fail
      refine (unhide RS v).mono ?_
      rintro e w1 ⟨rfl, rfl⟩
      go_wp2_with fail
      refine (unhide RN w1).mono ?_
      rintro e w1 ⟨rfl, rfl⟩
      clear RS RN
      go_wp2
      all_goals
        go_ret2
        exact ⟨by rw [unhide HZ]; rfl, unhide HFV⟩
    | true =>
      by_cases hs : n < s
      · have hs' : ¬ s ≤ n := by omega
        have HZ : Hid (z = (0, 60)) := hide (by rw [unhide HX]; simp [hk, hs'])
        clear HX hk hs' RF RO RP RG HC HTB HWH
        unfold tc at HV ⊢
        go_enter Try.func21, Try.ntmps21
        go_upto_region 1 with (fail)
        rw [← unhide HV, ← unhide HB]
        clear HV
        go_wp2_with fail
        refine (unhide RS v).mono ?_
        rintro e w1 ⟨rfl, rfl⟩
        go_wp2_with fail
        refine (unhide RN w1).mono ?_
        rintro e w1 ⟨rfl, rfl⟩
        clear RS RN
        go_wp2
        all_goals
          go_ret2
          exact ⟨by rw [unhide HZ]; rfl, unhide HFV⟩
      have hs' : s ≤ n := by omega
      by_cases h44 : k = 4
      · subst h44
        cases r with
        | true =>
          have HZ : Hid (z = (0, 0)) := hide (by rw [unhide HX]; simp [hk, hs'])
          clear HX hk hs' RF RO RP RG HC HTB HWH
          unfold tc at HV ⊢
          go_enter Try.func21, Try.ntmps21
          go_upto_region 1 with (fail)
          rw [← unhide HV, ← unhide HB]
          clear HV
          go_wp2_with fail
          refine (unhide RS v).mono ?_
          rintro e w1 ⟨rfl, rfl⟩
          go_wp2_with fail
          refine (unhide RN w1).mono ?_
          rintro e w1 ⟨rfl, rfl⟩
          clear RS RN
          go_wp2
          all_goals
            go_ret2
            exact ⟨by rw [unhide HZ]; rfl, unhide HFV⟩
        | false =>
          have m4 : v.cell? ⟨B, 4, none⟩ = some (.int .i64 t.bus) := (unhide HTB).cell 4
          have HZ : Hid (z = (t.bus, 0)) := hide (by rw [unhide HX]; simp [hk, hs'])
          clear HX hk hs' RF RO RP RG HC HTB HWH
          unfold tc at HV ⊢
          go_enter Try.func21, Try.ntmps21
          go_upto_region 1 with (fail)
          rw [← unhide HV, ← unhide HB]
          clear HV
          go_wp2_with fail
          refine (unhide RS v).mono ?_
          rintro e w1 ⟨rfl, rfl⟩
          go_wp2_with fail
          refine (unhide RN w1).mono ?_
          rintro e w1 ⟨rfl, rfl⟩
          clear RS RN
          go_wp2
          all_goals
            go_ret2
            exact ⟨by rw [unhide HZ]; rfl, unhide HFV⟩
      cases r with
      | true =>
        have HZ : Hid (z = (0, 1)) := hide (by rw [unhide HX]; simp [hk, hs', h44])
        clear HX hk hs' RF RO RP RG HC HTB HWH
        unfold tc at HV ⊢
        go_enter Try.func21, Try.ntmps21
        go_upto_region 1 with (fail)
        rw [← unhide HV, ← unhide HB]
        clear HV
        go_wp2_with fail
        refine (unhide RS v).mono ?_
        rintro e w1 ⟨rfl, rfl⟩
        go_wp2_with fail
        refine (unhide RN w1).mono ?_
        rintro e w1 ⟨rfl, rfl⟩
        clear RS RN
        go_wp2
        all_goals
          go_ret2
          exact ⟨by rw [unhide HZ]; rfl, unhide HFV⟩
      | false =>
        by_cases h11 : k = 1
        · subst h11
          have HZ : Hid (z = wh) := hide (by rw [unhide HX]; simp [hk, hs'])
          clear HX hs'
          unfold tc at HV ⊢
          go_enter Try.func21, Try.ntmps21
          go_upto_region 1 with (fail)
          rw [← unhide HV, ← unhide HB]
          clear HV
          go_wp2_with fail
          refine (unhide RS v).mono ?_
          rintro e w1 ⟨rfl, rfl⟩
          go_wp2_with fail
          refine (unhide RN w1).mono ?_
          rintro e w1 ⟨rfl, rfl⟩
          clear RS RN
          go_upto_region 15 with (fail)
          go_wp2_with (refine wpList_load_tariff rfl (.tmp 2) rfl (g := B) (A := A) (t := t) rfl (unhide HTB) ?_)
          refine (unhide RF w1 (unhide HFV)).mono ?_
          rintro e w2 ⟨rfl, hF⟩
          have HF1 := hide hF
          have HTB1 := hide ((unhide HTB).keep hF)
          have HFW := hide ((unhide HFV).trans hF (fun _ _ t => t))
          clear j0 j1 j2 j3 j4 j5
          obtain ⟨_, _, j2, _, _, _⟩ := unhide HC w2 hF
          clear hF RF HTB
          go_upto_region 16 with (fail)
          obtain ⟨v1, hv1⟩ : ∃ v1, v1 = w2.alloc (.cells #[.int .i64 tf.id, .int .i64 tf.zone, .int .i64 tf.group] 45) := ⟨_, rfl⟩
          have hFa : Fr (fun _ => False) w2 v1 := by rw [hv1]; exact (Fr.refl _ _).alloc _
          have y1 : v1.cell? ⟨w2.heap.size, 1, none⟩ = some (.int .i64 tf.zone) := by rw [hv1, World.cell?_alloc_new]; rfl
          obtain ⟨D, hD⟩ : ∃ D, D = w2.heap.size := ⟨_, rfl⟩
          rw [← hv1, ← hD]
          rw [← hD] at y1
          have HFX := hide ((unhide HFW).trans hFa (fun _ _ t => t))
          have HTB2 := hide ((unhide HTB1).keep hFa)
          have HFV1 := hide ((unhide HF1).trans hFa (fun _ _ t => t))
          clear j2 hv1 hFa HTB1 HFW hD
          obtain ⟨_, _, j2, _, _, _⟩ := unhide HC v1 (unhide HFV1)
          go_wp2_with (refine wpList_load_tariff rfl (.tmp 2) rfl (g := B) (A := A) (t := t) rfl (unhide HTB2) ?_)
          refine (unhide RO v1 (unhide HFX)).mono ?_
          rintro e w3 ⟨rfl, hF⟩
          have hDl : D < v1.heap.size := World.block_lt_of_cell? _ _ y1
          have y1b : w3.cell? ⟨D, 1, none⟩ = some (.int .i64 tf.zone) := (hF.cell (a := ⟨D, 1, none⟩) hDl (fun t => t)).trans y1
          have HTB3 := hide ((unhide HTB2).keep hF)
          have HFW2 := hide ((unhide HFX).trans hF (fun _ _ t => t))
          have HFV2 := hide ((unhide HFV1).trans hF (fun _ _ t => t))
          clear hF RO HTB2 j2 hDl HFX HFV1 y1 HF1
          go_upto_region 17 with (fail)
          obtain ⟨v2, hv2⟩ : ∃ v2, v2 = w3.alloc (.cells #[.int .i64 tt.id, .int .i64 tt.zone, .int .i64 tt.group] 45) := ⟨_, rfl⟩
          have hFa : Fr (fun _ => False) w3 v2 := by rw [hv2]; exact (Fr.refl _ _).alloc _
          have z1 : v2.cell? ⟨w3.heap.size, 1, none⟩ = some (.int .i64 tt.zone) := by rw [hv2, World.cell?_alloc_new]; rfl
          obtain ⟨E, hE⟩ : ∃ E, E = w3.heap.size := ⟨_, rfl⟩
          rw [← hv2, ← hE]
          rw [← hE] at z1
          have hDl : D < w3.heap.size := World.block_lt_of_cell? _ _ y1b
          have y1 : v2.cell? ⟨D, 1, none⟩ = some (.int .i64 tf.zone) := (hFa.cell (a := ⟨D, 1, none⟩) hDl (fun t => t)).trans y1b
          have HFX := hide ((unhide HFW2).trans hFa (fun _ _ t => t))
          have HTB4 := hide ((unhide HTB3).keep hFa)
          have HFV3 := hide ((unhide HFV2).trans hFa (fun _ _ t => t))
          clear hv2 hFa HTB3 HFW2 hE hDl y1b HFV2
          cases bf with
          | false =>
            have HZ2 : Hid (z = (0, 1)) := hide (by rw [unhide HZ, unhide HWH]; simp)
            clear HZ HWH RG RP HC HTB4 y1 z1
            go_wp2
            go_ret2
            exact ⟨by rw [unhide HZ2]; rfl, unhide HFX⟩
          | true =>
            cases bo with
            | false =>
              have HZ2 : Hid (z = (0, 1)) := hide (by rw [unhide HZ, unhide HWH]; simp)
              clear HZ HWH RG RP HC HTB4 y1 z1
              go_wp2
              go_ret2
              exact ⟨by rw [unhide HZ2]; rfl, unhide HFX⟩
            | true =>
              have HZ2 : Hid (z = singleR t tf.zone tt.zone pk) := hide (by rw [unhide HZ, unhide HWH]; simp)
              clear HZ HWH
              obtain ⟨_, _, _, j3, _, _⟩ := unhide HC v2 (unhide HFV3)
              have b2 : v2.cell? ⟨B, 2, none⟩ = some (.slice A.aB t.bd.length A.cB) := (unhide HTB4).cell 2
              go_wp2_with fail
              refine (unhide RP v2 (unhide HFX)).mono ?_
              rintro e w4 ⟨rfl, rfl⟩
              clear RP j3 b2
              have RG1 := unhide RG w4 (unhide HFX) pk
              clear RG
              generalize singleR t tf.zone tt.zone pk = sr at *
              go_wp2_with (refine wpList_load_tariff rfl (.tmp 2) rfl (g := B) (A := A) (t := t) rfl (unhide HTB4) ?_)
              refine RG1.mono ?_
              rintro e w5 ⟨rfl, hF⟩
              have HFY := hide ((unhide HFX).trans hF (fun _ _ t => t))
              clear hF RG1 HTB4 y1 z1 HFX
              go_wp2
              go_ret2
              exact ⟨by rw [unhide HZ2]; rfl, unhide HFY⟩
        · have m8 : v.cell? ⟨B, 8, none⟩ = some (.int .i64 t.most) := (unhide HTB).cell 8
          have HZ : Hid (z = (t.most, 0)) := hide (by rw [unhide HX]; simp [hk, hs', h44, h11])
          clear HX hk hs' RF RO RP RG HC HTB HWH
          unfold tc at HV ⊢
          go_enter Try.func21, Try.ntmps21
          go_upto_region 1 with (fail)
          rw [← unhide HV, ← unhide HB]
          clear HV
          go_wp2_with fail
          refine (unhide RS v).mono ?_
          rintro e w1 ⟨rfl, rfl⟩
          go_wp2_with fail
          refine (unhide RN w1).mono ?_
          rintro e w1 ⟨rfl, rfl⟩
          clear RS RN
          go_wp2
          all_goals
            go_ret2
            exact ⟨by rw [unhide HZ]; rfl, unhide HFV⟩

end Go.Proofs.Ytmgejkenpfihmaa

