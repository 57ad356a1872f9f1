import Derived.Test.YtmgejkenpfihmaaFA3
import Derived.Test.YtmgejkenpfihmaaFA4
/- A fare is a price, back as much as there, in the peak no less: the walk of FareBack. -/
namespace Go.Proofs.Ytmgejkenpfihmaa
open Go.RowKit

set_option maxHeartbeats 4000000 in
set_option maxRecDepth 20000 in
theorem back_walkF (w : World) (A : Ad) (t : Tf) (h : TAt w A t) (j : Jn) (x : Int) :
    Calls Try.prog 4 #[tv A t, .agg (jC j), .int .i64 x] w fun e w' => e = .returned (.bool true) ∧ Fr (fun _ => False) w w' := by
  have HO := hide (fun (u : World) (hu : Fr (fun _ => False) w u) (j' : Jn) => fof_any u A t (h.keep hu) j')
  have RF := hide (fun (u : World) (hu : Fr (fun _ => False) w u) => station_any u A t (h.keep hu) j.fr)
  have RO := hide (fun (u : World) (hu : Fr (fun _ => False) w u) => station_any u A t (h.keep hu) j.to)
  have HS := hide (fun (u : World) (hu : Fr (fun _ => False) w u) (pk : Bool) => single_any u A t (h.keep hu) (zoneF t j) (zoneT t j) pk)
  have RA := hide (fun (u : World) => awake_anyF u)
  have H0 := hide (fareV_or t j)
  have HQ := hide (fun (e : (fareV t j).2 = 0) (hk : j.kind ≠ 1) => fare_other e hk)
  have HR := hide (fun (e : (fareV t j).2 = 0) (hk : j.kind = 1) => fare_whole e hk x)
  obtain ⟨k, f, o, s, n, r⟩ := j
  have R1 := hide (fun (u : World) (hu : Fr (fun _ => False) w u) => unhide HO u hu ⟨k, f, o, s, n, r⟩)
  obtain ⟨v, hv⟩ : ∃ v, v = (w.alloc (.cells (tc A t) 27)).alloc (.cells #[.int .i64 k, .int .i64 f, .int .i64 o, .int .i64 s, .int .i64 n, .bool r] 30) := ⟨_, rfl⟩
  have HF : Hid (Fr (fun _ => False) w v) := hide (by rw [hv]; exact ((Fr.refl _ w).alloc _).alloc _)
  have hTB : TB v w.heap.size A t := by rw [hv]; exact (TB.new w A t).keep ((Fr.refl _ _).alloc _)
  have hJ : Bx v (w.heap.size + 1) (jC ⟨k, f, o, s, n, r⟩) 30 := by
    rw [hv, ← heap_alloc w (.cells (tc A t) 27)]; exact Bx.new _ _ _
  obtain ⟨B, hB⟩ : ∃ B, B = w.heap.size := ⟨_, rfl⟩
  rw [← hB] at hTB hJ
  have HTB := hide hTB
  have HJ := hide hJ
  have HV := hide hv
  have HB := hide hB
  clear hv hB hTB hJ h
  obtain ⟨z, hz⟩ : ∃ z, fareV t ⟨k, f, o, s, n, r⟩ = z := ⟨_, rfl⟩
  rw [hz] at R1 HQ HR H0
  clear hz
  unfold tv at *
  simp only [jC] at *
  unfold tc at HV ⊢
  go_enter Try.func4, Try.ntmps4
  go_upto_region 1 with (fail)
  rw [← unhide HV, ← unhide HB]
  clear HV
  go_wp2_with fail
  refine (unhide RA v).mono ?_
  rintro e w1 ⟨rfl, hF⟩
  have HTB := hide ((unhide HTB).keep hF)
  have HF := hide ((unhide HF).trans hF (fun _ _ t => t))
  have HJ := hide ((unhide HJ).keep hF)
  clear hF
  clear RA
  have R3 := unhide R1 w1 (unhide HF)
  clear R1
  go_wp2_with (first | refine wpList_load_tariff rfl (.tmp 3) rfl (g := B) (A := A) (t := t) rfl (unhide HTB) ?_ | refine wpList_load_journey rfl (.tmp 4) rfl (g := B + 1) (j := ⟨k, f, o, s, n, r⟩) rfl (unhide HJ) ?_)
  refine R3.mono ?_
  rintro e w2 ⟨rfl, hF⟩
  have HTB := hide ((unhide HTB).keep hF)
  have HF := hide ((unhide HF).trans hF (fun _ _ t => t))
  have HJ := hide ((unhide HJ).keep hF)
  clear hF
  clear R3
  obtain ⟨n1, n2⟩ := z
  by_cases hz : n2 = 0
  · subst hz
    by_cases hk : k = 1
    · subst hk
      have RB := hide (fun (u : World) (hu : Fr (fun _ => False) w u) => unhide HO u hu ⟨1, o, f, s, n, r⟩)
      have RX := hide (fun (u : World) (hu : Fr (fun _ => False) w u) => unhide HO u hu ⟨1, f, o, x, x, r⟩)
      have RH := hide (fun (u : World) (hu : Fr (fun _ => False) w u) => unhide HS u hu true)
      have RL := hide (fun (u : World) (hu : Fr (fun _ => False) w u) => unhide HS u hu false)
      obtain ⟨p0, p1, hb, hi, lo, e1, e2, hN, hG⟩ := unhide HR rfl rfl
      have e3 : zoneF t ⟨1, f, o, s, n, r⟩ = ((stationOf t f).getD ⟨0, 0, 0⟩).zone := rfl
      have e4 : zoneT t ⟨1, f, o, s, n, r⟩ = ((stationOf t o).getD ⟨0, 0, 0⟩).zone := rfl
      have hb' : fareV t ⟨1, o, f, s, n, r⟩ = (n1, 0) := hb
      have hG' : (fareV t ⟨1, f, o, x, x, r⟩).2 ≠ 0 ∨ (fareV t ⟨1, f, o, x, x, r⟩).1 = hi ∨ (fareV t ⟨1, f, o, x, x, r⟩).1 = lo := hG
      rw [e3, e4] at e1 e2 RH RL
      rw [e1] at RH
      rw [e2] at RL
      rw [hb'] at RB
      simp only at p0 p1 hN
      generalize fareV t ⟨1, f, o, x, x, r⟩ = g at *
      obtain ⟨g1, g2⟩ := g
      generalize (stationOf t f).getD ⟨0, 0, 0⟩ = tf at *
      generalize (stationOf t o).getD ⟨0, 0, 0⟩ = tt at *
      generalize (stationOf t f).isSome = bf at *
      generalize (stationOf t o).isSome = bo at *
      have HN := hide hN
      have HG := hide hG'
      have d0 : decide (n1 < 0) = false := by simp; exact p0
      have d1 : decide (1048576 < n1) = false := by simp; exact p1
      have d2 : ¬ n1 < 0 := by omega
      have d3 : ¬ 1048576 < n1 := by omega
      clear HO HS e1 e2 e3 e4 hb hb' hG hG' hN H0 p0 p1
      have HP := trivial
      have hJx := unhide HJ
      have j0 : w2.cell? ⟨B + 1, 0, none⟩ = some (.int .i64 1) := hJx.cell 0
      have j1 : w2.cell? ⟨B + 1, 1, none⟩ = some (.int .i64 f) := hJx.cell 1
      have j2 : w2.cell? ⟨B + 1, 2, none⟩ = some (.int .i64 o) := hJx.cell 2
      have j3 : w2.cell? ⟨B + 1, 3, none⟩ = some (.int .i64 s) := hJx.cell 3
      have j4 : w2.cell? ⟨B + 1, 4, none⟩ = some (.int .i64 n) := hJx.cell 4
      have j5 : w2.cell? ⟨B + 1, 5, none⟩ = some (.bool r) := hJx.cell 5
      clear hJx
      have hlt : B + 1 < w2.heap.size := (unhide HJ).lt
      clear HP HR HQ
      go_upto_region 12 with (fail)
      clear hlt
      clear j0 j1 j2 j3 j4 j5
      obtain ⟨v2, hv2⟩ : ∃ v2, v2 = w2.alloc (.cells #[.int .i64 1, .int .i64 o, .int .i64 f, .int .i64 s, .int .i64 n, .bool r] 30) := ⟨_, rfl⟩
      obtain ⟨C, hC⟩ : ∃ C, C = w2.heap.size := ⟨_, rfl⟩
      rw [← hv2, ← hC]
      have HJ4 : Hid (Bx v2 C (jC ⟨1, o, f, s, n, r⟩) 30) := hide (by rw [hv2, hC]; exact Bx.new _ _ _)
      have hF : Fr (fun _ => False) w2 v2 := by rw [hv2]; exact (Fr.refl _ _).alloc _
      clear hv2 hC
      have HTB := hide ((unhide HTB).keep hF)
      have HF := hide ((unhide HF).trans hF (fun _ _ t => t))
      have HJ := hide ((unhide HJ).keep hF)
      clear hF
      have R3 := unhide RB v2 (unhide HF)
      clear RB
      go_wp2_with (first | refine wpList_load_tariff rfl (.tmp 3) rfl (g := B) (A := A) (t := t) rfl (unhide HTB) ?_ | refine wpList_load_journey rfl (.tmp 10) rfl (g := C) (j := ⟨1, o, f, s, n, r⟩) rfl (unhide HJ4) ?_)
      refine R3.mono ?_
      rintro e w3 ⟨rfl, hF⟩
      have HTB := hide ((unhide HTB).keep hF)
      have HF := hide ((unhide HF).trans hF (fun _ _ t => t))
      have HJ := hide ((unhide HJ).keep hF)
      clear hF
      clear R3 HJ4
      have hJx := unhide HJ
      have j0 : w3.cell? ⟨B + 1, 0, none⟩ = some (.int .i64 1) := hJx.cell 0
      have j1 : w3.cell? ⟨B + 1, 1, none⟩ = some (.int .i64 f) := hJx.cell 1
      have j2 : w3.cell? ⟨B + 1, 2, none⟩ = some (.int .i64 o) := hJx.cell 2
      have j3 : w3.cell? ⟨B + 1, 3, none⟩ = some (.int .i64 s) := hJx.cell 3
      have j4 : w3.cell? ⟨B + 1, 4, none⟩ = some (.int .i64 n) := hJx.cell 4
      have j5 : w3.cell? ⟨B + 1, 5, none⟩ = some (.bool r) := hJx.cell 5
      clear hJx
      go_upto_region 16 with (fail)
      clear j0 j1 j2 j3 j4 j5
      obtain ⟨v3, hv2⟩ : ∃ v3, v3 = w3.alloc (.cells #[.int .i64 1, .int .i64 f, .int .i64 o, .int .i64 x, .int .i64 x, .bool r] 30) := ⟨_, rfl⟩
      obtain ⟨D, hC⟩ : ∃ D, D = w3.heap.size := ⟨_, rfl⟩
      rw [← hv2, ← hC]
      have HJ4 : Hid (Bx v3 D (jC ⟨1, f, o, x, x, r⟩) 30) := hide (by rw [hv2, hC]; exact Bx.new _ _ _)
      have hF : Fr (fun _ => False) w3 v3 := by rw [hv2]; exact (Fr.refl _ _).alloc _
      clear hv2 hC
      have HTB := hide ((unhide HTB).keep hF)
      have HF := hide ((unhide HF).trans hF (fun _ _ t => t))
      have HJ := hide ((unhide HJ).keep hF)
      clear hF
      have R3 := unhide RX v3 (unhide HF)
      clear RX
      go_wp2_with (first | refine wpList_load_tariff rfl (.tmp 3) rfl (g := B) (A := A) (t := t) rfl (unhide HTB) ?_ | refine wpList_load_journey rfl (.tmp 13) rfl (g := D) (j := ⟨1, f, o, x, x, r⟩) rfl (unhide HJ4) ?_)
      refine R3.mono ?_
      rintro e w4 ⟨rfl, hF⟩
      have HTB := hide ((unhide HTB).keep hF)
      have HF := hide ((unhide HF).trans hF (fun _ _ t => t))
      have HJ := hide ((unhide HJ).keep hF)
      clear hF
      clear R3 HJ4
      have hJx := unhide HJ
      have j0 : w4.cell? ⟨B + 1, 0, none⟩ = some (.int .i64 1) := hJx.cell 0
      have j1 : w4.cell? ⟨B + 1, 1, none⟩ = some (.int .i64 f) := hJx.cell 1
      have j2 : w4.cell? ⟨B + 1, 2, none⟩ = some (.int .i64 o) := hJx.cell 2
      have j3 : w4.cell? ⟨B + 1, 3, none⟩ = some (.int .i64 s) := hJx.cell 3
      have j4 : w4.cell? ⟨B + 1, 4, none⟩ = some (.int .i64 n) := hJx.cell 4
      have j5 : w4.cell? ⟨B + 1, 5, none⟩ = some (.bool r) := hJx.cell 5
      clear hJx
      have R3 := unhide RF w4 (unhide HF)
      clear RF
      go_wp2_with (refine wpList_load_tariff rfl (.tmp 3) rfl (g := B) (A := A) (t := t) rfl (unhide HTB) ?_)
      refine R3.mono ?_
      rintro e w5 ⟨rfl, hF⟩
      have HTB := hide ((unhide HTB).keep hF)
      have HF := hide ((unhide HF).trans hF (fun _ _ t => t))
      have HJ := hide ((unhide HJ).keep hF)
      clear hF
      clear R3
      clear j0 j1 j2 j3 j4 j5
      go_upto_region 18 with (fail)
      obtain ⟨v5, hv2⟩ : ∃ v5, v5 = w5.alloc (.cells #[.int .i64 tf.id, .int .i64 tf.zone, .int .i64 tf.group] 45) := ⟨_, rfl⟩
      obtain ⟨E, hC⟩ : ∃ E, E = w5.heap.size := ⟨_, rfl⟩
      rw [← hv2, ← hC]
      have y1 : v5.cell? ⟨E, 1, none⟩ = some (.int .i64 tf.zone) := by rw [hv2, hC, World.cell?_alloc_new]; rfl
      have hF : Fr (fun _ => False) w5 v5 := by rw [hv2]; exact (Fr.refl _ _).alloc _
      clear hv2 hC
      have HTB := hide ((unhide HTB).keep hF)
      have HF := hide ((unhide HF).trans hF (fun _ _ t => t))
      have HJ := hide ((unhide HJ).keep hF)
      clear hF
      have hJx := unhide HJ
      have j0 : v5.cell? ⟨B + 1, 0, none⟩ = some (.int .i64 1) := hJx.cell 0
      have j1 : v5.cell? ⟨B + 1, 1, none⟩ = some (.int .i64 f) := hJx.cell 1
      have j2 : v5.cell? ⟨B + 1, 2, none⟩ = some (.int .i64 o) := hJx.cell 2
      have j3 : v5.cell? ⟨B + 1, 3, none⟩ = some (.int .i64 s) := hJx.cell 3
      have j4 : v5.cell? ⟨B + 1, 4, none⟩ = some (.int .i64 n) := hJx.cell 4
      have j5 : v5.cell? ⟨B + 1, 5, none⟩ = some (.bool r) := hJx.cell 5
      clear hJx
      have R3 := unhide RO v5 (unhide HF)
      clear RO
      go_wp2_with (refine wpList_load_tariff rfl (.tmp 3) rfl (g := B) (A := A) (t := t) rfl (unhide HTB) ?_)
      refine R3.mono ?_
      rintro e w6 ⟨rfl, hF⟩
      have y1 : w6.cell? ⟨E, 1, none⟩ = some (.int .i64 tf.zone) := (hF.cell (a := ⟨E, 1, none⟩) (World.block_lt_of_cell? _ _ y1) (fun t => t)).trans y1
      have HTB := hide ((unhide HTB).keep hF)
      have HF := hide ((unhide HF).trans hF (fun _ _ t => t))
      have HJ := hide ((unhide HJ).keep hF)
      clear hF
      clear R3
      clear j0 j1 j2 j3 j4 j5
      go_upto_region 19 with (fail)
      obtain ⟨v6, hv2⟩ : ∃ v6, v6 = w6.alloc (.cells #[.int .i64 tt.id, .int .i64 tt.zone, .int .i64 tt.group] 45) := ⟨_, rfl⟩
      obtain ⟨G, hC⟩ : ∃ G, G = w6.heap.size := ⟨_, rfl⟩
      rw [← hv2, ← hC]
      have z1 : v6.cell? ⟨G, 1, none⟩ = some (.int .i64 tt.zone) := by rw [hv2, hC, World.cell?_alloc_new]; rfl
      have hF : Fr (fun _ => False) w6 v6 := by rw [hv2]; exact (Fr.refl _ _).alloc _
      clear hv2 hC
      have y1 : v6.cell? ⟨E, 1, none⟩ = some (.int .i64 tf.zone) := (hF.cell (a := ⟨E, 1, none⟩) (World.block_lt_of_cell? _ _ y1) (fun t => t)).trans y1
      have HTB := hide ((unhide HTB).keep hF)
      have HF := hide ((unhide HF).trans hF (fun _ _ t => t))
      have HJ := hide ((unhide HJ).keep hF)
      clear hF
      have R3 := unhide RH v6 (unhide HF)
      go_wp2_with (refine wpList_load_tariff rfl (.tmp 3) rfl (g := B) (A := A) (t := t) rfl (unhide HTB) ?_)
      refine R3.mono ?_
      rintro e w7 ⟨rfl, hF⟩
      have y1 : w7.cell? ⟨E, 1, none⟩ = some (.int .i64 tf.zone) := (hF.cell (a := ⟨E, 1, none⟩) (World.block_lt_of_cell? _ _ y1) (fun t => t)).trans y1
      have z1 : w7.cell? ⟨G, 1, none⟩ = some (.int .i64 tt.zone) := (hF.cell (a := ⟨G, 1, none⟩) (World.block_lt_of_cell? _ _ z1) (fun t => t)).trans z1
      have HTB := hide ((unhide HTB).keep hF)
      have HF := hide ((unhide HF).trans hF (fun _ _ t => t))
      have HJ := hide ((unhide HJ).keep hF)
      clear hF
      clear R3 RH
      have R3 := unhide RL w7 (unhide HF)
      clear RL
      go_wp2_with (refine wpList_load_tariff rfl (.tmp 3) rfl (g := B) (A := A) (t := t) rfl (unhide HTB) ?_)
      refine R3.mono ?_
      rintro e w8 ⟨rfl, hF⟩
      have HTB := hide ((unhide HTB).keep hF)
      have HF := hide ((unhide HF).trans hF (fun _ _ t => t))
      have HJ := hide ((unhide HJ).keep hF)
      clear hF
      clear R3 y1 z1 HTB HJ
      rcases unhide HN with q1 | q1
      · by_cases hg : g2 = 0
        · rcases unhide HG with q2 | q2 | q2
          · exact absurd hg q2
          · subst q1 q2 hg
            clear HN HG
            go_wp2
            all_goals
              go_ret
              exact ⟨by first | rfl | simp, unhide HF⟩
          · by_cases hhl : hi = lo
            · subst q1 q2 hg hhl
              clear HN HG
              go_wp2
              all_goals
                go_ret
                exact ⟨by first | rfl | simp, unhide HF⟩
            · have hb : (lo == hi) = false := by simp; exact fun e => hhl e.symm
              subst q1 q2 hg
              clear HN HG
              go_wp2
              all_goals
                go_ret
                exact ⟨by first | rfl | simp, unhide HF⟩
        · have hb : (g2 != 0) = true := by simp [hg]
          subst q1
          clear HN HG
          go_wp2
          all_goals
            go_ret
            exact ⟨by first | rfl | simp, unhide HF⟩
      · by_cases hhl : hi = lo
        · subst hhl
          by_cases hg : g2 = 0
          · have q2 : g1 = hi := by
              rcases unhide HG with q2 | q2 | q2
              · exact absurd hg q2
              · exact q2
              · exact q2
            subst q1 q2 hg
            clear HN HG
            go_wp2
            all_goals
              go_ret
              exact ⟨by first | rfl | simp, unhide HF⟩
          · have hb : (g2 != 0) = true := by simp [hg]
            subst q1
            clear HN HG
            go_wp2
            all_goals
              go_ret
              exact ⟨by first | rfl | simp, unhide HF⟩
        · have hb0 : (lo == hi) = false := by simp; exact fun e => hhl e.symm
          by_cases hg : g2 = 0
          · rcases unhide HG with q2 | q2 | q2
            · exact absurd hg q2
            · subst q1 q2 hg
              clear HN HG
              go_wp2
              all_goals
                go_ret
                exact ⟨by first | rfl | simp, unhide HF⟩
            · subst q1 q2 hg
              clear HN HG
              go_wp2
              all_goals
                go_ret
                exact ⟨by first | rfl | simp, unhide HF⟩
          · have hb : (g2 != 0) = true := by simp [hg]
            subst q1
            clear HN HG
            go_wp2
            all_goals
              go_ret
              exact ⟨by first | rfl | simp, unhide HF⟩
    · obtain ⟨p0, p1, hx⟩ := unhide HQ rfl hk
      simp only at p0 p1 hx
      have d2 : ¬ n1 < 0 := by omega
      have d3 : ¬ 1048576 < n1 := by omega
      have hTB1 := unhide HTB
      have m4 : w2.cell? ⟨B, 4, none⟩ = some (.int .i64 t.bus) := hTB1.cell 4
      have m8 : w2.cell? ⟨B, 8, none⟩ = some (.int .i64 t.most) := hTB1.cell 8
      have hJx := unhide HJ
      have j0 : w2.cell? ⟨B + 1, 0, none⟩ = some (.int .i64 k) := hJx.cell 0
      have j1 : w2.cell? ⟨B + 1, 1, none⟩ = some (.int .i64 f) := hJx.cell 1
      have j2 : w2.cell? ⟨B + 1, 2, none⟩ = some (.int .i64 o) := hJx.cell 2
      have j3 : w2.cell? ⟨B + 1, 3, none⟩ = some (.int .i64 s) := hJx.cell 3
      have j4 : w2.cell? ⟨B + 1, 4, none⟩ = some (.int .i64 n) := hJx.cell 4
      have j5 : w2.cell? ⟨B + 1, 5, none⟩ = some (.bool r) := hJx.cell 5
      clear hJx
      clear HO HS HQ HR H0 RF RO p0 p1 HTB HJ hTB1
      generalize t.bus = tb at *
      generalize t.most = tm at *
      rcases hx with ⟨rfl, rfl, rfl⟩ | ⟨rfl, rfl, rfl⟩ | ⟨h4, rfl, rfl⟩
      · clear hk
        go_wp2
        all_goals
          go_ret
          exact ⟨by first | rfl | simp, unhide HF⟩
      · clear hk
        by_cases h0 : n1 = 0
        · subst h0
          go_wp2
          all_goals
            go_ret
            exact ⟨by first | rfl | simp, unhide HF⟩
        · have hb : (n1 == 0) = false := by simp [h0]
          go_wp2
          all_goals
            go_ret
            exact ⟨by first | rfl | simp, unhide HF⟩
      · have hb4 : (k == 4) = false := by simp [h4]
        have hb5 : (k != 4) = true := by simp [h4]
        by_cases h0 : n1 = 0
        · subst h0
          by_cases h1 : tb = 0
          · subst h1
            go_wp2
            all_goals
              go_ret
              exact ⟨by first | rfl | simp, unhide HF⟩
          · have hb : ((0 : Int) == tb) = false := by simp; exact fun e => h1 e.symm
            go_wp2
            all_goals
              go_ret
              exact ⟨by first | rfl | simp, unhide HF⟩
        · have hb : (n1 == 0) = false := by simp [h0]
          by_cases h1 : n1 = tb
          · subst h1
            go_wp2
            all_goals
              go_ret
              exact ⟨by first | rfl | simp, unhide HF⟩
          · have hb2 : (n1 == tb) = false := by simp [h1]
            go_wp2
            all_goals
              go_ret
              exact ⟨by first | rfl | simp, unhide HF⟩
  · have hn : n1 = 0 := by
      rcases unhide H0 with q | q
      · exact absurd q hz
      · exact q
    subst hn
    have hb : (n2 != 0) = true := by simp [hz]
    clear HO HS HQ HR H0 RF RO HTB HJ hz
    go_wp2
    all_goals
      go_ret
      exact ⟨by first | rfl | simp, unhide HF⟩

end Go.Proofs.Ytmgejkenpfihmaa

