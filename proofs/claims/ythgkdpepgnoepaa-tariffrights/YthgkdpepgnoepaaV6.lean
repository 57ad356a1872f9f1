/- The document's own Right. -/
import Derived.Test.YthgkdpepgnoepaaU2
import Derived.Test.YthgkdpepgnoepaaV2
import Derived.Test.YthgkdpepgnoepaaV3
import Derived.Test.YthgkdpepgnoepaaV4
import Derived.Test.YthgkdpepgnoepaaV5
import Derived.Test.YthgkdpepgnoepaaR2
namespace Go.Proofs.Ythgkdpepgnoepaa
open Go.RowKit

theorem minutes_parts (t : Tf) : minutesOk t = ((decide (1 ≤ t.longest) && decide (t.longest ≤ 1440)) && (decide (0 ≤ t.hopper) && decide (t.hopper ≤ 1440)) && (decide (0 ≤ t.change) && decide (t.change ≤ 1440)) && (decide (0 ≤ t.passback) && decide (t.passback ≤ 1440)) && (decide (0 ≤ t.delay) && decide (t.delay ≤ 1440))) := by
  rw [Bool.eq_iff_iff]
  simp [minutesOk, minOk]
  omega

set_option maxHeartbeats 8000000 in
set_option maxRecDepth 100000 in
theorem rright_walk (w : World) (A : Ad) (t : Tf) (h : TAt w A t) : Calls Try.prog 12 #[tv A t] w fun e w' => e = .returned (.int .i64 (rightE t)) ∧ Fr (fun _ => False) w w' := by
  obtain ⟨Y, HY⟩ : ∃ Y, Hid (rightE t = Y) := ⟨_, rfl⟩
  rw [unhide HY]
  obtain ⟨B, hB⟩ : ∃ B, w.heap.size = B := ⟨_, rfl⟩
  have HB0 : Hid (TB (w.alloc (.cells (tc A t) 27)) B A t) := hide (by rw [← hB]; exact TB.new w A t)
  have HF0 := hide ((Fr.refl (fun _ => False) w).alloc (.cells (tc A t) 27))
  have H := hide h
  have hoff := h.off
  obtain ⟨w0, hw0⟩ : ∃ w0, w0 = w.alloc (.cells (tc A t) 27) := ⟨_, rfl⟩
  rw [← hw0] at HB0 HF0
  clear h
  unfold tv
  cases hb1 : stationsOk t.st with
  | false =>
    have R := rstations_any w0 A.aS A.cS t.st ((unhide H).st.keep (unhide HF0)) (unhide H).lS
    rw [hb1] at R
    have c0 : w0.cell? ⟨B, 0, none⟩ = some (.slice A.aS t.st.length A.cS) := (unhide HB0).cell 0
    go_enter Try.func12, Try.ntmps12
    rw [hw0] at c0
    go_wp2_with fail
    rw [← hw0]
    refine R.mono ?_
    rintro e w1 ⟨rfl, hF⟩
    have HB1 := hide ((unhide HB0).keep hF)
    have HF1 := hide ((unhide HF0).trans hF (fun _ _ t => t))
    clear R hF HB0 HF0 c0
    clear hw0
    clear HB1
    have HR : Hid (Y = 70) := hide (by rw [← unhide HY]; simp [rightE, hb1])
    clear HY H hb1
    go_wp2
    go_ret
    exact ⟨by rw [unhide HR]; rfl, unhide HF1⟩
  | true =>
    have R := rstations_any w0 A.aS A.cS t.st ((unhide H).st.keep (unhide HF0)) (unhide H).lS
    rw [hb1] at R
    obtain ⟨Z, hZ⟩ : ∃ Z : Nat, zmax 1 t.st = (Z : Int) := ⟨(zmax 1 t.st).toNat, by have := zmax_bound t.st 0 1 (by have h1 := hb1; rw [stationsOk, Bool.and_eq_true] at h1; exact h1.2) (by omega) (by omega); omega⟩
    have hZ9 : Z ≤ 9 := by have := zmax_bound t.st 0 1 (by have h1 := hb1; rw [stationsOk, Bool.and_eq_true] at h1; exact h1.2) (by omega) (by omega); omega
    rw [hZ] at R
    have c0 : w0.cell? ⟨B, 0, none⟩ = some (.slice A.aS t.st.length A.cS) := (unhide HB0).cell 0
    go_enter Try.func12, Try.ntmps12
    rw [hw0] at c0
    go_wp2_with fail
    rw [← hw0]
    refine R.mono ?_
    rintro e w1 ⟨rfl, hF⟩
    have HB1 := hide ((unhide HB0).keep hF)
    have HF1 := hide ((unhide HF0).trans hF (fun _ _ t => t))
    clear R hF HB0 HF0 c0
    clear hw0
    cases hb2 : zonesOk t with
    | false =>
      have R := rspans_any w1 A.aP A.cP t.sp ((unhide H).sp.keep (unhide HF1)) (unhide H).lP Z hZ9
      rw [show sameAll t.sp (prs 1 Z) = false by rw [← hb2, zonesOk, hZ]; rfl] at R
      have c1 : w1.cell? ⟨B, 1, none⟩ = some (.slice A.aP t.sp.length A.cP) := (unhide HB1).cell 1
      go_wp2_with fail
      refine R.mono ?_
      rintro e w2 ⟨rfl, rfl⟩
      have HB2 := HB1
      have HF2 := HF1
      clear R HB1 HF1 c1
      clear HB2
      have HR : Hid (Y = 70) := hide (by rw [← unhide HY]; simp [rightE, hb1, hb2])
      clear HY H hb1 hb2
      go_wp2
      go_ret
      exact ⟨by rw [unhide HR]; rfl, unhide HF2⟩
    | true =>
      have R := rspans_any w1 A.aP A.cP t.sp ((unhide H).sp.keep (unhide HF1)) (unhide H).lP Z hZ9
      rw [show sameAll t.sp (prs 1 Z) = true by rw [← hb2, zonesOk, hZ]; rfl] at R
      have c1 : w1.cell? ⟨B, 1, none⟩ = some (.slice A.aP t.sp.length A.cP) := (unhide HB1).cell 1
      go_wp2_with fail
      refine R.mono ?_
      rintro e w2 ⟨rfl, rfl⟩
      have HB2 := HB1
      have HF2 := HF1
      clear R HB1 HF1 c1
      cases hb3 : pricesOk t with
      | false =>
        have R := rprices_any w2 A t ((unhide H).keep (unhide HF2))
        rw [hb3] at R
        go_wp2_with (refine wpList_load_tariff rfl (.tmp 1) rfl (g := B) (A := A) (t := t) rfl (unhide HB2) ?_)
        refine R.mono ?_
        rintro e w3 ⟨rfl, hF⟩
        have HB3 := hide ((unhide HB2).keep hF)
        have HF3 := hide ((unhide HF2).trans hF (fun _ _ t => t))
        clear R hF HB2 HF2
        clear HB3
        have HR : Hid (Y = 50) := hide (by rw [← unhide HY]; simp [rightE, hb1, hb2, hb3])
        clear HY H hb1 hb2 hb3
        go_wp2
        go_ret
        exact ⟨by rw [unhide HR]; rfl, unhide HF3⟩
      | true =>
        have R := rprices_any w2 A t ((unhide H).keep (unhide HF2))
        rw [hb3] at R
        go_wp2_with (refine wpList_load_tariff rfl (.tmp 1) rfl (g := B) (A := A) (t := t) rfl (unhide HB2) ?_)
        refine R.mono ?_
        rintro e w3 ⟨rfl, hF⟩
        have HB3 := hide ((unhide HB2).keep hF)
        have HF3 := hide ((unhide HF2).trans hF (fun _ _ t => t))
        clear R hF HB2 HF2
        cases hb4 : withinOk t.sp with
        | false =>
          have R := rwider_any w3 A.aP A.cP t.sp ((unhide H).sp.keep (unhide HF3)) (unhide H).lP
          rw [hb4] at R
          have c1 : w3.cell? ⟨B, 1, none⟩ = some (.slice A.aP t.sp.length A.cP) := (unhide HB3).cell 1
          go_wp2_with fail
          refine R.mono ?_
          rintro e w4 ⟨rfl, hF⟩
          have HB4 := hide ((unhide HB3).keep hF)
          have HF4 := hide ((unhide HF3).trans hF (fun _ _ t => t))
          clear R hF HB3 HF3 c1
          have R := rbands_any w4 A.aB A.cB t.bd ((unhide H).bd.keep (unhide HF4)) (unhide H).lB
          generalize bandsOk t.bd = q at R
          have c2 : w4.cell? ⟨B, 2, none⟩ = some (.slice A.aB t.bd.length A.cB) := (unhide HB4).cell 2
          go_wp2_with fail
          refine R.mono ?_
          rintro e w5 ⟨rfl, hF⟩
          have HF5 := hide ((unhide HF4).trans hF (fun _ _ t => t))
          clear R hF HB4 HF4 c2
          have HR : Hid (Y = 70) := hide (by rw [← unhide HY]; simp [rightE, hb1, hb2, hb3, hb4])
          clear HY H hb1 hb2 hb3 hb4
          go_wp2
          go_ret
          exact ⟨by rw [unhide HR]; rfl, unhide HF5⟩
        | true =>
          have R := rwider_any w3 A.aP A.cP t.sp ((unhide H).sp.keep (unhide HF3)) (unhide H).lP
          rw [hb4] at R
          have c1 : w3.cell? ⟨B, 1, none⟩ = some (.slice A.aP t.sp.length A.cP) := (unhide HB3).cell 1
          go_wp2_with fail
          refine R.mono ?_
          rintro e w4 ⟨rfl, hF⟩
          have HB4 := hide ((unhide HB3).keep hF)
          have HF4 := hide ((unhide HF3).trans hF (fun _ _ t => t))
          clear R hF HB3 HF3 c1
          cases hb5 : bandsOk t.bd with
          | false =>
            have R := rbands_any w4 A.aB A.cB t.bd ((unhide H).bd.keep (unhide HF4)) (unhide H).lB
            rw [hb5] at R
            have c2 : w4.cell? ⟨B, 2, none⟩ = some (.slice A.aB t.bd.length A.cB) := (unhide HB4).cell 2
            go_wp2_with fail
            refine R.mono ?_
            rintro e w5 ⟨rfl, hF⟩
            have HB5 := hide ((unhide HB4).keep hF)
            have HF5 := hide ((unhide HF4).trans hF (fun _ _ t => t))
            clear R hF HB4 HF4 c2
            clear HB5
            have HR : Hid (Y = 70) := hide (by rw [← unhide HY]; simp [rightE, hb1, hb2, hb3, hb4, hb5])
            clear HY H hb1 hb2 hb3 hb4 hb5
            go_wp2
            go_ret
            exact ⟨by rw [unhide HR]; rfl, unhide HF5⟩
          | true =>
            have R := rbands_any w4 A.aB A.cB t.bd ((unhide H).bd.keep (unhide HF4)) (unhide H).lB
            rw [hb5] at R
            have c2 : w4.cell? ⟨B, 2, none⟩ = some (.slice A.aB t.bd.length A.cB) := (unhide HB4).cell 2
            go_wp2_with fail
            refine R.mono ?_
            rintro e w5 ⟨rfl, hF⟩
            have HB5 := hide ((unhide HB4).keep hF)
            have HF5 := hide ((unhide HF4).trans hF (fun _ _ t => t))
            clear R hF HB4 HF4 c2
            cases hb6 : rate t.off with
            | false =>
              have R := rrate_any w5 t.off hoff
              rw [hb6] at R
              have c3 : w5.cell? ⟨B, 3, none⟩ = some (.float .f64 t.off) := (unhide HB5).cell 3
              go_wp2_with fail
              refine R.mono ?_
              rintro e w6 ⟨rfl, rfl⟩
              have HB6 := HB5
              have HF6 := HF5
              clear R HB5 HF5 c3
              clear HB6
              have HR : Hid (Y = 51) := hide (by rw [← unhide HY]; simp [rightE, hb1, hb2, hb3, hb4, hb5, hb6])
              clear HY H hb1 hb2 hb3 hb4 hb5 hb6
              go_wp2
              go_ret
              exact ⟨by rw [unhide HR]; rfl, unhide HF6⟩
            | true =>
              have R := rrate_any w5 t.off hoff
              rw [hb6] at R
              have c3 : w5.cell? ⟨B, 3, none⟩ = some (.float .f64 t.off) := (unhide HB5).cell 3
              go_wp2_with fail
              refine R.mono ?_
              rintro e w6 ⟨rfl, rfl⟩
              have HB6 := HB5
              have HF6 := HF5
              clear R HB5 HF5 c3
              have HM := hide (minutes_parts t)
              have c9 : w6.cell? ⟨B, 9, none⟩ = some (.int .i64 t.longest) := (unhide HB6).cell 9
              have c7 : w6.cell? ⟨B, 7, none⟩ = some (.int .i64 t.hopper) := (unhide HB6).cell 7
              have c10 : w6.cell? ⟨B, 10, none⟩ = some (.int .i64 t.change) := (unhide HB6).cell 10
              have c11 : w6.cell? ⟨B, 11, none⟩ = some (.int .i64 t.passback) := (unhide HB6).cell 11
              have c12 : w6.cell? ⟨B, 12, none⟩ = some (.int .i64 t.delay) := (unhide HB6).cell 12
              have HFz := HF6
              clear HB6 HF6 H hoff
              have R0 := fun w => rminutes_any w t.longest 1
              generalize (decide (1 ≤ t.longest) && decide (t.longest ≤ 1440)) = m0 at R0 HM
              have R1 := fun w => rminutes_any w t.hopper 0
              generalize (decide (0 ≤ t.hopper) && decide (t.hopper ≤ 1440)) = m1 at R1 HM
              have R2 := fun w => rminutes_any w t.change 0
              generalize (decide (0 ≤ t.change) && decide (t.change ≤ 1440)) = m2 at R2 HM
              have R3 := fun w => rminutes_any w t.passback 0
              generalize (decide (0 ≤ t.passback) && decide (t.passback ≤ 1440)) = m3 at R3 HM
              have R4 := fun w => rminutes_any w t.delay 0
              generalize (decide (0 ≤ t.delay) && decide (t.delay ≤ 1440)) = m4 at R4 HM
              have HRT : Hid (Y = if minutesOk t = true then 0 else 70) := hide (by rw [← unhide HY]; simp [rightE, hb1, hb2, hb3, hb4, hb5, hb6])
              rw [unhide HM] at HRT
              clear HY HM hb1 hb2 hb3 hb4 hb5 hb6 hZ hZ9
              cases m0 with
              | false =>
                have HR : Hid (Y = 70) := hide (by rw [unhide HRT]; simp)
                clear HRT
                go_wp2_with fail
                refine (R0 _).mono ?_
                rintro e w7 ⟨rfl, rfl⟩
                go_wp2
                go_ret
                exact ⟨by rw [unhide HR]; rfl, unhide HFz⟩
              | true =>
                cases m1 with
                | false =>
                  have HR : Hid (Y = 70) := hide (by rw [unhide HRT]; simp)
                  clear HRT
                  go_wp2_with fail
                  refine (R0 _).mono ?_
                  rintro e w7 ⟨rfl, rfl⟩
                  go_wp2_with fail
                  refine (R1 _).mono ?_
                  rintro e w8 ⟨rfl, rfl⟩
                  go_wp2
                  go_ret
                  exact ⟨by rw [unhide HR]; rfl, unhide HFz⟩
                | true =>
                  cases m2 with
                  | false =>
                    have HR : Hid (Y = 70) := hide (by rw [unhide HRT]; simp)
                    clear HRT
                    go_wp2_with fail
                    refine (R0 _).mono ?_
                    rintro e w7 ⟨rfl, rfl⟩
                    go_wp2_with fail
                    refine (R1 _).mono ?_
                    rintro e w8 ⟨rfl, rfl⟩
                    go_wp2_with fail
                    refine (R2 _).mono ?_
                    rintro e w9 ⟨rfl, rfl⟩
                    go_wp2
                    go_ret
                    exact ⟨by rw [unhide HR]; rfl, unhide HFz⟩
                  | true =>
                    cases m3 with
                    | false =>
                      have HR : Hid (Y = 70) := hide (by rw [unhide HRT]; simp)
                      clear HRT
                      go_wp2_with fail
                      refine (R0 _).mono ?_
                      rintro e w7 ⟨rfl, rfl⟩
                      go_wp2_with fail
                      refine (R1 _).mono ?_
                      rintro e w8 ⟨rfl, rfl⟩
                      go_wp2_with fail
                      refine (R2 _).mono ?_
                      rintro e w9 ⟨rfl, rfl⟩
                      go_wp2_with fail
                      refine (R3 _).mono ?_
                      rintro e w10 ⟨rfl, rfl⟩
                      go_wp2
                      go_ret
                      exact ⟨by rw [unhide HR]; rfl, unhide HFz⟩
                    | true =>
                      cases m4 with
                      | false =>
                        have HR : Hid (Y = 70) := hide (by rw [unhide HRT]; simp)
                        clear HRT
                        go_wp2_with fail
                        refine (R0 _).mono ?_
                        rintro e w7 ⟨rfl, rfl⟩
                        go_wp2_with fail
                        refine (R1 _).mono ?_
                        rintro e w8 ⟨rfl, rfl⟩
                        go_wp2_with fail
                        refine (R2 _).mono ?_
                        rintro e w9 ⟨rfl, rfl⟩
                        go_wp2_with fail
                        refine (R3 _).mono ?_
                        rintro e w10 ⟨rfl, rfl⟩
                        go_wp2_with fail
                        refine (R4 _).mono ?_
                        rintro e w11 ⟨rfl, rfl⟩
                        go_wp2
                        go_ret
                        exact ⟨by rw [unhide HR]; rfl, unhide HFz⟩
                      | true =>
                        have HR : Hid (Y = 0) := hide (by rw [unhide HRT]; simp)
                        clear HRT
                        go_wp2_with fail
                        refine (R0 _).mono ?_
                        rintro e w7 ⟨rfl, rfl⟩
                        go_wp2_with fail
                        refine (R1 _).mono ?_
                        rintro e w8 ⟨rfl, rfl⟩
                        go_wp2_with fail
                        refine (R2 _).mono ?_
                        rintro e w9 ⟨rfl, rfl⟩
                        go_wp2_with fail
                        refine (R3 _).mono ?_
                        rintro e w10 ⟨rfl, rfl⟩
                        go_wp2_with fail
                        refine (R4 _).mono ?_
                        rintro e w11 ⟨rfl, rfl⟩
                        go_wp2
                        go_ret
                        exact ⟨by rw [unhide HR]; rfl, unhide HFz⟩

end Go.Proofs.Ythgkdpepgnoepaa
