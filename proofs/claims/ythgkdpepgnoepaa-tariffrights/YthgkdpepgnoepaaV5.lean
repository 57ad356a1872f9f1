/- The document's own look at what is wider. -/
import Derived.Test.YthgkdpepgnoepaaT5
import Derived.Test.YthgkdpepgnoepaaT6
namespace Go.Proofs.Ythgkdpepgnoepaa
open Go.RowKit

theorem all_swap {α : Type} (l : List α) (f : α → α → Bool) : (l.all fun o => l.all fun s => f o s) = (l.all fun s => l.all fun o => f o s) := by
  rw [Bool.eq_iff_iff, List.all_eq_true, List.all_eq_true]
  constructor
  · intro h s hs
    rw [List.all_eq_true]
    exact fun o ho => List.all_eq_true.1 (h o ho) s hs
  · intro h o ho
    rw [List.all_eq_true]
    exact fun s hs => List.all_eq_true.1 (h s hs) o ho

theorem fits_cases (o s : Spn) : fits o s = (!(withinB s o && (decide (o.single < s.single) || decide (o.daily < s.daily) || decide (o.weekly < s.weekly)))) := by
  unfold fits noDearer
  cases withinB s o
  · rfl
  · by_cases h1 : s.single ≤ o.single <;> by_cases h2 : s.daily ≤ o.daily <;> by_cases h3 : s.weekly ≤ o.weekly <;> simp [h1, h2, h3] <;> omega

set_option maxHeartbeats 8000000 in
theorem rwider_any (w : World) (ao : Option Addr) (cap : Nat) (l : List Spn) (h : CAt w ao (spV l)) (hl : (l.length + 1) * 40 ≤ 140737488355328) :
    Calls Try.prog 34 #[.slice ao l.length cap] w fun e w' => e = .returned (.bool (withinOk l)) ∧ Fr (fun _ => False) w w' := by
  have H := hide h
  have HE : Hid (withinOk l = l.all fun s => l.all fun o => fits o s) := hide (all_swap l fits)
  generalize withinOk l = y at *
  clear h
  go_enter Try.func34, Try.ntmps34
  go_wp2
  go_loopw [3, 4, 5] (fun iv _ _ wr => ∃ (i : Nat), i ≤ l.length ∧ iv = .int .i64 i ∧ Hid (Fr (fun _ => False) w wr ∧ ((l.drop i).all fun s => l.all fun o => fits o s) = y)) (fun iv _ _ _ => l.length - (intOf iv).toNat)
  case atStart => exact ⟨0, Nat.zero_le _, rfl, Fr.refl _ _, by rw [unhide HE]; simp⟩
  case round =>
    obtain ⟨i, hi, rfl, HI⟩ := hrel
    by_cases hil : i < l.length
    · have ht := (unhide HI).2
      rw [List.drop_eq_getElem_cons hil, List.all_cons] at ht
      have HT := hide ht
      have HF := hide (unhide HI).1
      clear ht HI
      go_wp2
      go_loopw [4, 5] (fun kv _ wq => ∃ (k : Nat), k ≤ l.length ∧ kv = .int .i64 k ∧ Hid (Fr (fun _ => False) w wq ∧ ((l.drop k).all fun o => fits o l[i]) = (l.all fun o => fits o l[i]))) (fun kv _ _ => l.length - (intOf kv).toNat)
      case atStart => exact ⟨0, Nat.zero_le _, rfl, unhide HF, by simp⟩
      case round =>
        obtain ⟨k, hk, rfl, HK⟩ := hrel
        by_cases hkl : k < l.length
        · obtain ⟨b, off, rfl, c0, c1, c2, c3, c4⟩ := ((unhide H).keep (unhide HK).1).sp hil
          obtain ⟨b', off', eA, d0, d1, d2, d3, d4⟩ := ((unhide H).keep (unhide HK).1).sp hkl
          injection eA with eA
          injection eA with eA1 eA2
          subst eA1 eA2
          have hu := (unhide HK).2
          rw [List.drop_eq_getElem_cons hkl, List.all_cons] at hu
          have HU := hide hu
          have HF1 := hide (unhide HK).1
          clear hu HK HF
          generalize l[i] = s at *
          generalize l[k] = o at *
          have HS := hide (fits_cases o s)
          have RW := fun w => rWithin_any w s o
          generalize withinB s o = p at *
          obtain ⟨x0, x1, x2, x3, x4⟩ := s
          obtain ⟨y0, y1, y2, y3, y4⟩ := o
          simp only at HS c0 c1 c2 c3 c4 d0 d1 d2 d3 d4 RW
          go_wp2_with fail
          have X0 := fun d os => cell_regrown c0 d os
          have X1 := fun d os => cell_regrown c1 d os
          have X2 := fun d os => cell_regrown c2 d os
          have X3 := fun d os => cell_regrown c3 d os
          have X4 := fun d os => cell_regrown c4 d os
          have Y0 := fun d os => cell_regrown d0 d os
          have Y1 := fun d os => cell_regrown d1 d os
          have Y2 := fun d os => cell_regrown d2 d os
          have Y3 := fun d os => cell_regrown d3 d os
          have Y4 := fun d os => cell_regrown d4 d os
          have HC := hide (And.intro c2 (And.intro c3 (And.intro c4 (And.intro d2 (And.intro d3 d4)))))
          clear c0 c1 c2 c3 c4 d0 d1 d2 d3 d4
          refine wp_region_quiet_below (by kernel_rfl) (by kernel_rfl) ?_
          repeat (first | go_big_quiet_skip | (go_big_quiet_want; go_big_quiet_op; go_big_quiet_on))
          (go_big_quiet_want; go_big_quiet_op; go_big_quiet_call (exact Calls.regrown_of ((RW _).mono fun _ _ h => ⟨h.1, fr_below h.2⟩)))
          repeat (first | go_big_quiet_skip | (go_big_quiet_want; go_big_quiet_op; go_big_quiet_on))
          refine wpQuiet_nil ?_
          intro _ hw'
          obtain ⟨⟨dq, osq⟩, hw''⟩ := hw'
          subst hw''
          have hFq := below_fr (below_regrown wr dq osq)
          have HF2 := hide ((unhide HF1).trans hFq (fun _ _ t => t))
          obtain ⟨c2, c3, c4, d2, d3, d4⟩ := unhide HC
          have c2 := (hFq.cell (World.block_lt_of_cell? _ _ c2) (fun t => t)).trans c2
          have c3 := (hFq.cell (World.block_lt_of_cell? _ _ c3) (fun t => t)).trans c3
          have c4 := (hFq.cell (World.block_lt_of_cell? _ _ c4) (fun t => t)).trans c4
          have d2 := (hFq.cell (World.block_lt_of_cell? _ _ d2) (fun t => t)).trans d2
          have d3 := (hFq.cell (World.block_lt_of_cell? _ _ d3) (fun t => t)).trans d3
          have d4 := (hFq.cell (World.block_lt_of_cell? _ _ d4) (fun t => t)).trans d4
          simp only
          generalize Go.Sort.grow (redrawn wr dq) osq = wz at *
          clear hFq HC X0 X1 X2 X3 X4 Y0 Y1 Y2 Y3 Y4 RW HF1
          have HN : Hid ((y0 = y0 → fits ⟨y0, y1, y2, y3, y4⟩ ⟨x0, x1, x2, x3, x4⟩ = true) → ((l.drop (k + 1)).all fun o => fits o ⟨x0, x1, x2, x3, x4⟩) = (l.all fun o => fits o ⟨x0, x1, x2, x3, x4⟩)) := hide (fun hg => by have := unhide HU; rw [hg rfl] at this; simpa using this)
          have HB : Hid (fits ⟨y0, y1, y2, y3, y4⟩ ⟨x0, x1, x2, x3, x4⟩ = false → y = false) := hide (fun hg => by rw [← unhide HT, ← unhide HU, hg]; rfl)
          clear HU
          go_wp2_with fail
          refine wp_region_quiet_lit (by kernel_rfl) (by kernel_rfl) ?_
          cases p with
          | false =>
            repeat (go_big_quiet_step (fail))
            refine wpQuiet_nil ?_
            intro _ hw'
            obtain ⟨nq, hw''⟩ := hw'
            subst hw''
            have HV := hide (unhide HN (fun _ => by rw [unhide HS]; rfl))
            clear HN HB c2 c3 c4 d2 d3 d4
            go_wp2
            exact ⟨⟨k + 1, by omega, by go_num, (unhide HF2).drewN _, unhide HV⟩, by simp [intOf]; omega⟩
          | true =>
            repeat (go_big_quiet_step (fail))
            cases hd0 : decide (y2 < x2) with
            | true =>
              have e0 : y2 < x2 := of_decide_eq_true hd0
              clear hd0
              repeat (go_big_quiet_step (fail))
              refine wpQuiet_nil ?_
              intro _ hw'
              obtain ⟨nq, hw''⟩ := hw'
              subst hw''
              have HV := hide (unhide HB (by rw [unhide HS]; simp; omega))
              clear HN HB c2 c3 c4 d2 d3 d4
              go_wp2
              go_ret
              exact ⟨by rw [unhide HV]; rfl, (unhide HF2).drewN _⟩
            | false =>
              have e0 : ¬ y2 < x2 := of_decide_eq_false hd0
              clear hd0
              repeat (go_big_quiet_step (fail))
              cases hd1 : decide (y3 < x3) with
              | true =>
                have e1 : y3 < x3 := of_decide_eq_true hd1
                clear hd1
                repeat (go_big_quiet_step (fail))
                refine wpQuiet_nil ?_
                intro _ hw'
                obtain ⟨nq, hw''⟩ := hw'
                subst hw''
                have HV := hide (unhide HB (by rw [unhide HS]; simp; omega))
                clear HN HB c2 c3 c4 d2 d3 d4
                go_wp2
                go_ret
                exact ⟨by rw [unhide HV]; rfl, (unhide HF2).drewN _⟩
              | false =>
                have e1 : ¬ y3 < x3 := of_decide_eq_false hd1
                clear hd1
                repeat (go_big_quiet_step (fail))
                cases hd2 : decide (y4 < x4) with
                | true =>
                  have e2 : y4 < x4 := of_decide_eq_true hd2
                  clear hd2
                  repeat (go_big_quiet_step (fail))
                  refine wpQuiet_nil ?_
                  intro _ hw'
                  obtain ⟨nq, hw''⟩ := hw'
                  subst hw''
                  have HV := hide (unhide HB (by rw [unhide HS]; simp; omega))
                  clear HN HB c2 c3 c4 d2 d3 d4
                  go_wp2
                  go_ret
                  exact ⟨by rw [unhide HV]; rfl, (unhide HF2).drewN _⟩
                | false =>
                  have e2 : ¬ y4 < x4 := of_decide_eq_false hd2
                  clear hd2
                  repeat (go_big_quiet_step (fail))
                  refine wpQuiet_nil ?_
                  intro _ hw'
                  obtain ⟨nq, hw''⟩ := hw'
                  subst hw''
                  have HV := hide (unhide HN (fun _ => by rw [unhide HS]; simp; omega))
                  clear HN HB c2 c3 c4 d2 d3 d4
                  go_wp2
                  exact ⟨⟨k + 1, by omega, by go_num, (unhide HF2).drewN _, unhide HV⟩, by simp [intOf]; omega⟩
        · obtain rfl : k = l.length := by omega
          have HV : Hid (((l.drop (i + 1)).all fun s => l.all fun o => fits o s) = y) := hide (by
            have h2 := unhide HT
            have h3 := (unhide HK).2
            rw [List.drop_length] at h3
            rw [← h3] at h2
            simpa using h2)
          have HF2 := hide (unhide HK).1
          clear HK HT HF
          go_wp2
          exact ⟨⟨i + 1, by omega, by go_num, unhide HF2, unhide HV⟩, by simp [intOf]; omega⟩
    · obtain rfl : i = l.length := by omega
      have HT' : Hid (y = true) := hide (by rw [← (unhide HI).2, List.drop_length]; rfl)
      have HF := hide (unhide HI).1
      clear HI H HE
      go_wp2
      go_ret
      exact ⟨by rw [unhide HT']; rfl, unhide HF⟩

end Go.Proofs.Ythgkdpepgnoepaa
