/- The document's own look at stations. -/
import Derived.Test.YthgkdpepgnoepaaV1
namespace Go.Proofs.Ythgkdpepgnoepaa
open Go.RowKit

def Prev (l : List Stn) (i : Nat) (p : Int) : Prop := (i = 0 ∧ p = 0) ∨ ∃ j, ∃ hj : j < l.length, i = j + 1 ∧ p = l[j].id

theorem stGood_iff (a : Int) (s : Stn) : stGood a s = true ↔ (a < s.id ∧ s.id ≤ 65535 ∧ 1 ≤ s.zone ∧ s.zone ≤ 9 ∧ 0 ≤ s.group ∧ s.group ≤ 65535) := by
  rcases stGood_cases a s with ⟨h, k⟩ | ⟨h, k⟩
  · rw [h]; exact ⟨fun _ => k, fun _ => rfl⟩
  · rw [h]; exact ⟨fun h => (by cases h), fun h => by omega⟩

set_option maxHeartbeats 8000000 in
theorem rstations_any (w : World) (ao : Option Addr) (cap : Nat) (l : List Stn) (h : CAt w ao (stV l)) (hl : (l.length + 1) * 24 ≤ 140737488355328) :
    Calls Try.prog 31 #[.slice ao l.length cap] w fun e w' => e = .returned (.tuple #[.int .i64 (if stationsOk l then zmax 1 l else 0), .bool (stationsOk l)]) ∧ Fr (fun _ => False) w w' := by
  obtain ⟨Y, HYE⟩ : ∃ Y, Hid ((if stationsOk l = true then zmax 1 l else 0) = Y) := ⟨_, rfl⟩
  obtain ⟨S, HSE⟩ : ∃ S, Hid (stationsOk l = S) := ⟨_, rfl⟩
  rw [unhide HYE, unhide HSE]
  by_cases h200 : l.length ≤ 200
  · have HE : Hid (stationsOk l = stOk 0 l) := hide (by simp [stationsOk, h200])
    have H := hide h
    clear h
    go_enter Try.func31, Try.ntmps31
    go_wp2
    go_loopw [4, 5, 6] (fun mv iv _ wr => ∃ (i : Nat) (z p : Int), i ≤ l.length ∧ iv = .int .i64 i ∧ mv = .int .i64 z ∧ Hid (Fr (fun _ => False) w wr ∧ stOk p (l.drop i) = stOk 0 l ∧ zmax z (l.drop i) = zmax 1 l ∧ 0 ≤ p ∧ Prev l i p)) (fun _ iv _ _ => l.length - (intOf iv).toNat)
    case atStart => exact ⟨0, 1, 0, Nat.zero_le _, rfl, rfl, Fr.refl _ _, by simp, by simp, by omega, .inl ⟨rfl, rfl⟩⟩
    case round =>
      obtain ⟨i, z, p, hi, rfl, rfl, HI⟩ := hrel
      by_cases hil : i < l.length
      · obtain ⟨b, off, rfl, c0, c1, c2⟩ := ((unhide H).keep (unhide HI).1).st hil
        obtain ⟨hF, ht, hz, hp, hpr⟩ := unhide HI
        have HPN : Hid (Prev l (i + 1) l[i].id) := hide (.inr ⟨i, hil, rfl, rfl⟩)
        rw [List.drop_eq_getElem_cons hil] at ht hz
        have HF := hide hF
        have HCP : Hid (∀ j (hj : j < l.length), i = j + 1 → wr.cell? ⟨b, off + j * 3, none⟩ = some (.int .i64 l[j].id)) := hide (fun j hj _ => by
          obtain ⟨b', off', e, d0, _⟩ := ((unhide H).keep hF).st hj
          injection e with e
          injection e with e1 e2
          subst e1 e2
          exact d0)
        generalize l[i] = s at *
        obtain ⟨x0, x1, x2⟩ := s
        have HT : Hid (stOk 0 l = (stGood p ⟨x0, x1, x2⟩ && stOk x0 (l.drop (i + 1)))) := hide ht.symm
        have HZ : Hid (zmax (max z x1) (l.drop (i + 1)) = zmax 1 l) := hide hz
        have HY : Hid (stGood p ⟨x0, x1, x2⟩ = true → stOk x0 (l.drop (i + 1)) = stOk 0 l ∧ 0 ≤ x0) := hide (fun hg => ⟨by rw [unhide HT, hg]; rfl, by have := (stGood_iff _ _).1 hg; simp only at this; omega⟩)
        have HN : Hid (¬ stGood p ⟨x0, x1, x2⟩ = true → stationsOk l = false) := hide (fun hg => by rw [unhide HE, unhide HT]; simp [hg])
        rw [stGood_iff] at HY HN
        simp only at HY HN
        have HF2 := hide ((unhide HF).alloc (.cells #[.int .i64 x0, .int .i64 x1, .int .i64 x2] 35))
        have b0 : (wr.alloc (.cells #[.int .i64 x0, .int .i64 x1, .int .i64 x2] 35)).cell? ⟨wr.heap.size, 0, none⟩ = some (.int .i64 x0) := by rw [World.cell?_alloc_new]; rfl
        have b1 : (wr.alloc (.cells #[.int .i64 x0, .int .i64 x1, .int .i64 x2] 35)).cell? ⟨wr.heap.size, 1, none⟩ = some (.int .i64 x1) := by rw [World.cell?_alloc_new]; rfl
        have b2 : (wr.alloc (.cells #[.int .i64 x0, .int .i64 x1, .int .i64 x2] 35)).cell? ⟨wr.heap.size, 2, none⟩ = some (.int .i64 x2) := by rw [World.cell?_alloc_new]; rfl
        have HCP2 : Hid (∀ j (hj : j < l.length), i = j + 1 → (wr.alloc (.cells #[.int .i64 x0, .int .i64 x1, .int .i64 x2] 35)).cell? ⟨b, off + j * 3, none⟩ = some (.int .i64 l[j].id)) := hide (fun j hj e => by
          rw [World.cell?_alloc_lt _ _ _ (World.block_lt_of_cell? _ _ (unhide HCP j hj e))]
          exact unhide HCP j hj e)
        clear ht HI hF hz HT HCP HE
        go_wp2
        generalize wr.alloc (.cells #[.int .i64 x0, .int .i64 x1, .int .i64 x2] 35) = wx at *
        generalize wr.heap.size = B at *
        clear c0 c1 c2
        have HP0 := hide hp
        clear hp
        rcases hpr with ⟨rfl, rfl⟩ | ⟨j, hj, rfl, rfl⟩
        · clear HCP2 HP0
          refine wp_region_quiet_lit (by kernel_rfl) (by kernel_rfl) ?_
          repeat (go_big_quiet_step (fail))
          cases hd0 : decide (x0 < 1) with
          | true =>
            have e0 : x0 < 1 := of_decide_eq_true hd0
            clear hd0
            repeat (go_big_quiet_step (fail))
            refine wpQuiet_nil ?_
            intro _ hw'
            obtain ⟨nq, hw''⟩ := hw'
            subst hw''
            have HT' := hide (unhide HN (by omega))
            clear HN HY HZ HPN
            go_wp2
            go_ret2
            exact ⟨by rw [← unhide HYE, ← unhide HSE, unhide HT']; rfl, (unhide HF2).drewN _⟩
          | false =>
            have e0 : ¬ x0 < 1 := of_decide_eq_false hd0
            clear hd0
            repeat (go_big_quiet_step (fail))
            cases hd1 : decide (65535 < x0) with
            | true =>
              have e1 : 65535 < x0 := of_decide_eq_true hd1
              clear hd1
              repeat (go_big_quiet_step (fail))
              refine wpQuiet_nil ?_
              intro _ hw'
              obtain ⟨nq, hw''⟩ := hw'
              subst hw''
              have HT' := hide (unhide HN (by omega))
              clear HN HY HZ HPN
              go_wp2
              go_ret2
              exact ⟨by rw [← unhide HYE, ← unhide HSE, unhide HT']; rfl, (unhide HF2).drewN _⟩
            | false =>
              have e1 : ¬ 65535 < x0 := of_decide_eq_false hd1
              clear hd1
              repeat (go_big_quiet_step (fail))
              cases hd2 : decide (x1 < 1) with
              | true =>
                have e2 : x1 < 1 := of_decide_eq_true hd2
                clear hd2
                repeat (go_big_quiet_step (fail))
                refine wpQuiet_nil ?_
                intro _ hw'
                obtain ⟨nq, hw''⟩ := hw'
                subst hw''
                have HT' := hide (unhide HN (by omega))
                clear HN HY HZ HPN
                go_wp2
                go_ret2
                exact ⟨by rw [← unhide HYE, ← unhide HSE, unhide HT']; rfl, (unhide HF2).drewN _⟩
              | false =>
                have e2 : ¬ x1 < 1 := of_decide_eq_false hd2
                clear hd2
                repeat (go_big_quiet_step (fail))
                cases hd3 : decide (9 < x1) with
                | true =>
                  have e3 : 9 < x1 := of_decide_eq_true hd3
                  clear hd3
                  repeat (go_big_quiet_step (fail))
                  refine wpQuiet_nil ?_
                  intro _ hw'
                  obtain ⟨nq, hw''⟩ := hw'
                  subst hw''
                  have HT' := hide (unhide HN (by omega))
                  clear HN HY HZ HPN
                  go_wp2
                  go_ret2
                  exact ⟨by rw [← unhide HYE, ← unhide HSE, unhide HT']; rfl, (unhide HF2).drewN _⟩
                | false =>
                  have e3 : ¬ 9 < x1 := of_decide_eq_false hd3
                  clear hd3
                  repeat (go_big_quiet_step (fail))
                  cases hd4 : decide (x2 < 0) with
                  | true =>
                    have e4 : x2 < 0 := of_decide_eq_true hd4
                    clear hd4
                    repeat (go_big_quiet_step (fail))
                    refine wpQuiet_nil ?_
                    intro _ hw'
                    obtain ⟨nq, hw''⟩ := hw'
                    subst hw''
                    have HT' := hide (unhide HN (by omega))
                    clear HN HY HZ HPN
                    go_wp2
                    go_ret2
                    exact ⟨by rw [← unhide HYE, ← unhide HSE, unhide HT']; rfl, (unhide HF2).drewN _⟩
                  | false =>
                    have e4 : ¬ x2 < 0 := of_decide_eq_false hd4
                    clear hd4
                    repeat (go_big_quiet_step (fail))
                    cases hd5 : decide (65535 < x2) with
                    | true =>
                      have e5 : 65535 < x2 := of_decide_eq_true hd5
                      clear hd5
                      repeat (go_big_quiet_step (fail))
                      refine wpQuiet_nil ?_
                      intro _ hw'
                      obtain ⟨nq, hw''⟩ := hw'
                      subst hw''
                      have HT' := hide (unhide HN (by omega))
                      clear HN HY HZ HPN
                      go_wp2
                      go_ret2
                      exact ⟨by rw [← unhide HYE, ← unhide HSE, unhide HT']; rfl, (unhide HF2).drewN _⟩
                    | false =>
                      have e5 : ¬ 65535 < x2 := of_decide_eq_false hd5
                      clear hd5
                      repeat (go_big_quiet_step (fail))
                      refine wpQuiet_nil ?_
                      intro _ hw'
                      obtain ⟨nq, hw''⟩ := hw'
                      subst hw''
                      have HT' := hide (unhide HY (by omega))
                      have b1' : (wx.drewN nq).cell? ⟨B, 1, none⟩ = some (.int .i64 x1) := b1
                      clear HN HY b0 b2
                      rcases Int.lt_trichotomy z x1 with hz | hz | hz
                      · rw [Int.max_eq_right (by omega)] at HZ
                        go_wp2
                        exact ⟨⟨0 + 1, x1, x0, by omega, by go_num, rfl, (unhide HF2).drewN _, (unhide HT').1, unhide HZ, (unhide HT').2, unhide HPN⟩, by simp [intOf]; omega⟩
                      · subst hz
                        rw [Int.max_self] at HZ
                        go_wp2
                        exact ⟨⟨0 + 1, z, x0, by omega, by go_num, rfl, (unhide HF2).drewN _, (unhide HT').1, unhide HZ, (unhide HT').2, unhide HPN⟩, by simp [intOf]; omega⟩
                      · rw [Int.max_eq_left (by omega)] at HZ
                        go_wp2
                        exact ⟨⟨0 + 1, z, x0, by omega, by go_num, rfl, (unhide HF2).drewN _, (unhide HT').1, unhide HZ, (unhide HT').2, unhide HPN⟩, by simp [intOf]; omega⟩
        · have cj := unhide HCP2 j hj rfl
          have hp := unhide HP0
          have pj : decide ((0 : Int) < (j : Int) + 1) = true := decide_eq_true (by omega)
          generalize l[j].id = p at *
          clear HCP2 HP0
          refine wp_region_quiet_lit (by kernel_rfl) (by kernel_rfl) ?_
          repeat (go_big_quiet_step (fail))
          cases hd0 : decide (x0 < 1) with
          | true =>
            have e0 : x0 < 1 := of_decide_eq_true hd0
            clear hd0
            repeat (go_big_quiet_step (fail))
            refine wpQuiet_nil ?_
            intro _ hw'
            obtain ⟨nq, hw''⟩ := hw'
            subst hw''
            have HT' := hide (unhide HN (by omega))
            clear HN HY HZ HPN
            go_wp2
            go_ret2
            exact ⟨by rw [← unhide HYE, ← unhide HSE, unhide HT']; rfl, (unhide HF2).drewN _⟩
          | false =>
            have e0 : ¬ x0 < 1 := of_decide_eq_false hd0
            clear hd0
            repeat (go_big_quiet_step (fail))
            cases hd1 : decide (65535 < x0) with
            | true =>
              have e1 : 65535 < x0 := of_decide_eq_true hd1
              clear hd1
              repeat (go_big_quiet_step (fail))
              refine wpQuiet_nil ?_
              intro _ hw'
              obtain ⟨nq, hw''⟩ := hw'
              subst hw''
              have HT' := hide (unhide HN (by omega))
              clear HN HY HZ HPN
              go_wp2
              go_ret2
              exact ⟨by rw [← unhide HYE, ← unhide HSE, unhide HT']; rfl, (unhide HF2).drewN _⟩
            | false =>
              have e1 : ¬ 65535 < x0 := of_decide_eq_false hd1
              clear hd1
              repeat (go_big_quiet_step (fail))
              cases hd2 : decide (x0 ≤ p) with
              | true =>
                have e2 : x0 ≤ p := of_decide_eq_true hd2
                clear hd2
                repeat (go_big_quiet_step (fail))
                refine wpQuiet_nil ?_
                intro _ hw'
                obtain ⟨nq, hw''⟩ := hw'
                subst hw''
                have HT' := hide (unhide HN (by omega))
                clear HN HY HZ HPN
                go_wp2
                go_ret2
                exact ⟨by rw [← unhide HYE, ← unhide HSE, unhide HT']; rfl, (unhide HF2).drewN _⟩
              | false =>
                have e2 : ¬ x0 ≤ p := of_decide_eq_false hd2
                clear hd2
                repeat (go_big_quiet_step (fail))
                cases hd3 : decide (x1 < 1) with
                | true =>
                  have e3 : x1 < 1 := of_decide_eq_true hd3
                  clear hd3
                  repeat (go_big_quiet_step (fail))
                  refine wpQuiet_nil ?_
                  intro _ hw'
                  obtain ⟨nq, hw''⟩ := hw'
                  subst hw''
                  have HT' := hide (unhide HN (by omega))
                  clear HN HY HZ HPN
                  go_wp2
                  go_ret2
                  exact ⟨by rw [← unhide HYE, ← unhide HSE, unhide HT']; rfl, (unhide HF2).drewN _⟩
                | false =>
                  have e3 : ¬ x1 < 1 := of_decide_eq_false hd3
                  clear hd3
                  repeat (go_big_quiet_step (fail))
                  cases hd4 : decide (9 < x1) with
                  | true =>
                    have e4 : 9 < x1 := of_decide_eq_true hd4
                    clear hd4
                    repeat (go_big_quiet_step (fail))
                    refine wpQuiet_nil ?_
                    intro _ hw'
                    obtain ⟨nq, hw''⟩ := hw'
                    subst hw''
                    have HT' := hide (unhide HN (by omega))
                    clear HN HY HZ HPN
                    go_wp2
                    go_ret2
                    exact ⟨by rw [← unhide HYE, ← unhide HSE, unhide HT']; rfl, (unhide HF2).drewN _⟩
                  | false =>
                    have e4 : ¬ 9 < x1 := of_decide_eq_false hd4
                    clear hd4
                    repeat (go_big_quiet_step (fail))
                    cases hd5 : decide (x2 < 0) with
                    | true =>
                      have e5 : x2 < 0 := of_decide_eq_true hd5
                      clear hd5
                      repeat (go_big_quiet_step (fail))
                      refine wpQuiet_nil ?_
                      intro _ hw'
                      obtain ⟨nq, hw''⟩ := hw'
                      subst hw''
                      have HT' := hide (unhide HN (by omega))
                      clear HN HY HZ HPN
                      go_wp2
                      go_ret2
                      exact ⟨by rw [← unhide HYE, ← unhide HSE, unhide HT']; rfl, (unhide HF2).drewN _⟩
                    | false =>
                      have e5 : ¬ x2 < 0 := of_decide_eq_false hd5
                      clear hd5
                      repeat (go_big_quiet_step (fail))
                      cases hd6 : decide (65535 < x2) with
                      | true =>
                        have e6 : 65535 < x2 := of_decide_eq_true hd6
                        clear hd6
                        repeat (go_big_quiet_step (fail))
                        refine wpQuiet_nil ?_
                        intro _ hw'
                        obtain ⟨nq, hw''⟩ := hw'
                        subst hw''
                        have HT' := hide (unhide HN (by omega))
                        clear HN HY HZ HPN
                        go_wp2
                        go_ret2
                        exact ⟨by rw [← unhide HYE, ← unhide HSE, unhide HT']; rfl, (unhide HF2).drewN _⟩
                      | false =>
                        have e6 : ¬ 65535 < x2 := of_decide_eq_false hd6
                        clear hd6
                        repeat (go_big_quiet_step (fail))
                        refine wpQuiet_nil ?_
                        intro _ hw'
                        obtain ⟨nq, hw''⟩ := hw'
                        subst hw''
                        have HT' := hide (unhide HY (by omega))
                        have b1' : (wx.drewN nq).cell? ⟨B, 1, none⟩ = some (.int .i64 x1) := b1
                        clear HN HY b0 b2
                        rcases Int.lt_trichotomy z x1 with hz | hz | hz
                        · rw [Int.max_eq_right (by omega)] at HZ
                          go_wp2
                          exact ⟨⟨j + 1 + 1, x1, x0, by omega, by go_num, rfl, (unhide HF2).drewN _, (unhide HT').1, unhide HZ, (unhide HT').2, unhide HPN⟩, by simp [intOf]; omega⟩
                        · subst hz
                          rw [Int.max_self] at HZ
                          go_wp2
                          exact ⟨⟨j + 1 + 1, z, x0, by omega, by go_num, rfl, (unhide HF2).drewN _, (unhide HT').1, unhide HZ, (unhide HT').2, unhide HPN⟩, by simp [intOf]; omega⟩
                        · rw [Int.max_eq_left (by omega)] at HZ
                          go_wp2
                          exact ⟨⟨j + 1 + 1, z, x0, by omega, by go_num, rfl, (unhide HF2).drewN _, (unhide HT').1, unhide HZ, (unhide HT').2, unhide HPN⟩, by simp [intOf]; omega⟩
      · obtain rfl : i = l.length := by omega
        have HT : Hid (stationsOk l = true) := hide (by rw [unhide HE, ← (unhide HI).2.1, List.drop_length]; rfl)
        have HZ : Hid (zmax 1 l = z) := hide (by rw [← (unhide HI).2.2.1, List.drop_length]; rfl)
        have HF := hide (unhide HI).1
        clear HI HE H
        go_wp2
        go_ret2
        exact ⟨by rw [← unhide HYE, ← unhide HSE, unhide HT, unhide HZ]; rfl, unhide HF⟩
  · have HT' : Hid (stationsOk l = false) := hide (by simp [stationsOk, h200])
    clear h
    go_enter Try.func31, Try.ntmps31
    go_wp2
    go_ret2
    exact ⟨by rw [← unhide HYE, ← unhide HSE, unhide HT']; rfl, Fr.refl _ _⟩

end Go.Proofs.Ythgkdpepgnoepaa
