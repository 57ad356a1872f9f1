import Derived.Test.YtdbnppbfoohjjaaQY
/- The document's own looks: minutes, bands, stations. -/
namespace Go.Proofs.Ytdbnppbfoohjjaa
open Go.RowKit

theorem rminutes_any (w : World) (n l : Int) : Calls Try.prog 78 #[.int .i64 n, .int .i64 l] w fun e w' => e = .returned (.bool (decide (l ≤ n) && decide (n ≤ 1440))) ∧ w' = w := by
  by_cases h1 : l ≤ n
  · by_cases h2 : n ≤ 1440
    all_goals
      go_enter Try.func78, Try.ntmps78
      go_wp2
      go_ret
      exact ⟨by first | (simp; done) | (simp; omega) | simp_all, rfl⟩
  · go_enter Try.func78, Try.ntmps78
    go_wp2
    go_ret
    exact ⟨by first | (simp; done) | (simp; omega) | simp_all, rfl⟩

set_option maxHeartbeats 4000000 in
theorem rbands_any (w : World) (ao : Option Addr) (cap : Nat) (l : List (Int × Int)) (h : CAt w ao (bdV l)) (hl : (l.length + 1) * 16 ≤ 140737488355328) :
    Calls Try.prog 76 #[.slice ao l.length cap] w fun e w' => e = .returned (.bool (bandsOk l)) ∧ Fr (fun _ => False) w w' := by
  by_cases h200 : l.length ≤ 8
  · have HE : Hid (bandsOk l = bdOk 0 l) := hide (by simp [bandsOk, h200])
    have H := hide h
    clear h
    go_enter Try.func76, Try.ntmps76
    go_wp2
    go_loopw [3, 4] (fun av iv wr => ∃ (i : Nat) (a : Int), i ≤ l.length ∧ iv = .int .i64 i ∧ av = .int .i64 a ∧ Hid (Fr (fun _ => False) w wr ∧ bdOk a (l.drop i) = bdOk 0 l)) (fun _ iv _ => l.length - (intOf iv).toNat)
    case atStart => exact ⟨0, 0, Nat.zero_le _, rfl, rfl, Fr.refl _ _, by simp⟩
    case round =>
      obtain ⟨i, a, hi, rfl, rfl, HI⟩ := hrel
      by_cases hil : i < l.length
      · obtain ⟨b, off, rfl, c0, c1⟩ := ((unhide H).keep (unhide HI).1).bd hil
        have ht := (unhide HI).2
        rw [List.drop_eq_getElem_cons hil] at ht
        have HF := hide (unhide HI).1
        generalize l[i] = s at *
        obtain ⟨x0, x1⟩ := s
        have HT : Hid (bdOk 0 l = (bdGood a ⟨x0, x1⟩ && bdOk x1 (l.drop (i + 1)))) := hide ht.symm
        clear ht HI
        rcases bdGood_cases a ⟨x0, x1⟩ with ⟨hg, k1, k2, k3⟩ | ⟨hg, k⟩
        · have HT' : Hid (bdOk x1 (l.drop (i + 1)) = bdOk 0 l) := hide (by rw [unhide HT, hg]; rfl)
          clear HT hg
          simp only at k1 k2 k3
          go_wp2
          go_quiet (fail)
          go_wp2
          exact ⟨⟨i + 1, x1, by omega, by go_num, rfl, (unhide HF).drewN _, unhide HT'⟩, by simp [intOf]; omega⟩
        · have HT' : Hid (bandsOk l = false) := hide (by rw [unhide HE, unhide HT, hg]; rfl)
          clear HT hg HE
          simp only at k
          rcases k with k | ⟨k1, k⟩ | ⟨k1, k2, k⟩
          all_goals
            go_wp2
            go_quiet (fail)
            go_wp2
            go_ret
            exact ⟨by rw [unhide HT']; rfl, (unhide HF).drewN _⟩
      · obtain rfl : i = l.length := by omega
        have HT : Hid (bandsOk l = true) := hide (by rw [unhide HE, ← (unhide HI).2, List.drop_length]; rfl)
        have HF := hide (unhide HI).1
        clear HI HE H
        go_wp2
        go_ret
        exact ⟨by rw [unhide HT]; rfl, unhide HF⟩
  · have HT' : Hid (bandsOk l = false) := hide (by simp [bandsOk, h200])
    clear h
    go_enter Try.func76, Try.ntmps76
    go_wp2
    go_ret
    exact ⟨by rw [unhide HT']; rfl, Fr.refl _ _⟩

end Go.Proofs.Ytdbnppbfoohjjaa

/- The document's own look at stations. -/
namespace Go.Proofs.Ytdbnppbfoohjjaa
open Go.RowKit

def Prev (l : List Stn) (i : Nat) (p : Int) : Prop := (i = 0 ∧ p = 0) ∨ ∃ j, ∃ hj : j < l.length, i = j + 1 ∧ p = l[j].id

theorem stGood_iff (a : Int) (s : Stn) : stGood a s = true ↔ (a < s.id ∧ s.id ≤ 65535 ∧ 1 ≤ s.zone ∧ s.zone ≤ 9 ∧ 0 ≤ s.group ∧ s.group ≤ 65535) := by
  rcases stGood_cases a s with ⟨h, k⟩ | ⟨h, k⟩
  · rw [h]; exact ⟨fun _ => k, fun _ => rfl⟩
  · rw [h]; exact ⟨fun h => (by cases h), fun h => by omega⟩

set_option maxHeartbeats 8000000 in
theorem rstations_any (w : World) (ao : Option Addr) (cap : Nat) (l : List Stn) (h : CAt w ao (stV l)) (hl : (l.length + 1) * 24 ≤ 140737488355328) :
    Calls Try.prog 72 #[.slice ao l.length cap] w fun e w' => e = .returned (.tuple #[.int .i64 (if stationsOk l then zmax 1 l else 0), .bool (stationsOk l)]) ∧ Fr (fun _ => False) w w' := by
  obtain ⟨Y, HYE⟩ : ∃ Y, Hid ((if stationsOk l = true then zmax 1 l else 0) = Y) := ⟨_, rfl⟩
  obtain ⟨S, HSE⟩ : ∃ S, Hid (stationsOk l = S) := ⟨_, rfl⟩
  rw [unhide HYE, unhide HSE]
  by_cases h200 : l.length ≤ 200
  · have HE : Hid (stationsOk l = stOk 0 l) := hide (by simp [stationsOk, h200])
    have H := hide h
    clear h
    go_enter Try.func72, Try.ntmps72
    go_wp2
    go_loopw [4, 5, 6] (fun mv iv _ wr => ∃ (i : Nat) (z p : Int), i ≤ l.length ∧ iv = .int .i64 i ∧ mv = .int .i64 z ∧ Hid (Fr (fun _ => False) w wr ∧ stOk p (l.drop i) = stOk 0 l ∧ zmax z (l.drop i) = zmax 1 l ∧ 0 ≤ p ∧ Prev l i p)) (fun _ iv _ _ => l.length - (intOf iv).toNat)
    case atStart => exact ⟨0, 1, 0, Nat.zero_le _, rfl, rfl, Fr.refl _ _, by simp, by simp, by omega, .inl ⟨rfl, rfl⟩⟩
    case round =>
      obtain ⟨i, z, p, hi, rfl, rfl, HI⟩ := hrel
      by_cases hil : i < l.length
      · obtain ⟨b, off, rfl, c0, c1, c2⟩ := ((unhide H).keep (unhide HI).1).st hil
        obtain ⟨hF, ht, hz, hp, hpr⟩ := unhide HI
        have HPN : Hid (Prev l (i + 1) l[i].id) := hide (.inr ⟨i, hil, rfl, rfl⟩)
        rw [List.drop_eq_getElem_cons hil] at ht hz
        have HF := hide hF
        have HCP : Hid (∀ j (hj : j < l.length), i = j + 1 → wr.cell? ⟨b, off + j * 3, none⟩ = some (.int .i64 l[j].id)) := hide (fun j hj _ => by
          obtain ⟨b', off', e, d0, _⟩ := ((unhide H).keep hF).st hj
          injection e with e
          injection e with e1 e2
          subst e1 e2
          exact d0)
        generalize l[i] = s at *
        obtain ⟨x0, x1, x2⟩ := s
        have HT : Hid (stOk 0 l = (stGood p ⟨x0, x1, x2⟩ && stOk x0 (l.drop (i + 1)))) := hide ht.symm
        have HZ : Hid (zmax (max z x1) (l.drop (i + 1)) = zmax 1 l) := hide hz
        have HY : Hid (stGood p ⟨x0, x1, x2⟩ = true → stOk x0 (l.drop (i + 1)) = stOk 0 l ∧ 0 ≤ x0) := hide (fun hg => ⟨by rw [unhide HT, hg]; rfl, by have := (stGood_iff _ _).1 hg; simp only at this; omega⟩)
        have HN : Hid (¬ stGood p ⟨x0, x1, x2⟩ = true → stationsOk l = false) := hide (fun hg => by rw [unhide HE, unhide HT]; simp [hg])
        rw [stGood_iff] at HY HN
        simp only at HY HN
        have HF2 := hide ((unhide HF).alloc (.cells #[.int .i64 x0, .int .i64 x1, .int .i64 x2] 85))
        have b0 : (wr.alloc (.cells #[.int .i64 x0, .int .i64 x1, .int .i64 x2] 85)).cell? ⟨wr.heap.size, 0, none⟩ = some (.int .i64 x0) := by rw [World.cell?_alloc_new]; rfl
        have b1 : (wr.alloc (.cells #[.int .i64 x0, .int .i64 x1, .int .i64 x2] 85)).cell? ⟨wr.heap.size, 1, none⟩ = some (.int .i64 x1) := by rw [World.cell?_alloc_new]; rfl
        have b2 : (wr.alloc (.cells #[.int .i64 x0, .int .i64 x1, .int .i64 x2] 85)).cell? ⟨wr.heap.size, 2, none⟩ = some (.int .i64 x2) := by rw [World.cell?_alloc_new]; rfl
        have HCP2 : Hid (∀ j (hj : j < l.length), i = j + 1 → (wr.alloc (.cells #[.int .i64 x0, .int .i64 x1, .int .i64 x2] 85)).cell? ⟨b, off + j * 3, none⟩ = some (.int .i64 l[j].id)) := hide (fun j hj e => by
          rw [World.cell?_alloc_lt _ _ _ (World.block_lt_of_cell? _ _ (unhide HCP j hj e))]
          exact unhide HCP j hj e)
        clear ht HI hF hz HT HCP HE
        go_wp2
        generalize wr.alloc (.cells #[.int .i64 x0, .int .i64 x1, .int .i64 x2] 85) = wx at *
        generalize wr.heap.size = B at *
        clear c0 c1 c2
        have HP0 := hide hp
        clear hp
        rcases hpr with ⟨rfl, rfl⟩ | ⟨j, hj, rfl, rfl⟩
        · clear HCP2 HP0
          refine wp_region_quiet_lit (by kernel_rfl) (by kernel_rfl) ?_
          repeat (go_big_quiet_step (fail))
          cases hd0 : decide (x0 < 1) with
          | true =>
            have e0 : x0 < 1 := of_decide_eq_true hd0
            clear hd0
            repeat (go_big_quiet_step (fail))
            refine wpQuiet_nil ?_
            intro _ hw'
            obtain ⟨nq, hw''⟩ := hw'
            subst hw''
            have HT' := hide (unhide HN (by omega))
            clear HN HY HZ HPN
            go_wp2
            go_ret2
            exact ⟨by rw [← unhide HYE, ← unhide HSE, unhide HT']; rfl, (unhide HF2).drewN _⟩
          | false =>
            have e0 : ¬ x0 < 1 := of_decide_eq_false hd0
            clear hd0
            repeat (go_big_quiet_step (fail))
            cases hd1 : decide (65535 < x0) with
            | true =>
              have e1 : 65535 < x0 := of_decide_eq_true hd1
              clear hd1
              repeat (go_big_quiet_step (fail))
              refine wpQuiet_nil ?_
              intro _ hw'
              obtain ⟨nq, hw''⟩ := hw'
              subst hw''
              have HT' := hide (unhide HN (by omega))
              clear HN HY HZ HPN
              go_wp2
              go_ret2
              exact ⟨by rw [← unhide HYE, ← unhide HSE, unhide HT']; rfl, (unhide HF2).drewN _⟩
            | false =>
              have e1 : ¬ 65535 < x0 := of_decide_eq_false hd1
              clear hd1
              repeat (go_big_quiet_step (fail))
              cases hd2 : decide (x1 < 1) with
              | true =>
                have e2 : x1 < 1 := of_decide_eq_true hd2
                clear hd2
                repeat (go_big_quiet_step (fail))
                refine wpQuiet_nil ?_
                intro _ hw'
                obtain ⟨nq, hw''⟩ := hw'
                subst hw''
                have HT' := hide (unhide HN (by omega))
                clear HN HY HZ HPN
                go_wp2
                go_ret2
                exact ⟨by rw [← unhide HYE, ← unhide HSE, unhide HT']; rfl, (unhide HF2).drewN _⟩
              | false =>
                have e2 : ¬ x1 < 1 := of_decide_eq_false hd2
                clear hd2
                repeat (go_big_quiet_step (fail))
                cases hd3 : decide (9 < x1) with
                | true =>
                  have e3 : 9 < x1 := of_decide_eq_true hd3
                  clear hd3
                  repeat (go_big_quiet_step (fail))
                  refine wpQuiet_nil ?_
                  intro _ hw'
                  obtain ⟨nq, hw''⟩ := hw'
                  subst hw''
                  have HT' := hide (unhide HN (by omega))
                  clear HN HY HZ HPN
                  go_wp2
                  go_ret2
                  exact ⟨by rw [← unhide HYE, ← unhide HSE, unhide HT']; rfl, (unhide HF2).drewN _⟩
                | false =>
                  have e3 : ¬ 9 < x1 := of_decide_eq_false hd3
                  clear hd3
                  repeat (go_big_quiet_step (fail))
                  cases hd4 : decide (x2 < 0) with
                  | true =>
                    have e4 : x2 < 0 := of_decide_eq_true hd4
                    clear hd4
                    repeat (go_big_quiet_step (fail))
                    refine wpQuiet_nil ?_
                    intro _ hw'
                    obtain ⟨nq, hw''⟩ := hw'
                    subst hw''
                    have HT' := hide (unhide HN (by omega))
                    clear HN HY HZ HPN
                    go_wp2
                    go_ret2
                    exact ⟨by rw [← unhide HYE, ← unhide HSE, unhide HT']; rfl, (unhide HF2).drewN _⟩
                  | false =>
                    have e4 : ¬ x2 < 0 := of_decide_eq_false hd4
                    clear hd4
                    repeat (go_big_quiet_step (fail))
                    cases hd5 : decide (65535 < x2) with
                    | true =>
                      have e5 : 65535 < x2 := of_decide_eq_true hd5
                      clear hd5
                      repeat (go_big_quiet_step (fail))
                      refine wpQuiet_nil ?_
                      intro _ hw'
                      obtain ⟨nq, hw''⟩ := hw'
                      subst hw''
                      have HT' := hide (unhide HN (by omega))
                      clear HN HY HZ HPN
                      go_wp2
                      go_ret2
                      exact ⟨by rw [← unhide HYE, ← unhide HSE, unhide HT']; rfl, (unhide HF2).drewN _⟩
                    | false =>
                      have e5 : ¬ 65535 < x2 := of_decide_eq_false hd5
                      clear hd5
                      repeat (go_big_quiet_step (fail))
                      refine wpQuiet_nil ?_
                      intro _ hw'
                      obtain ⟨nq, hw''⟩ := hw'
                      subst hw''
                      have HT' := hide (unhide HY (by omega))
                      have b1' : (wx.drewN nq).cell? ⟨B, 1, none⟩ = some (.int .i64 x1) := b1
                      clear HN HY b0 b2
                      rcases Int.lt_trichotomy z x1 with hz | hz | hz
                      · rw [Int.max_eq_right (by omega)] at HZ
                        go_wp2
                        exact ⟨⟨0 + 1, x1, x0, by omega, by go_num, rfl, (unhide HF2).drewN _, (unhide HT').1, unhide HZ, (unhide HT').2, unhide HPN⟩, by simp [intOf]; omega⟩
                      · subst hz
                        rw [Int.max_self] at HZ
                        go_wp2
                        exact ⟨⟨0 + 1, z, x0, by omega, by go_num, rfl, (unhide HF2).drewN _, (unhide HT').1, unhide HZ, (unhide HT').2, unhide HPN⟩, by simp [intOf]; omega⟩
                      · rw [Int.max_eq_left (by omega)] at HZ
                        go_wp2
                        exact ⟨⟨0 + 1, z, x0, by omega, by go_num, rfl, (unhide HF2).drewN _, (unhide HT').1, unhide HZ, (unhide HT').2, unhide HPN⟩, by simp [intOf]; omega⟩
        · have cj := unhide HCP2 j hj rfl
          have hp := unhide HP0
          have pj : decide ((0 : Int) < (j : Int) + 1) = true := decide_eq_true (by omega)
          generalize l[j].id = p at *
          clear HCP2 HP0
          refine wp_region_quiet_lit (by kernel_rfl) (by kernel_rfl) ?_
          repeat (go_big_quiet_step (fail))
          cases hd0 : decide (x0 < 1) with
          | true =>
            have e0 : x0 < 1 := of_decide_eq_true hd0
            clear hd0
            repeat (go_big_quiet_step (fail))
            refine wpQuiet_nil ?_
            intro _ hw'
            obtain ⟨nq, hw''⟩ := hw'
            subst hw''
            have HT' := hide (unhide HN (by omega))
            clear HN HY HZ HPN
            go_wp2
            go_ret2
            exact ⟨by rw [← unhide HYE, ← unhide HSE, unhide HT']; rfl, (unhide HF2).drewN _⟩
          | false =>
            have e0 : ¬ x0 < 1 := of_decide_eq_false hd0
            clear hd0
            repeat (go_big_quiet_step (fail))
            cases hd1 : decide (65535 < x0) with
            | true =>
              have e1 : 65535 < x0 := of_decide_eq_true hd1
              clear hd1
              repeat (go_big_quiet_step (fail))
              refine wpQuiet_nil ?_
              intro _ hw'
              obtain ⟨nq, hw''⟩ := hw'
              subst hw''
              have HT' := hide (unhide HN (by omega))
              clear HN HY HZ HPN
              go_wp2
              go_ret2
              exact ⟨by rw [← unhide HYE, ← unhide HSE, unhide HT']; rfl, (unhide HF2).drewN _⟩
            | false =>
              have e1 : ¬ 65535 < x0 := of_decide_eq_false hd1
              clear hd1
              repeat (go_big_quiet_step (fail))
              cases hd2 : decide (x0 ≤ p) with
              | true =>
                have e2 : x0 ≤ p := of_decide_eq_true hd2
                clear hd2
                repeat (go_big_quiet_step (fail))
                refine wpQuiet_nil ?_
                intro _ hw'
                obtain ⟨nq, hw''⟩ := hw'
                subst hw''
                have HT' := hide (unhide HN (by omega))
                clear HN HY HZ HPN
                go_wp2
                go_ret2
                exact ⟨by rw [← unhide HYE, ← unhide HSE, unhide HT']; rfl, (unhide HF2).drewN _⟩
              | false =>
                have e2 : ¬ x0 ≤ p := of_decide_eq_false hd2
                clear hd2
                repeat (go_big_quiet_step (fail))
                cases hd3 : decide (x1 < 1) with
                | true =>
                  have e3 : x1 < 1 := of_decide_eq_true hd3
                  clear hd3
                  repeat (go_big_quiet_step (fail))
                  refine wpQuiet_nil ?_
                  intro _ hw'
                  obtain ⟨nq, hw''⟩ := hw'
                  subst hw''
                  have HT' := hide (unhide HN (by omega))
                  clear HN HY HZ HPN
                  go_wp2
                  go_ret2
                  exact ⟨by rw [← unhide HYE, ← unhide HSE, unhide HT']; rfl, (unhide HF2).drewN _⟩
                | false =>
                  have e3 : ¬ x1 < 1 := of_decide_eq_false hd3
                  clear hd3
                  repeat (go_big_quiet_step (fail))
                  cases hd4 : decide (9 < x1) with
                  | true =>
                    have e4 : 9 < x1 := of_decide_eq_true hd4
                    clear hd4
                    repeat (go_big_quiet_step (fail))
                    refine wpQuiet_nil ?_
                    intro _ hw'
                    obtain ⟨nq, hw''⟩ := hw'
                    subst hw''
                    have HT' := hide (unhide HN (by omega))
                    clear HN HY HZ HPN
                    go_wp2
                    go_ret2
                    exact ⟨by rw [← unhide HYE, ← unhide HSE, unhide HT']; rfl, (unhide HF2).drewN _⟩
                  | false =>
                    have e4 : ¬ 9 < x1 := of_decide_eq_false hd4
                    clear hd4
                    repeat (go_big_quiet_step (fail))
                    cases hd5 : decide (x2 < 0) with
                    | true =>
                      have e5 : x2 < 0 := of_decide_eq_true hd5
                      clear hd5
                      repeat (go_big_quiet_step (fail))
                      refine wpQuiet_nil ?_
                      intro _ hw'
                      obtain ⟨nq, hw''⟩ := hw'
                      subst hw''
                      have HT' := hide (unhide HN (by omega))
                      clear HN HY HZ HPN
                      go_wp2
                      go_ret2
                      exact ⟨by rw [← unhide HYE, ← unhide HSE, unhide HT']; rfl, (unhide HF2).drewN _⟩
                    | false =>
                      have e5 : ¬ x2 < 0 := of_decide_eq_false hd5
                      clear hd5
                      repeat (go_big_quiet_step (fail))
                      cases hd6 : decide (65535 < x2) with
                      | true =>
                        have e6 : 65535 < x2 := of_decide_eq_true hd6
                        clear hd6
                        repeat (go_big_quiet_step (fail))
                        refine wpQuiet_nil ?_
                        intro _ hw'
                        obtain ⟨nq, hw''⟩ := hw'
                        subst hw''
                        have HT' := hide (unhide HN (by omega))
                        clear HN HY HZ HPN
                        go_wp2
                        go_ret2
                        exact ⟨by rw [← unhide HYE, ← unhide HSE, unhide HT']; rfl, (unhide HF2).drewN _⟩
                      | false =>
                        have e6 : ¬ 65535 < x2 := of_decide_eq_false hd6
                        clear hd6
                        repeat (go_big_quiet_step (fail))
                        refine wpQuiet_nil ?_
                        intro _ hw'
                        obtain ⟨nq, hw''⟩ := hw'
                        subst hw''
                        have HT' := hide (unhide HY (by omega))
                        have b1' : (wx.drewN nq).cell? ⟨B, 1, none⟩ = some (.int .i64 x1) := b1
                        clear HN HY b0 b2
                        rcases Int.lt_trichotomy z x1 with hz | hz | hz
                        · rw [Int.max_eq_right (by omega)] at HZ
                          go_wp2
                          exact ⟨⟨j + 1 + 1, x1, x0, by omega, by go_num, rfl, (unhide HF2).drewN _, (unhide HT').1, unhide HZ, (unhide HT').2, unhide HPN⟩, by simp [intOf]; omega⟩
                        · subst hz
                          rw [Int.max_self] at HZ
                          go_wp2
                          exact ⟨⟨j + 1 + 1, z, x0, by omega, by go_num, rfl, (unhide HF2).drewN _, (unhide HT').1, unhide HZ, (unhide HT').2, unhide HPN⟩, by simp [intOf]; omega⟩
                        · rw [Int.max_eq_left (by omega)] at HZ
                          go_wp2
                          exact ⟨⟨j + 1 + 1, z, x0, by omega, by go_num, rfl, (unhide HF2).drewN _, (unhide HT').1, unhide HZ, (unhide HT').2, unhide HPN⟩, by simp [intOf]; omega⟩
      · obtain rfl : i = l.length := by omega
        have HT : Hid (stationsOk l = true) := hide (by rw [unhide HE, ← (unhide HI).2.1, List.drop_length]; rfl)
        have HZ : Hid (zmax 1 l = z) := hide (by rw [← (unhide HI).2.2.1, List.drop_length]; rfl)
        have HF := hide (unhide HI).1
        clear HI HE H
        go_wp2
        go_ret2
        exact ⟨by rw [← unhide HYE, ← unhide HSE, unhide HT, unhide HZ]; rfl, unhide HF⟩
  · have HT' : Hid (stationsOk l = false) := hide (by simp [stationsOk, h200])
    clear h
    go_enter Try.func72, Try.ntmps72
    go_wp2
    go_ret2
    exact ⟨by rw [← unhide HYE, ← unhide HSE, unhide HT']; rfl, Fr.refl _ _⟩

end Go.Proofs.Ytdbnppbfoohjjaa

/- The document's own look at spans: all that there are up to a zone, in order. -/
namespace Go.Proofs.Ytdbnppbfoohjjaa
open Go.RowKit

theorem sameAll_cons (l : List Spn) (n : Nat) (f t : Int) (q : List (Int × Int)) : (n < l.length ∧ ∃ s, l[n]? = some s ∧ sameAll (l.drop n) ((f, t) :: q) = ((s.fr == f && s.to == t) && sameAll (l.drop (n + 1)) q)) ∨ (¬ n < l.length ∧ sameAll (l.drop n) ((f, t) :: q) = false) := by
  by_cases h : n < l.length
  · exact .inl ⟨h, l[n], List.getElem?_eq_getElem h, by rw [List.drop_eq_getElem_cons h]; rfl⟩
  · exact .inr ⟨h, by rw [List.drop_of_length_le (by omega)]; rfl⟩

theorem sameAll_end (l : List Spn) (n : Nat) (h : n ≤ l.length) : sameAll (l.drop n) [] = decide (n = l.length) := by
  by_cases h2 : n < l.length
  · rw [List.drop_eq_getElem_cons h2]
    have : ¬ n = l.length := by omega
    simp [sameAll, this]
  · obtain rfl : n = l.length := by omega
    rw [List.drop_length]
    simp [sameAll]

theorem rspans_any (w : World) (ao : Option Addr) (cap : Nat) (l : List Spn) (h : CAt w ao (spV l)) (hl : (l.length + 1) * 40 ≤ 140737488355328) (Z : Nat) (hZ : Z ≤ 9) :
    Calls Try.prog 73 #[.slice ao l.length cap, .int .i64 (Z : Int)] w fun e w' => e = .returned (.bool (sameAll l (prs 1 Z))) ∧ w' = w := by
  obtain ⟨y, HY⟩ : ∃ y, Hid (sameAll l (prs 1 Z) = y) := ⟨_, rfl⟩
  rw [unhide HY]
  have H := hide h
  clear h
  go_enter Try.func73, Try.ntmps73
  go_wp2
  go_loopw [5, 6, 7] (fun nv fv _ wr => ∃ (n m : Nat) (f : Int), n ≤ l.length ∧ m ≤ 9 ∧ f + m = (Z : Int) + 1 ∧ 1 ≤ f ∧ nv = .int .i64 n ∧ fv = .int .i64 f ∧ wr = w ∧ Hid (sameAll (l.drop n) (prs f m) = y)) (fun _ fv _ _ => Z + 1 - (intOf fv).toNat)
  case atStart => exact ⟨0, Z, 1, Nat.zero_le _, hZ, by omega, by omega, rfl, rfl, rfl, hide (by simpa using unhide HY)⟩
  case round =>
    obtain ⟨n, m, f, hn, hm, hf, hf1, rfl, rfl, rfl, HI⟩ := hrel
    by_cases hlt : f ≤ (Z : Int)
    · obtain ⟨m, rfl⟩ : ∃ q, m = q + 1 := ⟨m - 1, by omega⟩
      go_wp2
      go_loopw [5, 7] (fun nv tv wq => ∃ (n k : Nat) (t : Int), n ≤ l.length ∧ k ≤ 9 ∧ t + k = (Z : Int) + 1 ∧ f ≤ t ∧ nv = .int .i64 n ∧ tv = .int .i64 t ∧ wq = wr ∧ Hid (sameAll (l.drop n) (toL f t k ++ prs (f + 1) m) = y)) (fun _ tv _ => Z + 1 - (intOf tv).toNat)
      case atStart => exact ⟨n, m + 1, f, hn, hm, by omega, by omega, rfl, rfl, rfl, unhide HI⟩
      case round =>
        obtain ⟨n, k, t, hn, hk, ht, ht1, rfl, rfl, rfl, HJ⟩ := hrel
        by_cases hlt2 : t ≤ (Z : Int)
        · obtain ⟨k, rfl⟩ : ∃ q, k = q + 1 := ⟨k - 1, by omega⟩
          have hs : sameAll (l.drop n) ((f, t) :: (toL f (t + 1) k ++ prs (f + 1) m)) = y := unhide HJ
          rcases sameAll_cons l n f t (toL f (t + 1) k ++ prs (f + 1) m) with ⟨hnl, s, hsn, he⟩ | ⟨hnl, he⟩
          · obtain ⟨b, off, rfl, c0, c1, c2, c3, c4⟩ := (unhide H).sp hnl
            have hsl : l[n] = s := by
              have := List.getElem?_eq_getElem hnl
              rw [this] at hsn
              exact Option.some.inj hsn
            rw [hsl] at c0 c1
            have HV : Hid (((s.fr == f && s.to == t) && sameAll (l.drop (n + 1)) (toL f (t + 1) k ++ prs (f + 1) m)) = y) := hide (he.symm.trans hs)
            clear he hs hsn hsl c2 c3 c4 HJ
            obtain ⟨x0, x1, x2, x3, x4⟩ := s
            by_cases g0 : x0 = f
            · by_cases g1 : x1 = t
              · have HV' : Hid (sameAll (l.drop (n + 1)) (toL f (t + 1) k ++ prs (f + 1) m) = y) := hide (by rw [← unhide HV]; simp [g0, g1])
                clear HV
                have q0 : (x0 != f) = false := by simp [g0]
                have q1 : (x1 != t) = false := by simp [g1]
                clear g0 g1
                go_wp2
                exact ⟨⟨n + 1, k, t + 1, by omega, by omega, by omega, by omega, by go_num, by go_num, (by first | rfl | trivial), unhide HV'⟩, by simp [intOf]; omega⟩
              · have HV' : Hid (y = false) := hide (by rw [← unhide HV]; simp [g1])
                clear HV
                have q0 : (x0 != f) = false := by simp [g0]
                have q1 : (x1 != t) = true := by simp [g1]
                clear g0 g1
                go_wp2
                go_ret
                exact ⟨by rw [unhide HV']; rfl, rfl⟩
            · have HV' : Hid (y = false) := hide (by rw [← unhide HV]; simp [g0])
              clear HV
              have q0 : (x0 != f) = true := by simp [g0]
              clear g0
              go_wp2
              go_ret
              exact ⟨by rw [unhide HV']; rfl, rfl⟩
          · have HV' : Hid (y = false) := hide (hs.symm.trans he)
            clear he hs HJ
            go_wp2
            go_ret
            exact ⟨by rw [unhide HV']; rfl, rfl⟩
        · obtain rfl : k = 0 := by omega
          have HV : Hid (sameAll (l.drop n) (prs (f + 1) m) = y) := hide (unhide HJ)
          clear HJ
          go_wp2
          exact ⟨⟨n, m, f + 1, hn, by omega, by omega, by omega, rfl, by go_num, (by first | rfl | trivial), unhide HV⟩, by simp [intOf]; omega⟩
    · obtain rfl : m = 0 := by omega
      have HV : Hid (y = ((n : Int) == (l.length : Int))) := hide (by
        rw [← unhide HI, prs, sameAll_end l n hn]
        by_cases e : n = l.length
        · simp [e]
        · have : ¬ (n : Int) = (l.length : Int) := by omega
          simp [e, this])
      clear HI
      go_wp2
      go_ret
      exact ⟨by rw [unhide HV]; rfl, rfl⟩

end Go.Proofs.Ytdbnppbfoohjjaa

