import Derived.Test.YtdbnppbfoohjjaaRF2
/- The document's refund: which outages may be, what they hold up. -/
namespace Go.Proofs.Ytdbnppbfoohjjaa
open Go.RowKit

theorem within8_any (w : World) (n lo hi : Int) : Calls Try.prog 80 #[.int .i64 n, .int .i64 lo, .int .i64 hi] w fun e w' => e = .returned (.bool (decide (lo ≤ n) && decide (n ≤ hi))) ∧ w' = w := by
  by_cases h1 : lo ≤ n
  · go_enter Try.func80, Try.ntmps80
    go_wp2
    go_ret
    exact ⟨by simp [h1], rfl⟩
  · have HN := hide (show (decide (lo ≤ n) && decide (n ≤ hi)) = false by simp [h1])
    go_enter Try.func80, Try.ntmps80
    go_wp2
    go_ret
    exact ⟨by rw [unhide HN]; rfl, rfl⟩

set_option maxHeartbeats 1000000 in
theorem ousRight_any (w : World) (ao : Option Addr) (cap : Nat) (l : List Ou) (h : CAt w ao (ouV l)) (hl : l.length ≤ 140737488355328) :
    Calls Try.prog 49 #[.slice ao l.length cap] w fun e w' => e = .returned (.bool (ousOk l)) ∧ Fr (fun _ => False) w w' := by
  by_cases hs : l.length ≤ 100
  · have HE : Hid (ousOk l = l.all ouOk) := hide (by unfold ousOk; rw [decide_eq_true hs, Bool.true_and])
    have H := hide h
    generalize ousOk l = E at HE ⊢
    clear h
    go_enter Try.func49, Try.ntmps49
    go_wp2
    go_loopw [3, 4, 5] (fun iv _ _ wr => ∃ (i : Nat), i ≤ l.length ∧ iv = .int .i64 i ∧ Hid (Fr (fun _ => False) w wr ∧ (l.drop i).all ouOk = l.all ouOk)) (fun iv _ _ _ => l.length - (intOf iv).toNat)
    case atStart => exact ⟨0, Nat.zero_le _, rfl, Fr.refl _ _, by simp⟩
    case round =>
      obtain ⟨i, hi, rfl, HI⟩ := hrel
      by_cases hil : i < l.length
      · obtain ⟨b, off, rfl, c0, c1, c2⟩ := ((unhide H).keep (unhide HI).1).ou hil
        have ht := (unhide HI).2
        rw [List.drop_eq_getElem_cons hil, List.all_cons] at ht
        have HT := hide ht
        clear ht
        generalize l[i] = o at *
        obtain ⟨b1, hb1⟩ : ∃ b, timeB o.fr = b := ⟨_, rfl⟩
        obtain ⟨b2, hb2⟩ : ∃ b, timeB o.tl = b := ⟨_, rfl⟩
        obtain ⟨b3, hb3⟩ : ∃ b, decide (o.fr < o.tl) = b := ⟨_, rfl⟩
        obtain ⟨b4, hb4⟩ : ∃ b, (decide (1 ≤ o.st) && decide (o.st ≤ 65535)) = b := ⟨_, rfl⟩
        have HO : Hid (ouOk o = (b4 && b1 && b2 && b3)) := hide (by unfold ouOk; rw [hb1, hb2, hb3, hb4])
        have R1 := hide (fun (u : World) => rtimeB_any u o.fr)
        have R2 := hide (fun (u : World) => rtimeB_any u o.tl)
        have R4 := hide (fun (u : World) => within8_any u o.st 1 65535)
        rw [hb1] at R1
        rw [hb2] at R2
        rw [hb4] at R4
        clear hb1 hb2 hb4
        generalize ouOk o = z at HO HT
        obtain ⟨st, fr, tl⟩ := o
        simp only at R1 R2 R4 hb3 c0 c1 c2
        go_wp2_with fail
        refine (unhide R1 _).mono ?_
        rintro e w1 ⟨rfl, hq⟩
        obtain rfl := hq.symm
        go_wp2_with fail
        refine (unhide R2 _).mono ?_
        rintro e w1 ⟨rfl, hq⟩
        obtain rfl := hq.symm
        cases b4
        · have HX : Hid (E = false) := hide (by rw [unhide HE, ← unhide HT, unhide HO]; simp)
          clear hb3
          go_wp2
          go_quiet ((go_at_call 80; exact Calls.quiet_of_same (unhide R4 _)))
          go_wp2
          go_ret
          exact ⟨by rw [unhide HX]; rfl, (unhide HI).1.drewN _⟩
        · cases b1
          · have HX : Hid (E = false) := hide (by rw [unhide HE, ← unhide HT, unhide HO]; simp)
            clear hb3
            go_wp2
            go_quiet ((go_at_call 80; exact Calls.quiet_of_same (unhide R4 _)))
            go_wp2
            go_ret
            exact ⟨by rw [unhide HX]; rfl, (unhide HI).1.drewN _⟩
          · cases b2
            · have HX : Hid (E = false) := hide (by rw [unhide HE, ← unhide HT, unhide HO]; simp)
              clear hb3
              go_wp2
              go_quiet ((go_at_call 80; exact Calls.quiet_of_same (unhide R4 _)))
              go_wp2
              go_ret
              exact ⟨by rw [unhide HX]; rfl, (unhide HI).1.drewN _⟩
            · cases b3
              · have HX : Hid (E = false) := hide (by rw [unhide HE, ← unhide HT, unhide HO]; simp)
                have h3 : tl ≤ fr := by have := of_decide_eq_false hb3; omega
                clear hb3
                go_wp2
                go_quiet ((go_at_call 80; exact Calls.quiet_of_same (unhide R4 _)))
                go_wp2
                go_ret
                exact ⟨by rw [unhide HX]; rfl, (unhide HI).1.drewN _⟩
              · have HX : Hid ((l.drop (i + 1)).all ouOk = l.all ouOk) := hide (by rw [← unhide HT, unhide HO]; simp)
                have h3 : fr < tl := of_decide_eq_true hb3
                clear hb3
                go_wp2
                go_quiet ((go_at_call 80; exact Calls.quiet_of_same (unhide R4 _)))
                go_wp2
                exact ⟨⟨i + 1, by omega, by go_num, (unhide HI).1.drewN _, unhide HX⟩, by simp [intOf]; omega⟩
      · obtain rfl : i = l.length := by omega
        have HX : Hid (E = true) := hide (by rw [unhide HE, ← (unhide HI).2, List.drop_length]; rfl)
        have HF := hide (unhide HI).1
        clear HI H HE
        go_wp2
        go_ret
        exact ⟨by rw [unhide HX]; rfl, unhide HF⟩
  · have HE : Hid (ousOk l = false) := hide (by unfold ousOk; rw [decide_eq_false hs]; rfl)
    generalize ousOk l = E at HE ⊢
    clear h
    go_enter Try.func49, Try.ntmps49
    go_wp2
    go_ret
    exact ⟨by rw [unhide HE]; rfl, Fr.refl _ _⟩

theorem rright20_any (w : World) (ao : Option Addr) (cap : Nat) (l : List Ou) (h : CAt w ao (ouV l)) (hl : l.length ≤ 140737488355328) :
    Calls Try.prog 21 #[.slice ao l.length cap] w fun e w' => e = .returned (.int .i64 (ousE l)) ∧ Fr (fun _ => False) w w' := by
  have R := hide (ousRight_any w ao cap l h hl)
  have HE : Hid (ousE l = if ousOk l = true then 0 else 80) := hide rfl
  generalize ousOk l = y at *
  generalize ousE l = E at *
  clear h
  go_enter Try.func21, Try.ntmps21
  go_wp2_with fail
  refine (unhide R).mono ?_
  rintro e w1 ⟨rfl, hF⟩
  have HF := hide hF
  clear hF R
  cases y
  all_goals
    go_wp2
    go_ret
    exact ⟨by rw [unhide HE]; rfl, unhide HF⟩

set_option maxHeartbeats 4000000 in
set_option maxRecDepth 20000 in
theorem holds_any (w : World) (A : Ad) (t : Tf) (x : Ou) (j : Jn) : Calls Try.prog 50 #[tv A t, ouA x, .agg (jC j)] w fun e w' => e = .returned (.bool (holdB t.delay j x)) ∧ Fr (fun _ => False) w w' := by
  obtain ⟨v, hv⟩ : ∃ v, v = ((w.alloc (.cells (tc A t) 27)).alloc (.cells (ouC x) 54)).alloc (.cells (jC j) 46) := ⟨_, rfl⟩
  have hs1 : (w.alloc (.cells (tc A t) 27)).heap.size = w.heap.size + 1 := heap_alloc _ _
  have hs2 : ((w.alloc (.cells (tc A t) 27)).alloc (.cells (ouC x) 54)).heap.size = w.heap.size + 1 + 1 := by rw [heap_alloc, hs1]
  have HFV : Hid (Fr (fun _ => False) w v) := hide (by rw [hv]; exact (((Fr.refl _ w).alloc _).alloc _).alloc _)
  have HTB : Hid (TB v w.heap.size A t) := hide (by rw [hv]; exact (TB.new w A t).keep (((Fr.refl _ _).alloc _).alloc _))
  have HO : Hid (Bx v (w.heap.size + 1) (ouC x) 54) := hide (by
    rw [hv, ← hs1]; exact (Bx.new _ _ _).keep ((Fr.refl _ _).alloc _))
  have HJ : Hid (Bx v (w.heap.size + 1 + 1) (jC j) 46) := hide (by
    rw [hv, ← hs2]; exact Bx.new _ _ _)
  obtain ⟨B, hB⟩ : ∃ B, B = w.heap.size := ⟨_, rfl⟩
  have HB := hide hB
  rw [← hB] at HTB HO HJ
  have HV := hide hv
  have d12 : v.cell? ⟨B, 12, none⟩ = some (.int .i64 t.delay) := (unhide HTB).cell 12
  have HH1 := hide (holdB_1 t.delay j x)
  have HH2 := hide (holdB_2 t.delay j x)
  have HH3 := hide (holdB_3 t.delay j x)
  have HLT : Hid (lateB t.delay j = (timeB j.st && timeB j.en && decide (t.delay ≤ j.en - j.st))) := hide rfl
  have R1 := hide (fun (u : World) => rtimeB_any u j.st)
  have R2 := hide (fun (u : World) => rtimeB_any u j.en)
  have T1 := hide (timeB_iff j.st)
  have T2 := hide (timeB_iff j.en)
  clear hv hB hs1 hs2 HTB
  unfold tv ouA
  unfold tc at HV ⊢
  go_enter Try.func50, Try.ntmps50
  generalize t.delay = dl at *
  generalize lateB dl j = lb at *
  generalize holdB dl j x = E at *
  obtain ⟨st, fr, tl⟩ := x
  obtain ⟨k, f, o, s, n, r⟩ := j
  simp only [jC, ouC] at *
  have c0 : v.cell? ⟨B + 1, 0, none⟩ = some (.int .i64 st) := (unhide HO).cell 0
  have c1 : v.cell? ⟨B + 1, 1, none⟩ = some (.int .i64 fr) := (unhide HO).cell 1
  have c2 : v.cell? ⟨B + 1, 2, none⟩ = some (.int .i64 tl) := (unhide HO).cell 2
  have j0 : v.cell? ⟨B + 1 + 1, 0, none⟩ = some (.int .i64 k) := (unhide HJ).cell 0
  have j1 : v.cell? ⟨B + 1 + 1, 1, none⟩ = some (.int .i64 f) := (unhide HJ).cell 1
  have j2 : v.cell? ⟨B + 1 + 1, 2, none⟩ = some (.int .i64 o) := (unhide HJ).cell 2
  have j3 : v.cell? ⟨B + 1 + 1, 3, none⟩ = some (.int .i64 s) := (unhide HJ).cell 3
  have j4 : v.cell? ⟨B + 1 + 1, 4, none⟩ = some (.int .i64 n) := (unhide HJ).cell 4
  generalize timeB s = b1 at *
  generalize timeB n = b2 at *
  clear HO HJ
  go_upto_region 1 with (fail)
  rw [← unhide HV, ← unhide HB]
  clear HV
  by_cases hk : k = 2 ∨ k = 3
  · have HE := hide (unhide HH1 hk)
    clear HH1 HH2 HH3 HLT R1 R2 T1 T2 d12 j2 j4
    rcases hk with rfl | rfl
    all_goals
      rcases (by omega : (¬ st = f) ∨ (st = f ∧ ¬ fr ≤ s) ∨ (st = f ∧ fr ≤ s ∧ ¬ s < tl) ∨ (st = f ∧ fr ≤ s ∧ s < tl)) with x1 | ⟨x1, x2⟩ | ⟨x1, x2, x3⟩ | ⟨x1, x2, x3⟩
      all_goals
        have HZ := hide (unhide HE)
        go_wp2
        go_ret
        exact ⟨by rw [unhide HE]; simp [*] <;> (intros; omega), unhide HFV⟩
  · have hk2 : (k == 2) = false := by simp; omega
    have hk3 : (k == 3) = false := by simp; omega
    by_cases hk1 : k = 1
    · subst hk1
      go_wp2_with fail
      refine (unhide R1 _).mono ?_
      rintro e w1 ⟨rfl, hq⟩
      obtain rfl := hq.symm
      go_wp2_with fail
      refine (unhide R2 _).mono ?_
      rintro e w1 ⟨rfl, hq⟩
      obtain rfl := hq.symm
      cases b1
      · have HE := hide (unhide HH3 hk (fun q => by have := q.2; rw [unhide HLT] at this; simp at this))
        clear HH1 HH2 HH3 HLT R1 R2 T1 T2
        go_wp2
        go_ret
        exact ⟨by rw [unhide HE]; rfl, unhide HFV⟩
      · cases b2
        · have HE := hide (unhide HH3 hk (fun q => by have := q.2; rw [unhide HLT] at this; simp at this))
          clear HH1 HH2 HH3 HLT R1 R2 T1 T2
          go_wp2
          go_ret
          exact ⟨by rw [unhide HE]; rfl, unhide HFV⟩
        · have h1 := (unhide T1).1 (by first | trivial | rfl)
          have h2 := (unhide T2).1 (by first | trivial | rfl)
          by_cases h3 : dl ≤ n - s
          · have HE := hide (unhide HH2 hk ⟨by first | trivial | rfl, by rw [unhide HLT]; simp [h3]⟩)
            clear HH1 HH2 HH3 HLT R1 R2 T1 T2 hk
            rcases (by omega : (¬ st = f ∧ ¬ st = o) ∨ (st = f ∧ ¬ fr ≤ n) ∨ (st = f ∧ fr ≤ n ∧ ¬ s < tl) ∨ (st = f ∧ fr ≤ n ∧ s < tl) ∨ (¬ st = f ∧ st = o ∧ ¬ fr ≤ n) ∨ (¬ st = f ∧ st = o ∧ fr ≤ n ∧ ¬ s < tl) ∨ (¬ st = f ∧ st = o ∧ fr ≤ n ∧ s < tl)) with ⟨x1, x2⟩ | ⟨x1, x2⟩ | ⟨x1, x2, x3⟩ | ⟨x1, x2, x3⟩ | ⟨x1, x2, x3⟩ | ⟨x1, x2, x3, x4⟩ | ⟨x1, x2, x3, x4⟩
            all_goals
              go_wp2
              go_ret
              exact ⟨by rw [unhide HE]; simp [*] <;> (intros; omega), unhide HFV⟩
          · have HE := hide (unhide HH3 hk (fun q => by have := q.2; rw [unhide HLT] at this; simp at this; omega))
            clear HH1 HH2 HH3 HLT R1 R2 T1 T2
            go_wp2
            go_ret
            exact ⟨by rw [unhide HE]; rfl, unhide HFV⟩
    · have hk1b : (k == 1) = false := by simp; omega
      have HE := hide (unhide HH3 hk (fun q => hk1 q.1))
      clear HH1 HH2 HH3 HLT R1 R2 T1 T2
      go_wp2
      go_ret
      exact ⟨by rw [unhide HE]; rfl, unhide HFV⟩

set_option maxHeartbeats 4000000 in
set_option maxRecDepth 20000 in
theorem rheld_any (w : World) (A : Ad) (t : Tf) (ao : Option Addr) (cap : Nat) (l : List Ou) (h : CAt w ao (ouV l)) (hl : l.length ≤ 140737488355328) (nn : Nat) (hnn : nn = l.length) (j : Jn) :
    Calls Try.prog 22 #[tv A t, .slice ao nn cap, .agg (jC j)] w fun e w' => e = .returned (.bool (heldB t.delay l j)) ∧ Fr (fun _ => False) w w' := by
  subst hnn
  obtain ⟨v, hv⟩ : ∃ v, v = (w.alloc (.cells (tc A t) 27)).alloc (.cells (jC j) 46) := ⟨_, rfl⟩
  have HFV : Hid (Fr (fun _ => False) w v) := hide (by rw [hv]; exact ((Fr.refl _ w).alloc _).alloc _)
  have HTB : Hid (TB v w.heap.size A t) := hide (by rw [hv]; exact (TB.new w A t).keep ((Fr.refl _ _).alloc _))
  have HJ : Hid (Bx v (w.heap.size + 1) (jC j) 46) := hide (by
    rw [hv, ← heap_alloc w (.cells (tc A t) 27)]; exact Bx.new _ _ _)
  obtain ⟨B, hB⟩ : ∃ B, B = w.heap.size := ⟨_, rfl⟩
  have HB := hide hB
  rw [← hB] at HTB HJ
  have HV := hide hv
  have HL := hide (fun (u : World) (hu : Fr (fun _ => False) w u) => h.keep hu)
  have RH := hide (fun (u : World) (x : Ou) => holds_any u A t x j)
  have HE : Hid (heldB t.delay l j = l.any (holdB t.delay j)) := hide rfl
  clear hv hB h
  unfold tv at RH ⊢
  unfold tc at HV ⊢
  obtain ⟨p, HP⟩ : ∃ p : Ou → Bool, Hid (∀ x, holdB t.delay j x = p x) := ⟨_, hide (fun _ => rfl)⟩
  obtain ⟨y, hy⟩ : ∃ y, heldB t.delay l j = y := ⟨_, rfl⟩
  rw [hy] at HE ⊢
  have HPE : Hid (holdB t.delay j = p) := hide (funext (unhide HP))
  rw [unhide HPE] at HE
  replace RH := hide (fun (u : World) (x : Ou) => (by have := unhide RH u x; rw [unhide HP x] at this; exact this : Calls Try.prog 50 #[.agg (tc A t), ouA x, .agg (jC j)] u fun e w' => e = .returned (.bool (p x)) ∧ Fr (fun _ => False) u w'))
  clear hy HP HPE
  go_enter Try.func22, Try.ntmps22
  obtain ⟨k, f, o, s, n, r⟩ := j
  simp only [jC] at *
  go_upto_region 1 with (fail)
  rw [← unhide HV, ← unhide HB]
  clear HV
  have HS0 : Hid (Fr (fun _ => False) w v ∧ TB v B A t ∧ Bx v (B + 1) (jC ⟨k, f, o, s, n, r⟩) 46 ∧ (l.drop 0).any p = y) := hide ⟨unhide HFV, unhide HTB, unhide HJ, by rw [unhide HE]; rfl⟩
  clear HFV HTB HJ HE
  go_wp2
  go_loopw [7, 8] (fun iv _ wr => ∃ (i : Nat), i ≤ l.length ∧ iv = .int .i64 i ∧ Hid (Fr (fun _ => False) w wr ∧ TB wr B A t ∧ Bx wr (B + 1) (jC ⟨k, f, o, s, n, r⟩) 46 ∧ (l.drop i).any p = y)) (fun iv _ _ => l.length - (intOf iv).toNat)
  case atStart => exact ⟨0, Nat.zero_le _, rfl, HS0⟩
  case round =>
    obtain ⟨i, hi, rfl, HI⟩ := hrel
    clear HS0
    by_cases hil : i < l.length
    · have hlt : (i : Int) < (l.length : Int) := by omega
      obtain ⟨i1, i2, i3, i4⟩ := unhide HI
      obtain ⟨b0, off0, hao, c0, c1, c2⟩ := (unhide HL wr i1).ou hil
      subst hao
      rw [List.drop_eq_getElem_cons hil, List.any_cons] at i4
      have RX := hide (fun (u : World) => unhide RH u l[i])
      generalize l[i] = x at *
      have HT := hide i4
      have hbl := World.block_lt_of_cell? _ _ c0
      generalize p x = z at *
      obtain ⟨st, fr, tl⟩ := x
      simp only at c0 c1 c2
      unfold ouA at RX
      simp only at RX
      have HCB : Hid (∀ u, Fr (fun _ => False) wr u → u.cell? ⟨B, 0, none⟩ = some (.slice A.aS t.st.length A.cS) ∧ u.cell? ⟨B, 1, none⟩ = some (.slice A.aP t.sp.length A.cP) ∧ u.cell? ⟨B, 2, none⟩ = some (.slice A.aB t.bd.length A.cB) ∧ u.cell? ⟨B, 3, none⟩ = some (.float .f64 t.off) ∧ u.cell? ⟨B, 4, none⟩ = some (.int .i64 t.bus) ∧ u.cell? ⟨B, 5, none⟩ = some (.int .i64 t.busDaily) ∧ u.cell? ⟨B, 6, none⟩ = some (.int .i64 t.busWeekly) ∧ u.cell? ⟨B, 7, none⟩ = some (.int .i64 t.hopper) ∧ u.cell? ⟨B, 8, none⟩ = some (.int .i64 t.most) ∧ u.cell? ⟨B, 9, none⟩ = some (.int .i64 t.longest) ∧ u.cell? ⟨B, 10, none⟩ = some (.int .i64 t.change) ∧ u.cell? ⟨B, 11, none⟩ = some (.int .i64 t.passback) ∧ u.cell? ⟨B, 12, none⟩ = some (.int .i64 t.delay) ∧ u.cell? ⟨B, 13, none⟩ = some (.int .i64 t.threshold) ∧ u.cell? ⟨b0, off0 + i * 3, none⟩ = some (.int .i64 st) ∧ u.cell? ⟨b0, off0 + i * 3 + 1, none⟩ = some (.int .i64 fr) ∧ u.cell? ⟨b0, off0 + i * 3 + 2, none⟩ = some (.int .i64 tl) ∧ u.cell? ⟨B + 1, 0, none⟩ = some (.int .i64 k) ∧ u.cell? ⟨B + 1, 1, none⟩ = some (.int .i64 f) ∧ u.cell? ⟨B + 1, 2, none⟩ = some (.int .i64 o) ∧ u.cell? ⟨B + 1, 3, none⟩ = some (.int .i64 s) ∧ u.cell? ⟨B + 1, 4, none⟩ = some (.int .i64 n) ∧ u.cell? ⟨B + 1, 5, none⟩ = some (.bool r)) := hide (fun u hf => by
        have h1 := i2.keep hf
        have h2 := i3.keep hf
        have q : ∀ {c : Nat} {x : Value}, wr.cell? ⟨b0, c, none⟩ = some x → u.cell? ⟨b0, c, none⟩ = some x := fun {c x} e => (hf.cell (a := ⟨b0, c, none⟩) hbl (fun t => t)).trans e
        exact ⟨h1.cell 0, h1.cell 1, h1.cell 2, h1.cell 3, h1.cell 4, h1.cell 5, h1.cell 6, h1.cell 7, h1.cell 8, h1.cell 9, h1.cell 10, h1.cell 11, h1.cell 12, h1.cell 13, q c0, q c1, q c2, h2.cell 0, h2.cell 1, h2.cell 2, h2.cell 3, h2.cell 4, h2.cell 5⟩)
      clear i1 i2 i3 i4 c0 c1 c2 hbl
      obtain ⟨d0, d1, d2, d3, d4, d5, d6, d7, d8, d9, d10, d11, d12, d13, c0, c1, c2, j0, j1, j2, j3, j4, j5⟩ := unhide HCB wr (Fr.refl _ _)
      go_upto_region 4 with (fail)
      go_cut [8] from 15 to 21 (fun ev wd => ev = .bool z ∧ Hid (Fr (fun _ => False) wr wd))
      case first =>
        go_region_held3 (fun u => u.cell? ⟨B, 0, none⟩ = some (.slice A.aS t.st.length A.cS) ∧ u.cell? ⟨B, 1, none⟩ = some (.slice A.aP t.sp.length A.cP) ∧ u.cell? ⟨B, 2, none⟩ = some (.slice A.aB t.bd.length A.cB) ∧ u.cell? ⟨B, 3, none⟩ = some (.float .f64 t.off) ∧ u.cell? ⟨B, 4, none⟩ = some (.int .i64 t.bus) ∧ u.cell? ⟨B, 5, none⟩ = some (.int .i64 t.busDaily) ∧ u.cell? ⟨B, 6, none⟩ = some (.int .i64 t.busWeekly) ∧ u.cell? ⟨B, 7, none⟩ = some (.int .i64 t.hopper) ∧ u.cell? ⟨B, 8, none⟩ = some (.int .i64 t.most) ∧ u.cell? ⟨B, 9, none⟩ = some (.int .i64 t.longest) ∧ u.cell? ⟨B, 10, none⟩ = some (.int .i64 t.change) ∧ u.cell? ⟨B, 11, none⟩ = some (.int .i64 t.passback) ∧ u.cell? ⟨B, 12, none⟩ = some (.int .i64 t.delay) ∧ u.cell? ⟨B, 13, none⟩ = some (.int .i64 t.threshold) ∧ u.cell? ⟨b0, off0 + i * 3, none⟩ = some (.int .i64 st) ∧ u.cell? ⟨b0, off0 + i * 3 + 1, none⟩ = some (.int .i64 fr) ∧ u.cell? ⟨b0, off0 + i * 3 + 2, none⟩ = some (.int .i64 tl) ∧ u.cell? ⟨B + 1, 0, none⟩ = some (.int .i64 k) ∧ u.cell? ⟨B + 1, 1, none⟩ = some (.int .i64 f) ∧ u.cell? ⟨B + 1, 2, none⟩ = some (.int .i64 o) ∧ u.cell? ⟨B + 1, 3, none⟩ = some (.int .i64 s) ∧ u.cell? ⟨B + 1, 4, none⟩ = some (.int .i64 n) ∧ u.cell? ⟨B + 1, 5, none⟩ = some (.bool r))
          ((refine unhide HCB _ ?_; repeat (first | (with_reducible exact Fr.refl _ _) | (with_reducible refine Fr.drew ?_) | (with_reducible refine Fr.trans ?_ (unhide HA) (fun _ _ t => t)))))
          ((go_at_call 50; refine (unhide RX _).mono ?_; rintro e wa ⟨rfl, hA⟩; have HA := hide (Fr.trans (by repeat (first | (with_reducible exact Fr.refl _ _) | (with_reducible refine Fr.drew ?_)) : Fr (fun _ => False) wr _) hA (fun _ _ t => t)); clear hA))
        all_goals
          go_wp2_with fail
          go_meet
          exact ⟨rfl, hide (by repeat (first | (with_reducible exact Fr.refl _ _) | (with_reducible exact unhide HA) | (with_reducible refine Fr.drew ?_)))⟩
      case rest =>
        obtain ⟨rfl, HFC⟩ := hcut
        have HS1 : Hid (Fr (fun _ => False) w wc ∧ TB wc B A t ∧ Bx wc (B + 1) (jC ⟨k, f, o, s, n, r⟩) 46) := hide ⟨(unhide HI).1.trans (unhide HFC) (fun _ _ t => t), (unhide HI).2.1.keep (unhide HFC), (unhide HI).2.2.1.keep (unhide HFC)⟩
        clear d0 d1 d2 d3 d4 d5 d6 d7 d8 d9 d10 d11 d12 d13 c0 c1 c2 j0 j1 j2 j3 j4 j5 HCB RX HI HFC
        cases z with
        | true =>
          have HY : Hid (y = true) := hide (by rw [← unhide HT]; rfl)
          clear HT
          go_wp2
          go_ret
          exact ⟨by rw [unhide HY]; rfl, (unhide HS1).1⟩
        | false =>
          have HT2 : Hid ((l.drop (i + 1)).any p = y) := hide (by rw [← unhide HT]; rfl)
          clear HT
          go_wp2
          exact ⟨⟨i + 1, by omega, by go_num, hide ⟨(unhide HS1).1, (unhide HS1).2.1, (unhide HS1).2.2, unhide HT2⟩⟩, by simp [intOf] <;> omega⟩
    · obtain rfl : i = l.length := by omega
      have hlt : ¬ (l.length : Int) < (l.length : Int) := by omega
      have HY : Hid (y = false) := hide (by rw [← (unhide HI).2.2.2, List.drop_length]; rfl)
      have HF := hide (unhide HI).1
      clear HI HL
      go_wp2
      go_ret
      exact ⟨by rw [unhide HY]; rfl, unhide HF⟩

end Go.Proofs.Ytdbnppbfoohjjaa

