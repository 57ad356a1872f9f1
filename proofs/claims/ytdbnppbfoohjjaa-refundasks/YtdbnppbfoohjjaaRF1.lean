import Derived.Test.YtdbnppbfoohjjaaRF0
/- The program's refund: its closures, ContainsFunc, Right, Held. -/
namespace Go.Proofs.Ytdbnppbfoohjjaa
open Go.RowKit

/-- The first index that is as wanted, or -1. -/
def ixU (p : Ou → Bool) : List Ou → Nat → Int
  | [], _ => -1
  | b :: r, i => if p b then (i : Int) else ixU p r (i + 1)

theorem ixU_any (p : Ou → Bool) : ∀ (l : List Ou) (i : Nat), decide (0 ≤ ixU p l i) = l.any p
  | [], _ => rfl
  | b :: r, i => by
    rw [ixU, List.any_cons]
    cases p b with
    | true => simp
    | false => simpa using ixU_any p r (i + 1)

theorem hold1_any (w : World) (C : Nat) (j : Jn) (hC : Bx w C (jC j) 46) (o : Ou) : Calls Try.prog 67 #[ouA o, .pointer (some ⟨C, 0, none⟩)] w fun e w' => e = .returned (.bool (decide (o.st = j.fr) && decide (o.fr ≤ j.st) && decide (j.st < o.tl))) ∧ Fr (fun _ => False) w w' := by
  obtain ⟨v, hv⟩ : ∃ v, v = w.alloc (.cells (ouC o) 54) := ⟨_, rfl⟩
  have hF : Fr (fun _ => False) w v := by rw [hv]; exact (Fr.refl _ w).alloc _
  have HF := hide hF
  have h1 : Bx v w.heap.size (ouC o) 54 := by rw [hv]; exact Bx.new _ _ _
  have h2 := hC.keep hF
  obtain ⟨B, hB⟩ : ∃ B, B = w.heap.size := ⟨_, rfl⟩
  rw [← hB] at h1
  have HV := hide hv
  have HB := hide hB
  obtain ⟨st, fr, tl⟩ := o
  obtain ⟨k, f, t, s, n, r⟩ := j
  simp only [ouC, jC] at *
  have c0 : v.cell? ⟨B, 0, none⟩ = some (.int .i64 st) := h1.cell 0
  have c1 : v.cell? ⟨B, 1, none⟩ = some (.int .i64 fr) := h1.cell 1
  have c2 : v.cell? ⟨B, 2, none⟩ = some (.int .i64 tl) := h1.cell 2
  have j1 : v.cell? ⟨C, 1, none⟩ = some (.int .i64 f) := h2.cell 1
  have j2 : v.cell? ⟨C, 2, none⟩ = some (.int .i64 t) := h2.cell 2
  have j3 : v.cell? ⟨C, 3, none⟩ = some (.int .i64 s) := h2.cell 3
  have j4 : v.cell? ⟨C, 4, none⟩ = some (.int .i64 n) := h2.cell 4
  clear hv hB h1 h2 hC hF
  unfold ouA
  go_enter Try.func67, Try.ntmps67
  go_upto_region 1 with (fail)
  rw [← unhide HV, ← unhide HB]
  clear HV
  rcases (by omega : (¬ st = f) ∨ (st = f ∧ ¬ fr ≤ s) ∨ (st = f ∧ fr ≤ s ∧ ¬ s < tl) ∨ (st = f ∧ fr ≤ s ∧ s < tl)) with x1 | ⟨x1, x2⟩ | ⟨x1, x2, x3⟩ | ⟨x1, x2, x3⟩
  all_goals
    go_wp2
    go_ret
    exact ⟨by simp [*] <;> (intros; omega), unhide HF⟩

theorem hold2_any (w : World) (C : Nat) (j : Jn) (hC : Bx w C (jC j) 46) (o : Ou) : Calls Try.prog 69 #[ouA o, .pointer (some ⟨C, 0, none⟩)] w fun e w' => e = .returned (.bool ((decide (o.st = j.fr) || decide (o.st = j.to)) && decide (o.fr ≤ j.en) && decide (j.st < o.tl))) ∧ Fr (fun _ => False) w w' := by
  obtain ⟨v, hv⟩ : ∃ v, v = w.alloc (.cells (ouC o) 54) := ⟨_, rfl⟩
  have hF : Fr (fun _ => False) w v := by rw [hv]; exact (Fr.refl _ w).alloc _
  have HF := hide hF
  have h1 : Bx v w.heap.size (ouC o) 54 := by rw [hv]; exact Bx.new _ _ _
  have h2 := hC.keep hF
  obtain ⟨B, hB⟩ : ∃ B, B = w.heap.size := ⟨_, rfl⟩
  rw [← hB] at h1
  have HV := hide hv
  have HB := hide hB
  obtain ⟨st, fr, tl⟩ := o
  obtain ⟨k, f, t, s, n, r⟩ := j
  simp only [ouC, jC] at *
  have c0 : v.cell? ⟨B, 0, none⟩ = some (.int .i64 st) := h1.cell 0
  have c1 : v.cell? ⟨B, 1, none⟩ = some (.int .i64 fr) := h1.cell 1
  have c2 : v.cell? ⟨B, 2, none⟩ = some (.int .i64 tl) := h1.cell 2
  have j1 : v.cell? ⟨C, 1, none⟩ = some (.int .i64 f) := h2.cell 1
  have j2 : v.cell? ⟨C, 2, none⟩ = some (.int .i64 t) := h2.cell 2
  have j3 : v.cell? ⟨C, 3, none⟩ = some (.int .i64 s) := h2.cell 3
  have j4 : v.cell? ⟨C, 4, none⟩ = some (.int .i64 n) := h2.cell 4
  clear hv hB h1 h2 hC hF
  unfold ouA
  go_enter Try.func69, Try.ntmps69
  go_upto_region 1 with (fail)
  rw [← unhide HV, ← unhide HB]
  clear HV
  rcases (by omega : (¬ st = f ∧ ¬ st = t) ∨ (st = f ∧ ¬ fr ≤ n) ∨ (st = f ∧ fr ≤ n ∧ ¬ s < tl) ∨ (st = f ∧ fr ≤ n ∧ s < tl) ∨ (¬ st = f ∧ st = t ∧ ¬ fr ≤ n) ∨ (¬ st = f ∧ st = t ∧ fr ≤ n ∧ ¬ s < tl) ∨ (¬ st = f ∧ st = t ∧ fr ≤ n ∧ s < tl)) with ⟨x1, x2⟩ | ⟨x1, x2⟩ | ⟨x1, x2, x3⟩ | ⟨x1, x2, x3⟩ | ⟨x1, x2, x3⟩ | ⟨x1, x2, x3, x4⟩ | ⟨x1, x2, x3, x4⟩
  all_goals
    go_wp2
    go_ret
    exact ⟨by simp [*] <;> (intros; omega), unhide HF⟩

theorem hold3_any (w : World) (o : Ou) : Calls Try.prog 70 #[ouA o] w fun e w' => e = .returned (.bool false) ∧ Fr (fun _ => False) w w' := by
  have HF : Hid (Fr (fun _ => False) w (w.alloc (.cells (ouC o) 54))) := hide ((Fr.refl _ _).alloc _)
  obtain ⟨st, fr, tl⟩ := o
  simp only [ouC] at *
  unfold ouA
  go_enter Try.func70, Try.ntmps70
  go_wp2
  go_ret
  exact ⟨rfl, unhide HF⟩

theorem indexU0 (w : World) (p : Ou → Bool) (ao : Option Addr) (cap : Nat) (l : List Ou) (h : CAt w ao (ouV l)) (hl : l.length ≤ 140737488355328)
    (hC : ∀ u, Fr (fun _ => False) w u → ∀ o, Calls Try.prog 45 #[ouA o] u fun e u' => e = .returned (.bool (p o)) ∧ Fr (fun _ => False) u u') :
    Calls Try.prog 65 #[.slice ao l.length cap, .func (.func 45) #[] #[]] w fun e w' => e = .returned (.int .i64 (ixU p l 0)) ∧ Fr (fun _ => False) w w' := by
  have H := hide h
  have HC' := hide hC
  clear h hC
  go_enter Try.func65, Try.ntmps65
  go_wp2
  go_loopw [5, 8] (fun _ iv wr => ∃ (i : Nat), i ≤ l.length ∧ iv = .int .i64 i ∧ Hid (Fr (fun _ => False) w wr ∧ ixU p (l.drop i) i = ixU p l 0)) (fun _ iv _ => l.length - (intOf iv).toNat)
  case atStart => exact ⟨0, Nat.zero_le _, rfl, Fr.refl _ _, by simp⟩
  case round =>
    obtain ⟨i, hi, rfl, HI⟩ := hrel
    by_cases hil : i < l.length
    · obtain ⟨b, off, rfl, c0, c1, c2⟩ := ((unhide H).keep (unhide HI).1).ou hil
      have ht := (unhide HI).2
      rw [List.drop_eq_getElem_cons hil, ixU] at ht
      have R := unhide HC' wr (unhide HI).1 l[i]
      generalize l[i] = x at *
      have HT := hide ht
      clear ht
      unfold ouA at R
      cases hx : p x with
      | true =>
        rw [hx] at R HT
        clear hx
        have HT' : Hid (ixU p l 0 = (i : Int)) := hide (by have := unhide HT; simpa using this.symm)
        clear HT
        go_wp2_with fail
        refine R.mono ?_
        rintro e w1 ⟨rfl, hF⟩
        have HF := hide ((unhide HI).1.trans hF (fun _ _ t => t))
        clear hF R
        go_wp2
        go_ret
        exact ⟨by rw [unhide HT']; rfl, unhide HF⟩
      | false =>
        rw [hx] at R HT
        clear hx
        have HT' : Hid (ixU p (l.drop (i + 1)) (i + 1) = ixU p l 0) := hide (by have := unhide HT; simpa using this)
        clear HT
        go_wp2_with fail
        refine R.mono ?_
        rintro e w1 ⟨rfl, hF⟩
        have HF := hide ((unhide HI).1.trans hF (fun _ _ t => t))
        clear hF R
        go_wp2
        exact ⟨⟨i + 1, by omega, by go_num, unhide HF, unhide HT'⟩, by simp [intOf]; omega⟩
    · obtain rfl : i = l.length := by omega
      have ht := (unhide HI).2
      rw [List.drop_length] at ht
      have HN := hide ht
      have HF := hide (unhide HI).1
      clear ht HI H
      go_wp2
      go_ret
      exact ⟨by rw [← unhide HN]; rfl, unhide HF⟩

theorem hasU0 (w : World) (p : Ou → Bool) (ao : Option Addr) (cap : Nat) (l : List Ou) (h : CAt w ao (ouV l)) (hl : l.length ≤ 140737488355328)
    (hC : ∀ u, Fr (fun _ => False) w u → ∀ o, Calls Try.prog 45 #[ouA o] u fun e u' => e = .returned (.bool (p o)) ∧ Fr (fun _ => False) u u') :
    Calls Try.prog 44 #[.slice ao l.length cap, .func (.func 45) #[] #[]] w fun e w' => e = .returned (.bool (l.any p)) ∧ Fr (fun _ => False) w w' := by
  have R1 := hide (indexU0 w p ao cap l h hl hC)
  have HA := hide (ixU_any p l 0)
  generalize ixU p l 0 = m at *
  generalize l.any p = y at *
  clear h hC
  go_enter Try.func44, Try.ntmps44
  go_wp2_with fail
  refine (unhide R1).mono ?_
  rintro e w1 ⟨rfl, hF⟩
  have HF := hide hF
  clear hF
  go_wp2
  go_ret
  exact ⟨by rw [← unhide HA]; rfl, unhide HF⟩

theorem indexU1 (w : World) (C : Nat) (p : Ou → Bool) (ao : Option Addr) (cap : Nat) (l : List Ou) (h : CAt w ao (ouV l)) (hl : l.length ≤ 140737488355328)
    (hC : ∀ u, Fr (fun _ => False) w u → ∀ o, Calls Try.prog 67 #[ouA o, .pointer (some ⟨C, 0, none⟩)] u fun e u' => e = .returned (.bool (p o)) ∧ Fr (fun _ => False) u u') :
    Calls Try.prog 65 #[.slice ao l.length cap, .func (.func 67) #[] #[.pointer (some ⟨C, 0, none⟩)]] w fun e w' => e = .returned (.int .i64 (ixU p l 0)) ∧ Fr (fun _ => False) w w' := by
  have H := hide h
  have HC' := hide hC
  clear h hC
  go_enter Try.func65, Try.ntmps65
  go_wp2
  go_loopw [5, 8] (fun _ iv wr => ∃ (i : Nat), i ≤ l.length ∧ iv = .int .i64 i ∧ Hid (Fr (fun _ => False) w wr ∧ ixU p (l.drop i) i = ixU p l 0)) (fun _ iv _ => l.length - (intOf iv).toNat)
  case atStart => exact ⟨0, Nat.zero_le _, rfl, Fr.refl _ _, by simp⟩
  case round =>
    obtain ⟨i, hi, rfl, HI⟩ := hrel
    by_cases hil : i < l.length
    · obtain ⟨b, off, rfl, c0, c1, c2⟩ := ((unhide H).keep (unhide HI).1).ou hil
      have ht := (unhide HI).2
      rw [List.drop_eq_getElem_cons hil, ixU] at ht
      have R := unhide HC' wr (unhide HI).1 l[i]
      generalize l[i] = x at *
      have HT := hide ht
      clear ht
      unfold ouA at R
      cases hx : p x with
      | true =>
        rw [hx] at R HT
        clear hx
        have HT' : Hid (ixU p l 0 = (i : Int)) := hide (by have := unhide HT; simpa using this.symm)
        clear HT
        go_wp2_with fail
        refine R.mono ?_
        rintro e w1 ⟨rfl, hF⟩
        have HF := hide ((unhide HI).1.trans hF (fun _ _ t => t))
        clear hF R
        go_wp2
        go_ret
        exact ⟨by rw [unhide HT']; rfl, unhide HF⟩
      | false =>
        rw [hx] at R HT
        clear hx
        have HT' : Hid (ixU p (l.drop (i + 1)) (i + 1) = ixU p l 0) := hide (by have := unhide HT; simpa using this)
        clear HT
        go_wp2_with fail
        refine R.mono ?_
        rintro e w1 ⟨rfl, hF⟩
        have HF := hide ((unhide HI).1.trans hF (fun _ _ t => t))
        clear hF R
        go_wp2
        exact ⟨⟨i + 1, by omega, by go_num, unhide HF, unhide HT'⟩, by simp [intOf]; omega⟩
    · obtain rfl : i = l.length := by omega
      have ht := (unhide HI).2
      rw [List.drop_length] at ht
      have HN := hide ht
      have HF := hide (unhide HI).1
      clear ht HI H
      go_wp2
      go_ret
      exact ⟨by rw [← unhide HN]; rfl, unhide HF⟩

theorem hasU1 (w : World) (C : Nat) (p : Ou → Bool) (ao : Option Addr) (cap : Nat) (l : List Ou) (h : CAt w ao (ouV l)) (hl : l.length ≤ 140737488355328)
    (hC : ∀ u, Fr (fun _ => False) w u → ∀ o, Calls Try.prog 67 #[ouA o, .pointer (some ⟨C, 0, none⟩)] u fun e u' => e = .returned (.bool (p o)) ∧ Fr (fun _ => False) u u') :
    Calls Try.prog 44 #[.slice ao l.length cap, .func (.func 67) #[] #[.pointer (some ⟨C, 0, none⟩)]] w fun e w' => e = .returned (.bool (l.any p)) ∧ Fr (fun _ => False) w w' := by
  have R1 := hide (indexU1 w C p ao cap l h hl hC)
  have HA := hide (ixU_any p l 0)
  generalize ixU p l 0 = m at *
  generalize l.any p = y at *
  clear h hC
  go_enter Try.func44, Try.ntmps44
  go_wp2_with fail
  refine (unhide R1).mono ?_
  rintro e w1 ⟨rfl, hF⟩
  have HF := hide hF
  clear hF
  go_wp2
  go_ret
  exact ⟨by rw [← unhide HA]; rfl, unhide HF⟩

theorem indexU2 (w : World) (C : Nat) (p : Ou → Bool) (ao : Option Addr) (cap : Nat) (l : List Ou) (h : CAt w ao (ouV l)) (hl : l.length ≤ 140737488355328)
    (hC : ∀ u, Fr (fun _ => False) w u → ∀ o, Calls Try.prog 69 #[ouA o, .pointer (some ⟨C, 0, none⟩)] u fun e u' => e = .returned (.bool (p o)) ∧ Fr (fun _ => False) u u') :
    Calls Try.prog 65 #[.slice ao l.length cap, .func (.func 69) #[] #[.pointer (some ⟨C, 0, none⟩)]] w fun e w' => e = .returned (.int .i64 (ixU p l 0)) ∧ Fr (fun _ => False) w w' := by
  have H := hide h
  have HC' := hide hC
  clear h hC
  go_enter Try.func65, Try.ntmps65
  go_wp2
  go_loopw [5, 8] (fun _ iv wr => ∃ (i : Nat), i ≤ l.length ∧ iv = .int .i64 i ∧ Hid (Fr (fun _ => False) w wr ∧ ixU p (l.drop i) i = ixU p l 0)) (fun _ iv _ => l.length - (intOf iv).toNat)
  case atStart => exact ⟨0, Nat.zero_le _, rfl, Fr.refl _ _, by simp⟩
  case round =>
    obtain ⟨i, hi, rfl, HI⟩ := hrel
    by_cases hil : i < l.length
    · obtain ⟨b, off, rfl, c0, c1, c2⟩ := ((unhide H).keep (unhide HI).1).ou hil
      have ht := (unhide HI).2
      rw [List.drop_eq_getElem_cons hil, ixU] at ht
      have R := unhide HC' wr (unhide HI).1 l[i]
      generalize l[i] = x at *
      have HT := hide ht
      clear ht
      unfold ouA at R
      cases hx : p x with
      | true =>
        rw [hx] at R HT
        clear hx
        have HT' : Hid (ixU p l 0 = (i : Int)) := hide (by have := unhide HT; simpa using this.symm)
        clear HT
        go_wp2_with fail
        refine R.mono ?_
        rintro e w1 ⟨rfl, hF⟩
        have HF := hide ((unhide HI).1.trans hF (fun _ _ t => t))
        clear hF R
        go_wp2
        go_ret
        exact ⟨by rw [unhide HT']; rfl, unhide HF⟩
      | false =>
        rw [hx] at R HT
        clear hx
        have HT' : Hid (ixU p (l.drop (i + 1)) (i + 1) = ixU p l 0) := hide (by have := unhide HT; simpa using this)
        clear HT
        go_wp2_with fail
        refine R.mono ?_
        rintro e w1 ⟨rfl, hF⟩
        have HF := hide ((unhide HI).1.trans hF (fun _ _ t => t))
        clear hF R
        go_wp2
        exact ⟨⟨i + 1, by omega, by go_num, unhide HF, unhide HT'⟩, by simp [intOf]; omega⟩
    · obtain rfl : i = l.length := by omega
      have ht := (unhide HI).2
      rw [List.drop_length] at ht
      have HN := hide ht
      have HF := hide (unhide HI).1
      clear ht HI H
      go_wp2
      go_ret
      exact ⟨by rw [← unhide HN]; rfl, unhide HF⟩

theorem hasU2 (w : World) (C : Nat) (p : Ou → Bool) (ao : Option Addr) (cap : Nat) (l : List Ou) (h : CAt w ao (ouV l)) (hl : l.length ≤ 140737488355328)
    (hC : ∀ u, Fr (fun _ => False) w u → ∀ o, Calls Try.prog 69 #[ouA o, .pointer (some ⟨C, 0, none⟩)] u fun e u' => e = .returned (.bool (p o)) ∧ Fr (fun _ => False) u u') :
    Calls Try.prog 44 #[.slice ao l.length cap, .func (.func 69) #[] #[.pointer (some ⟨C, 0, none⟩)]] w fun e w' => e = .returned (.bool (l.any p)) ∧ Fr (fun _ => False) w w' := by
  have R1 := hide (indexU2 w C p ao cap l h hl hC)
  have HA := hide (ixU_any p l 0)
  generalize ixU p l 0 = m at *
  generalize l.any p = y at *
  clear h hC
  go_enter Try.func44, Try.ntmps44
  go_wp2_with fail
  refine (unhide R1).mono ?_
  rintro e w1 ⟨rfl, hF⟩
  have HF := hide hF
  clear hF
  go_wp2
  go_ret
  exact ⟨by rw [← unhide HA]; rfl, unhide HF⟩

theorem indexU3 (w : World) (p : Ou → Bool) (ao : Option Addr) (cap : Nat) (l : List Ou) (h : CAt w ao (ouV l)) (hl : l.length ≤ 140737488355328)
    (hC : ∀ u, Fr (fun _ => False) w u → ∀ o, Calls Try.prog 70 #[ouA o] u fun e u' => e = .returned (.bool (p o)) ∧ Fr (fun _ => False) u u') :
    Calls Try.prog 65 #[.slice ao l.length cap, .func (.func 70) #[] #[]] w fun e w' => e = .returned (.int .i64 (ixU p l 0)) ∧ Fr (fun _ => False) w w' := by
  have H := hide h
  have HC' := hide hC
  clear h hC
  go_enter Try.func65, Try.ntmps65
  go_wp2
  go_loopw [5, 8] (fun _ iv wr => ∃ (i : Nat), i ≤ l.length ∧ iv = .int .i64 i ∧ Hid (Fr (fun _ => False) w wr ∧ ixU p (l.drop i) i = ixU p l 0)) (fun _ iv _ => l.length - (intOf iv).toNat)
  case atStart => exact ⟨0, Nat.zero_le _, rfl, Fr.refl _ _, by simp⟩
  case round =>
    obtain ⟨i, hi, rfl, HI⟩ := hrel
    by_cases hil : i < l.length
    · obtain ⟨b, off, rfl, c0, c1, c2⟩ := ((unhide H).keep (unhide HI).1).ou hil
      have ht := (unhide HI).2
      rw [List.drop_eq_getElem_cons hil, ixU] at ht
      have R := unhide HC' wr (unhide HI).1 l[i]
      generalize l[i] = x at *
      have HT := hide ht
      clear ht
      unfold ouA at R
      cases hx : p x with
      | true =>
        rw [hx] at R HT
        clear hx
        have HT' : Hid (ixU p l 0 = (i : Int)) := hide (by have := unhide HT; simpa using this.symm)
        clear HT
        go_wp2_with fail
        refine R.mono ?_
        rintro e w1 ⟨rfl, hF⟩
        have HF := hide ((unhide HI).1.trans hF (fun _ _ t => t))
        clear hF R
        go_wp2
        go_ret
        exact ⟨by rw [unhide HT']; rfl, unhide HF⟩
      | false =>
        rw [hx] at R HT
        clear hx
        have HT' : Hid (ixU p (l.drop (i + 1)) (i + 1) = ixU p l 0) := hide (by have := unhide HT; simpa using this)
        clear HT
        go_wp2_with fail
        refine R.mono ?_
        rintro e w1 ⟨rfl, hF⟩
        have HF := hide ((unhide HI).1.trans hF (fun _ _ t => t))
        clear hF R
        go_wp2
        exact ⟨⟨i + 1, by omega, by go_num, unhide HF, unhide HT'⟩, by simp [intOf]; omega⟩
    · obtain rfl : i = l.length := by omega
      have ht := (unhide HI).2
      rw [List.drop_length] at ht
      have HN := hide ht
      have HF := hide (unhide HI).1
      clear ht HI H
      go_wp2
      go_ret
      exact ⟨by rw [← unhide HN]; rfl, unhide HF⟩

theorem hasU3 (w : World) (p : Ou → Bool) (ao : Option Addr) (cap : Nat) (l : List Ou) (h : CAt w ao (ouV l)) (hl : l.length ≤ 140737488355328)
    (hC : ∀ u, Fr (fun _ => False) w u → ∀ o, Calls Try.prog 70 #[ouA o] u fun e u' => e = .returned (.bool (p o)) ∧ Fr (fun _ => False) u u') :
    Calls Try.prog 44 #[.slice ao l.length cap, .func (.func 70) #[] #[]] w fun e w' => e = .returned (.bool (l.any p)) ∧ Fr (fun _ => False) w w' := by
  have R1 := hide (indexU3 w p ao cap l h hl hC)
  have HA := hide (ixU_any p l 0)
  generalize ixU p l 0 = m at *
  generalize l.any p = y at *
  clear h hC
  go_enter Try.func44, Try.ntmps44
  go_wp2_with fail
  refine (unhide R1).mono ?_
  rintro e w1 ⟨rfl, hF⟩
  have HF := hide hF
  clear hF
  go_wp2
  go_ret
  exact ⟨by rw [← unhide HA]; rfl, unhide HF⟩


/-- What holding answers. -/
def HoldPost (w : World) (dl : Int) (j : Jn) (e : Ending) (w' : World) : Prop := Fr (fun _ => False) w w' ∧
    ((∃ C, e = .returned (.func (.func 67) #[] #[.pointer (some ⟨C, 0, none⟩)]) ∧ Bx w' C (jC j) 46 ∧ (j.kind = 2 ∨ j.kind = 3)) ∨
     (∃ C, e = .returned (.func (.func 69) #[] #[.pointer (some ⟨C, 0, none⟩)]) ∧ Bx w' C (jC j) 46 ∧ ¬ (j.kind = 2 ∨ j.kind = 3) ∧ (j.kind = 1 ∧ lateB dl j = true)) ∨
     (e = .returned (.func (.func 70) #[] #[]) ∧ ¬ (j.kind = 2 ∨ j.kind = 3) ∧ ¬ (j.kind = 1 ∧ lateB dl j = true)))
theorem HoldPost.one {w w' : World} {dl : Int} {j : Jn} (hf : Fr (fun _ => False) w w') (C : Nat) (hC : Bx w' C (jC j) 46) (h : j.kind = 2 ∨ j.kind = 3) : HoldPost w dl j (.returned (.func (.func 67) #[] #[.pointer (some ⟨C, 0, none⟩)])) w' := ⟨hf, .inl ⟨C, rfl, hC, h⟩⟩
theorem HoldPost.two {w w' : World} {dl : Int} {j : Jn} (hf : Fr (fun _ => False) w w') (C : Nat) (hC : Bx w' C (jC j) 46) (h : ¬ (j.kind = 2 ∨ j.kind = 3)) (h2 : j.kind = 1 ∧ lateB dl j = true) : HoldPost w dl j (.returned (.func (.func 69) #[] #[.pointer (some ⟨C, 0, none⟩)])) w' := ⟨hf, .inr (.inl ⟨C, rfl, hC, h, h2⟩)⟩
theorem HoldPost.three {w w' : World} {dl : Int} {j : Jn} (hf : Fr (fun _ => False) w w') (h : ¬ (j.kind = 2 ∨ j.kind = 3)) (h2 : ¬ (j.kind = 1 ∧ lateB dl j = true)) : HoldPost w dl j (.returned (.func (.func 70) #[] #[])) w' := ⟨hf, .inr (.inr ⟨rfl, h, h2⟩)⟩

set_option maxHeartbeats 1000000 in
set_option maxRecDepth 20000 in
theorem holding_any (w : World) (dl : Int) (j : Jn) : Calls Try.prog 46 #[.int .i64 dl, .agg (jC j)] w fun e w' => HoldPost w dl j e w' := by
  have R1 := hide (fun (u : World) => isLate_any u dl j)
  obtain ⟨v, hv⟩ : ∃ v, v = w.alloc (.cells (jC j) 46) := ⟨_, rfl⟩
  have HF : Hid (Fr (fun _ => False) w v) := hide (by rw [hv]; exact (Fr.refl _ w).alloc _)
  have h1 : Bx v w.heap.size (jC j) 46 := by rw [hv]; exact Bx.new _ _ _
  obtain ⟨B, hB⟩ : ∃ B, B = w.heap.size := ⟨_, rfl⟩
  rw [← hB] at h1
  have H1 := hide h1
  have HV := hide hv
  have HB := hide hB
  clear hv hB h1
  obtain ⟨k, f, t, s, n, r⟩ := j
  have c0 : v.cell? ⟨B, 0, none⟩ = some (.int .i64 k) := (unhide H1).cell 0
  simp only [jC] at *
  go_enter Try.func46, Try.ntmps46
  go_upto_region 1 with (fail)
  rw [← unhide HV, ← unhide HB]
  clear HV
  rcases (by omega : (k = 2) ∨ (¬ k = 2 ∧ k = 3) ∨ (¬ k = 2 ∧ ¬ k = 3 ∧ ¬ k = 1) ∨ (¬ k = 2 ∧ ¬ k = 3 ∧ k = 1)) with x1 | ⟨x1, x2⟩ | ⟨x1, x2, x3⟩ | ⟨x1, x2, x3⟩
  · clear R1
    go_wp2
    go_ret
    exact HoldPost.one (unhide HF) B (unhide H1) (.inl x1)
  · clear R1
    go_wp2
    go_ret
    exact HoldPost.one (unhide HF) B (unhide H1) (.inr x2)
  · clear R1
    have hb2 : (k == 2) = false := by simp [x1]
    have hb3 : (k == 3) = false := by simp [x2]
    have hb1 : (k == 1) = false := by simp [x3]
    go_wp2
    go_ret
    exact HoldPost.three (unhide HF) (fun q => q.elim x1 x2) (fun q => x3 q.1)
  · subst x3
    have c1 : v.cell? ⟨B, 1, none⟩ = some (.int .i64 f) := (unhide H1).cell 1
    have c2 : v.cell? ⟨B, 2, none⟩ = some (.int .i64 t) := (unhide H1).cell 2
    have c3 : v.cell? ⟨B, 3, none⟩ = some (.int .i64 s) := (unhide H1).cell 3
    have c4 : v.cell? ⟨B, 4, none⟩ = some (.int .i64 n) := (unhide H1).cell 4
    have c5 : v.cell? ⟨B, 5, none⟩ = some (.bool r) := (unhide H1).cell 5
    go_wp2_with fail
    refine (unhide R1 _).mono ?_
    rintro e w1 ⟨rfl, hF⟩
    have HF2 := hide ((unhide HF).trans hF (fun _ _ t => t))
    have H2 := hide ((unhide H1).keep hF)
    clear hF R1 HF H1 c0 c1 c2 c3 c4 c5
    obtain ⟨y, hy⟩ : ∃ y, lateB dl ⟨1, f, t, s, n, r⟩ = y := ⟨_, rfl⟩
    rw [hy]
    have HY := hide hy
    clear hy
    cases y with
    | true =>
      go_wp2
      go_ret
      exact HoldPost.two (unhide HF2) B (unhide H2) (fun q => by rcases q with q | q <;> simp at q) ⟨rfl, unhide HY⟩
    | false =>
      go_wp2
      go_ret
      exact HoldPost.three (unhide HF2) (fun q => by rcases q with q | q <;> simp at q) (fun q => by have h := q.2; rw [unhide HY] at h; cases h)

theorem held_any (w : World) (A : Ad) (t : Tf) (ao : Option Addr) (cap : Nat) (l : List Ou) (h : CAt w ao (ouV l)) (hl : l.length ≤ 140737488355328) (n : Nat) (hn : n = l.length) (j : Jn) :
    Calls Try.prog 16 #[tv A t, .slice ao n cap, .agg (jC j)] w fun e w' => e = .returned (.bool (heldB t.delay l j)) ∧ Fr (fun _ => False) w w' := by
  subst hn
  have HE : Hid (heldB t.delay l j = l.any (holdB t.delay j)) := hide rfl
  have R1 := hide (fun (u : World) => holding_any u t.delay j)
  obtain ⟨v, hv⟩ : ∃ v, v = (w.alloc (.cells (tc A t) 27)).alloc (.cells (jC j) 46) := ⟨_, rfl⟩
  have HFV : Hid (Fr (fun _ => False) w v) := hide (by rw [hv]; exact ((Fr.refl _ w).alloc _).alloc _)
  have HTB : Hid (TB v w.heap.size A t) := hide (by rw [hv]; exact (TB.new w A t).keep ((Fr.refl _ _).alloc _))
  have HJ : Hid (Bx v (w.heap.size + 1) (jC j) 46) := hide (by
    rw [hv, ← heap_alloc w (.cells (tc A t) 27)]; exact Bx.new _ _ _)
  obtain ⟨B, hB⟩ : ∃ B, B = w.heap.size := ⟨_, rfl⟩
  have HB := hide hB
  rw [← hB] at HTB HJ
  have HV := hide hv
  have HL := hide (fun (u : World) (hu : Fr (fun _ => False) w u) => h.keep hu)
  have c12 : v.cell? ⟨B, 12, none⟩ = some (.int .i64 t.delay) := (unhide HTB).cell 12
  clear hv hB h HTB
  unfold tv
  unfold tc at HV ⊢
  go_enter Try.func16, Try.ntmps16
  generalize t.delay = dl at *
  generalize heldB dl l j = y at *
  obtain ⟨k, f, o, s, n, r⟩ := j
  simp only [jC] at *
  go_upto_region 1 with (fail)
  rw [← unhide HV, ← unhide HB]
  clear HV
  go_wp2_with (refine wpList_load_jn rfl (.tmp 5) rfl (g := B + 1) (j := ⟨k, f, o, s, n, r⟩) rfl (unhide HJ) ?_)
  refine (unhide R1 _).mono ?_
  rintro e w1 ⟨hF, hc⟩
  have HF1 := hide ((unhide HFV).trans hF (fun _ _ t => t))
  have HL1 := hide (unhide HL w1 (unhide HF1))
  clear hF R1 HL HJ c12 HFV
  rcases hc with ⟨C, rfl, hC, hk⟩ | ⟨C, rfl, hC, hk, hk2⟩ | ⟨rfl, hk, hk2⟩
  · have R := hide (hasU1 w1 C (holdB dl ⟨k, f, o, s, n, r⟩) ao cap l (unhide HL1) hl (fun u hu q => by
      have := hold1_any u C ⟨k, f, o, s, n, r⟩ (hC.keep hu) q
      rw [holdB_1 _ _ q hk]
      exact this))
    rw [← unhide HE] at R
    clear hk hC HE
    go_wp2_with fail
    refine (unhide R).mono ?_
    rintro e w2 ⟨rfl, hF⟩
    have HF2 := hide ((unhide HF1).trans hF (fun _ _ t => t))
    clear hF R
    go_wp2
    go_ret
    exact ⟨rfl, unhide HF2⟩
  · have R := hide (hasU2 w1 C (holdB dl ⟨k, f, o, s, n, r⟩) ao cap l (unhide HL1) hl (fun u hu q => by
      have := hold2_any u C ⟨k, f, o, s, n, r⟩ (hC.keep hu) q
      rw [holdB_2 _ _ q hk hk2]
      exact this))
    rw [← unhide HE] at R
    clear hk hk2 hC HE
    go_wp2_with fail
    refine (unhide R).mono ?_
    rintro e w2 ⟨rfl, hF⟩
    have HF2 := hide ((unhide HF1).trans hF (fun _ _ t => t))
    clear hF R
    go_wp2
    go_ret
    exact ⟨rfl, unhide HF2⟩
  · have R := hide (hasU3 w1 (holdB dl ⟨k, f, o, s, n, r⟩) ao cap l (unhide HL1) hl (fun u hu q => by
      have := hold3_any u q
      rw [holdB_3 _ _ q hk hk2]
      exact this))
    rw [← unhide HE] at R
    clear hk hk2 HE
    go_wp2_with fail
    refine (unhide R).mono ?_
    rintro e w2 ⟨rfl, hF⟩
    have HF2 := hide ((unhide HF1).trans hF (fun _ _ t => t))
    clear hF R
    go_wp2
    go_ret
    exact ⟨rfl, unhide HF2⟩

theorem rright_any (w : World) (ao : Option Addr) (cap : Nat) (l : List Ou) (h : CAt w ao (ouV l)) (hl : l.length ≤ 140737488355328) :
    Calls Try.prog 15 #[.slice ao l.length cap] w fun e w' => e = .returned (.int .i64 (ousE l)) ∧ Fr (fun _ => False) w w' := by
  by_cases hs : l.length ≤ 100
  · have R := hide (hasU0 w (fun o => !ouOk o) ao cap l h hl (fun u _ o => noOutage_any u o))
    have HE : Hid (ousE l = if l.any (fun o => !ouOk o) then 80 else 0) := hide (by
      unfold ousE ousOk
      rw [decide_eq_true hs, Bool.true_and, List.all_eq_not_any_not]
      cases l.any (fun o => !ouOk o) <;> rfl)
    generalize l.any (fun o => !ouOk o) = y at *
    generalize ousE l = E at *
    clear h
    have hs' : ¬ (100 : Int) < (l.length : Int) := by omega
    go_enter Try.func15, Try.ntmps15
    go_wp2_with fail
    refine (unhide R).mono ?_
    rintro e w1 ⟨rfl, hF⟩
    have HF := hide hF
    clear hF R
    cases y
    all_goals
      go_wp2
      go_ret
      exact ⟨by rw [unhide HE]; rfl, unhide HF⟩
  · have HE : Hid (ousE l = 80) := hide (by unfold ousE ousOk; rw [decide_eq_false hs]; rfl)
    have hs' : (100 : Int) < (l.length : Int) := by omega
    generalize ousE l = E at *
    clear h hs
    go_enter Try.func15, Try.ntmps15
    go_wp2
    go_ret
    exact ⟨by rw [unhide HE]; rfl, Fr.refl _ _⟩

end Go.Proofs.Ytdbnppbfoohjjaa

