import Derived.Test.YtjgbllfppomcmaaGreatRF0
import Derived.Test.YtjgbllfppomcmaaGreatQVZ
import Derived.Test.YtjgbllfppomcmaaGreatPJ0
/- The program's refund: its closures, ContainsFunc, Right, Held. -/
namespace Go.Proofs.YtjgbllfppomcmaaGreat
open Go.RowKit

/-- The first index that is as wanted, or -1. -/
def ixU (p : Ou → Bool) : List Ou → Nat → Int
  | [], _ => -1
  | b :: r, i => if p b then (i : Int) else ixU p r (i + 1)

theorem ixU_any (p : Ou → Bool) : ∀ (l : List Ou) (i : Nat), decide (0 ≤ ixU p l i) = l.any p
  | [], _ => rfl
  | b :: r, i => by
    rw [ixU, List.any_cons]
    cases p b with
    | true => simp
    | false => simpa using ixU_any p r (i + 1)

theorem hold1_any (w : World) (C : Nat) (j : Jn) (hC : Bx w C (jC j) 124) (o : Ou) : Calls Tryz.prog 168 #[ouA o, .pointer (some ⟨C, 0, none⟩)] w fun e w' => e = .returned (.bool (decide (o.st = j.fr) && decide (o.fr ≤ j.st) && decide (j.st < o.tl))) ∧ Fr (fun _ => False) w w' := by
  obtain ⟨v, hv⟩ : ∃ v, v = w.alloc (.cells (ouC o) 57) := ⟨_, rfl⟩
  have hF : Fr (fun _ => False) w v := by rw [hv]; exact (Fr.refl _ w).alloc _
  have HF := hide hF
  have h1 : Bx v w.heap.size (ouC o) 57 := by rw [hv]; exact Bx.new _ _ _
  have h2 := hC.keep hF
  obtain ⟨B, hB⟩ : ∃ B, B = w.heap.size := ⟨_, rfl⟩
  rw [← hB] at h1
  have HV := hide hv
  have HB := hide hB
  obtain ⟨st, fr, tl⟩ := o
  obtain ⟨k, f, t, s, n, r⟩ := j
  simp only [ouC, jC] at *
  have c0 : v.cell? ⟨B, 0, none⟩ = some (.int .i64 st) := h1.cell 0
  have c1 : v.cell? ⟨B, 1, none⟩ = some (.int .i64 fr) := h1.cell 1
  have c2 : v.cell? ⟨B, 2, none⟩ = some (.int .i64 tl) := h1.cell 2
  have j1 : v.cell? ⟨C, 1, none⟩ = some (.int .i64 f) := h2.cell 1
  have j2 : v.cell? ⟨C, 2, none⟩ = some (.int .i64 t) := h2.cell 2
  have j3 : v.cell? ⟨C, 3, none⟩ = some (.int .i64 s) := h2.cell 3
  have j4 : v.cell? ⟨C, 4, none⟩ = some (.int .i64 n) := h2.cell 4
  clear hv hB h1 h2 hC hF
  unfold ouA
  go_enter Tryz.func168, Tryz.ntmps168
  go_upto_region 1 with (fail)
  rw [← unhide HV, ← unhide HB]
  clear HV
  rcases (by omega : (¬ st = f) ∨ (st = f ∧ ¬ fr ≤ s) ∨ (st = f ∧ fr ≤ s ∧ ¬ s < tl) ∨ (st = f ∧ fr ≤ s ∧ s < tl)) with x1 | ⟨x1, x2⟩ | ⟨x1, x2, x3⟩ | ⟨x1, x2, x3⟩
  all_goals
    go_wp2
    go_ret
    exact ⟨by simp [*] <;> (intros; omega), unhide HF⟩

theorem hold2_any (w : World) (C : Nat) (j : Jn) (hC : Bx w C (jC j) 124) (o : Ou) : Calls Tryz.prog 170 #[ouA o, .pointer (some ⟨C, 0, none⟩)] w fun e w' => e = .returned (.bool ((decide (o.st = j.fr) || decide (o.st = j.to)) && decide (o.fr ≤ j.en) && decide (j.st < o.tl))) ∧ Fr (fun _ => False) w w' := by
  obtain ⟨v, hv⟩ : ∃ v, v = w.alloc (.cells (ouC o) 57) := ⟨_, rfl⟩
  have hF : Fr (fun _ => False) w v := by rw [hv]; exact (Fr.refl _ w).alloc _
  have HF := hide hF
  have h1 : Bx v w.heap.size (ouC o) 57 := by rw [hv]; exact Bx.new _ _ _
  have h2 := hC.keep hF
  obtain ⟨B, hB⟩ : ∃ B, B = w.heap.size := ⟨_, rfl⟩
  rw [← hB] at h1
  have HV := hide hv
  have HB := hide hB
  obtain ⟨st, fr, tl⟩ := o
  obtain ⟨k, f, t, s, n, r⟩ := j
  simp only [ouC, jC] at *
  have c0 : v.cell? ⟨B, 0, none⟩ = some (.int .i64 st) := h1.cell 0
  have c1 : v.cell? ⟨B, 1, none⟩ = some (.int .i64 fr) := h1.cell 1
  have c2 : v.cell? ⟨B, 2, none⟩ = some (.int .i64 tl) := h1.cell 2
  have j1 : v.cell? ⟨C, 1, none⟩ = some (.int .i64 f) := h2.cell 1
  have j2 : v.cell? ⟨C, 2, none⟩ = some (.int .i64 t) := h2.cell 2
  have j3 : v.cell? ⟨C, 3, none⟩ = some (.int .i64 s) := h2.cell 3
  have j4 : v.cell? ⟨C, 4, none⟩ = some (.int .i64 n) := h2.cell 4
  clear hv hB h1 h2 hC hF
  unfold ouA
  go_enter Tryz.func170, Tryz.ntmps170
  go_upto_region 1 with (fail)
  rw [← unhide HV, ← unhide HB]
  clear HV
  rcases (by omega : (¬ st = f ∧ ¬ st = t) ∨ (st = f ∧ ¬ fr ≤ n) ∨ (st = f ∧ fr ≤ n ∧ ¬ s < tl) ∨ (st = f ∧ fr ≤ n ∧ s < tl) ∨ (¬ st = f ∧ st = t ∧ ¬ fr ≤ n) ∨ (¬ st = f ∧ st = t ∧ fr ≤ n ∧ ¬ s < tl) ∨ (¬ st = f ∧ st = t ∧ fr ≤ n ∧ s < tl)) with ⟨x1, x2⟩ | ⟨x1, x2⟩ | ⟨x1, x2, x3⟩ | ⟨x1, x2, x3⟩ | ⟨x1, x2, x3⟩ | ⟨x1, x2, x3, x4⟩ | ⟨x1, x2, x3, x4⟩
  all_goals
    go_wp2
    go_ret
    exact ⟨by simp [*] <;> (intros; omega), unhide HF⟩

theorem hold3_any (w : World) (o : Ou) : Calls Tryz.prog 171 #[ouA o] w fun e w' => e = .returned (.bool false) ∧ Fr (fun _ => False) w w' := by
  have HF : Hid (Fr (fun _ => False) w (w.alloc (.cells (ouC o) 57))) := hide ((Fr.refl _ _).alloc _)
  obtain ⟨st, fr, tl⟩ := o
  simp only [ouC] at *
  unfold ouA
  go_enter Tryz.func171, Tryz.ntmps171
  go_wp2
  go_ret
  exact ⟨rfl, unhide HF⟩

theorem indexU0 (w : World) (p : Ou → Bool) (ao : Option Addr) (cap : Nat) (l : List Ou) (h : CAt w ao (ouV l)) (hl : l.length ≤ 140737488355328)
    (hC : ∀ u, Fr (fun _ => False) w u → ∀ o, Calls Tryz.prog 57 #[ouA o] u fun e u' => e = .returned (.bool (p o)) ∧ Fr (fun _ => False) u u') :
    Calls Tryz.prog 104 #[.slice ao l.length cap, .func (.func 57) #[] #[]] w fun e w' => e = .returned (.int .i64 (ixU p l 0)) ∧ Fr (fun _ => False) w w' := by
  have H := hide h
  have HC' := hide hC
  clear h hC
  go_enter Tryz.func104, Tryz.ntmps104
  go_wp2
  go_loopw [5, 8] (fun _ iv wr => ∃ (i : Nat), i ≤ l.length ∧ iv = .int .i64 i ∧ Hid (Fr (fun _ => False) w wr ∧ ixU p (l.drop i) i = ixU p l 0)) (fun _ iv _ => l.length - (intOf iv).toNat)
  case atStart => exact ⟨0, Nat.zero_le _, rfl, Fr.refl _ _, by simp⟩
  case round =>
    obtain ⟨i, hi, rfl, HI⟩ := hrel
    by_cases hil : i < l.length
    · obtain ⟨b, off, rfl, c0, c1, c2⟩ := ((unhide H).keep (unhide HI).1).ou hil
      have ht := (unhide HI).2
      rw [List.drop_eq_getElem_cons hil, ixU] at ht
      have R := unhide HC' wr (unhide HI).1 l[i]
      generalize l[i] = x at *
      have HT := hide ht
      clear ht
      unfold ouA at R
      cases hx : p x with
      | true =>
        rw [hx] at R HT
        clear hx
        have HT' : Hid (ixU p l 0 = (i : Int)) := hide (by have := unhide HT; simpa using this.symm)
        clear HT
        go_wp2_with fail
        refine R.mono ?_
        rintro e w1 ⟨rfl, hF⟩
        have HF := hide ((unhide HI).1.trans hF (fun _ _ t => t))
        clear hF R
        go_wp2
        go_ret
        exact ⟨by rw [unhide HT']; rfl, unhide HF⟩
      | false =>
        rw [hx] at R HT
        clear hx
        have HT' : Hid (ixU p (l.drop (i + 1)) (i + 1) = ixU p l 0) := hide (by have := unhide HT; simpa using this)
        clear HT
        go_wp2_with fail
        refine R.mono ?_
        rintro e w1 ⟨rfl, hF⟩
        have HF := hide ((unhide HI).1.trans hF (fun _ _ t => t))
        clear hF R
        go_wp2
        exact ⟨⟨i + 1, by omega, by go_num, unhide HF, unhide HT'⟩, by simp [intOf]; omega⟩
    · obtain rfl : i = l.length := by omega
      have ht := (unhide HI).2
      rw [List.drop_length] at ht
      have HN := hide ht
      have HF := hide (unhide HI).1
      clear ht HI H
      go_wp2
      go_ret
      exact ⟨by rw [← unhide HN]; rfl, unhide HF⟩

theorem hasU0 (w : World) (p : Ou → Bool) (ao : Option Addr) (cap : Nat) (l : List Ou) (h : CAt w ao (ouV l)) (hl : l.length ≤ 140737488355328)
    (hC : ∀ u, Fr (fun _ => False) w u → ∀ o, Calls Tryz.prog 57 #[ouA o] u fun e u' => e = .returned (.bool (p o)) ∧ Fr (fun _ => False) u u') :
    Calls Tryz.prog 56 #[.slice ao l.length cap, .func (.func 57) #[] #[]] w fun e w' => e = .returned (.bool (l.any p)) ∧ Fr (fun _ => False) w w' := by
  have R1 := hide (indexU0 w p ao cap l h hl hC)
  have HA := hide (ixU_any p l 0)
  generalize ixU p l 0 = m at *
  generalize l.any p = y at *
  clear h hC
  go_enter Tryz.func56, Tryz.ntmps56
  go_wp2_with fail
  refine (unhide R1).mono ?_
  rintro e w1 ⟨rfl, hF⟩
  have HF := hide hF
  clear hF
  go_wp2
  go_ret
  exact ⟨by rw [← unhide HA]; rfl, unhide HF⟩

theorem indexU1 (w : World) (C : Nat) (p : Ou → Bool) (ao : Option Addr) (cap : Nat) (l : List Ou) (h : CAt w ao (ouV l)) (hl : l.length ≤ 140737488355328)
    (hC : ∀ u, Fr (fun _ => False) w u → ∀ o, Calls Tryz.prog 168 #[ouA o, .pointer (some ⟨C, 0, none⟩)] u fun e u' => e = .returned (.bool (p o)) ∧ Fr (fun _ => False) u u') :
    Calls Tryz.prog 104 #[.slice ao l.length cap, .func (.func 168) #[] #[.pointer (some ⟨C, 0, none⟩)]] w fun e w' => e = .returned (.int .i64 (ixU p l 0)) ∧ Fr (fun _ => False) w w' := by
  have H := hide h
  have HC' := hide hC
  clear h hC
  go_enter Tryz.func104, Tryz.ntmps104
  go_wp2
  go_loopw [5, 8] (fun _ iv wr => ∃ (i : Nat), i ≤ l.length ∧ iv = .int .i64 i ∧ Hid (Fr (fun _ => False) w wr ∧ ixU p (l.drop i) i = ixU p l 0)) (fun _ iv _ => l.length - (intOf iv).toNat)
  case atStart => exact ⟨0, Nat.zero_le _, rfl, Fr.refl _ _, by simp⟩
  case round =>
    obtain ⟨i, hi, rfl, HI⟩ := hrel
    by_cases hil : i < l.length
    · obtain ⟨b, off, rfl, c0, c1, c2⟩ := ((unhide H).keep (unhide HI).1).ou hil
      have ht := (unhide HI).2
      rw [List.drop_eq_getElem_cons hil, ixU] at ht
      have R := unhide HC' wr (unhide HI).1 l[i]
      generalize l[i] = x at *
      have HT := hide ht
      clear ht
      unfold ouA at R
      cases hx : p x with
      | true =>
        rw [hx] at R HT
        clear hx
        have HT' : Hid (ixU p l 0 = (i : Int)) := hide (by have := unhide HT; simpa using this.symm)
        clear HT
        go_wp2_with fail
        refine R.mono ?_
        rintro e w1 ⟨rfl, hF⟩
        have HF := hide ((unhide HI).1.trans hF (fun _ _ t => t))
        clear hF R
        go_wp2
        go_ret
        exact ⟨by rw [unhide HT']; rfl, unhide HF⟩
      | false =>
        rw [hx] at R HT
        clear hx
        have HT' : Hid (ixU p (l.drop (i + 1)) (i + 1) = ixU p l 0) := hide (by have := unhide HT; simpa using this)
        clear HT
        go_wp2_with fail
        refine R.mono ?_
        rintro e w1 ⟨rfl, hF⟩
        have HF := hide ((unhide HI).1.trans hF (fun _ _ t => t))
        clear hF R
        go_wp2
        exact ⟨⟨i + 1, by omega, by go_num, unhide HF, unhide HT'⟩, by simp [intOf]; omega⟩
    · obtain rfl : i = l.length := by omega
      have ht := (unhide HI).2
      rw [List.drop_length] at ht
      have HN := hide ht
      have HF := hide (unhide HI).1
      clear ht HI H
      go_wp2
      go_ret
      exact ⟨by rw [← unhide HN]; rfl, unhide HF⟩

theorem hasU1 (w : World) (C : Nat) (p : Ou → Bool) (ao : Option Addr) (cap : Nat) (l : List Ou) (h : CAt w ao (ouV l)) (hl : l.length ≤ 140737488355328)
    (hC : ∀ u, Fr (fun _ => False) w u → ∀ o, Calls Tryz.prog 168 #[ouA o, .pointer (some ⟨C, 0, none⟩)] u fun e u' => e = .returned (.bool (p o)) ∧ Fr (fun _ => False) u u') :
    Calls Tryz.prog 56 #[.slice ao l.length cap, .func (.func 168) #[] #[.pointer (some ⟨C, 0, none⟩)]] w fun e w' => e = .returned (.bool (l.any p)) ∧ Fr (fun _ => False) w w' := by
  have R1 := hide (indexU1 w C p ao cap l h hl hC)
  have HA := hide (ixU_any p l 0)
  generalize ixU p l 0 = m at *
  generalize l.any p = y at *
  clear h hC
  go_enter Tryz.func56, Tryz.ntmps56
  go_wp2_with fail
  refine (unhide R1).mono ?_
  rintro e w1 ⟨rfl, hF⟩
  have HF := hide hF
  clear hF
  go_wp2
  go_ret
  exact ⟨by rw [← unhide HA]; rfl, unhide HF⟩

theorem indexU2 (w : World) (C : Nat) (p : Ou → Bool) (ao : Option Addr) (cap : Nat) (l : List Ou) (h : CAt w ao (ouV l)) (hl : l.length ≤ 140737488355328)
    (hC : ∀ u, Fr (fun _ => False) w u → ∀ o, Calls Tryz.prog 170 #[ouA o, .pointer (some ⟨C, 0, none⟩)] u fun e u' => e = .returned (.bool (p o)) ∧ Fr (fun _ => False) u u') :
    Calls Tryz.prog 104 #[.slice ao l.length cap, .func (.func 170) #[] #[.pointer (some ⟨C, 0, none⟩)]] w fun e w' => e = .returned (.int .i64 (ixU p l 0)) ∧ Fr (fun _ => False) w w' := by
  have H := hide h
  have HC' := hide hC
  clear h hC
  go_enter Tryz.func104, Tryz.ntmps104
  go_wp2
  go_loopw [5, 8] (fun _ iv wr => ∃ (i : Nat), i ≤ l.length ∧ iv = .int .i64 i ∧ Hid (Fr (fun _ => False) w wr ∧ ixU p (l.drop i) i = ixU p l 0)) (fun _ iv _ => l.length - (intOf iv).toNat)
  case atStart => exact ⟨0, Nat.zero_le _, rfl, Fr.refl _ _, by simp⟩
  case round =>
    obtain ⟨i, hi, rfl, HI⟩ := hrel
    by_cases hil : i < l.length
    · obtain ⟨b, off, rfl, c0, c1, c2⟩ := ((unhide H).keep (unhide HI).1).ou hil
      have ht := (unhide HI).2
      rw [List.drop_eq_getElem_cons hil, ixU] at ht
      have R := unhide HC' wr (unhide HI).1 l[i]
      generalize l[i] = x at *
      have HT := hide ht
      clear ht
      unfold ouA at R
      cases hx : p x with
      | true =>
        rw [hx] at R HT
        clear hx
        have HT' : Hid (ixU p l 0 = (i : Int)) := hide (by have := unhide HT; simpa using this.symm)
        clear HT
        go_wp2_with fail
        refine R.mono ?_
        rintro e w1 ⟨rfl, hF⟩
        have HF := hide ((unhide HI).1.trans hF (fun _ _ t => t))
        clear hF R
        go_wp2
        go_ret
        exact ⟨by rw [unhide HT']; rfl, unhide HF⟩
      | false =>
        rw [hx] at R HT
        clear hx
        have HT' : Hid (ixU p (l.drop (i + 1)) (i + 1) = ixU p l 0) := hide (by have := unhide HT; simpa using this)
        clear HT
        go_wp2_with fail
        refine R.mono ?_
        rintro e w1 ⟨rfl, hF⟩
        have HF := hide ((unhide HI).1.trans hF (fun _ _ t => t))
        clear hF R
        go_wp2
        exact ⟨⟨i + 1, by omega, by go_num, unhide HF, unhide HT'⟩, by simp [intOf]; omega⟩
    · obtain rfl : i = l.length := by omega
      have ht := (unhide HI).2
      rw [List.drop_length] at ht
      have HN := hide ht
      have HF := hide (unhide HI).1
      clear ht HI H
      go_wp2
      go_ret
      exact ⟨by rw [← unhide HN]; rfl, unhide HF⟩

theorem hasU2 (w : World) (C : Nat) (p : Ou → Bool) (ao : Option Addr) (cap : Nat) (l : List Ou) (h : CAt w ao (ouV l)) (hl : l.length ≤ 140737488355328)
    (hC : ∀ u, Fr (fun _ => False) w u → ∀ o, Calls Tryz.prog 170 #[ouA o, .pointer (some ⟨C, 0, none⟩)] u fun e u' => e = .returned (.bool (p o)) ∧ Fr (fun _ => False) u u') :
    Calls Tryz.prog 56 #[.slice ao l.length cap, .func (.func 170) #[] #[.pointer (some ⟨C, 0, none⟩)]] w fun e w' => e = .returned (.bool (l.any p)) ∧ Fr (fun _ => False) w w' := by
  have R1 := hide (indexU2 w C p ao cap l h hl hC)
  have HA := hide (ixU_any p l 0)
  generalize ixU p l 0 = m at *
  generalize l.any p = y at *
  clear h hC
  go_enter Tryz.func56, Tryz.ntmps56
  go_wp2_with fail
  refine (unhide R1).mono ?_
  rintro e w1 ⟨rfl, hF⟩
  have HF := hide hF
  clear hF
  go_wp2
  go_ret
  exact ⟨by rw [← unhide HA]; rfl, unhide HF⟩

theorem indexU3 (w : World) (p : Ou → Bool) (ao : Option Addr) (cap : Nat) (l : List Ou) (h : CAt w ao (ouV l)) (hl : l.length ≤ 140737488355328)
    (hC : ∀ u, Fr (fun _ => False) w u → ∀ o, Calls Tryz.prog 171 #[ouA o] u fun e u' => e = .returned (.bool (p o)) ∧ Fr (fun _ => False) u u') :
    Calls Tryz.prog 104 #[.slice ao l.length cap, .func (.func 171) #[] #[]] w fun e w' => e = .returned (.int .i64 (ixU p l 0)) ∧ Fr (fun _ => False) w w' := by
  have H := hide h
  have HC' := hide hC
  clear h hC
  go_enter Tryz.func104, Tryz.ntmps104
  go_wp2
  go_loopw [5, 8] (fun _ iv wr => ∃ (i : Nat), i ≤ l.length ∧ iv = .int .i64 i ∧ Hid (Fr (fun _ => False) w wr ∧ ixU p (l.drop i) i = ixU p l 0)) (fun _ iv _ => l.length - (intOf iv).toNat)
  case atStart => exact ⟨0, Nat.zero_le _, rfl, Fr.refl _ _, by simp⟩
  case round =>
    obtain ⟨i, hi, rfl, HI⟩ := hrel
    by_cases hil : i < l.length
    · obtain ⟨b, off, rfl, c0, c1, c2⟩ := ((unhide H).keep (unhide HI).1).ou hil
      have ht := (unhide HI).2
      rw [List.drop_eq_getElem_cons hil, ixU] at ht
      have R := unhide HC' wr (unhide HI).1 l[i]
      generalize l[i] = x at *
      have HT := hide ht
      clear ht
      unfold ouA at R
      cases hx : p x with
      | true =>
        rw [hx] at R HT
        clear hx
        have HT' : Hid (ixU p l 0 = (i : Int)) := hide (by have := unhide HT; simpa using this.symm)
        clear HT
        go_wp2_with fail
        refine R.mono ?_
        rintro e w1 ⟨rfl, hF⟩
        have HF := hide ((unhide HI).1.trans hF (fun _ _ t => t))
        clear hF R
        go_wp2
        go_ret
        exact ⟨by rw [unhide HT']; rfl, unhide HF⟩
      | false =>
        rw [hx] at R HT
        clear hx
        have HT' : Hid (ixU p (l.drop (i + 1)) (i + 1) = ixU p l 0) := hide (by have := unhide HT; simpa using this)
        clear HT
        go_wp2_with fail
        refine R.mono ?_
        rintro e w1 ⟨rfl, hF⟩
        have HF := hide ((unhide HI).1.trans hF (fun _ _ t => t))
        clear hF R
        go_wp2
        exact ⟨⟨i + 1, by omega, by go_num, unhide HF, unhide HT'⟩, by simp [intOf]; omega⟩
    · obtain rfl : i = l.length := by omega
      have ht := (unhide HI).2
      rw [List.drop_length] at ht
      have HN := hide ht
      have HF := hide (unhide HI).1
      clear ht HI H
      go_wp2
      go_ret
      exact ⟨by rw [← unhide HN]; rfl, unhide HF⟩

theorem hasU3 (w : World) (p : Ou → Bool) (ao : Option Addr) (cap : Nat) (l : List Ou) (h : CAt w ao (ouV l)) (hl : l.length ≤ 140737488355328)
    (hC : ∀ u, Fr (fun _ => False) w u → ∀ o, Calls Tryz.prog 171 #[ouA o] u fun e u' => e = .returned (.bool (p o)) ∧ Fr (fun _ => False) u u') :
    Calls Tryz.prog 56 #[.slice ao l.length cap, .func (.func 171) #[] #[]] w fun e w' => e = .returned (.bool (l.any p)) ∧ Fr (fun _ => False) w w' := by
  have R1 := hide (indexU3 w p ao cap l h hl hC)
  have HA := hide (ixU_any p l 0)
  generalize ixU p l 0 = m at *
  generalize l.any p = y at *
  clear h hC
  go_enter Tryz.func56, Tryz.ntmps56
  go_wp2_with fail
  refine (unhide R1).mono ?_
  rintro e w1 ⟨rfl, hF⟩
  have HF := hide hF
  clear hF
  go_wp2
  go_ret
  exact ⟨by rw [← unhide HA]; rfl, unhide HF⟩


/-- What holding answers. -/
def HoldPost (w : World) (dl : Int) (j : Jn) (e : Ending) (w' : World) : Prop := Fr (fun _ => False) w w' ∧
    ((∃ C, e = .returned (.func (.func 168) #[] #[.pointer (some ⟨C, 0, none⟩)]) ∧ Bx w' C (jC j) 124 ∧ (j.kind = 2 ∨ j.kind = 3)) ∨
     (∃ C, e = .returned (.func (.func 170) #[] #[.pointer (some ⟨C, 0, none⟩)]) ∧ Bx w' C (jC j) 124 ∧ ¬ (j.kind = 2 ∨ j.kind = 3) ∧ (j.kind = 1 ∧ lateB dl j = true)) ∨
     (e = .returned (.func (.func 171) #[] #[]) ∧ ¬ (j.kind = 2 ∨ j.kind = 3) ∧ ¬ (j.kind = 1 ∧ lateB dl j = true)))
theorem HoldPost.one {w w' : World} {dl : Int} {j : Jn} (hf : Fr (fun _ => False) w w') (C : Nat) (hC : Bx w' C (jC j) 124) (h : j.kind = 2 ∨ j.kind = 3) : HoldPost w dl j (.returned (.func (.func 168) #[] #[.pointer (some ⟨C, 0, none⟩)])) w' := ⟨hf, .inl ⟨C, rfl, hC, h⟩⟩
theorem HoldPost.two {w w' : World} {dl : Int} {j : Jn} (hf : Fr (fun _ => False) w w') (C : Nat) (hC : Bx w' C (jC j) 124) (h : ¬ (j.kind = 2 ∨ j.kind = 3)) (h2 : j.kind = 1 ∧ lateB dl j = true) : HoldPost w dl j (.returned (.func (.func 170) #[] #[.pointer (some ⟨C, 0, none⟩)])) w' := ⟨hf, .inr (.inl ⟨C, rfl, hC, h, h2⟩)⟩
theorem HoldPost.three {w w' : World} {dl : Int} {j : Jn} (hf : Fr (fun _ => False) w w') (h : ¬ (j.kind = 2 ∨ j.kind = 3)) (h2 : ¬ (j.kind = 1 ∧ lateB dl j = true)) : HoldPost w dl j (.returned (.func (.func 171) #[] #[])) w' := ⟨hf, .inr (.inr ⟨rfl, h, h2⟩)⟩

set_option maxHeartbeats 1000000 in
set_option maxRecDepth 20000 in
theorem holding_any (w : World) (dl : Int) (j : Jn) : Calls Tryz.prog 141 #[.int .i64 dl, .agg (jC j)] w fun e w' => HoldPost w dl j e w' := by
  have R1 := hide (fun (u : World) => isLate_any u dl j)
  obtain ⟨v, hv⟩ : ∃ v, v = w.alloc (.cells (jC j) 124) := ⟨_, rfl⟩
  have HF : Hid (Fr (fun _ => False) w v) := hide (by rw [hv]; exact (Fr.refl _ w).alloc _)
  have h1 : Bx v w.heap.size (jC j) 124 := by rw [hv]; exact Bx.new _ _ _
  obtain ⟨B, hB⟩ : ∃ B, B = w.heap.size := ⟨_, rfl⟩
  rw [← hB] at h1
  have H1 := hide h1
  have HV := hide hv
  have HB := hide hB
  clear hv hB h1
  obtain ⟨k, f, t, s, n, r⟩ := j
  have c0 : v.cell? ⟨B, 0, none⟩ = some (.int .i64 k) := (unhide H1).cell 0
  simp only [jC] at *
  go_enter Tryz.func141, Tryz.ntmps141
  go_upto_region 1 with (fail)
  rw [← unhide HV, ← unhide HB]
  clear HV
  rcases (by omega : (k = 2) ∨ (¬ k = 2 ∧ k = 3) ∨ (¬ k = 2 ∧ ¬ k = 3 ∧ ¬ k = 1) ∨ (¬ k = 2 ∧ ¬ k = 3 ∧ k = 1)) with x1 | ⟨x1, x2⟩ | ⟨x1, x2, x3⟩ | ⟨x1, x2, x3⟩
  · clear R1
    go_wp2
    go_ret
    exact HoldPost.one (unhide HF) B (unhide H1) (.inl x1)
  · clear R1
    go_wp2
    go_ret
    exact HoldPost.one (unhide HF) B (unhide H1) (.inr x2)
  · clear R1
    have hb2 : (k == 2) = false := by simp [x1]
    have hb3 : (k == 3) = false := by simp [x2]
    have hb1 : (k == 1) = false := by simp [x3]
    go_wp2
    go_ret
    exact HoldPost.three (unhide HF) (fun q => q.elim x1 x2) (fun q => x3 q.1)
  · subst x3
    have c1 : v.cell? ⟨B, 1, none⟩ = some (.int .i64 f) := (unhide H1).cell 1
    have c2 : v.cell? ⟨B, 2, none⟩ = some (.int .i64 t) := (unhide H1).cell 2
    have c3 : v.cell? ⟨B, 3, none⟩ = some (.int .i64 s) := (unhide H1).cell 3
    have c4 : v.cell? ⟨B, 4, none⟩ = some (.int .i64 n) := (unhide H1).cell 4
    have c5 : v.cell? ⟨B, 5, none⟩ = some (.bool r) := (unhide H1).cell 5
    go_wp2_with fail
    refine (unhide R1 _).mono ?_
    rintro e w1 ⟨rfl, hF⟩
    have HF2 := hide ((unhide HF).trans hF (fun _ _ t => t))
    have H2 := hide ((unhide H1).keep hF)
    clear hF R1 HF H1 c0 c1 c2 c3 c4 c5
    obtain ⟨y, hy⟩ : ∃ y, lateB dl ⟨1, f, t, s, n, r⟩ = y := ⟨_, rfl⟩
    rw [hy]
    have HY := hide hy
    clear hy
    cases y with
    | true =>
      go_wp2
      go_ret
      exact HoldPost.two (unhide HF2) B (unhide H2) (fun q => by rcases q with q | q <;> simp at q) ⟨rfl, unhide HY⟩
    | false =>
      go_wp2
      go_ret
      exact HoldPost.three (unhide HF2) (fun q => by rcases q with q | q <;> simp at q) (fun q => by have h := q.2; rw [unhide HY] at h; cases h)

theorem held_any (w : World) (A : Ad) (t : Tf) (ao : Option Addr) (cap : Nat) (l : List Ou) (h : CAt w ao (ouV l)) (hl : l.length ≤ 140737488355328) (n : Nat) (hn : n = l.length) (j : Jn) :
    Calls Tryz.prog 110 #[tv A t, .slice ao n cap, .agg (jC j)] w fun e w' => e = .returned (.bool (heldB t.delay l j)) ∧ Fr (fun _ => False) w w' := by
  subst hn
  have HE : Hid (heldB t.delay l j = l.any (holdB t.delay j)) := hide rfl
  have R1 := hide (fun (u : World) => holding_any u t.delay j)
  obtain ⟨v, hv⟩ : ∃ v, v = (w.alloc (.cells (tc A t) 27)).alloc (.cells (jC j) 124) := ⟨_, rfl⟩
  have HFV : Hid (Fr (fun _ => False) w v) := hide (by rw [hv]; exact ((Fr.refl _ w).alloc _).alloc _)
  have HTB : Hid (TB v w.heap.size A t) := hide (by rw [hv]; exact (TB.new w A t).keep ((Fr.refl _ _).alloc _))
  have HJ : Hid (Bx v (w.heap.size + 1) (jC j) 124) := hide (by
    rw [hv, ← heap_alloc w (.cells (tc A t) 27)]; exact Bx.new _ _ _)
  obtain ⟨B, hB⟩ : ∃ B, B = w.heap.size := ⟨_, rfl⟩
  have HB := hide hB
  rw [← hB] at HTB HJ
  have HV := hide hv
  have HL := hide (fun (u : World) (hu : Fr (fun _ => False) w u) => h.keep hu)
  have c12 : v.cell? ⟨B, 12, none⟩ = some (.int .i64 t.delay) := (unhide HTB).cell 12
  clear hv hB h HTB
  unfold tv
  unfold tc at HV ⊢
  go_enter Tryz.func110, Tryz.ntmps110
  generalize t.delay = dl at *
  generalize heldB dl l j = y at *
  obtain ⟨k, f, o, s, n, r⟩ := j
  simp only [jC] at *
  go_upto_region 1 with (fail)
  rw [← unhide HV, ← unhide HB]
  clear HV
  go_wp2_with (refine wpList_load_jn rfl (.tmp 5) rfl (g := B + 1) (j := ⟨k, f, o, s, n, r⟩) rfl (unhide HJ) ?_)
  refine (unhide R1 _).mono ?_
  rintro e w1 ⟨hF, hc⟩
  have HF1 := hide ((unhide HFV).trans hF (fun _ _ t => t))
  have HL1 := hide (unhide HL w1 (unhide HF1))
  clear hF R1 HL HJ c12 HFV
  rcases hc with ⟨C, rfl, hC, hk⟩ | ⟨C, rfl, hC, hk, hk2⟩ | ⟨rfl, hk, hk2⟩
  · have R := hide (hasU1 w1 C (holdB dl ⟨k, f, o, s, n, r⟩) ao cap l (unhide HL1) hl (fun u hu q => by
      have := hold1_any u C ⟨k, f, o, s, n, r⟩ (hC.keep hu) q
      rw [holdB_1 _ _ q hk]
      exact this))
    rw [← unhide HE] at R
    clear hk hC HE
    go_wp2_with fail
    refine (unhide R).mono ?_
    rintro e w2 ⟨rfl, hF⟩
    have HF2 := hide ((unhide HF1).trans hF (fun _ _ t => t))
    clear hF R
    go_wp2
    go_ret
    exact ⟨rfl, unhide HF2⟩
  · have R := hide (hasU2 w1 C (holdB dl ⟨k, f, o, s, n, r⟩) ao cap l (unhide HL1) hl (fun u hu q => by
      have := hold2_any u C ⟨k, f, o, s, n, r⟩ (hC.keep hu) q
      rw [holdB_2 _ _ q hk hk2]
      exact this))
    rw [← unhide HE] at R
    clear hk hk2 hC HE
    go_wp2_with fail
    refine (unhide R).mono ?_
    rintro e w2 ⟨rfl, hF⟩
    have HF2 := hide ((unhide HF1).trans hF (fun _ _ t => t))
    clear hF R
    go_wp2
    go_ret
    exact ⟨rfl, unhide HF2⟩
  · have R := hide (hasU3 w1 (holdB dl ⟨k, f, o, s, n, r⟩) ao cap l (unhide HL1) hl (fun u hu q => by
      have := hold3_any u q
      rw [holdB_3 _ _ q hk hk2]
      exact this))
    rw [← unhide HE] at R
    clear hk hk2 HE
    go_wp2_with fail
    refine (unhide R).mono ?_
    rintro e w2 ⟨rfl, hF⟩
    have HF2 := hide ((unhide HF1).trans hF (fun _ _ t => t))
    clear hF R
    go_wp2
    go_ret
    exact ⟨rfl, unhide HF2⟩

theorem refRight_any (w : World) (ao : Option Addr) (cap : Nat) (l : List Ou) (h : CAt w ao (ouV l)) (hl : l.length ≤ 140737488355328) :
    Calls Tryz.prog 25 #[.slice ao l.length cap] w fun e w' => e = .returned (.int .i64 (ousE l)) ∧ Fr (fun _ => False) w w' := by
  by_cases hs : l.length ≤ 100
  · have R := hide (hasU0 w (fun o => !ouOk o) ao cap l h hl (fun u _ o => noOutage_any u o))
    have HE : Hid (ousE l = if l.any (fun o => !ouOk o) then 80 else 0) := hide (by
      unfold ousE ousOk
      rw [decide_eq_true hs, Bool.true_and, List.all_eq_not_any_not]
      cases l.any (fun o => !ouOk o) <;> rfl)
    generalize l.any (fun o => !ouOk o) = y at *
    generalize ousE l = E at *
    clear h
    have hs' : ¬ (100 : Int) < (l.length : Int) := by omega
    go_enter Tryz.func25, Tryz.ntmps25
    go_wp2_with fail
    refine (unhide R).mono ?_
    rintro e w1 ⟨rfl, hF⟩
    have HF := hide hF
    clear hF R
    cases y
    all_goals
      go_wp2
      go_ret
      exact ⟨by rw [unhide HE]; rfl, unhide HF⟩
  · have HE : Hid (ousE l = 80) := hide (by unfold ousE ousOk; rw [decide_eq_false hs]; rfl)
    have hs' : (100 : Int) < (l.length : Int) := by omega
    generalize ousE l = E at *
    clear h hs
    go_enter Tryz.func25, Tryz.ntmps25
    go_wp2
    go_ret
    exact ⟨by rw [unhide HE]; rfl, Fr.refl _ _⟩

end Go.Proofs.YtjgbllfppomcmaaGreat

/- The program's refund.Apply. -/
namespace Go.Proofs.YtjgbllfppomcmaaGreat
open Go.RowKit

def appL (t : Tf) (l : List Ou) (p : List (Jn × Int)) : List (Jn × Int) := if backE t l p.length = 0 then backL t.delay l p else []

/-- The row behind i journeys. -/
def bkAt (dl : Int) (l : List Ou) (p : List (Jn × Int)) (i : Nat) : List (Jn × Int) := backL dl l (p.take i) ++ List.replicate (p.length - i) pz
theorem bkAt_zero (dl : Int) (l : List Ou) (p : List (Jn × Int)) : bkAt dl l p 0 = List.replicate p.length pz := by simp [bkAt, backL]
theorem bkAt_all (dl : Int) (l : List Ou) (p : List (Jn × Int)) : bkAt dl l p p.length = backL dl l p := by simp [bkAt]
theorem bkAt_length (dl : Int) (l : List Ou) (p : List (Jn × Int)) {i : Nat} (hi : i ≤ p.length) : (bkAt dl l p i).length = p.length := by simp [bkAt, backL]; omega
theorem bkAt_step (dl : Int) (l : List Ou) (p : List (Jn × Int)) (i : Nat) (hi : i < p.length) : bkAt dl l p (i + 1) = (bkAt dl l p i).set i (back1 dl l p[i]) := by
  have h1 : p.length - i = (p.length - (i + 1)) + 1 := by omega
  have hln : (backL dl l (p.take i)).length = i := by simp [backL]; omega
  unfold bkAt
  rw [h1, List.replicate_succ, List.set_append_right _ _ (by omega), hln, Nat.sub_self, List.set_cons_zero, List.take_succ_eq_append_getElem hi]
  simp only [backL, List.map_append, List.map_cons, List.map_nil, List.append_assoc, List.cons_append, List.nil_append]

/-- What Apply leaves. -/
def AppPost (t : Tf) (l : List Ou) (p : List (Jn × Int)) (w : World) (e : Ending) (w' : World) : Prop :=
  ∃ ao cap g, e = .returned (.tuple #[.slice ao (appL t l p).length cap, .int .i64 (backE t l p.length)]) ∧ KRow w' ao cap g 7 (pV (appL t l p)) ∧ (0 < cap → w.heap.size ≤ g) ∧ Fr (fun _ => False) w w'

theorem AppPost.fail {t : Tf} {l : List Ou} {p : List (Jn × Int)} {w w' : World} {x : Int} (hf : Fr (fun _ => False) w w') (hx : backE t l p.length = x) (h0 : x ≠ 0) : AppPost t l p w (.returned (.tuple #[.slice none 0 0, .int .i64 x])) w' := by
  have e : appL t l p = [] := by unfold appL; rw [if_neg (by rw [hx]; exact h0)]
  exact ⟨none, 0, 0, by rw [e, hx]; rfl, by rw [e]; exact KRow.nil _ _ _, fun h => absurd h (by omega), hf⟩

set_option maxHeartbeats 4000000 in
set_option maxRecDepth 20000 in
theorem apply_any (w : World) (A : Ad) (t : Tf) (h : TAt w A t) (ao1 : Option Addr) (cap1 : Nat) (l : List Ou) (hl : CAt w ao1 (ouV l)) (hln : l.length ≤ 140737488355328) (nl : Nat) (hnl : nl = l.length) (ao0 : Option Addr) (cap0 : Nat) (p : List (Jn × Int)) (hp : CAt w ao0 (pV p)) (np : Nat) (hnp : np = p.length) :
    Calls Tryz.prog 63 #[tv A t, .slice ao1 nl cap1, .slice ao0 np cap0] w fun e w' => AppPost t l p w e w' := by
  subst hnl hnp
  have RE := hide (fun (u : World) (hu : Fr (fun _ => False) w u) => right_walk u A t (h.keep hu))
  have RR := hide (fun (u : World) (hu : Fr (fun _ => False) w u) => refRight_any u ao1 cap1 l (hl.keep hu) hln)
  have RH := hide (fun (u : World) (hu : Fr (fun _ => False) w u) (j : Jn) => held_any u A t ao1 cap1 l (hl.keep hu) hln l.length rfl j)
  have HL := hide (fun (u : World) (hu : Fr (fun _ => False) w u) => hp.keep hu)
  have HE : Hid (backE t l p.length = if rightE t = 0 then (if ousE l = 0 then (if 2000 < p.length then 2 else 0) else ousE l) else rightE t) := rfl
  obtain ⟨v, hv⟩ : ∃ v, v = w.alloc (.cells (tc A t) 27) := ⟨_, rfl⟩
  have HFV : Hid (Fr (fun _ => False) w v) := hide (by rw [hv]; exact (Fr.refl _ w).alloc _)
  have hTB : TB v w.heap.size A t := by rw [hv]; exact TB.new w A t
  obtain ⟨B, hB⟩ : ∃ B, B = w.heap.size := ⟨_, rfl⟩
  rw [← hB] at hTB
  have HTB := hide hTB
  have HV := hide hv
  have HB := hide hB
  clear hv hB hTB h hl hp
  unfold tv
  unfold tc at HV ⊢
  go_enter Tryz.func63, Tryz.ntmps63
  go_upto_region 1 with (fail)
  rw [← unhide HV, ← unhide HB]
  clear HV
  go_wp2_with (refine wpList_load_tariff rfl (.tmp 3) rfl (g := B) (A := A) (t := t) rfl (unhide HTB) ?_)
  refine (unhide RE v (unhide HFV)).mono ?_
  rintro e w1 ⟨rfl, hF⟩
  have HTB1 := hide ((unhide HTB).keep hF)
  have HF1 := hide ((unhide HFV).trans hF (fun _ _ t => t))
  clear hF HTB HFV RE
  by_cases h0 : rightE t = 0
  · rw [h0]
    go_wp2_with fail
    refine (unhide RR w1 (unhide HF1)).mono ?_
    rintro e wa ⟨rfl, hF⟩
    replace HTB1 := hide ((unhide HTB1).keep hF)
    replace HF1 := hide ((unhide HF1).trans hF (fun _ _ t => t))
    clear hF RR
    by_cases hr : ousE l = 0
    · rw [hr]
      by_cases h1 : 2000 < p.length
      · have HX : Hid (backE t l p.length = 2) := hide (by rw [unhide HE, if_pos h0, if_pos hr, if_pos h1])
        have h1i : (2000 : Int) < (p.length : Int) := by omega
        clear HE RH HL HTB1 h0 h1 hr
        go_wp2
        go_ret2
        exact AppPost.fail (unhide HF1) (unhide HX) (by decide)
      · have HX : Hid (backE t l p.length = 0) := hide (by rw [unhide HE, if_pos h0, if_pos hr, if_neg h1])
        have h1i : ¬ (2000 : Int) < (p.length : Int) := by omega
        have hn : p.length ≤ 2000 := by omega
        have HN := hide hn
        obtain ⟨info, hi, hzz⟩ := Option.map_eq_some_iff.1 pInfo
        simp only [Prod.mk.injEq] at hzz
        obtain ⟨hz0, hs, hy⟩ := hzz
        obtain ⟨z, hz, hzc⟩ := Option.map_eq_some_iff.1 hz0
        have hmk : ∀ u : World, (Instr.makeSlice 77 (.int .i64 (p.length : Int)) (.int .i64 (p.length : Int))).run Tryz.prog u = .ok (.slice (some ⟨u.heap.size, 0, none⟩) p.length p.length) (u.alloc (.cells (madeCells z.cells (p.length * info.size)) 126)) := fun u => by
          have := run_make (P := Tryz.prog) u 77 126 info z Tryz.underlying77 hi hz .i64 .i64 (p.length : Int) (p.length : Int) (by omega) (by omega) (by rw [hy]; omega) (by omega)
          simpa using this
        have HM := hide (fun (u : World) => KRow.madeP u p.length (by omega) hzc hs 126)
        generalize madeCells z.cells (p.length * info.size) = mc at *
        clear HE h0 h1 hr hn hz0 hs hy hz hzc hi
        clear z info
        go_upto_region 10 with (fail)
        obtain ⟨u0, hu0⟩ : ∃ u0, u0 = wa.alloc (.cells mc 126) := ⟨_, rfl⟩
        obtain ⟨g, hg⟩ : ∃ g, g = wa.heap.size := ⟨_, rfl⟩
        rw [← hu0, ← hg]
        have hFa : Fr (fun _ => False) wa u0 := by rw [hu0]; exact (Fr.refl _ _).alloc _
        have hK0 : KRow u0 (some ⟨g, 0, none⟩) p.length g 7 (pV (List.replicate p.length pz)) := by rw [hu0, hg]; exact unhide HM wa
        have HGW : Hid (w.heap.size ≤ g) := hide (by rw [hg]; exact (unhide HF1).size)
        have HBG : Hid (B < g) := hide (by rw [hg]; exact (unhide HTB1).lt)
        have HS0 : Hid (Fr (fun _ => False) w u0 ∧ TB u0 B A t ∧ KRow u0 (some ⟨g, 0, none⟩) p.length g 7 (pV (bkAt t.delay l p 0)) ∧ g < u0.heap.size) := hide ⟨(unhide HF1).trans hFa (fun _ _ t => t), (unhide HTB1).keep hFa, by rw [bkAt_zero]; exact hK0, by rw [hu0, hg, heap_alloc]; omega⟩
        clear hFa hK0 hu0 hg HM hmk HTB1 HF1 h1i mc
        go_wp2
        go_loopw [11, 12, 31] (fun _ _ iv wr => ∃ i : Nat, i ≤ p.length ∧ iv = .int .i64 i ∧ Hid (Fr (fun _ => False) w wr ∧ TB wr B A t ∧ KRow wr (some ⟨g, 0, none⟩) p.length g 7 (pV (bkAt t.delay l p i)) ∧ g < wr.heap.size)) (fun _ _ iv _ => p.length - (intOf iv).toNat)
        case atStart => exact ⟨0, Nat.zero_le _, rfl, HS0⟩
        case round =>
          obtain ⟨i, hi, rfl, HI⟩ := hrel
          clear HS0
          by_cases hil : i < p.length
          · have hlt : (i : Int) < (p.length : Int) := by omega
            obtain ⟨b0, off0, hao, kk⟩ := (unhide HL wr (unhide HI).1).pj hil
            subst hao
            have k0 := kk 0 (by omega) _ rfl
            have k1 := kk 1 (by omega) _ rfl
            have k2 := kk 2 (by omega) _ rfl
            have k3 := kk 3 (by omega) _ rfl
            have k4 := kk 4 (by omega) _ rfl
            have k5 := kk 5 (by omega) _ rfl
            have k6 := kk 6 (by omega) _ rfl
            rw [Nat.add_zero] at k0
            rw [← Nat.add_assoc] at k1 k2 k3 k4 k5 k6
            have HST : Hid (∀ c, p[i] = c → bkAt t.delay l p (i + 1) = (bkAt t.delay l p i).set i (back1 t.delay l c)) := hide (fun c hc => by rw [← hc]; exact bkAt_step t.delay l p i hil)
            clear kk
            generalize p[i] = q at *
            have HST := hide (unhide HST q rfl)
            obtain ⟨⟨k, f, o, s, n, r⟩, m⟩ := q
            simp only at k0 k1 k2 k3 k4 k5 k6
            go_upto_region 13 with (fail)
            obtain ⟨u2, hu2⟩ : ∃ u2, u2 = wr.alloc (.cells #[.int .i64 k, .int .i64 f, .int .i64 o, .int .i64 s, .int .i64 n, .bool r, .int .i64 m] 126) := ⟨_, rfl⟩
            obtain ⟨C, hC⟩ : ∃ C, C = wr.heap.size := ⟨_, rfl⟩
            rw [← hu2, ← hC]
            have hFa : Fr (fun _ => False) wr u2 := by rw [hu2]; exact (Fr.refl _ _).alloc _
            have hBX : Bx u2 C (pC (⟨k, f, o, s, n, r⟩, m)) 126 := by rw [hu2, hC]; exact Bx.new _ _ _
            obtain ⟨i1, i2, i3, i4⟩ := unhide HI
            have HF2 := hide (i1.trans hFa (fun _ _ t => t))
            have HTB2 := hide (i2.keep hFa)
            have HK2 := hide (i3.keep (by omega) hFa)
            have HGC : Hid (g ≠ C) := hide (by rw [hC]; omega)
            have HJ := hide hBX
            have HGL : Hid (g < u2.heap.size) := hide (by have := hFa.size; omega)
            have HWC : Hid (w.heap.size ≤ C) := hide (by rw [hC]; exact i1.size)
            have HBC : Hid (B < C) := hide (by rw [hC]; exact i2.lt)
            have j0 : u2.cell? ⟨C, 0, none⟩ = some (.int .i64 k) := hBX.cell 0
            have j1 : u2.cell? ⟨C, 1, none⟩ = some (.int .i64 f) := hBX.cell 1
            have j2 : u2.cell? ⟨C, 2, none⟩ = some (.int .i64 o) := hBX.cell 2
            have j3 : u2.cell? ⟨C, 3, none⟩ = some (.int .i64 s) := hBX.cell 3
            have j4 : u2.cell? ⟨C, 4, none⟩ = some (.int .i64 n) := hBX.cell 4
            have j5 : u2.cell? ⟨C, 5, none⟩ = some (.bool r) := hBX.cell 5
            have RH2 := unhide RH u2 (unhide HF2) ⟨k, f, o, s, n, r⟩
            have HQ : Hid (back1 t.delay l (⟨k, f, o, s, n, r⟩, m) = if heldB t.delay l ⟨k, f, o, s, n, r⟩ = true then (⟨k, f, o, s, n, r⟩, 0) else (⟨k, f, o, s, n, r⟩, m)) := rfl
            rw [unhide HQ] at HST
            clear HQ
            generalize heldB t.delay l ⟨k, f, o, s, n, r⟩ = y at *
            clear i1 i2 i3 i4 hFa hBX hu2 hC HI k0 k1 k2 k3 k4 k5 k6
            simp only [jC] at RH2
            go_wp2_with (refine wpList_load_tariff rfl (.tmp 3) rfl (g := B) (A := A) (t := t) rfl (unhide HTB2) ?_)
            refine RH2.mono ?_
            rintro e u3 ⟨rfl, hF⟩
            have HF3 := hide ((unhide HF2).trans hF (fun _ _ t => t))
            have HTB3 := hide ((unhide HTB2).keep hF)
            have HK3 := hide ((unhide HK2).keep (by omega) hF)
            have HJ3 := hide ((unhide HJ).keep hF)
            have HGL3 : Hid (g < u3.heap.size) := hide (by have := hF.size; have := unhide HGL; omega)
            clear hF RH2 HF2 HTB2 HK2 HJ HGL j0 j1 j2 j3 j4 j5
            cases y
            · have HST2 : Hid (bkAt t.delay l p (i + 1) = (bkAt t.delay l p i).set i (⟨k, f, o, s, n, r⟩, m)) := hide (by have := unhide HST; simpa using this)
              clear HST
              obtain ⟨u4, hu4⟩ : ∃ u4, u4 = u3 := ⟨_, rfl⟩
              subst hu4
              have HF4 := HF3
              have HTB4 := HTB3
              have HK4 := HK3
              have HJ4 := HJ3
              have HGL4 := HGL3
              clear HF3 HTB3 HK3 HJ3 HGL3
              have hroom : ∀ c, c < 7 → (∃ x, u4.cell? ⟨g, i * 7 + c, none⟩ = some x) ∧ u4.frozen? ⟨g, i * 7 + c, none⟩ = false := fun c hc => ⟨Option.isSome_iff_exists.1 ((unhide HK4).room (i * 7 + c) (by omega)).1, ((unhide HK4).room (i * 7 + c) (by omega)).2⟩
              obtain ⟨⟨x0, r0⟩, f0⟩ := hroom 0 (by omega)
              obtain ⟨⟨x1, r1⟩, f1⟩ := hroom 1 (by omega)
              obtain ⟨⟨x2, r2⟩, f2⟩ := hroom 2 (by omega)
              obtain ⟨⟨x3, r3⟩, f3⟩ := hroom 3 (by omega)
              obtain ⟨⟨x4, r4⟩, f4⟩ := hroom 4 (by omega)
              obtain ⟨⟨x5, r5⟩, f5⟩ := hroom 5 (by omega)
              obtain ⟨⟨x6, r6⟩, f6⟩ := hroom 6 (by omega)
              rw [Nat.add_zero] at r0 f0
              clear hroom
              have HJ5 := unhide HJ4
              have j0 : u4.cell? ⟨C, 0, none⟩ = some (.int .i64 k) := HJ5.cell 0
              have j1 : u4.cell? ⟨C, 1, none⟩ = some (.int .i64 f) := HJ5.cell 1
              have j2 : u4.cell? ⟨C, 2, none⟩ = some (.int .i64 o) := HJ5.cell 2
              have j3 : u4.cell? ⟨C, 3, none⟩ = some (.int .i64 s) := HJ5.cell 3
              have j4 : u4.cell? ⟨C, 4, none⟩ = some (.int .i64 n) := HJ5.cell 4
              have j5 : u4.cell? ⟨C, 5, none⟩ = some (.bool r) := HJ5.cell 5
              have j6 : u4.cell? ⟨C, 6, none⟩ = some (.int .i64 m) := HJ5.cell 6
              clear HJ5
              go_upto_region 16 with (fail)
              obtain ⟨u5, hu5⟩ : ∃ u5, u5 = (((((((u4.setCell ⟨g, i * 7, none⟩ (.int .i64 k)).setCell ⟨g, i * 7 + 1, none⟩ (.int .i64 f)).setCell ⟨g, i * 7 + 2, none⟩ (.int .i64 o)).setCell ⟨g, i * 7 + 3, none⟩ (.int .i64 s)).setCell ⟨g, i * 7 + 4, none⟩ (.int .i64 n)).setCell ⟨g, i * 7 + 5, none⟩ (.bool r)).setCell ⟨g, i * 7 + 6, none⟩ (.int .i64 m)) := ⟨_, rfl⟩
              rw [← hu5]
              have hKn : KRow u5 (some ⟨g, 0, none⟩) p.length g 7 (pV (bkAt t.delay l p (i + 1))) := by
                rw [unhide HST2, hu5]
                exact (unhide HK4).setP (by rw [bkAt_length t.delay l p (by omega)]; exact hil) (⟨k, f, o, s, n, r⟩, m)
              have hFg : Fr (fun q => q = g) u4 u5 := by
                rw [hu5]
                repeat (with_reducible (first | exact Fr.refl _ _ | refine Fr.setOwn ?_ _ _))
              have HS1 : Hid (Fr (fun _ => False) w u5 ∧ TB u5 B A t ∧ KRow u5 (some ⟨g, 0, none⟩) p.length g 7 (pV (bkAt t.delay l p (i + 1))) ∧ g < u5.heap.size) := hide ⟨(unhide HF4).trans hFg (fun q hq e => by have := unhide HGW; omega), (unhide HTB4).frame hFg (fun e => by have := unhide HBG; omega), hKn, by have := hFg.size; have := unhide HGL4; omega⟩
              clear hu5 hKn hFg r0 r1 r2 r3 r4 r5 r6 f0 f1 f2 f3 f4 f5 f6 j0 j1 j2 j3 j4 j5 j6 HST2 HF4 HTB4 HK4 HJ4 HGL4
              go_wp2
              exact ⟨⟨i + 1, by omega, by go_num, HS1⟩, by simp [intOf]; omega⟩
            · have HST2 : Hid (bkAt t.delay l p (i + 1) = (bkAt t.delay l p i).set i (⟨k, f, o, s, n, r⟩, 0)) := hide (by have := unhide HST; simpa using this)
              clear HST
              obtain ⟨j6, f6⟩ : u3.cell? ⟨C, 6, none⟩ = some (.int .i64 m) ∧ u3.frozen? ⟨C, 6, none⟩ = false := ⟨(unhide HJ3).cell 6, (unhide HJ3).frozen 6⟩
              go_upto_region 15 with (fail)
              obtain ⟨u4, hu4⟩ : ∃ u4, u4 = u3.setCell ⟨C, 6, none⟩ (.int .i64 0) := ⟨_, rfl⟩
              rw [← hu4]
              have hFc : Fr (fun q => q = C) u3 u4 := by rw [hu4]; exact Fr.setOwn (Fr.refl _ _) _ _
              have HF4 := hide ((unhide HF3).trans hFc (fun q hq e => by have := unhide HWC; omega))
              have HTB4 := hide ((unhide HTB3).frame hFc (fun e => by have := unhide HBC; omega))
              have HK4 := hide ((unhide HK3).stay (fun _ => hFc.block g (unhide HGL3) (fun e => unhide HGC e)))
              have HJ4 : Hid (Bx u4 C (pC (⟨k, f, o, s, n, r⟩, 0)) 126) := hide (by rw [hu4]; exact (unhide HJ3).setCell 6 (.int .i64 0))
              have HGL4 : Hid (g < u4.heap.size) := hide (by have := hFc.size; have := unhide HGL3; omega)
              clear hu4 hFc j6 f6 HF3 HTB3 HK3 HJ3 HGL3
              have hroom : ∀ c, c < 7 → (∃ x, u4.cell? ⟨g, i * 7 + c, none⟩ = some x) ∧ u4.frozen? ⟨g, i * 7 + c, none⟩ = false := fun c hc => ⟨Option.isSome_iff_exists.1 ((unhide HK4).room (i * 7 + c) (by omega)).1, ((unhide HK4).room (i * 7 + c) (by omega)).2⟩
              obtain ⟨⟨x0, r0⟩, f0⟩ := hroom 0 (by omega)
              obtain ⟨⟨x1, r1⟩, f1⟩ := hroom 1 (by omega)
              obtain ⟨⟨x2, r2⟩, f2⟩ := hroom 2 (by omega)
              obtain ⟨⟨x3, r3⟩, f3⟩ := hroom 3 (by omega)
              obtain ⟨⟨x4, r4⟩, f4⟩ := hroom 4 (by omega)
              obtain ⟨⟨x5, r5⟩, f5⟩ := hroom 5 (by omega)
              obtain ⟨⟨x6, r6⟩, f6⟩ := hroom 6 (by omega)
              rw [Nat.add_zero] at r0 f0
              clear hroom
              have HJ5 := unhide HJ4
              have j0 : u4.cell? ⟨C, 0, none⟩ = some (.int .i64 k) := HJ5.cell 0
              have j1 : u4.cell? ⟨C, 1, none⟩ = some (.int .i64 f) := HJ5.cell 1
              have j2 : u4.cell? ⟨C, 2, none⟩ = some (.int .i64 o) := HJ5.cell 2
              have j3 : u4.cell? ⟨C, 3, none⟩ = some (.int .i64 s) := HJ5.cell 3
              have j4 : u4.cell? ⟨C, 4, none⟩ = some (.int .i64 n) := HJ5.cell 4
              have j5 : u4.cell? ⟨C, 5, none⟩ = some (.bool r) := HJ5.cell 5
              have j6 : u4.cell? ⟨C, 6, none⟩ = some (.int .i64 0) := HJ5.cell 6
              clear HJ5
              go_upto_region 16 with (fail)
              obtain ⟨u5, hu5⟩ : ∃ u5, u5 = (((((((u4.setCell ⟨g, i * 7, none⟩ (.int .i64 k)).setCell ⟨g, i * 7 + 1, none⟩ (.int .i64 f)).setCell ⟨g, i * 7 + 2, none⟩ (.int .i64 o)).setCell ⟨g, i * 7 + 3, none⟩ (.int .i64 s)).setCell ⟨g, i * 7 + 4, none⟩ (.int .i64 n)).setCell ⟨g, i * 7 + 5, none⟩ (.bool r)).setCell ⟨g, i * 7 + 6, none⟩ (.int .i64 0)) := ⟨_, rfl⟩
              rw [← hu5]
              have hKn : KRow u5 (some ⟨g, 0, none⟩) p.length g 7 (pV (bkAt t.delay l p (i + 1))) := by
                rw [unhide HST2, hu5]
                exact (unhide HK4).setP (by rw [bkAt_length t.delay l p (by omega)]; exact hil) (⟨k, f, o, s, n, r⟩, 0)
              have hFg : Fr (fun q => q = g) u4 u5 := by
                rw [hu5]
                repeat (with_reducible (first | exact Fr.refl _ _ | refine Fr.setOwn ?_ _ _))
              have HS1 : Hid (Fr (fun _ => False) w u5 ∧ TB u5 B A t ∧ KRow u5 (some ⟨g, 0, none⟩) p.length g 7 (pV (bkAt t.delay l p (i + 1))) ∧ g < u5.heap.size) := hide ⟨(unhide HF4).trans hFg (fun q hq e => by have := unhide HGW; omega), (unhide HTB4).frame hFg (fun e => by have := unhide HBG; omega), hKn, by have := hFg.size; have := unhide HGL4; omega⟩
              clear hu5 hKn hFg r0 r1 r2 r3 r4 r5 r6 f0 f1 f2 f3 f4 f5 f6 j0 j1 j2 j3 j4 j5 j6 HST2 HF4 HTB4 HK4 HJ4 HGL4
              go_wp2
              exact ⟨⟨i + 1, by omega, by go_num, HS1⟩, by simp [intOf]; omega⟩
          · obtain rfl : i = p.length := by omega
            have hlt : ¬ (p.length : Int) < (p.length : Int) := by omega
            have HR : Hid (AppPost t l p w (.returned (.tuple #[.slice (some ⟨g, 0, none⟩) p.length p.length, .int .i64 0])) wr) := hide (by
              have e : appL t l p = backL t.delay l p := by unfold appL; rw [if_pos (unhide HX)]
              have k := (unhide HI).2.2.1
              rw [bkAt_all] at k
              exact ⟨some ⟨g, 0, none⟩, p.length, g, by rw [e, unhide HX, backL_length], by rw [e]; exact k, fun _ => unhide HGW, (unhide HI).1⟩)
            clear HI HX
            go_wp2
            go_ret2
            exact unhide HR
    · have HX : Hid (backE t l p.length = ousE l) := hide (by rw [unhide HE, if_pos h0, if_neg hr])
      have hb2 : (ousE l == 0) = false := by simp [hr]
      have hb3 : (ousE l != 0) = true := by simp [hr]
      have HXX : Hid (∀ w', Fr (fun _ => False) w w' → AppPost t l p w (.returned (.tuple #[.slice none 0 0, .int .i64 (ousE l)])) w') := hide (fun w' hf => AppPost.fail hf (unhide HX) hr)
      clear HE RH HL HTB1 HX hr h0
      generalize ousE l = rr at *
      go_wp2
      go_ret2
      exact unhide HXX _ (unhide HF1)
  · have HX : Hid (backE t l p.length = rightE t) := hide (by rw [unhide HE, if_neg h0])
    have hb2 : (rightE t == 0) = false := by simp [h0]
    have hb3 : (rightE t != 0) = true := by simp [h0]
    have HXX : Hid (∀ w', Fr (fun _ => False) w w' → AppPost t l p w (.returned (.tuple #[.slice none 0 0, .int .i64 (rightE t)])) w') := hide (fun w' hf => AppPost.fail hf (unhide HX) h0)
    clear HE RH RR HL HTB1 HX h0
    generalize rightE t = rr at *
    go_wp2
    go_ret2
    exact unhide HXX _ (unhide HF1)

end Go.Proofs.YtjgbllfppomcmaaGreat

