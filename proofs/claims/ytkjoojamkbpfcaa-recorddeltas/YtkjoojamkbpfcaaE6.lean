/- Which outages may be. -/
import Derived.Test.YtkjoojamkbpfcaaE1
namespace Go.Proofs.Ytkjoojamkbpfcaa
open Go.RowKit

def outOk (o : Otg) : Bool := isIn o.fr 0 2147483648 && isIn o.to 0 2147483648 && decide (o.fr < o.to) && isIn o.st 1 65535
def outsOk (l : List Otg) : Bool := decide (l.length ≤ 100) && l.all outOk
def outsE (l : List Otg) : Int := if outsOk l then 0 else 80

theorem CAt.ot {w : World} {ao : Option Addr} {l : List Otg} (h : CAt w ao (otV l)) {i : Nat} (hi : i < l.length) : ∃ b off, ao = some ⟨b, off, none⟩ ∧
    w.cell? ⟨b, off + i * 3, none⟩ = some (.int .i64 l[i].st) ∧ w.cell? ⟨b, off + i * 3 + 1, none⟩ = some (.int .i64 l[i].fr) ∧ w.cell? ⟨b, off + i * 3 + 2, none⟩ = some (.int .i64 l[i].to) := by
  have hl := otV_length l
  obtain ⟨b, off, e, hc⟩ := h (by omega)
  have g := fun c hc' => flat_get otC 3 (fun _ => rfl) l i hi c hc'
  have q : ∀ c (hc' : c < 3) v, (otC l[i])[c]? = some v → w.cell? ⟨b, off + (i * 3 + c), none⟩ = some v := fun c hc' v hv => by
    have h1 := hc (i * 3 + c) (by omega)
    have h2 := g c hc'
    rw [hv] at h2
    rw [h1]
    have h3 : (otV l)[i * 3 + c]? = some v := h2
    rw [List.getElem?_eq_getElem (by omega)] at h3
    exact h3
  exact ⟨b, off, e, q 0 (by omega) _ rfl, q 1 (by omega) _ rfl, q 2 (by omega) _ rfl⟩

def otA (o : Otg) : Value := .agg #[.int .i64 o.st, .int .i64 o.fr, .int .i64 o.to]

set_option maxHeartbeats 1000000 in
theorem isNoOutage_any (o : Otg) (w : World) : Calls Try.prog 118 #[otA o] w fun e w' => e = .returned (.bool !(outOk o)) ∧ Fr (fun _ => False) w w' := by
  obtain ⟨b1, hb1⟩ : ∃ b, isIn o.fr 0 2147483648 = b := ⟨_, rfl⟩
  obtain ⟨b2, hb2⟩ : ∃ b, isIn o.to 0 2147483648 = b := ⟨_, rfl⟩
  obtain ⟨b3, hb3⟩ : ∃ b, decide (o.fr < o.to) = b := ⟨_, rfl⟩
  obtain ⟨b4, hb4⟩ : ∃ b, isIn o.st 1 65535 = b := ⟨_, rfl⟩
  have HE : Hid (outOk o = (b1 && b2 && b3 && b4)) := hide (by unfold outOk; rw [hb1, hb2, hb3, hb4])
  have R1 := hide (ctime_is hb1)
  have R2 := hide (ctime_is hb2)
  have R4 := hide (isFrom_is hb4)
  clear hb1 hb2 hb4
  generalize outOk o = E at HE ⊢
  unfold otA
  obtain ⟨st, fr, to⟩ := o
  simp only at R1 R2 R4 hb3 ⊢
  have HF : Hid (Fr (fun _ => False) w (w.alloc (.cells #[.int .i64 st, .int .i64 fr, .int .i64 to] 60))) := hide ((Fr.refl _ _).alloc _)
  go_enter Try.func118, Try.ntmps118
  go_wp2_with fail
  refine (unhide R1 _).mono ?_
  rintro e w1 ⟨rfl, hq⟩
  obtain rfl := hq.symm
  cases b1
  · go_wp2
    go_ret
    exact ⟨by rw [unhide HE]; rfl, unhide HF⟩
  · go_wp2_with fail
    refine (unhide R2 _).mono ?_
    rintro e w1 ⟨rfl, hq⟩
    obtain rfl := hq.symm
    cases b2
    · go_wp2
      go_ret
      exact ⟨by rw [unhide HE]; rfl, unhide HF⟩
    · cases b3
      · go_wp2
        go_ret
        exact ⟨by rw [unhide HE]; rfl, unhide HF⟩
      · go_wp2_with fail
        refine (unhide R4 _).mono ?_
        rintro e w1 ⟨rfl, hq⟩
        obtain rfl := hq.symm
        go_wp2
        go_ret
        exact ⟨by rw [unhide HE]; rfl, unhide HF⟩

/-- The first index that is as wanted, or -1. -/
def ixO (p : Otg → Bool) : List Otg → Nat → Int
  | [], _ => -1
  | b :: r, i => if p b then (i : Int) else ixO p r (i + 1)

theorem ixO_any (p : Otg → Bool) : ∀ (l : List Otg) (i : Nat), decide (0 ≤ ixO p l i) = l.any p
  | [], _ => rfl
  | b :: r, i => by
    rw [ixO, List.any_cons]
    cases p b with
    | true => simp
    | false => simpa using ixO_any p r (i + 1)

theorem indexO_any (w : World) (ao : Option Addr) (cap : Nat) (l : List Otg) (h : CAt w ao (otV l)) (hl : l.length ≤ 100) :
    Calls Try.prog 138 #[.slice ao l.length cap, .func (.func 118) #[] #[]] w fun e w' => e = .returned (.int .i64 (ixO (fun o => !outOk o) l 0)) ∧ Fr (fun _ => False) w w' := by
  have H := hide h
  have HC' : Hid (∀ (w' : World) (s : Otg), Calls Try.prog 118 #[otA s] w' fun e w'' => e = .returned (.bool ((fun o => !outOk o) s)) ∧ Fr (fun _ => False) w' w'') := hide (fun w' s => isNoOutage_any s w')
  generalize hp : (fun o => !outOk o) = p at *
  clear h hp
  go_enter Try.func138, Try.ntmps138
  go_wp2
  go_loopw [5, 8] (fun _ iv wr => ∃ (i : Nat), i ≤ l.length ∧ iv = .int .i64 i ∧ Hid (Fr (fun _ => False) w wr ∧ ixO p (l.drop i) i = ixO p l 0)) (fun _ iv _ => l.length - (intOf iv).toNat)
  case atStart => exact ⟨0, Nat.zero_le _, rfl, Fr.refl _ _, by simp⟩
  case round =>
    obtain ⟨i, hi, rfl, HI⟩ := hrel
    by_cases hil : i < l.length
    · obtain ⟨b, off, rfl, c0, c1, c2⟩ := ((unhide H).keep (unhide HI).1).ot hil
      have ht := (unhide HI).2
      rw [List.drop_eq_getElem_cons hil, ixO] at ht
      have R := unhide HC' wr l[i]
      generalize l[i] = x at *
      have HT := hide ht
      clear ht
      unfold otA at R
      cases hx : p x with
      | true =>
        rw [hx] at R HT
        clear hx
        have HT' : Hid (ixO p l 0 = (i : Int)) := hide (by have := unhide HT; simpa using this.symm)
        clear HT
        go_wp2_with fail
        refine R.mono ?_
        rintro e w1 ⟨rfl, hF⟩
        have HF := hide ((unhide HI).1.trans hF (fun _ _ t => t))
        clear hF R
        go_wp2
        go_ret
        exact ⟨by rw [unhide HT']; rfl, unhide HF⟩
      | false =>
        rw [hx] at R HT
        clear hx
        have HT' : Hid (ixO p (l.drop (i + 1)) (i + 1) = ixO p l 0) := hide (by have := unhide HT; simpa using this)
        clear HT
        go_wp2_with fail
        refine R.mono ?_
        rintro e w1 ⟨rfl, hF⟩
        have HF := hide ((unhide HI).1.trans hF (fun _ _ t => t))
        clear hF R
        go_wp2
        exact ⟨⟨i + 1, by omega, by go_num, unhide HF, unhide HT'⟩, by simp [intOf]; omega⟩
    · obtain rfl : i = l.length := by omega
      have ht := (unhide HI).2
      rw [List.drop_length] at ht
      have HN := hide ht
      have HF := hide (unhide HI).1
      clear ht HI H
      go_wp2
      go_ret
      exact ⟨by rw [← unhide HN]; rfl, unhide HF⟩

theorem outagesError_any (w : World) (ao : Option Addr) (cap : Nat) (l : List Otg) (h : CAt w ao (otV l)) (hl : l.length ≤ 140737488355328) :
    Calls Try.prog 77 #[.slice ao l.length cap] w fun e w' => e = .returned (.int .i64 (outsE l)) ∧ Fr (fun _ => False) w w' := by
  by_cases hs : l.length ≤ 100
  · have R1 := hide (indexO_any w ao cap l h hs)
    obtain ⟨y, hy⟩ : ∃ y, l.any (fun o => !outOk o) = y := ⟨_, rfl⟩
    have HA : Hid (decide (0 ≤ ixO (fun o => !outOk o) l 0) = y) := hide (by rw [ixO_any, hy])
    have HE : Hid (outsE l = if !y then 0 else 80) := hide (by
      unfold outsE outsOk
      rw [decide_eq_true hs, Bool.true_and, ← hy, List.all_eq_not_any_not])
    generalize ixO (fun o => !outOk o) l 0 = m at R1 HA
    generalize outsE l = E at HE ⊢
    clear h hy
    have RC : Hid (Calls Try.prog 117 #[.slice ao l.length cap, .func (.func 118) #[] #[]] w fun e w' => e = .returned (.bool y) ∧ Fr (fun _ => False) w w') := hide (by
      go_enter Try.func117, Try.ntmps117
      go_wp2_with fail
      refine (unhide R1).mono ?_
      rintro e w1 ⟨rfl, hF⟩
      have HF := hide hF
      clear hF
      go_wp2
      go_ret
      exact ⟨by rw [← unhide HA]; rfl, unhide HF⟩)
    clear R1 HA
    go_enter Try.func77, Try.ntmps77
    go_wp2_with fail
    refine (unhide RC).mono ?_
    rintro e w1 ⟨rfl, hF⟩
    have HF := hide hF
    clear hF
    cases y
    all_goals
      go_wp2_with fail
      refine (errorUnless_any _ _).mono ?_
      rintro e w1 ⟨rfl, hq⟩
      obtain rfl := hq.symm
      go_wp2
      go_ret
      exact ⟨by rw [unhide HE]; rfl, unhide HF⟩
  · have HE : Hid (outsE l = 80) := hide (by unfold outsE outsOk; rw [decide_eq_false hs]; rfl)
    generalize outsE l = E at HE ⊢
    clear h
    go_enter Try.func77, Try.ntmps77
    go_wp2_with fail
    refine (errorUnless_any false _).mono ?_
    rintro e w1 ⟨rfl, hq⟩
    obtain rfl := hq.symm
    go_wp2
    go_ret
    exact ⟨by rw [unhide HE]; rfl, Fr.refl _ _⟩

set_option maxHeartbeats 1000000 in
theorem outagesRight_any (w : World) (ao : Option Addr) (cap : Nat) (l : List Otg) (h : CAt w ao (otV l)) (hl : l.length ≤ 140737488355328) :
    Calls Try.prog 78 #[.slice ao l.length cap] w fun e w' => e = .returned (.bool (outsOk l)) ∧ Fr (fun _ => False) w w' := by
  by_cases hs : l.length ≤ 100
  · have HE : Hid (outsOk l = l.all outOk) := hide (by unfold outsOk; rw [decide_eq_true hs, Bool.true_and])
    have H := hide h
    generalize outsOk l = E at HE ⊢
    clear h
    go_enter Try.func78, Try.ntmps78
    go_wp2
    go_loopw [3, 4, 5] (fun iv _ _ wr => ∃ (i : Nat), i ≤ l.length ∧ iv = .int .i64 i ∧ Hid (Fr (fun _ => False) w wr ∧ (l.drop i).all outOk = l.all outOk)) (fun iv _ _ _ => l.length - (intOf iv).toNat)
    case atStart => exact ⟨0, Nat.zero_le _, rfl, Fr.refl _ _, by simp⟩
    case round =>
      obtain ⟨i, hi, rfl, HI⟩ := hrel
      by_cases hil : i < l.length
      · obtain ⟨b, off, rfl, c0, c1, c2⟩ := ((unhide H).keep (unhide HI).1).ot hil
        have ht := (unhide HI).2
        rw [List.drop_eq_getElem_cons hil, List.all_cons] at ht
        have HT := hide ht
        clear ht
        generalize l[i] = o at *
        obtain ⟨b1, hb1⟩ : ∃ b, isIn o.fr 0 2147483648 = b := ⟨_, rfl⟩
        obtain ⟨b2, hb2⟩ : ∃ b, isIn o.to 0 2147483648 = b := ⟨_, rfl⟩
        obtain ⟨b3, hb3⟩ : ∃ b, decide (o.fr < o.to) = b := ⟨_, rfl⟩
        obtain ⟨b4, hb4⟩ : ∃ b, isIn o.st 1 65535 = b := ⟨_, rfl⟩
        have HO : Hid (outOk o = (b1 && b2 && b3 && b4)) := hide (by unfold outOk; rw [hb1, hb2, hb3, hb4])
        have R1 := hide (rtime_is hb1)
        have R2 := hide (rtime_is hb2)
        have R4 := hide (within_is hb4)
        clear hb1 hb2 hb4
        generalize outOk o = z at HO HT
        obtain ⟨st, fr, to⟩ := o
        simp only at R1 R2 R4 hb3 c0 c1 c2
        go_wp2_with fail
        refine (unhide R1 _).mono ?_
        rintro e w1 ⟨rfl, hq⟩
        obtain rfl := hq.symm
        go_wp2_with fail
        refine (unhide R2 _).mono ?_
        rintro e w1 ⟨rfl, hq⟩
        obtain rfl := hq.symm
        cases b4
        · have HX : Hid (E = false) := hide (by rw [unhide HE, ← unhide HT, unhide HO]; simp)
          clear hb3
          go_wp2
          go_quiet ((go_at_call 93; exact Calls.quiet_of_same (unhide R4 _)))
          go_wp2
          go_ret
          exact ⟨by rw [unhide HX]; rfl, (unhide HI).1.drewN _⟩
        · cases b1
          · have HX : Hid (E = false) := hide (by rw [unhide HE, ← unhide HT, unhide HO]; simp)
            clear hb3
            go_wp2
            go_quiet ((go_at_call 93; exact Calls.quiet_of_same (unhide R4 _)))
            go_wp2
            go_ret
            exact ⟨by rw [unhide HX]; rfl, (unhide HI).1.drewN _⟩
          · cases b2
            · have HX : Hid (E = false) := hide (by rw [unhide HE, ← unhide HT, unhide HO]; simp)
              clear hb3
              go_wp2
              go_quiet ((go_at_call 93; exact Calls.quiet_of_same (unhide R4 _)))
              go_wp2
              go_ret
              exact ⟨by rw [unhide HX]; rfl, (unhide HI).1.drewN _⟩
            · cases b3
              · have HX : Hid (E = false) := hide (by rw [unhide HE, ← unhide HT, unhide HO]; simp)
                have h3 : to ≤ fr := by have := of_decide_eq_false hb3; omega
                clear hb3
                go_wp2
                go_quiet ((go_at_call 93; exact Calls.quiet_of_same (unhide R4 _)))
                go_wp2
                go_ret
                exact ⟨by rw [unhide HX]; rfl, (unhide HI).1.drewN _⟩
              · have HX : Hid ((l.drop (i + 1)).all outOk = l.all outOk) := hide (by rw [← unhide HT, unhide HO]; simp)
                have h3 : fr < to := of_decide_eq_true hb3
                clear hb3
                go_wp2
                go_quiet ((go_at_call 93; exact Calls.quiet_of_same (unhide R4 _)))
                go_wp2
                exact ⟨⟨i + 1, by omega, by go_num, (unhide HI).1.drewN _, unhide HX⟩, by simp [intOf]; omega⟩
      · obtain rfl : i = l.length := by omega
        have HX : Hid (E = true) := hide (by rw [unhide HE, ← (unhide HI).2, List.drop_length]; rfl)
        have HF := hide (unhide HI).1
        clear HI H HE
        go_wp2
        go_ret
        exact ⟨by rw [unhide HX]; rfl, unhide HF⟩
  · have HE : Hid (outsOk l = false) := hide (by unfold outsOk; rw [decide_eq_false hs]; rfl)
    generalize outsOk l = E at HE ⊢
    clear h
    go_enter Try.func78, Try.ntmps78
    go_wp2
    go_ret
    exact ⟨by rw [unhide HE]; rfl, Fr.refl _ _⟩

end Go.Proofs.Ytkjoojamkbpfcaa
