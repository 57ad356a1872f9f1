import Derived.Test.YthgkifkcckandaaJNX
/- A travel day's taps: dayLength. -/
namespace Go.Proofs.Ythgkifkcckandaa
open Go.RowKit

/-- The first minute behind a tap's travel day. -/
def dEnd (t : Tp) : Int := toV (dayV t.time)
def isLate (c : Int) (t : Tp) : Bool := decide (c ≤ t.time)
/-- How many taps are of the first one's travel day. -/
def dayLn : List Tp → Nat
  | [] => 0
  | x :: r => ((x :: r).takeWhile (fun t => !isLate (dEnd x) t)).length

theorem ixF_while {α : Type} (p : α → Bool) : ∀ (l : List α) (i : Nat), (ixF p l i = -1 ∧ (l.takeWhile (fun t => !p t)).length = l.length) ∨ (ixF p l i = (i : Int) + ((l.takeWhile (fun t => !p t)).length : Nat) ∧ (l.takeWhile (fun t => !p t)).length < l.length)
  | [], _ => .inl ⟨rfl, rfl⟩
  | b :: r, i => by
    rw [ixF_cons]
    cases h : p b with
    | true => exact .inr ⟨by simp [h], by simp [h]⟩
    | false =>
      rcases ixF_while p r (i + 1) with ⟨e1, e2⟩ | ⟨e1, e2⟩
      · exact .inl ⟨by simpa using e1, by simp [h, e2]⟩
      · refine .inr ⟨?_, by simp [h]; omega⟩
        simp only [Bool.false_eq_true, if_false, e1, List.takeWhile_cons, h, Bool.not_false, if_true, List.length_cons]
        omega

theorem late_any (w : World) (t : Tp) (c : Int) (k : Nat) (d0 : w.cell? ⟨k, 0, none⟩ = some (.int .i64 c)) :
    Calls Try.prog 34 #[.agg (tpC t), .pointer (some ⟨k, 0, none⟩)] w fun e w' => e = .returned (.bool (isLate c t)) ∧ Fr (fun _ => False) w w' := by
  obtain ⟨dev, ctr, tok, kind, place, time⟩ := t
  simp only [tpC]
  have hk := World.block_lt_of_cell? _ _ d0
  have d1 : (w.alloc (.cells #[.int .i64 dev, .int .i64 ctr, .string tok, .int .i64 kind, .int .i64 place, .int .i64 time] 39)).cell? ⟨k, 0, none⟩ = some (.int .i64 c) := (((Fr.refl (fun _ => False) w).alloc _).cell hk (fun t => t)).trans d0
  go_enter Try.func34, Try.ntmps34
  go_wp2
  go_ret
  exact ⟨rfl, (Fr.refl _ w).alloc _⟩

theorem indexTp_any (w : World) (c : Int) (k : Nat) (d0 : w.cell? ⟨k, 0, none⟩ = some (.int .i64 c)) (ao : Option Addr) (cap : Nat) (l : List Tp) (h : CAt w ao (tpV l)) (hl : l.length ≤ 4398046511104) :
    Calls Try.prog 33 #[.slice ao l.length cap, .func (.func 34) #[] #[.pointer (some ⟨k, 0, none⟩)]] w fun e w' => e = .returned (.int .i64 (ixF (isLate c) l 0)) ∧ Fr (fun _ => False) w w' := by
  have HC := hide (fun (w' : World) (hf : Fr (fun _ => False) w w') (s : Tp) => (late_any w' s c k ((hf.cell (a := ⟨k, 0, none⟩) (World.block_lt_of_cell? _ _ d0) (fun t => t)).trans d0) : Calls Try.prog 34 #[.agg (tpC s), .pointer (some ⟨k, 0, none⟩)] w' fun e w'' => e = .returned (.bool ((isLate c) s)) ∧ Fr (fun _ => False) w' w''))
  have H := hide h
  generalize hp : (isLate c) = p at *
  have HC' : Hid (∀ (w' : World) (hf : Fr (fun _ => False) w w') (s : Tp), Calls Try.prog 34 #[.agg (tpC s), .pointer (some ⟨k, 0, none⟩)] w' fun e w'' => e = .returned (.bool (p s)) ∧ Fr (fun _ => False) w' w'') := hide (fun w' hf s => unhide HC w' hf s)
  clear h d0 hp HC
  go_enter Try.func33, Try.ntmps33
  go_wp2
  go_loopw [5, 8] (fun _ iv wr => ∃ (i : Nat), i ≤ l.length ∧ iv = .int .i64 i ∧ Hid (Fr (fun _ => False) w wr ∧ ixF p (l.drop i) i = ixF p l 0)) (fun _ iv _ => l.length - (intOf iv).toNat)
  case atStart => exact ⟨0, Nat.zero_le _, rfl, Fr.refl _ _, by simp⟩
  case round =>
    obtain ⟨i, hi, rfl, HI⟩ := hrel
    by_cases hil : i < l.length
    · obtain ⟨b, off, rfl, c0, c1, c2, c3, c4, c5⟩ := ((unhide H).keep (unhide HI).1).tp hil
      have ht := (unhide HI).2
      rw [List.drop_eq_getElem_cons hil, ixF_cons] at ht
      have R := unhide HC' wr (unhide HI).1 l[i]
      generalize l[i] = x at *
      have HT := hide ht
      clear ht
      simp only [tpC] at R
      cases hx : p x with
      | true =>
        rw [hx] at R HT
        clear hx
        have HT' : Hid (ixF p l 0 = (i : Int)) := hide (by have := unhide HT; simpa using this.symm)
        clear HT
        go_wp2_with fail
        refine R.mono ?_
        rintro e w1 ⟨rfl, hF⟩
        have HF := hide ((unhide HI).1.trans hF (fun _ _ t => t))
        clear hF R
        go_wp2
        go_ret
        exact ⟨by rw [unhide HT']; rfl, unhide HF⟩
      | false =>
        rw [hx] at R HT
        clear hx
        have HT' : Hid (ixF p (l.drop (i + 1)) (i + 1) = ixF p l 0) := hide (by have := unhide HT; simpa using this)
        clear HT
        go_wp2_with fail
        refine R.mono ?_
        rintro e w1 ⟨rfl, hF⟩
        have HF := hide ((unhide HI).1.trans hF (fun _ _ t => t))
        clear hF R
        go_wp2
        exact ⟨⟨i + 1, by omega, by go_num, unhide HF, unhide HT'⟩, by simp [intOf]; omega⟩
    · obtain rfl : i = l.length := by omega
      have ht := (unhide HI).2
      rw [List.drop_length] at ht
      have HN := hide ht
      have HF := hide (unhide HI).1
      clear ht HI H
      go_wp2
      go_ret
      exact ⟨by rw [← unhide HN]; rfl, unhide HF⟩

theorem dayLn_eq (l : List Tp) (h : 0 < l.length) : dayLn l = (l.takeWhile (fun t => !isLate (dEnd l[0]) t)).length := by
  cases l with
  | nil => simp at h
  | cons x r => rfl

theorem dayLn_le (l : List Tp) : dayLn l ≤ l.length := by
  cases l with
  | nil => exact Nat.le_refl _
  | cons x r => exact (List.takeWhile_sublist _).length_le

theorem dayLength_any (w : World) (ao : Option Addr) (cap : Nat) (l : List Tp) (h : CAt w ao (tpV l)) (hl : l.length ≤ 4398046511104) (h0 : 0 < l.length) :
    Calls Try.prog 16 #[.slice ao l.length cap] w fun e w' => e = .returned (.int .i64 (dayLn l)) ∧ Fr (fun _ => False) w w' := by
  obtain ⟨b, off, rfl, c0, c1, c2, c3, c4, c5⟩ := h.tp h0
  simp only [Nat.zero_mul, Nat.add_zero] at c0 c1 c2 c3 c4 c5
  have R1 := hide (cday_any w l[0].time)
  have HD := hide (dayLn_eq l h0)
  have hde : dEnd l[0] = toV (dayV l[0].time) := rfl
  rw [hde] at HD
  generalize l[0].time = tm at *
  generalize dayE tm = de at *
  generalize dayV tm = dv at *
  have R2 := hide (bounds_any w dv)
  generalize fromV dv = fv at *
  generalize toV dv = tv at *
  have R3 := hide (fun (w' : World) (hf : Fr (fun _ => False) w w') (k : Nat) (d : w'.cell? ⟨k, 0, none⟩ = some (.int .i64 tv)) => indexTp_any w' tv k d (some ⟨b, off, none⟩) cap l (h.keep hf) hl)
  have HX := hide (ixF_while (isLate tv) l 0)
  generalize ixF (isLate tv) l 0 = r at *
  generalize hT : (l.takeWhile (fun t => !isLate tv t)).length = n at *
  have HLE := hide (dayLn_le l)
  generalize dayLn l = z at *
  clear hT hde h c0 c1 c2 c3 c4
  go_enter Try.func16, Try.ntmps16
  go_wp2_with fail
  refine (unhide R1).mono ?_
  rintro e w1 ⟨rfl, rfl⟩
  go_wp2_with fail
  refine (unhide R2).mono ?_
  rintro e w2 ⟨rfl, rfl⟩
  go_wp2_with fail
  refine (unhide R3 _ ((Fr.refl _ _).alloc _) w2.heap.size (by simp [go_sem])).mono ?_
  rintro e w3 ⟨rfl, hF⟩
  have HF : Hid (Fr (fun _ => False) w2 w3) := hide (((Fr.refl _ _).alloc _).trans hF (fun _ _ t => t))
  clear hF R1 R2 R3
  rcases unhide HX with ⟨e1, e2⟩ | ⟨e1, e2⟩
  · subst e1
    have HZ : Hid (z = l.length) := hide (by rw [unhide HD]; exact e2)
    clear e2 HX HD HLE
    go_wp2
    go_ret
    exact ⟨by rw [unhide HZ]; rfl, unhide HF⟩
  · have HZ : Hid (z = n) := hide (unhide HD)
    have e3 : r = (n : Int) := by omega
    subst e3
    clear e2 HX HD HLE e1
    go_wp2
    go_ret
    exact ⟨by rw [unhide HZ]; rfl, unhide HF⟩

end Go.Proofs.Ythgkifkcckandaa

