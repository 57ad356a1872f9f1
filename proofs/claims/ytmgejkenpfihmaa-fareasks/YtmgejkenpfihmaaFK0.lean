import Derived.Test.YtmgejkenpfihmaaJK0
import Derived.Test.YtmgejkenpfihmaaQT1
/- The peak: clock.Peak with its closure, and what of slices it calls; the document's own. -/
namespace Go.Proofs.Ytmgejkenpfihmaa
open Go.RowKit

/-- Is the minute in the band? -/
def inB (m : Int) (b : Int × Int) : Bool := decide (b.1 ≤ m) && decide (m < b.2)

theorem pk1_any (w : World) (m : Int) (k : Nat) (b : Int × Int) (hc : w.cell? ⟨k, 0, none⟩ = some (.int .i64 m)) :
    Calls Try.prog 83 #[.agg #[.int .i64 b.1, .int .i64 b.2], .pointer (some ⟨k, 0, none⟩)] w fun e w' => e = .returned (.bool (inB m b)) ∧ Fr (fun _ => False) w w' := by
  have hlt := World.block_lt_of_cell? _ _ hc
  obtain ⟨x, y⟩ := b
  by_cases h1 : x ≤ m
  · by_cases h2 : m < y
    · have hr : inB m (x, y) = true := by simp [inB, h1, h2]
      rw [hr]
      clear hr
      go_enter Try.func83, Try.ntmps83
      go_wp2
      go_ret
      exact ⟨rfl, (Fr.refl _ w).alloc _⟩
    · have hr : inB m (x, y) = false := by simp [inB, h2]
      rw [hr]
      clear hr
      go_enter Try.func83, Try.ntmps83
      go_wp2
      go_ret
      exact ⟨rfl, (Fr.refl _ w).alloc _⟩
  · have hr : inB m (x, y) = false := by simp [inB, h1]
    rw [hr]
    clear hr
    go_enter Try.func83, Try.ntmps83
    go_wp2
    go_ret
    exact ⟨rfl, (Fr.refl _ w).alloc _⟩

/-- The first index, or -1. -/
def ixB (m : Int) : List (Int × Int) → Nat → Int
  | [], _ => -1
  | b :: r, i => if inB m b then (i : Int) else ixB m r (i + 1)

theorem ixB_cons (m : Int) (b : Int × Int) (r : List (Int × Int)) (i : Nat) : ixB m (b :: r) i = if inB m b then (i : Int) else ixB m r (i + 1) := rfl

theorem ixB_any (m : Int) : ∀ (l : List (Int × Int)) (i : Nat), decide (0 ≤ ixB m l i) = l.any (inB m)
  | [], _ => rfl
  | b :: r, i => by
    unfold ixB
    rw [List.any_cons]
    cases h : inB m b with
    | true => simp
    | false => simp [ixB_any m r (i + 1)]

theorem indexBd_any (w : World) (m : Int) (k : Nat) (hc : w.cell? ⟨k, 0, none⟩ = some (.int .i64 m)) (ao : Option Addr) (cap : Nat) (l : List (Int × Int)) (h : CAt w ao (bdV l)) (hl : l.length ≤ 140737488355328) :
    Calls Try.prog 89 #[.slice ao l.length cap, .func (.func 83) #[] #[.pointer (some ⟨k, 0, none⟩)]] w fun e w' => e = .returned (.int .i64 (ixB m l 0)) ∧ Fr (fun _ => False) w w' := by
  have hlt := World.block_lt_of_cell? _ _ hc
  have HC := hide (And.intro hc hlt)
  have H := hide h
  clear h hc hlt
  go_enter Try.func89, Try.ntmps89
  go_wp2
  go_loopw [5, 8] (fun _ iv wr => ∃ (i : Nat), i ≤ l.length ∧ iv = .int .i64 i ∧ Hid (Fr (fun _ => False) w wr ∧ ixB m (l.drop i) i = ixB m l 0)) (fun _ iv _ => l.length - (intOf iv).toNat)
  case atStart => exact ⟨0, Nat.zero_le _, rfl, Fr.refl _ _, by simp⟩
  case round =>
    obtain ⟨i, hi, rfl, HI⟩ := hrel
    by_cases hil : i < l.length
    · have hP := (unhide H).keep (unhide HI).1
      obtain ⟨b, off, rfl, c0, c1⟩ := hP.bd hil
      have hd : l.drop i = l[i] :: l.drop (i + 1) := List.drop_eq_getElem_cons hil
      have ht := (unhide HI).2
      rw [hd] at ht
      rw [ixB_cons] at ht
      have hcw := ((unhide HI).1.cell (a := ⟨k, 0, none⟩) (unhide HC).2 (fun t => t)).trans (unhide HC).1
      have R := pk1_any wr m k l[i] hcw
      generalize l[i] = x at *
      have HT := hide ht
      have HW := hide hcw
      clear ht hd hP hcw
      cases hx : inB m x with
      | true =>
        rw [hx] at R HT
        clear hx
        have HT' : Hid (ixB m l 0 = (i : Int)) := hide (by have := unhide HT; simpa using this.symm)
        clear HT
        go_wp2_with fail
        refine R.mono ?_
        rintro e w1 ⟨rfl, hF⟩
        have HF := hide ((unhide HI).1.trans hF (fun _ _ t => t))
        clear hF R
        go_wp2
        go_ret
        exact ⟨by rw [unhide HT']; rfl, unhide HF⟩
      | false =>
        rw [hx] at R HT
        clear hx
        have HT' : Hid (ixB m (l.drop (i + 1)) (i + 1) = ixB m l 0) := hide (by have := unhide HT; simpa using this)
        clear HT
        go_wp2_with fail
        refine R.mono ?_
        rintro e w1 ⟨rfl, hF⟩
        have HF := hide ((unhide HI).1.trans hF (fun _ _ t => t))
        clear hF R
        go_wp2
        exact ⟨⟨i + 1, by omega, by go_num, unhide HF, unhide HT'⟩, by simp [intOf]; omega⟩
    · obtain rfl : i = l.length := by omega
      have ht := (unhide HI).2
      rw [List.drop_length] at ht
      have HN := hide ht
      have HF := hide (unhide HI).1
      clear ht HI H
      go_wp2
      go_ret
      exact ⟨by rw [← unhide HN]; rfl, unhide HF⟩

theorem ixB_le (m : Int) : ∀ (l : List (Int × Int)) (i : Nat), -1 ≤ ixB m l i
  | [], _ => Int.le_refl _
  | b :: r, i => by
    rw [ixB_cons]
    split
    · omega
    · exact ixB_le m r (i + 1)

theorem containsBd_any (w : World) (m : Int) (k : Nat) (hc : w.cell? ⟨k, 0, none⟩ = some (.int .i64 m)) (ao : Option Addr) (cap : Nat) (l : List (Int × Int)) (h : CAt w ao (bdV l)) (hl : l.length ≤ 140737488355328) :
    Calls Try.prog 82 #[.slice ao l.length cap, .func (.func 83) #[] #[.pointer (some ⟨k, 0, none⟩)]] w fun e w' => e = .returned (.bool (l.any (inB m))) ∧ Fr (fun _ => False) w w' := by
  have R := indexBd_any w m k hc ao cap l h hl
  have e0 := ixB_any m l 0
  generalize ixB m l 0 = x at *
  generalize l.any (inB m) = y at *
  subst e0
  clear h hc hl
  go_enter Try.func82, Try.ntmps82
  go_wp2_with fail
  refine R.mono ?_
  rintro e w1 ⟨rfl, hF⟩
  have HF := hide hF
  clear hF R
  go_wp2
  go_ret
  exact ⟨rfl, unhide HF⟩

/-- Is it the peak? -/
def peakB (l : List (Int × Int)) (t : Int) : Bool := timeB t && decide (wdayV (dayV t) ≤ 4) && l.any (inB (t % 1440))

theorem cpeak_any (w : World) (ao : Option Addr) (cap : Nat) (l : List (Int × Int)) (h : CAt w ao (bdV l)) (hl : l.length ≤ 140737488355328) (t : Int) :
    Calls Try.prog 68 #[.slice ao l.length cap, .int .i64 t] w fun e w' => e = .returned (.bool (peakB l t)) ∧ Fr (fun _ => False) w w' := by
  have H := hide h
  have R1 := cday_any w t
  have R2 := wday_any w (dayV t)
  cases hr : timeB t with
  | false =>
    have e1 : peakB l t = false := by simp [peakB, hr]
    have e2 : dayE t = 60 := by simp [dayE, hr]
    rw [e1]
    rw [e2] at R1
    clear e1 e2 hr h
    go_enter Try.func68, Try.ntmps68
    go_wp2_with fail
    refine R1.mono ?_
    rintro e w1 ⟨rfl, rfl⟩
    go_wp2
    go_ret
    exact ⟨rfl, Fr.refl _ _⟩
  | true =>
    have hb := (timeB_iff t).1 hr
    have e2 : dayE t = 0 := by simp [dayE, hr]
    rw [e2] at R1
    by_cases hw : wdayV (dayV t) ≤ 4
    · have e1 : peakB l t = l.any (inB (t % 1440)) := by simp [peakB, hr, hw]
      rw [e1]
      generalize wdayV (dayV t) = wd at *
      generalize dayV t = d at *
      have em : t.tmod 1440 = t % 1440 := Int.tmod_eq_emod_of_nonneg hb.1
      have hm0 : 0 ≤ t % 1440 := Int.emod_nonneg _ (by decide)
      have hm1 : t % 1440 < 1440 := Int.emod_lt_of_pos _ (by decide)
      have HK := hide (fun (w' : World) (k : Nat) (hc : w'.cell? ⟨k, 0, none⟩ = some (.int .i64 (t % 1440))) (hf : Fr (fun _ => False) w w') => containsBd_any w' (t % 1440) k hc ao cap l (h.keep hf) hl)
      generalize l.any (inB (t % 1440)) = y at *
      clear e1 e2 hr h
      go_enter Try.func68, Try.ntmps68
      go_wp2_with fail
      refine R1.mono ?_
      rintro e w1 ⟨rfl, rfl⟩
      go_wp2_with fail
      refine R2.mono ?_
      rintro e w1 ⟨rfl, rfl⟩
      go_wp2_with fail
      refine (unhide HK _ w1.heap.size (by rw [World.cell?_alloc_new]; rfl) ((Fr.refl _ w1).alloc _)).mono ?_
      rintro e w2 ⟨rfl, hF⟩
      have HF := hide (((Fr.refl (fun _ => False) w1).alloc _).trans hF (fun _ _ t => t))
      clear hF HK
      go_wp2
      go_ret
      exact ⟨rfl, unhide HF⟩
    · have e1 : peakB l t = false := by simp [peakB, hw]
      rw [e1]
      generalize wdayV (dayV t) = wd at *
      generalize dayV t = d at *
      clear e1 e2 hr h
      go_enter Try.func68, Try.ntmps68
      go_wp2_with fail
      refine R1.mono ?_
      rintro e w1 ⟨rfl, rfl⟩
      go_wp2_with fail
      refine R2.mono ?_
      rintro e w1 ⟨rfl, rfl⟩
      go_wp2
      go_ret
      exact ⟨rfl, Fr.refl _ _⟩

theorem rpeakB_any (w : World) (ao : Option Addr) (cap : Nat) (l : List (Int × Int)) (h : CAt w ao (bdV l)) (hl : l.length ≤ 140737488355328) (t : Int) :
    Calls Try.prog 49 #[.slice ao l.length cap, .int .i64 t] w fun e w' => e = .returned (.bool (peakB l t)) ∧ w' = w := by
  have H := hide h
  have R1 := rday_any w t
  have R2 := rwday_any w (dayV t)
  cases hr : timeB t with
  | false =>
    have e1 : peakB l t = false := by simp [peakB, hr]
    have e2 : dayE t = 60 := by simp [dayE, hr]
    rw [e1]
    rw [e2] at R1
    clear e1 e2 hr h
    go_enter Try.func49, Try.ntmps49
    go_wp2_with fail
    refine R1.mono ?_
    rintro e w1 ⟨rfl, rfl⟩
    go_wp2
    go_ret
    exact ⟨rfl, rfl⟩
  | true =>
    have hb := (timeB_iff t).1 hr
    have e2 : dayE t = 0 := by simp [dayE, hr]
    rw [e2] at R1
    by_cases hw : wdayV (dayV t) ≤ 4
    · have e1 : peakB l t = l.any (inB (t % 1440)) := by simp [peakB, hr, hw]
      rw [e1]
      generalize wdayV (dayV t) = wd at *
      generalize dayV t = d at *
      have em : t.tmod 1440 = t % 1440 := Int.tmod_eq_emod_of_nonneg hb.1
      generalize t % 1440 = m at *
      obtain ⟨y, hy⟩ : ∃ y, l.any (inB m) = y := ⟨_, rfl⟩
      rw [hy]
      have HY := hide hy
      clear e1 e2 hr h hy
      go_enter Try.func49, Try.ntmps49
      go_wp2_with fail
      refine R1.mono ?_
      rintro e w1 ⟨rfl, rfl⟩
      go_wp2_with fail
      refine R2.mono ?_
      rintro e w1 ⟨rfl, rfl⟩
      clear R1 R2
      go_wp2
      go_loopw [7] (fun iv wr => ∃ (i : Nat), i ≤ l.length ∧ iv = .int .i64 i ∧ wr = w1 ∧ Hid ((l.drop i).any (inB m) = y)) (fun iv _ => l.length - (intOf iv).toNat)
      case atStart => exact ⟨0, Nat.zero_le _, rfl, rfl, hide (by simpa using unhide HY)⟩
      case round =>
        obtain ⟨i, hi, rfl, rfl, HI⟩ := hrel
        by_cases hil : i < l.length
        · obtain ⟨b, off, rfl, c0, c1⟩ := (unhide H).bd hil
          have hd : l.drop i = l[i] :: l.drop (i + 1) := List.drop_eq_getElem_cons hil
          have ht := unhide HI
          rw [hd, List.any_cons] at ht
          generalize l[i] = x at *
          obtain ⟨x0, x1⟩ := x
          have HT := hide ht
          clear ht hd
          by_cases h1 : x0 ≤ m
          · by_cases h2 : m < x1
            · have HT' : Hid (y = true) := hide (by rw [← unhide HT]; simp [inB, h1, h2])
              clear HT
              go_wp2
              go_ret
              exact ⟨by rw [unhide HT']; rfl, rfl⟩
            · have HT' : Hid ((l.drop (i + 1)).any (inB m) = y) := hide (by rw [← unhide HT]; simp [inB, h2])
              clear HT
              go_wp2
              exact ⟨⟨i + 1, by omega, by go_num, (by first | rfl | trivial), unhide HT'⟩, by simp [intOf]; omega⟩
          · have HT' : Hid ((l.drop (i + 1)).any (inB m) = y) := hide (by rw [← unhide HT]; simp [inB, h1])
            clear HT
            go_wp2
            exact ⟨⟨i + 1, by omega, by go_num, (by first | rfl | trivial), unhide HT'⟩, by simp [intOf]; omega⟩
        · obtain rfl : i = l.length := by omega
          have ht := unhide HI
          rw [List.drop_length] at ht
          have HN : Hid (y = false) := hide (by rw [← ht]; rfl)
          clear ht HI H HY
          go_wp2
          go_ret
          exact ⟨by rw [unhide HN]; rfl, rfl⟩
    · have e1 : peakB l t = false := by simp [peakB, hw]
      rw [e1]
      generalize wdayV (dayV t) = wd at *
      generalize dayV t = d at *
      clear e1 e2 hr h
      go_enter Try.func49, Try.ntmps49
      go_wp2_with fail
      refine R1.mono ?_
      rintro e w1 ⟨rfl, rfl⟩
      go_wp2_with fail
      refine R2.mono ?_
      rintro e w1 ⟨rfl, rfl⟩
      go_wp2
      go_ret
      exact ⟨rfl, rfl⟩

end Go.Proofs.Ytmgejkenpfihmaa

