import Derived.Test.YtjgbllfppomcmaaGreatJK0
import Derived.Test.YtjgbllfppomcmaaGreatQT1
import Derived.Test.YtjgbllfppomcmaaGreatJJ0
import Derived.Test.YtjgbllfppomcmaaGreatQM3
import Derived.Test.YtjgbllfppomcmaaGreatQUX
import Derived.Deep.RegionHeld3
import Derived.Deep.Cut
import Derived.Deep.CutBlock
import Derived.Test.YtjgbllfppomcmaaGreatBX
import Derived.Test.YtjgbllfppomcmaaGreatPJ0
/- The peak: clock.Peak with its closure, and what of slices it calls; the document's own. -/
namespace Go.Proofs.YtjgbllfppomcmaaGreat
open Go.RowKit

/-- Is the minute in the band? -/
def inB (m : Int) (b : Int × Int) : Bool := decide (b.1 ≤ m) && decide (m < b.2)

theorem pk1_any (w : World) (m : Int) (k : Nat) (b : Int × Int) (hc : w.cell? ⟨k, 0, none⟩ = some (.int .i64 m)) :
    Calls Tryz.prog 187 #[.agg #[.int .i64 b.1, .int .i64 b.2], .pointer (some ⟨k, 0, none⟩)] w fun e w' => e = .returned (.bool (inB m b)) ∧ Fr (fun _ => False) w w' := by
  have hlt := World.block_lt_of_cell? _ _ hc
  obtain ⟨x, y⟩ := b
  by_cases h1 : x ≤ m
  · by_cases h2 : m < y
    · have hr : inB m (x, y) = true := by simp [inB, h1, h2]
      rw [hr]
      clear hr
      go_enter Tryz.func187, Tryz.ntmps187
      go_wp2
      go_ret
      exact ⟨rfl, (Fr.refl _ w).alloc _⟩
    · have hr : inB m (x, y) = false := by simp [inB, h2]
      rw [hr]
      clear hr
      go_enter Tryz.func187, Tryz.ntmps187
      go_wp2
      go_ret
      exact ⟨rfl, (Fr.refl _ w).alloc _⟩
  · have hr : inB m (x, y) = false := by simp [inB, h1]
    rw [hr]
    clear hr
    go_enter Tryz.func187, Tryz.ntmps187
    go_wp2
    go_ret
    exact ⟨rfl, (Fr.refl _ w).alloc _⟩

/-- The first index, or -1. -/
def ixB (m : Int) : List (Int × Int) → Nat → Int
  | [], _ => -1
  | b :: r, i => if inB m b then (i : Int) else ixB m r (i + 1)

theorem ixB_cons (m : Int) (b : Int × Int) (r : List (Int × Int)) (i : Nat) : ixB m (b :: r) i = if inB m b then (i : Int) else ixB m r (i + 1) := rfl

theorem ixB_any (m : Int) : ∀ (l : List (Int × Int)) (i : Nat), decide (0 ≤ ixB m l i) = l.any (inB m)
  | [], _ => rfl
  | b :: r, i => by
    unfold ixB
    rw [List.any_cons]
    cases h : inB m b with
    | true => simp
    | false => simp [ixB_any m r (i + 1)]

theorem indexBd_any (w : World) (m : Int) (k : Nat) (hc : w.cell? ⟨k, 0, none⟩ = some (.int .i64 m)) (ao : Option Addr) (cap : Nat) (l : List (Int × Int)) (h : CAt w ao (bdV l)) (hl : l.length ≤ 140737488355328) :
    Calls Tryz.prog 207 #[.slice ao l.length cap, .func (.func 187) #[] #[.pointer (some ⟨k, 0, none⟩)]] w fun e w' => e = .returned (.int .i64 (ixB m l 0)) ∧ Fr (fun _ => False) w w' := by
  have hlt := World.block_lt_of_cell? _ _ hc
  have HC := hide (And.intro hc hlt)
  have H := hide h
  clear h hc hlt
  go_enter Tryz.func207, Tryz.ntmps207
  go_wp2
  go_loopw [5, 8] (fun _ iv wr => ∃ (i : Nat), i ≤ l.length ∧ iv = .int .i64 i ∧ Hid (Fr (fun _ => False) w wr ∧ ixB m (l.drop i) i = ixB m l 0)) (fun _ iv _ => l.length - (intOf iv).toNat)
  case atStart => exact ⟨0, Nat.zero_le _, rfl, Fr.refl _ _, by simp⟩
  case round =>
    obtain ⟨i, hi, rfl, HI⟩ := hrel
    by_cases hil : i < l.length
    · have hP := (unhide H).keep (unhide HI).1
      obtain ⟨b, off, rfl, c0, c1⟩ := hP.bd hil
      have hd : l.drop i = l[i] :: l.drop (i + 1) := List.drop_eq_getElem_cons hil
      have ht := (unhide HI).2
      rw [hd] at ht
      rw [ixB_cons] at ht
      have hcw := ((unhide HI).1.cell (a := ⟨k, 0, none⟩) (unhide HC).2 (fun t => t)).trans (unhide HC).1
      have R := pk1_any wr m k l[i] hcw
      generalize l[i] = x at *
      have HT := hide ht
      have HW := hide hcw
      clear ht hd hP hcw
      cases hx : inB m x with
      | true =>
        rw [hx] at R HT
        clear hx
        have HT' : Hid (ixB m l 0 = (i : Int)) := hide (by have := unhide HT; simpa using this.symm)
        clear HT
        go_wp2_with fail
        refine R.mono ?_
        rintro e w1 ⟨rfl, hF⟩
        have HF := hide ((unhide HI).1.trans hF (fun _ _ t => t))
        clear hF R
        go_wp2
        go_ret
        exact ⟨by rw [unhide HT']; rfl, unhide HF⟩
      | false =>
        rw [hx] at R HT
        clear hx
        have HT' : Hid (ixB m (l.drop (i + 1)) (i + 1) = ixB m l 0) := hide (by have := unhide HT; simpa using this)
        clear HT
        go_wp2_with fail
        refine R.mono ?_
        rintro e w1 ⟨rfl, hF⟩
        have HF := hide ((unhide HI).1.trans hF (fun _ _ t => t))
        clear hF R
        go_wp2
        exact ⟨⟨i + 1, by omega, by go_num, unhide HF, unhide HT'⟩, by simp [intOf]; omega⟩
    · obtain rfl : i = l.length := by omega
      have ht := (unhide HI).2
      rw [List.drop_length] at ht
      have HN := hide ht
      have HF := hide (unhide HI).1
      clear ht HI H
      go_wp2
      go_ret
      exact ⟨by rw [← unhide HN]; rfl, unhide HF⟩

theorem ixB_le (m : Int) : ∀ (l : List (Int × Int)) (i : Nat), -1 ≤ ixB m l i
  | [], _ => Int.le_refl _
  | b :: r, i => by
    rw [ixB_cons]
    split
    · omega
    · exact ixB_le m r (i + 1)

theorem containsBd_any (w : World) (m : Int) (k : Nat) (hc : w.cell? ⟨k, 0, none⟩ = some (.int .i64 m)) (ao : Option Addr) (cap : Nat) (l : List (Int × Int)) (h : CAt w ao (bdV l)) (hl : l.length ≤ 140737488355328) :
    Calls Tryz.prog 186 #[.slice ao l.length cap, .func (.func 187) #[] #[.pointer (some ⟨k, 0, none⟩)]] w fun e w' => e = .returned (.bool (l.any (inB m))) ∧ Fr (fun _ => False) w w' := by
  have R := indexBd_any w m k hc ao cap l h hl
  have e0 := ixB_any m l 0
  generalize ixB m l 0 = x at *
  generalize l.any (inB m) = y at *
  subst e0
  clear h hc hl
  go_enter Tryz.func186, Tryz.ntmps186
  go_wp2_with fail
  refine R.mono ?_
  rintro e w1 ⟨rfl, hF⟩
  have HF := hide hF
  clear hF R
  go_wp2
  go_ret
  exact ⟨rfl, unhide HF⟩

/-- Is it the peak? -/
def peakB (l : List (Int × Int)) (t : Int) : Bool := timeB t && decide (wdayV (dayV t) ≤ 4) && l.any (inB (t % 1440))

theorem cpeak_any (w : World) (ao : Option Addr) (cap : Nat) (l : List (Int × Int)) (h : CAt w ao (bdV l)) (hl : l.length ≤ 140737488355328) (t : Int) :
    Calls Tryz.prog 163 #[.slice ao l.length cap, .int .i64 t] w fun e w' => e = .returned (.bool (peakB l t)) ∧ Fr (fun _ => False) w w' := by
  have H := hide h
  have R1 := cday_any w t
  have R2 := wday_any w (dayV t)
  cases hr : timeB t with
  | false =>
    have e1 : peakB l t = false := by simp [peakB, hr]
    have e2 : dayE t = 60 := by simp [dayE, hr]
    rw [e1]
    rw [e2] at R1
    clear e1 e2 hr h
    go_enter Tryz.func163, Tryz.ntmps163
    go_wp2_with fail
    refine R1.mono ?_
    rintro e w1 ⟨rfl, rfl⟩
    go_wp2
    go_ret
    exact ⟨rfl, Fr.refl _ _⟩
  | true =>
    have hb := (timeB_iff t).1 hr
    have e2 : dayE t = 0 := by simp [dayE, hr]
    rw [e2] at R1
    by_cases hw : wdayV (dayV t) ≤ 4
    · have e1 : peakB l t = l.any (inB (t % 1440)) := by simp [peakB, hr, hw]
      rw [e1]
      generalize wdayV (dayV t) = wd at *
      generalize dayV t = d at *
      have em : t.tmod 1440 = t % 1440 := Int.tmod_eq_emod_of_nonneg hb.1
      have hm0 : 0 ≤ t % 1440 := Int.emod_nonneg _ (by decide)
      have hm1 : t % 1440 < 1440 := Int.emod_lt_of_pos _ (by decide)
      have HK := hide (fun (w' : World) (k : Nat) (hc : w'.cell? ⟨k, 0, none⟩ = some (.int .i64 (t % 1440))) (hf : Fr (fun _ => False) w w') => containsBd_any w' (t % 1440) k hc ao cap l (h.keep hf) hl)
      generalize l.any (inB (t % 1440)) = y at *
      clear e1 e2 hr h
      go_enter Tryz.func163, Tryz.ntmps163
      go_wp2_with fail
      refine R1.mono ?_
      rintro e w1 ⟨rfl, rfl⟩
      go_wp2_with fail
      refine R2.mono ?_
      rintro e w1 ⟨rfl, rfl⟩
      go_wp2_with fail
      refine (unhide HK _ w1.heap.size (by rw [World.cell?_alloc_new]; rfl) ((Fr.refl _ w1).alloc _)).mono ?_
      rintro e w2 ⟨rfl, hF⟩
      have HF := hide (((Fr.refl (fun _ => False) w1).alloc _).trans hF (fun _ _ t => t))
      clear hF HK
      go_wp2
      go_ret
      exact ⟨rfl, unhide HF⟩
    · have e1 : peakB l t = false := by simp [peakB, hw]
      rw [e1]
      generalize wdayV (dayV t) = wd at *
      generalize dayV t = d at *
      clear e1 e2 hr h
      go_enter Tryz.func163, Tryz.ntmps163
      go_wp2_with fail
      refine R1.mono ?_
      rintro e w1 ⟨rfl, rfl⟩
      go_wp2_with fail
      refine R2.mono ?_
      rintro e w1 ⟨rfl, rfl⟩
      go_wp2
      go_ret
      exact ⟨rfl, Fr.refl _ _⟩

theorem rpeakB_any (w : World) (ao : Option Addr) (cap : Nat) (l : List (Int × Int)) (h : CAt w ao (bdV l)) (hl : l.length ≤ 140737488355328) (t : Int) :
    Calls Tryz.prog 127 #[.slice ao l.length cap, .int .i64 t] w fun e w' => e = .returned (.bool (peakB l t)) ∧ w' = w := by
  have H := hide h
  have R1 := rday_any w t
  have R2 := rwday_any w (dayV t)
  cases hr : timeB t with
  | false =>
    have e1 : peakB l t = false := by simp [peakB, hr]
    have e2 : dayE t = 60 := by simp [dayE, hr]
    rw [e1]
    rw [e2] at R1
    clear e1 e2 hr h
    go_enter Tryz.func127, Tryz.ntmps127
    go_wp2_with fail
    refine R1.mono ?_
    rintro e w1 ⟨rfl, rfl⟩
    go_wp2
    go_ret
    exact ⟨rfl, rfl⟩
  | true =>
    have hb := (timeB_iff t).1 hr
    have e2 : dayE t = 0 := by simp [dayE, hr]
    rw [e2] at R1
    by_cases hw : wdayV (dayV t) ≤ 4
    · have e1 : peakB l t = l.any (inB (t % 1440)) := by simp [peakB, hr, hw]
      rw [e1]
      generalize wdayV (dayV t) = wd at *
      generalize dayV t = d at *
      have em : t.tmod 1440 = t % 1440 := Int.tmod_eq_emod_of_nonneg hb.1
      generalize t % 1440 = m at *
      obtain ⟨y, hy⟩ : ∃ y, l.any (inB m) = y := ⟨_, rfl⟩
      rw [hy]
      have HY := hide hy
      clear e1 e2 hr h hy
      go_enter Tryz.func127, Tryz.ntmps127
      go_wp2_with fail
      refine R1.mono ?_
      rintro e w1 ⟨rfl, rfl⟩
      go_wp2_with fail
      refine R2.mono ?_
      rintro e w1 ⟨rfl, rfl⟩
      clear R1 R2
      go_wp2
      go_loopw [7] (fun iv wr => ∃ (i : Nat), i ≤ l.length ∧ iv = .int .i64 i ∧ wr = w1 ∧ Hid ((l.drop i).any (inB m) = y)) (fun iv _ => l.length - (intOf iv).toNat)
      case atStart => exact ⟨0, Nat.zero_le _, rfl, rfl, hide (by simpa using unhide HY)⟩
      case round =>
        obtain ⟨i, hi, rfl, rfl, HI⟩ := hrel
        by_cases hil : i < l.length
        · obtain ⟨b, off, rfl, c0, c1⟩ := (unhide H).bd hil
          have hd : l.drop i = l[i] :: l.drop (i + 1) := List.drop_eq_getElem_cons hil
          have ht := unhide HI
          rw [hd, List.any_cons] at ht
          generalize l[i] = x at *
          obtain ⟨x0, x1⟩ := x
          have HT := hide ht
          clear ht hd
          by_cases h1 : x0 ≤ m
          · by_cases h2 : m < x1
            · have HT' : Hid (y = true) := hide (by rw [← unhide HT]; simp [inB, h1, h2])
              clear HT
              go_wp2
              go_ret
              exact ⟨by rw [unhide HT']; rfl, rfl⟩
            · have HT' : Hid ((l.drop (i + 1)).any (inB m) = y) := hide (by rw [← unhide HT]; simp [inB, h2])
              clear HT
              go_wp2
              exact ⟨⟨i + 1, by omega, by go_num, (by first | rfl | trivial), unhide HT'⟩, by simp [intOf]; omega⟩
          · have HT' : Hid ((l.drop (i + 1)).any (inB m) = y) := hide (by rw [← unhide HT]; simp [inB, h1])
            clear HT
            go_wp2
            exact ⟨⟨i + 1, by omega, by go_num, (by first | rfl | trivial), unhide HT'⟩, by simp [intOf]; omega⟩
        · obtain rfl : i = l.length := by omega
          have ht := unhide HI
          rw [List.drop_length] at ht
          have HN : Hid (y = false) := hide (by rw [← ht]; rfl)
          clear ht HI H HY
          go_wp2
          go_ret
          exact ⟨by rw [unhide HN]; rfl, rfl⟩
    · have e1 : peakB l t = false := by simp [peakB, hw]
      rw [e1]
      generalize wdayV (dayV t) = wd at *
      generalize dayV t = d at *
      clear e1 e2 hr h
      go_enter Tryz.func127, Tryz.ntmps127
      go_wp2_with fail
      refine R1.mono ?_
      rintro e w1 ⟨rfl, rfl⟩
      go_wp2_with fail
      refine R2.mono ?_
      rintro e w1 ⟨rfl, rfl⟩
      go_wp2
      go_ret
      exact ⟨rfl, rfl⟩

end Go.Proofs.YtjgbllfppomcmaaGreat

/- What a journey costs: the program's fare.isKind, right, single, ride, cost, Of. -/
namespace Go.Proofs.YtjgbllfppomcmaaGreat
open Go.RowKit

/-- Is it a journey's kind? -/
def jKind (k : Int) : Bool := decide (1 ≤ k) && decide (k ≤ 4)

/-- What is wrong with a journey, as far as no tariff is asked. -/
def jErr (j : Jn) : Int := if jKind j.kind = true then (if timeB j.st = true ∧ timeB j.en = true ∧ j.st ≤ j.en then (if j.free = true ∧ j.kind ≠ 4 then 1 else 0) else 60) else 1

/-- The fare of a whole journey. -/
def wholeV (t : Tf) (j : Jn) : Int × Int := if (stationOf t j.fr).isSome = true ∧ (stationOf t j.to).isSome = true then singleR t ((stationOf t j.fr).getD ⟨0, 0, 0⟩).zone ((stationOf t j.to).getD ⟨0, 0, 0⟩).zone (peakB t.bd j.st) else (0, 1)

/-- What a journey costs by a tariff that may be. -/
def costV (t : Tf) (j : Jn) : Int × Int := if jErr j = 0 then (if j.kind = 1 then wholeV t j else if j.kind = 4 then (if j.free = true then 0 else t.bus, 0) else (t.most, 0)) else (0, jErr j)

/-- What a journey costs. -/
def fareV (t : Tf) (j : Jn) : Int × Int := if rightE t = 0 then costV t j else (0, rightE t)

theorem isKind_any (w : World) (k : Int) : Calls Tryz.prog 161 #[.int .i64 k] w fun e w' => e = .returned (.bool (jKind k)) ∧ w' = w := by
  by_cases h1 : k = 1
  · subst h1
    go_enter Tryz.func161, Tryz.ntmps161
    go_wp2
    go_ret
    exact ⟨rfl, rfl⟩
  by_cases h2 : k = 2
  · subst h2
    go_enter Tryz.func161, Tryz.ntmps161
    go_wp2
    go_ret
    exact ⟨rfl, rfl⟩
  by_cases h3 : k = 3
  · subst h3
    go_enter Tryz.func161, Tryz.ntmps161
    go_wp2
    go_ret
    exact ⟨rfl, rfl⟩
  by_cases h4 : k = 4
  · subst h4
    go_enter Tryz.func161, Tryz.ntmps161
    go_wp2
    go_ret
    exact ⟨rfl, rfl⟩
  have e : jKind k = false := by
    have : ¬ (1 ≤ k ∧ k ≤ 4) := by omega
    simp [jKind]; omega
  rw [e]
  clear e
  go_enter Tryz.func161, Tryz.ntmps161
  go_wp2
  go_ret
  exact ⟨rfl, rfl⟩

theorem fright_any (w : World) (j : Jn) : Calls Tryz.prog 136 #[.agg (jC j)] w fun e w' => e = .returned (.int .i64 (jErr j)) ∧ Fr (fun _ => False) w w' := by
  obtain ⟨k, f, o, s, n, r⟩ := j
  have RK := hide (fun u => isKind_any u k)
  have RS := hide (fun u => ctimeB_any u s)
  have RN := hide (fun u => ctimeB_any u n)
  have HX : jErr ⟨k, f, o, s, n, r⟩ = if jKind k = true then (if timeB s = true ∧ timeB n = true ∧ s ≤ n then (if r = true ∧ k ≠ 4 then 1 else 0) else 60) else 1 := rfl
  rw [HX]
  clear HX
  simp only [jC]
  generalize jKind k = bk at *
  generalize timeB s = bs at *
  generalize timeB n = bn at *
  cases bk with
  | false =>
    rw [if_neg (by decide)]
    go_enter Tryz.func136, Tryz.ntmps136
    go_wp2_with fail
    refine (unhide RK _).mono ?_
    rintro e w1 ⟨rfl, rfl⟩
    go_wp2
    go_ret
    exact ⟨rfl, by with_reducible (first | exact Fr.refl _ _ | exact (Fr.refl _ _).alloc _)⟩
  | true =>
    rw [if_pos rfl]
    cases bs with
    | false =>
      rw [if_neg (fun h => absurd h.1 (by decide))]
      go_enter Tryz.func136, Tryz.ntmps136
      go_wp2_with fail
      refine (unhide RK _).mono ?_
      rintro e w1 ⟨rfl, rfl⟩
      go_wp2_with fail
      refine (unhide RS _).mono ?_
      rintro e w1 ⟨rfl, rfl⟩
      go_wp2
      go_ret
      exact ⟨rfl, by with_reducible (first | exact Fr.refl _ _ | exact (Fr.refl _ _).alloc _)⟩
    | true =>
      cases bn with
      | false =>
        rw [if_neg (fun h => absurd h.2.1 (by decide))]
        go_enter Tryz.func136, Tryz.ntmps136
        go_wp2_with fail
        refine (unhide RK _).mono ?_
        rintro e w1 ⟨rfl, rfl⟩
        go_wp2_with fail
        refine (unhide RS _).mono ?_
        rintro e w1 ⟨rfl, rfl⟩
        go_wp2_with fail
        refine (unhide RN _).mono ?_
        rintro e w1 ⟨rfl, rfl⟩
        go_wp2
        go_ret
        exact ⟨rfl, by with_reducible (first | exact Fr.refl _ _ | exact (Fr.refl _ _).alloc _)⟩
      | true =>
        by_cases hsn : s ≤ n
        · have hns : ¬ n < s := by omega
          rw [if_pos ⟨rfl, rfl, hsn⟩]
          clear hsn
          by_cases h4 : k = 4
          · subst h4
            rw [if_neg (fun h => h.2 rfl)]
            go_enter Tryz.func136, Tryz.ntmps136
            go_wp2_with fail
            refine (unhide RK _).mono ?_
            rintro e w1 ⟨rfl, rfl⟩
            go_wp2_with fail
            refine (unhide RS _).mono ?_
            rintro e w1 ⟨rfl, rfl⟩
            go_wp2_with fail
            refine (unhide RN _).mono ?_
            rintro e w1 ⟨rfl, rfl⟩
            go_wp2
            all_goals
              go_ret
              exact ⟨rfl, by with_reducible (first | exact Fr.refl _ _ | exact (Fr.refl _ _).alloc _)⟩
          · cases r with
            | true =>
              rw [if_pos ⟨rfl, h4⟩]
              go_enter Tryz.func136, Tryz.ntmps136
              go_wp2_with fail
              refine (unhide RK _).mono ?_
              rintro e w1 ⟨rfl, rfl⟩
              go_wp2_with fail
              refine (unhide RS _).mono ?_
              rintro e w1 ⟨rfl, rfl⟩
              go_wp2_with fail
              refine (unhide RN _).mono ?_
              rintro e w1 ⟨rfl, rfl⟩
              go_wp2
              go_ret
              exact ⟨rfl, by with_reducible (first | exact Fr.refl _ _ | exact (Fr.refl _ _).alloc _)⟩
            | false =>
              rw [if_neg (fun h => absurd h.1 (by decide))]
              go_enter Tryz.func136, Tryz.ntmps136
              go_wp2_with fail
              refine (unhide RK _).mono ?_
              rintro e w1 ⟨rfl, rfl⟩
              go_wp2_with fail
              refine (unhide RS _).mono ?_
              rintro e w1 ⟨rfl, rfl⟩
              go_wp2_with fail
              refine (unhide RN _).mono ?_
              rintro e w1 ⟨rfl, rfl⟩
              go_wp2
              go_ret
              exact ⟨rfl, by with_reducible (first | exact Fr.refl _ _ | exact (Fr.refl _ _).alloc _)⟩
        · have hns : n < s := by omega
          rw [if_neg (fun h => hsn h.2.2)]
          clear hsn
          go_enter Tryz.func136, Tryz.ntmps136
          go_wp2_with fail
          refine (unhide RK _).mono ?_
          rintro e w1 ⟨rfl, rfl⟩
          go_wp2_with fail
          refine (unhide RS _).mono ?_
          rintro e w1 ⟨rfl, rfl⟩
          go_wp2_with fail
          refine (unhide RN _).mono ?_
          rintro e w1 ⟨rfl, rfl⟩
          go_wp2
          go_ret
          exact ⟨rfl, by with_reducible (first | exact Fr.refl _ _ | exact (Fr.refl _ _).alloc _)⟩

end Go.Proofs.YtjgbllfppomcmaaGreat

/- What a journey costs: the program's fare.single, ride, cost, Of. -/
namespace Go.Proofs.YtjgbllfppomcmaaGreat
open Go.RowKit

theorem fride_any (w : World) (A : Ad) (t : Tf) (r : Bool) : Calls Tryz.prog 138 #[tv A t, .bool r] w fun e w' => e = .returned (.int .i64 (if r = true then 0 else t.bus)) ∧ Fr (fun _ => False) w w' := by
  have HB : Hid (∀ k, (w.alloc (.cells (tc A t) 27)).cell? ⟨w.heap.size, k, none⟩ = (tc A t)[k]?) := hide (fun k => (TB.new w A t).cell k)
  unfold tv tc at *
  cases r with
  | true =>
    go_enter Tryz.func138, Tryz.ntmps138
    go_wp2
    go_ret
    exact ⟨rfl, (Fr.refl _ _).alloc _⟩
  | false =>
    go_enter Tryz.func138, Tryz.ntmps138
    go_wp2
    go_ret
    exact ⟨rfl, (Fr.refl _ _).alloc _⟩

set_option maxHeartbeats 1000000 in
theorem fsingle_any (w : World) (A : Ad) (t : Tf) (h : TAt w A t) (j : Jn) : Calls Tryz.prog 137 #[tv A t, .agg (jC j)] w fun e w' => e = .returned (.tuple #[.int .i64 (wholeV t j).1, .int .i64 (wholeV t j).2]) ∧ Fr (fun _ => False) w w' := by
  obtain ⟨k, f, o, s, n, r⟩ := j
  have HX : Hid (wholeV t ⟨k, f, o, s, n, r⟩ = if (stationOf t f).isSome = true ∧ (stationOf t o).isSome = true then singleR t ((stationOf t f).getD ⟨0, 0, 0⟩).zone ((stationOf t o).getD ⟨0, 0, 0⟩).zone (peakB t.bd s) else (0, 1)) := rfl
  have RF := hide (fun (u : World) (hu : Fr (fun _ => False) w u) => station_any u A t (h.keep hu) f)
  have RO := hide (fun (u : World) (hu : Fr (fun _ => False) w u) => station_any u A t (h.keep hu) o)
  have lB := h.lB
  have RP := hide (fun (u : World) (hu : Fr (fun _ => False) w u) => cpeak_any u A.aB A.cB t.bd (h.keep hu).bd (by omega) s)
  have RS := hide (fun (u : World) (hu : Fr (fun _ => False) w u) (pk : Bool) => single_any u A t (h.keep hu) ((stationOf t f).getD ⟨0, 0, 0⟩).zone ((stationOf t o).getD ⟨0, 0, 0⟩).zone pk)
  generalize wholeV t ⟨k, f, o, s, n, r⟩ = z at *
  generalize peakB t.bd s = pk at *
  generalize (stationOf t f).getD ⟨0, 0, 0⟩ = tf at *
  generalize (stationOf t o).getD ⟨0, 0, 0⟩ = tt at *
  generalize (stationOf t f).isSome = bf at *
  generalize (stationOf t o).isSome = bo at *
  obtain ⟨v, hv⟩ : ∃ v, v = (w.alloc (.cells (tc A t) 27)).alloc (.cells #[.int .i64 k, .int .i64 f, .int .i64 o, .int .i64 s, .int .i64 n, .bool r] 124) := ⟨_, rfl⟩
  have HFV : Hid (Fr (fun _ => False) w v) := hide (by rw [hv]; exact ((Fr.refl _ w).alloc _).alloc _)
  have hTB : TB v w.heap.size A t := by rw [hv]; exact (TB.new w A t).keep ((Fr.refl _ _).alloc _)
  have hJ : ∀ c, v.cell? ⟨w.heap.size + 1, c, none⟩ = (#[.int .i64 k, .int .i64 f, .int .i64 o, .int .i64 s, .int .i64 n, .bool r] : Array Value)[c]? := by
    intro c
    rw [hv, ← heap_alloc w (.cells (tc A t) 27), World.cell?_alloc_new]
  have j1 : v.cell? ⟨w.heap.size + 1, 1, none⟩ = some (.int .i64 f) := hJ 1
  have j2 : v.cell? ⟨w.heap.size + 1, 2, none⟩ = some (.int .i64 o) := hJ 2
  have j3 : v.cell? ⟨w.heap.size + 1, 3, none⟩ = some (.int .i64 s) := hJ 3
  obtain ⟨B, hB⟩ : ∃ B, B = w.heap.size := ⟨_, rfl⟩
  rw [← hB] at hTB j1 j2 j3
  have hlt : B < v.heap.size := hTB.lt
  have hlt1 : B + 1 < v.heap.size := World.block_lt_of_cell? _ _ j1
  have HC : Hid (∀ u, Fr (fun _ => False) v u → u.cell? ⟨B + 1, 1, none⟩ = some (.int .i64 f) ∧ u.cell? ⟨B + 1, 2, none⟩ = some (.int .i64 o) ∧ u.cell? ⟨B + 1, 3, none⟩ = some (.int .i64 s)) := hide (fun u hf => ⟨(hf.cell (a := ⟨B + 1, 1, none⟩) hlt1 (fun t => t)).trans j1, (hf.cell (a := ⟨B + 1, 2, none⟩) hlt1 (fun t => t)).trans j2, (hf.cell (a := ⟨B + 1, 3, none⟩) hlt1 (fun t => t)).trans j3⟩)
  have HTB := hide hTB
  have HV := hide hv
  have HB := hide hB
  clear hv hB hTB hJ hlt hlt1 h lB j2 j3
  unfold tv tc at *
  simp only [jC]
  go_enter Tryz.func137, Tryz.ntmps137
  go_upto_region 1 with (fail)
  rw [← unhide HV, ← unhide HB]
  clear HV
  go_wp2_with (refine wpList_load_tariff rfl (.tmp 2) rfl (g := B) (A := A) (t := t) rfl (unhide HTB) ?_)
  refine (unhide RF v (unhide HFV)).mono ?_
  rintro e w1 ⟨rfl, hF⟩
  have HF1 := hide hF
  have HTB1 := hide ((unhide HTB).keep hF)
  have HFW := hide ((unhide HFV).trans hF (fun _ _ t => t))
  obtain ⟨_, j2, _⟩ := unhide HC w1 hF
  clear hF RF HTB j1
  go_upto_region 2 with (fail)
  obtain ⟨v1, hv1⟩ : ∃ v1, v1 = w1.alloc (.cells #[.int .i64 tf.id, .int .i64 tf.zone, .int .i64 tf.group] 59) := ⟨_, rfl⟩
  have hFa : Fr (fun _ => False) w1 v1 := by rw [hv1]; exact (Fr.refl _ _).alloc _
  have y1 : v1.cell? ⟨w1.heap.size, 1, none⟩ = some (.int .i64 tf.zone) := by rw [hv1, World.cell?_alloc_new]; rfl
  obtain ⟨D, hD⟩ : ∃ D, D = w1.heap.size := ⟨_, rfl⟩
  rw [← hv1, ← hD]
  rw [← hD] at y1
  have HFX := hide ((unhide HFW).trans hFa (fun _ _ t => t))
  have HTB2 := hide ((unhide HTB1).keep hFa)
  have HFV1 := hide ((unhide HF1).trans hFa (fun _ _ t => t))
  clear j2 hv1 hFa HTB1 HFW hD
  obtain ⟨_, j2, _⟩ := unhide HC v1 (unhide HFV1)
  go_wp2_with (refine wpList_load_tariff rfl (.tmp 2) rfl (g := B) (A := A) (t := t) rfl (unhide HTB2) ?_)
  refine (unhide RO v1 (unhide HFX)).mono ?_
  rintro e w2 ⟨rfl, hF⟩
  have hDl : D < v1.heap.size := World.block_lt_of_cell? _ _ y1
  have y1b : w2.cell? ⟨D, 1, none⟩ = some (.int .i64 tf.zone) := (hF.cell (a := ⟨D, 1, none⟩) hDl (fun t => t)).trans y1
  have HTB3 := hide ((unhide HTB2).keep hF)
  have HFW2 := hide ((unhide HFX).trans hF (fun _ _ t => t))
  have HFV2 := hide ((unhide HFV1).trans hF (fun _ _ t => t))
  clear hF RO HTB2 j2 hDl HFX HFV1 y1 HF1
  go_upto_region 3 with (fail)
  obtain ⟨v2, hv2⟩ : ∃ v2, v2 = w2.alloc (.cells #[.int .i64 tt.id, .int .i64 tt.zone, .int .i64 tt.group] 59) := ⟨_, rfl⟩
  have hFa : Fr (fun _ => False) w2 v2 := by rw [hv2]; exact (Fr.refl _ _).alloc _
  have z1 : v2.cell? ⟨w2.heap.size, 1, none⟩ = some (.int .i64 tt.zone) := by rw [hv2, World.cell?_alloc_new]; rfl
  obtain ⟨E, hE⟩ : ∃ E, E = w2.heap.size := ⟨_, rfl⟩
  rw [← hv2, ← hE]
  rw [← hE] at z1
  have hDl : D < w2.heap.size := World.block_lt_of_cell? _ _ y1b
  have y1 : v2.cell? ⟨D, 1, none⟩ = some (.int .i64 tf.zone) := (hFa.cell (a := ⟨D, 1, none⟩) hDl (fun t => t)).trans y1b
  have HFX := hide ((unhide HFW2).trans hFa (fun _ _ t => t))
  have HTB4 := hide ((unhide HTB3).keep hFa)
  have HFV3 := hide ((unhide HFV2).trans hFa (fun _ _ t => t))
  clear hv2 hFa HTB3 HFW2 hE hDl y1b HFV2
  cases bf with
  | false =>
    have HZ : Hid (z = (0, 1)) := hide (by rw [unhide HX]; simp)
    clear HX RS RP HC HTB4 y1 z1
    go_wp2
    go_ret2
    exact ⟨by rw [unhide HZ]; rfl, unhide HFX⟩
  | true =>
    cases bo with
    | false =>
      have HZ : Hid (z = (0, 1)) := hide (by rw [unhide HX]; simp)
      clear HX RS RP HC HTB4 y1 z1
      go_wp2
      go_ret2
      exact ⟨by rw [unhide HZ]; rfl, unhide HFX⟩
    | true =>
      have HZ : Hid (z = singleR t tf.zone tt.zone pk) := hide (by rw [unhide HX]; simp)
      have hDl : D < v2.heap.size := World.block_lt_of_cell? _ _ y1
      have hEl : E < v2.heap.size := World.block_lt_of_cell? _ _ z1
      have HCB : Hid (∀ u, Fr (fun _ => False) v2 u → u.cell? ⟨B + 1, 3, none⟩ = some (.int .i64 s) ∧ u.cell? ⟨D, 1, none⟩ = some (.int .i64 tf.zone) ∧ u.cell? ⟨E, 1, none⟩ = some (.int .i64 tt.zone) ∧ u.cell? ⟨B, 0, none⟩ = some (.slice A.aS t.st.length A.cS) ∧ u.cell? ⟨B, 1, none⟩ = some (.slice A.aP t.sp.length A.cP) ∧ u.cell? ⟨B, 2, none⟩ = some (.slice A.aB t.bd.length A.cB) ∧ u.cell? ⟨B, 3, none⟩ = some (.float .f64 t.off) ∧ u.cell? ⟨B, 4, none⟩ = some (.int .i64 t.bus) ∧ u.cell? ⟨B, 5, none⟩ = some (.int .i64 t.busDaily) ∧ u.cell? ⟨B, 6, none⟩ = some (.int .i64 t.busWeekly) ∧ u.cell? ⟨B, 7, none⟩ = some (.int .i64 t.hopper) ∧ u.cell? ⟨B, 8, none⟩ = some (.int .i64 t.most) ∧ u.cell? ⟨B, 9, none⟩ = some (.int .i64 t.longest) ∧ u.cell? ⟨B, 10, none⟩ = some (.int .i64 t.change) ∧ u.cell? ⟨B, 11, none⟩ = some (.int .i64 t.passback) ∧ u.cell? ⟨B, 12, none⟩ = some (.int .i64 t.delay) ∧ u.cell? ⟨B, 13, none⟩ = some (.int .i64 t.threshold)) := hide (fun u hf => by
        have h1 := (unhide HTB4).keep hf
        exact ⟨(unhide HC u ((unhide HFV3).trans hf (fun _ _ t => t))).2.2, (hf.cell (a := ⟨D, 1, none⟩) hDl (fun t => t)).trans y1, (hf.cell (a := ⟨E, 1, none⟩) hEl (fun t => t)).trans z1, h1.cell 0, h1.cell 1, h1.cell 2, h1.cell 3, h1.cell 4, h1.cell 5, h1.cell 6, h1.cell 7, h1.cell 8, h1.cell 9, h1.cell 10, h1.cell 11, h1.cell 12, h1.cell 13⟩)
      have RP1 := hide (fun (u : World) (hu : Fr (fun _ => False) v2 u) => unhide RP u ((unhide HFX).trans hu (fun _ _ t => t)))
      have RS1 := hide (fun (u : World) (hu : Fr (fun _ => False) v2 u) => unhide RS u ((unhide HFX).trans hu (fun _ _ t => t)) pk)
      clear HX RS RP HC HTB4 y1 z1 hDl hEl HFV3
      generalize singleR t tf.zone tt.zone pk = sr at *
      obtain ⟨j3, y1, z1, d0, d1, d2, d3, d4, d5, d6, d7, d8, d9, d10, d11, d12, d13⟩ := unhide HCB v2 (Fr.refl _ _)
      go_wp2_with fail
      go_region_held3 (fun u => u.cell? ⟨B + 1, 3, none⟩ = some (.int .i64 s) ∧ u.cell? ⟨D, 1, none⟩ = some (.int .i64 tf.zone) ∧ u.cell? ⟨E, 1, none⟩ = some (.int .i64 tt.zone) ∧ u.cell? ⟨B, 0, none⟩ = some (.slice A.aS t.st.length A.cS) ∧ u.cell? ⟨B, 1, none⟩ = some (.slice A.aP t.sp.length A.cP) ∧ u.cell? ⟨B, 2, none⟩ = some (.slice A.aB t.bd.length A.cB) ∧ u.cell? ⟨B, 3, none⟩ = some (.float .f64 t.off) ∧ u.cell? ⟨B, 4, none⟩ = some (.int .i64 t.bus) ∧ u.cell? ⟨B, 5, none⟩ = some (.int .i64 t.busDaily) ∧ u.cell? ⟨B, 6, none⟩ = some (.int .i64 t.busWeekly) ∧ u.cell? ⟨B, 7, none⟩ = some (.int .i64 t.hopper) ∧ u.cell? ⟨B, 8, none⟩ = some (.int .i64 t.most) ∧ u.cell? ⟨B, 9, none⟩ = some (.int .i64 t.longest) ∧ u.cell? ⟨B, 10, none⟩ = some (.int .i64 t.change) ∧ u.cell? ⟨B, 11, none⟩ = some (.int .i64 t.passback) ∧ u.cell? ⟨B, 12, none⟩ = some (.int .i64 t.delay) ∧ u.cell? ⟨B, 13, none⟩ = some (.int .i64 t.threshold))
        ((refine unhide HCB _ ?_; repeat (first | (with_reducible exact Fr.refl _ _) | (with_reducible refine Fr.drew ?_) | (with_reducible refine Fr.trans ?_ (unhide HA) (fun _ _ t => t)) | (with_reducible refine Fr.trans ?_ (unhide HB2) (fun _ _ t => t)))))
        (first | (go_at_call 163; refine (unhide RP1 _ (by repeat (first | (with_reducible exact Fr.refl _ _) | (with_reducible refine Fr.drew ?_) | (with_reducible refine Fr.alloc ?_ _)))).mono ?_; rintro e wa ⟨rfl, hA⟩; have HA := hide hA; clear hA) | (go_at_call 162; refine (unhide RS1 _ (by repeat (first | (with_reducible exact Fr.refl _ _) | (with_reducible refine Fr.drew ?_) | (with_reducible refine Fr.trans ?_ (unhide HA) (fun _ _ t => t))))).mono ?_; rintro e wb ⟨rfl, hB2⟩; have HB2 := hide hB2; clear hB2))
      go_wp2_with fail
      go_ret2
      exact ⟨by rw [unhide HZ]; rfl, (unhide HFX).trans (by repeat (first | (with_reducible exact Fr.refl _ _) | (with_reducible refine Fr.drew ?_) | (with_reducible refine Fr.trans ?_ (unhide HA) (fun _ _ t => t)) | (with_reducible refine Fr.trans ?_ (unhide HB2) (fun _ _ t => t)))) (fun _ _ t => t)⟩

/-- What is wrong is no 0. -/
theorem jErr_cases (j : Jn) : jErr j = 0 ∨ jErr j = 1 ∨ jErr j = 60 := by
  unfold jErr
  split
  · split
    · split
      · exact .inr (.inl rfl)
      · exact .inl rfl
    · exact .inr (.inr rfl)
  · exact .inr (.inl rfl)

set_option maxHeartbeats 1000000 in
theorem fcost_any (w : World) (A : Ad) (t : Tf) (h : TAt w A t) (j : Jn) : Calls Tryz.prog 108 #[tv A t, .agg (jC j)] w fun e w' => e = .returned (.tuple #[.int .i64 (costV t j).1, .int .i64 (costV t j).2]) ∧ Fr (fun _ => False) w w' := by
  have HX : Hid (costV t j = if jErr j = 0 then (if j.kind = 1 then wholeV t j else if j.kind = 4 then (if j.free = true then 0 else t.bus, 0) else (t.most, 0)) else (0, jErr j)) := rfl
  have RE := hide (fun (u : World) => fright_any u j)
  have RW := hide (fun (u : World) (hu : Fr (fun _ => False) w u) => fsingle_any u A t (h.keep hu) j)
  have RR := hide (fun (u : World) => fride_any u A t j.free)
  generalize costV t j = z at *
  generalize jErr j = er at *
  generalize wholeV t j = wh at *
  obtain ⟨k, f, o, s, n, r⟩ := j
  obtain ⟨v, hv⟩ : ∃ v, v = (w.alloc (.cells (tc A t) 27)).alloc (.cells #[.int .i64 k, .int .i64 f, .int .i64 o, .int .i64 s, .int .i64 n, .bool r] 124) := ⟨_, rfl⟩
  have HFV : Hid (Fr (fun _ => False) w v) := hide (by rw [hv]; exact ((Fr.refl _ w).alloc _).alloc _)
  have hTB : TB v w.heap.size A t := by rw [hv]; exact (TB.new w A t).keep ((Fr.refl _ _).alloc _)
  have hJ : ∀ c, v.cell? ⟨w.heap.size + 1, c, none⟩ = (#[.int .i64 k, .int .i64 f, .int .i64 o, .int .i64 s, .int .i64 n, .bool r] : Array Value)[c]? := by
    intro c
    rw [hv, ← heap_alloc w (.cells (tc A t) 27), World.cell?_alloc_new]
  have j0 : v.cell? ⟨w.heap.size + 1, 0, none⟩ = some (.int .i64 k) := hJ 0
  have j1 : v.cell? ⟨w.heap.size + 1, 1, none⟩ = some (.int .i64 f) := hJ 1
  have j2 : v.cell? ⟨w.heap.size + 1, 2, none⟩ = some (.int .i64 o) := hJ 2
  have j3 : v.cell? ⟨w.heap.size + 1, 3, none⟩ = some (.int .i64 s) := hJ 3
  have j4 : v.cell? ⟨w.heap.size + 1, 4, none⟩ = some (.int .i64 n) := hJ 4
  have j5 : v.cell? ⟨w.heap.size + 1, 5, none⟩ = some (.bool r) := hJ 5
  obtain ⟨B, hB⟩ : ∃ B, B = w.heap.size := ⟨_, rfl⟩
  rw [← hB] at hTB j0 j1 j2 j3 j4 j5
  have hlt1 : B + 1 < v.heap.size := World.block_lt_of_cell? _ _ j1
  have HC : Hid (∀ u, Fr (fun _ => False) v u → u.cell? ⟨B + 1, 0, none⟩ = some (.int .i64 k) ∧ u.cell? ⟨B + 1, 1, none⟩ = some (.int .i64 f) ∧ u.cell? ⟨B + 1, 2, none⟩ = some (.int .i64 o) ∧ u.cell? ⟨B + 1, 3, none⟩ = some (.int .i64 s) ∧ u.cell? ⟨B + 1, 4, none⟩ = some (.int .i64 n) ∧ u.cell? ⟨B + 1, 5, none⟩ = some (.bool r)) := hide (fun u hf => ⟨(hf.cell (a := ⟨B + 1, 0, none⟩) hlt1 (fun t => t)).trans j0, (hf.cell (a := ⟨B + 1, 1, none⟩) hlt1 (fun t => t)).trans j1, (hf.cell (a := ⟨B + 1, 2, none⟩) hlt1 (fun t => t)).trans j2, (hf.cell (a := ⟨B + 1, 3, none⟩) hlt1 (fun t => t)).trans j3, (hf.cell (a := ⟨B + 1, 4, none⟩) hlt1 (fun t => t)).trans j4, (hf.cell (a := ⟨B + 1, 5, none⟩) hlt1 (fun t => t)).trans j5⟩)
  have HTB := hide hTB
  have HV := hide hv
  have HB := hide hB
  clear hv hB hTB hJ hlt1 h
  unfold tv at *
  simp only [jC] at *
  by_cases h0 : er = 0
  · subst h0
    have HX1 := HX
    rw [if_pos rfl] at HX1
    clear HX
    by_cases h1 : k = 1
    · subst h1
      rw [if_pos rfl] at HX1
      unfold tc at HV ⊢
      go_enter Tryz.func108, Tryz.ntmps108
      go_upto_region 1 with (fail)
      rw [← unhide HV, ← unhide HB]
      clear HV
      go_wp2_with fail
      refine (unhide RE v).mono ?_
      rintro e w1 ⟨rfl, hF⟩
      have HTB1 := hide ((unhide HTB).keep hF)
      have HF1 := hide ((unhide HFV).trans hF (fun _ _ t => t))
      clear j0 j1 j2 j3 j4 j5
      obtain ⟨j0, j1, j2, j3, j4, j5⟩ := unhide HC w1 hF
      clear hF HTB HFV RE RR
      have RW1 := unhide RW w1 (unhide HF1)
      go_wp2_with (refine wpList_load_tariff rfl (.tmp 2) rfl (g := B) (A := A) (t := t) rfl (unhide HTB1) ?_)
      refine RW1.mono ?_
      rintro e w2 ⟨rfl, hF⟩
      have HF2 := hide ((unhide HF1).trans hF (fun _ _ t => t))
      clear hF RW1 RW HTB1 HC j0 j1 j2 j3 j4 j5
      go_wp2
      go_ret2
      exact ⟨by rw [unhide HX1]; rfl, unhide HF2⟩
    · rw [if_neg h1] at HX1
      by_cases h4 : k = 4
      · subst h4
        rw [if_pos rfl] at HX1
        clear h1 RW
        unfold tc at HV ⊢
        go_enter Tryz.func108, Tryz.ntmps108
        go_upto_region 1 with (fail)
        rw [← unhide HV, ← unhide HB]
        clear HV
        go_wp2_with fail
        refine (unhide RE v).mono ?_
        rintro e w1 ⟨rfl, hF⟩
        have HTB1 := hide ((unhide HTB).keep hF)
        have HF1 := hide ((unhide HFV).trans hF (fun _ _ t => t))
        clear j0 j1 j2 j3 j4 j5
        obtain ⟨j0, j1, j2, j3, j4, j5⟩ := unhide HC w1 hF
        clear hF HTB HFV RE
        have RR1 := unhide RR w1
        generalize (if r = true then (0 : Int) else t.bus) = fr at *
        go_wp2_with (refine wpList_load_tariff rfl (.tmp 2) rfl (g := B) (A := A) (t := t) rfl (unhide HTB1) ?_)
        refine RR1.mono ?_
        rintro e w2 ⟨rfl, hF⟩
        have HF2 := hide ((unhide HF1).trans hF (fun _ _ t => t))
        clear hF RR1 RR HTB1 HC j0 j1 j2 j3 j4 j5
        go_wp2
        go_ret2
        exact ⟨by rw [unhide HX1]; rfl, unhide HF2⟩
      · rw [if_neg h4] at HX1
        clear RW RR
        unfold tc at HV ⊢
        go_enter Tryz.func108, Tryz.ntmps108
        go_upto_region 1 with (fail)
        rw [← unhide HV, ← unhide HB]
        clear HV
        go_wp2_with fail
        refine (unhide RE v).mono ?_
        rintro e w1 ⟨rfl, hF⟩
        have hTB1 := (unhide HTB).keep hF
        have m8 : w1.cell? ⟨B, 8, none⟩ = some (.int .i64 t.most) := hTB1.cell 8
        have HF1 := hide ((unhide HFV).trans hF (fun _ _ t => t))
        clear j0 j1 j2 j3 j4 j5
        obtain ⟨j0, j1, j2, j3, j4, j5⟩ := unhide HC w1 hF
        clear hF HTB HFV RE hTB1 HC
        go_wp2
        go_ret2
        exact ⟨by rw [unhide HX1]; rfl, unhide HF1⟩
  · have HX1 : Hid (z = (0, er)) := hide (by rw [unhide HX, if_neg h0])
    have hb2 : (er == 0) = false := by simp [h0]
    have hb3 : (er != 0) = true := by simp [h0]
    clear HX RW RR h0
    unfold tc at HV ⊢
    go_enter Tryz.func108, Tryz.ntmps108
    go_upto_region 1 with (fail)
    rw [← unhide HV, ← unhide HB]
    clear HV
    go_wp2_with fail
    refine (unhide RE v).mono ?_
    rintro e w1 ⟨rfl, hF⟩
    have HF1 := hide ((unhide HFV).trans hF (fun _ _ t => t))
    clear hF HTB HFV RE HC j0 j1 j2 j3 j4 j5
    go_wp2
    go_ret2
    exact ⟨by rw [unhide HX1]; rfl, unhide HF1⟩

end Go.Proofs.YtjgbllfppomcmaaGreat

/- What a journey costs: the program's fare.Of. -/
namespace Go.Proofs.YtjgbllfppomcmaaGreat
open Go.RowKit

theorem jb_size (j : Jn) : (Tryz.prog.info? 124).map (·.size) = some (jC j).size := by
  have h : (Tryz.prog.info? 124).map (·.size) = some 6 := by kernel_rfl
  exact h

/-- A journey loaded out of its box. -/
theorem wpList_load_journey {ops : Array Oper} {rest : List Oper} {o : Oper} {a : Act} {w : World} {Q : Exit → Act → World → Prop} (hgd : o.guard = none) (x : Operand) (ho : o.op = .load 124 x)
    {g : Nat} {j : Jn} (hx : a.eval x = .pointer (some ⟨g, 0, none⟩)) (hg : Bx w g (jC j) 124) (h : wpList Tryz.prog ops Q rest (a.put o.dst (.agg (jC j))) w) : wpList Tryz.prog ops Q (o :: rest) a w :=
  wpList_load_row hgd 124 x ho g hx 124 (jC j) (0, 0) _ hg Tryz.underlying124 rfl (jb_size j) h

end Go.Proofs.YtjgbllfppomcmaaGreat

/- What follows of fares: they are prices, as much back as there, in the peak no less. -/
namespace Go.Proofs.YtjgbllfppomcmaaGreat

theorem scaledE_or (n : Int) (b : Nat) : scaleE n b = 0 ∨ rv (scaled n b) = 0 := by
  unfold scaleE scaled
  cases owed n <;> cases rate b <;> simp [rv]

theorem singleR_or (t : Tf) (a b : Int) (pk : Bool) : (singleR t a b pk).2 = 0 ∨ (singleR t a b pk).1 = 0 := by
  unfold singleR
  split
  · exact .inr rfl
  · split
    · split
      · exact .inl rfl
      · exact scaledE_or _ _
    · exact .inr rfl

theorem wholeV_or (t : Tf) (j : Jn) : (wholeV t j).2 = 0 ∨ (wholeV t j).1 = 0 := by
  unfold wholeV
  split
  · exact singleR_or ..
  · exact .inr rfl

/-- What is refused costs nothing. -/
theorem fareV_or (t : Tf) (j : Jn) : (fareV t j).2 = 0 ∨ (fareV t j).1 = 0 := by
  unfold fareV
  split
  · unfold costV
    split
    · split
      · exact wholeV_or t j
      · split
        · exact .inl rfl
        · exact .inl rfl
    · exact .inr rfl
  · exact .inr rfl

theorem price_range {n : Int} (h : price n = true) : 0 ≤ n ∧ n ≤ 1048576 := by simpa [price] using h

theorem prices_bus {t : Tf} (h : pricesOk t = true) : price t.bus = true ∧ price t.most = true := by
  unfold pricesOk at h
  simp only [List.all_cons, Bool.and_eq_true] at h
  exact ⟨h.1.1, h.1.2.2.2.1⟩

/-- A single fare of a tariff that may be. -/
theorem single_range {t : Tf} (hr : rightE t = 0) (a b : Int) (pk : Bool) (h : (singleR t a b pk).2 = 0) : 0 ≤ (singleR t a b pk).1 ∧ (singleR t a b pk).1 ≤ 1048576 ∧ (∃ hi lo : Int, singleR t a b true = (hi, 0) ∧ singleR t a b false = (lo, 0) ∧ ∀ pk', singleR t a b pk' = (hi, 0) ∨ singleR t a b pk' = (lo, 0)) := by
  rcases single_facts hr a b with ⟨_, hx⟩ | ⟨s, n, hs, hn, x1, _, x3, hle⟩
  · rw [(hx pk).1] at h; cases h
  · obtain ⟨h1, _, _⟩ := rightE_zero hr
    have hp := price_range (price_of h1 (spanOf_some hs).1)
    rw [hn] at hp
    refine ⟨?_, ?_, (n : Int), ((sc n t.off : Nat) : Int), x1, x3, fun pk' => ?_⟩
    · cases pk <;> simp only [x1, x3] <;> omega
    · cases pk <;> simp only [x1, x3] <;> omega
    · cases pk' <;> simp only [x1, x3, true_or, or_true]

/-- The zones of a journey's stations. -/
def zoneF (t : Tf) (j : Jn) : Int := ((stationOf t j.fr).getD ⟨0, 0, 0⟩).zone
def zoneT (t : Tf) (j : Jn) : Int := ((stationOf t j.to).getD ⟨0, 0, 0⟩).zone
def backJ (j : Jn) : Jn := ⟨j.kind, j.to, j.fr, j.st, j.en, j.free⟩
def atJ (j : Jn) (x : Int) : Jn := ⟨j.kind, j.fr, j.to, x, x, j.free⟩

theorem costV_whole {t : Tf} {j : Jn} (hk : j.kind = 1) : costV t j = if jErr j = 0 then wholeV t j else (0, jErr j) := by
  unfold costV; simp only [hk, if_true]

theorem wholeV_zero {t : Tf} {j : Jn} (h : (wholeV t j).2 = 0) : (stationOf t j.fr).isSome = true ∧ (stationOf t j.to).isSome = true ∧ wholeV t j = singleR t (zoneF t j) (zoneT t j) (peakB t.bd j.st) := by
  unfold wholeV at h ⊢
  split at h
  · rename_i hs
    rw [if_pos hs]
    exact ⟨hs.1, hs.2, rfl⟩
  · cases h

/-- What a fare is that is not of a whole journey. -/
theorem fare_other {t : Tf} {j : Jn} (h : (fareV t j).2 = 0) (hk : j.kind ≠ 1) :
    0 ≤ (fareV t j).1 ∧ (fareV t j).1 ≤ 1048576 ∧ ((j.kind = 4 ∧ j.free = true ∧ (fareV t j).1 = 0) ∨ (j.kind = 4 ∧ j.free = false ∧ (fareV t j).1 = t.bus) ∨ (j.kind ≠ 4 ∧ j.free = false ∧ (fareV t j).1 = t.most)) := by
  unfold fareV at h ⊢
  split at h
  · rename_i hr
    obtain ⟨h1, _, _⟩ := rightE_zero hr
    obtain ⟨pb, pm⟩ := prices_bus h1
    have pb := price_range pb
    have pm := price_range pm
    rw [if_pos hr]
    unfold costV at h ⊢
    split at h
    · rename_i he
      rw [if_pos he, if_neg hk]
      by_cases h4 : j.kind = 4
      · rw [if_pos h4]
        cases hf : j.free
        · simp; exact ⟨pb.1, pb.2, .inl h4⟩
        · simp; exact h4
      · rw [if_neg h4]
        refine ⟨pm.1, pm.2, .inr (.inr ⟨h4, ?_, rfl⟩)⟩
        cases hf : j.free
        · rfl
        · unfold jErr at he
          rw [hf] at he
          split at he
          · split at he
            · rw [if_pos ⟨rfl, h4⟩] at he; cases he
            · cases he
          · cases he
    · rename_i he
      exact absurd h he
  · rename_i hr
    exact absurd h hr

/-- What a fare is of a whole journey. -/
theorem fare_whole {t : Tf} {j : Jn} (h : (fareV t j).2 = 0) (hk : j.kind = 1) (x : Int) :
    0 ≤ (fareV t j).1 ∧ (fareV t j).1 ≤ 1048576 ∧ fareV t (backJ j) = ((fareV t j).1, 0) ∧ ∃ hi lo : Int, singleR t (zoneF t j) (zoneT t j) true = (hi, 0) ∧ singleR t (zoneF t j) (zoneT t j) false = (lo, 0) ∧ ((fareV t j).1 = hi ∨ (fareV t j).1 = lo) ∧
      ((fareV t (atJ j x)).2 ≠ 0 ∨ (fareV t (atJ j x)).1 = hi ∨ (fareV t (atJ j x)).1 = lo) := by
  have hr : rightE t = 0 := by
    unfold fareV at h
    split at h
    · assumption
    · exact absurd h ‹_›
  have hf : ∀ j', fareV t j' = costV t j' := fun j' => by unfold fareV; rw [if_pos hr]
  rw [hf, costV_whole hk] at h
  have he : jErr j = 0 := by
    by_cases he : jErr j = 0
    · exact he
    · rw [if_neg he] at h; exact absurd h he
  rw [if_pos he] at h
  obtain ⟨s1, s2, hw⟩ := wholeV_zero h
  rw [hw] at h
  obtain ⟨r1, r2, hi, lo, e1, e2, e3⟩ := single_range hr _ _ _ h
  have e0 : fareV t j = singleR t (zoneF t j) (zoneT t j) (peakB t.bd j.st) := by rw [hf, costV_whole hk, if_pos he, hw]
  rw [e0]
  refine ⟨r1, r2, ?_, hi, lo, e1, e2, ?_, ?_⟩
  · have hb : jErr (backJ j) = 0 := he
    rw [hf, costV_whole (show (backJ j).kind = 1 from hk), if_pos hb]
    have : wholeV t (backJ j) = singleR t (zoneT t j) (zoneF t j) (peakB t.bd j.st) := by
      unfold wholeV
      rw [if_pos ⟨s2, s1⟩]
      rfl
    rw [this, singleR_comm]
    have h0 : (singleR t (zoneF t j) (zoneT t j) (peakB t.bd j.st)).2 = 0 := h
    exact Prod.ext rfl h0
  · rcases e3 (peakB t.bd j.st) with q | q
    · exact .inl (by rw [q])
    · exact .inr (by rw [q])
  · rw [hf, costV_whole (show (atJ j x).kind = 1 from hk)]
    by_cases hb : jErr (atJ j x) = 0
    · rw [if_pos hb]
      have : wholeV t (atJ j x) = singleR t (zoneF t j) (zoneT t j) (peakB t.bd x) := by
        unfold wholeV
        rw [if_pos ⟨s1, s2⟩]
        rfl
      rw [this]
      rcases e3 (peakB t.bd x) with q | q
      · exact .inr (.inl (by rw [q]))
      · exact .inr (.inr (by rw [q]))
    · rw [if_neg hb]
      exact .inl hb

/-- Where the rate out of the peak is 1 the peak does not count. -/
theorem single_one {t : Tf} (ho : t.off = 4607182418800017408) (hr : rightE t = 0) (a b : Int) (pk : Bool) : singleR t a b pk = singleR t a b true := by
  cases pk with
  | true => rfl
  | false =>
    rcases single_facts hr a b with ⟨_, hx⟩ | ⟨s, n, _, _, x1, _, x3, _⟩
    · rw [(hx false).1, (hx true).1]
    · rw [x1, x3, ho, sc_one]

theorem fare_off {t : Tf} (ho : t.off = 4607182418800017408) (j : Jn) (x : Int) : (fareV t j).2 ≠ 0 ∨ (fareV t (atJ j x)).2 ≠ 0 ∨ (fareV t j).1 = (fareV t (atJ j x)).1 := by
  by_cases hr : rightE t = 0
  · have hf : ∀ j', fareV t j' = costV t j' := fun j' => by unfold fareV; rw [if_pos hr]
    rw [hf, hf]
    unfold costV
    by_cases he : jErr j = 0
    · by_cases hb : jErr (atJ j x) = 0
      · rw [if_pos he, if_pos hb]
        refine .inr (.inr ?_)
        show (if j.kind = 1 then wholeV t j else if j.kind = 4 then (if j.free = true then 0 else t.bus, 0) else (t.most, 0)).1 = (if j.kind = 1 then wholeV t (atJ j x) else if j.kind = 4 then (if j.free = true then 0 else t.bus, 0) else (t.most, 0)).1
        have : wholeV t j = wholeV t (atJ j x) := by
          unfold wholeV
          rw [single_one ho hr, single_one ho hr ((stationOf t (atJ j x).fr).getD ⟨0, 0, 0⟩).zone]
          rfl
        rw [this]
      · rw [if_neg hb]
        exact .inr (.inl hb)
    · rw [if_neg he]
      exact .inl he
  · unfold fareV
    rw [if_neg hr]
    exact .inl hr

end Go.Proofs.YtjgbllfppomcmaaGreat

/- Rows of priced journeys; the program's fare.All. -/
namespace Go.Proofs.YtjgbllfppomcmaaGreat
open Go.RowKit

theorem CAt.jn {w : World} {ao : Option Addr} {l : List Jn} (h : CAt w ao (jV l)) {i : Nat} (hi : i < l.length) : ∃ b off, ao = some ⟨b, off, none⟩ ∧
    w.cell? ⟨b, off + i * 6, none⟩ = some (.int .i64 l[i].kind) ∧ w.cell? ⟨b, off + i * 6 + 1, none⟩ = some (.int .i64 l[i].fr) ∧ w.cell? ⟨b, off + i * 6 + 2, none⟩ = some (.int .i64 l[i].to) ∧
    w.cell? ⟨b, off + i * 6 + 3, none⟩ = some (.int .i64 l[i].st) ∧ w.cell? ⟨b, off + i * 6 + 4, none⟩ = some (.int .i64 l[i].en) ∧ w.cell? ⟨b, off + i * 6 + 5, none⟩ = some (.bool l[i].free) := by
  have hl := jV_length l
  obtain ⟨b, off, e, hc⟩ := h (by omega)
  have g := fun c hc' => flat_get jL 6 (fun _ => rfl) l i hi c hc'
  have q : ∀ c (hc' : c < 6) v, (jL l[i])[c]? = some v → w.cell? ⟨b, off + (i * 6 + c), none⟩ = some v := fun c hc' v hv => by
    have h1 := hc (i * 6 + c) (by omega)
    have h2 := g c hc'
    rw [hv] at h2
    rw [h1]
    have h3 : (jV l)[i * 6 + c]? = some v := h2
    rw [List.getElem?_eq_getElem (by omega)] at h3
    exact h3
  exact ⟨b, off, e, q 0 (by omega) _ rfl, q 1 (by omega) _ rfl, q 2 (by omega) _ rfl, q 3 (by omega) _ rfl, q 4 (by omega) _ rfl, q 5 (by omega) _ rfl⟩

/-- The first error of a row of journeys. -/
def firstE (t : Tf) : List Jn → Int
  | [] => 0
  | j :: r => if (costV t j).2 = 0 then firstE t r else (costV t j).2
def allE (t : Tf) (l : List Jn) : Int := if rightE t = 0 then (if 2000 < l.length then 2 else firstE t l) else rightE t
def priced (t : Tf) (l : List Jn) : List (Jn × Int) := l.map (fun j => (j, (costV t j).1))
def allL (t : Tf) (l : List Jn) : List (Jn × Int) := if allE t l = 0 then priced t l else []

theorem firstE_cons (t : Tf) (j : Jn) (r : List Jn) : firstE t (j :: r) = if (costV t j).2 = 0 then firstE t r else (costV t j).2 := rfl

/-- The row behind i journeys. -/
def prAt (t : Tf) (l : List Jn) (i : Nat) : List (Jn × Int) := priced t (l.take i) ++ List.replicate (l.length - i) pz
theorem prAt_zero (t : Tf) (l : List Jn) : prAt t l 0 = List.replicate l.length pz := by simp [prAt, priced]
theorem prAt_all (t : Tf) (l : List Jn) : prAt t l l.length = priced t l := by simp [prAt]
theorem prAt_length (t : Tf) (l : List Jn) {i : Nat} (hi : i ≤ l.length) : (prAt t l i).length = l.length := by simp [prAt, priced]; omega
theorem prAt_step (t : Tf) (l : List Jn) (i : Nat) (hi : i < l.length) : prAt t l (i + 1) = (prAt t l i).set i (l[i], (costV t l[i]).1) := by
  have h1 : l.length - i = (l.length - (i + 1)) + 1 := by omega
  have hln : (priced t (l.take i)).length = i := by simp [priced]; omega
  unfold prAt
  rw [h1, List.replicate_succ, List.set_append_right _ _ (by omega), hln, Nat.sub_self, List.set_cons_zero, List.take_succ_eq_append_getElem hi]
  simp only [priced, List.map_append, List.map_cons, List.map_nil, List.append_assoc, List.cons_append, List.nil_append]

/-- What the program's All leaves. -/
def AllPost (t : Tf) (l : List Jn) (w : World) (e : Ending) (w' : World) : Prop :=
  ∃ ao cap g, e = .returned (.tuple #[.slice ao (allL t l).length cap, .int .i64 (allE t l)]) ∧ KRow w' ao cap g 7 (pV (allL t l)) ∧ (0 < cap → w.heap.size ≤ g) ∧ Fr (fun _ => False) w w'

theorem AllPost.fail {t : Tf} {l : List Jn} {w w' : World} {x : Int} (hf : Fr (fun _ => False) w w') (hx : allE t l = x) (h0 : x ≠ 0) : AllPost t l w (.returned (.tuple #[.slice none 0 0, .int .i64 x])) w' := by
  have e : allL t l = [] := by unfold allL; rw [if_neg (by rw [hx]; exact h0)]
  exact ⟨none, 0, 0, by rw [e, hx]; rfl, by rw [e]; exact KRow.nil _ _ _, fun h => absurd h (by omega), hf⟩

end Go.Proofs.YtjgbllfppomcmaaGreat

/- The program's fare.All. -/
namespace Go.Proofs.YtjgbllfppomcmaaGreat
open Go.RowKit

set_option maxHeartbeats 2000000 in
set_option maxRecDepth 20000 in
theorem fall_any (w : World) (A : Ad) (t : Tf) (h : TAt w A t) (ao0 : Option Addr) (cap0 : Nat) (l : List Jn) (hl : CAt w ao0 (jV l)) :
    Calls Tryz.prog 60 #[tv A t, .slice ao0 l.length cap0] w fun e w' => AllPost t l w e w' := by
  have RE := hide (fun (u : World) (hu : Fr (fun _ => False) w u) => right_walk u A t (h.keep hu))
  have RC := hide (fun (u : World) (hu : Fr (fun _ => False) w u) (j : Jn) => fcost_any u A t (h.keep hu) j)
  have HL := hide (fun (u : World) (hu : Fr (fun _ => False) w u) => hl.keep hu)
  have HE : Hid (allE t l = if rightE t = 0 then (if 2000 < l.length then 2 else firstE t l) else rightE t) := rfl
  obtain ⟨v, hv⟩ : ∃ v, v = w.alloc (.cells (tc A t) 27) := ⟨_, rfl⟩
  have HFV : Hid (Fr (fun _ => False) w v) := hide (by rw [hv]; exact (Fr.refl _ w).alloc _)
  have hTB : TB v w.heap.size A t := by rw [hv]; exact TB.new w A t
  obtain ⟨B, hB⟩ : ∃ B, B = w.heap.size := ⟨_, rfl⟩
  rw [← hB] at hTB
  have HTB := hide hTB
  have HV := hide hv
  have HB := hide hB
  clear hv hB hTB h hl
  unfold tv
  unfold tc at HV ⊢
  go_enter Tryz.func60, Tryz.ntmps60
  go_upto_region 1 with (fail)
  rw [← unhide HV, ← unhide HB]
  clear HV
  go_wp2_with (refine wpList_load_tariff rfl (.tmp 2) rfl (g := B) (A := A) (t := t) rfl (unhide HTB) ?_)
  refine (unhide RE v (unhide HFV)).mono ?_
  rintro e w1 ⟨rfl, hF⟩
  have HTB1 := hide ((unhide HTB).keep hF)
  have HF1 := hide ((unhide HFV).trans hF (fun _ _ t => t))
  clear hF HTB HFV RE
  by_cases h0 : rightE t = 0
  · rw [h0]
    by_cases h1 : 2000 < l.length
    · have HX : Hid (allE t l = 2) := hide (by rw [unhide HE, if_pos h0, if_pos h1])
      have h1i : (2000 : Int) < (l.length : Int) := by omega
      clear HE RC HL HTB1 h0 h1
      go_wp2
      go_ret2
      exact AllPost.fail (unhide HF1) (unhide HX) (by decide)
    · have HX : Hid (allE t l = firstE t l) := hide (by rw [unhide HE, if_pos h0, if_neg h1])
      have h1i : ¬ (2000 : Int) < (l.length : Int) := by omega
      have hn : l.length ≤ 2000 := by omega
      have HN := hide hn
      obtain ⟨info, hi, hzz⟩ := Option.map_eq_some_iff.1 pInfo
      simp only [Prod.mk.injEq] at hzz
      obtain ⟨hz0, hs, hy⟩ := hzz
      obtain ⟨z, hz, hzc⟩ := Option.map_eq_some_iff.1 hz0
      have hmk : ∀ u : World, (Instr.makeSlice 77 (.int .i64 (l.length : Int)) (.int .i64 (l.length : Int))).run Tryz.prog u = .ok (.slice (some ⟨u.heap.size, 0, none⟩) l.length l.length) (u.alloc (.cells (madeCells z.cells (l.length * info.size)) 126)) := fun u => by
        have := run_make (P := Tryz.prog) u 77 126 info z Tryz.underlying77 hi hz .i64 .i64 (l.length : Int) (l.length : Int) (by omega) (by omega) (by rw [hy]; omega) (by omega)
        simpa using this
      have HM := hide (fun (u : World) => KRow.madeP u l.length (by omega) hzc hs 126)
      generalize madeCells z.cells (l.length * info.size) = mc at *
      clear HE h0 h1 hn hz0 hs hy hz hzc hi
      clear z info
      go_upto_region 7 with (fail)
      obtain ⟨u0, hu0⟩ : ∃ u0, u0 = w1.alloc (.cells mc 126) := ⟨_, rfl⟩
      obtain ⟨g, hg⟩ : ∃ g, g = w1.heap.size := ⟨_, rfl⟩
      rw [← hu0, ← hg]
      have hFa : Fr (fun _ => False) w1 u0 := by rw [hu0]; exact (Fr.refl _ _).alloc _
      have hK0 : KRow u0 (some ⟨g, 0, none⟩) l.length g 7 (pV (List.replicate l.length pz)) := by rw [hu0, hg]; exact unhide HM w1
      have HGW : Hid (w.heap.size ≤ g) := hide (by rw [hg]; exact (unhide HF1).size)
      have HBG : Hid (B < g) := hide (by rw [hg]; exact (unhide HTB1).lt)
      have HS0 : Hid (Fr (fun _ => False) w u0 ∧ TB u0 B A t ∧ KRow u0 (some ⟨g, 0, none⟩) l.length g 7 (pV (prAt t l 0)) ∧ firstE t (l.drop 0) = firstE t l) := hide ⟨(unhide HF1).trans hFa (fun _ _ t => t), (unhide HTB1).keep hFa, by rw [prAt_zero]; exact hK0, rfl⟩
      clear hFa hK0 hu0 hg HM hmk HTB1 HF1 h1i mc
      go_wp2
      go_loopw [8, 9, 10, 11, 25] (fun _ _ _ _ iv wr => ∃ i : Nat, i ≤ l.length ∧ iv = .int .i64 i ∧ Hid (Fr (fun _ => False) w wr ∧ TB wr B A t ∧ KRow wr (some ⟨g, 0, none⟩) l.length g 7 (pV (prAt t l i)) ∧ firstE t (l.drop i) = firstE t l)) (fun _ _ _ _ iv _ => l.length - (intOf iv).toNat)
      case atStart => exact ⟨0, Nat.zero_le _, rfl, HS0⟩
      case round =>
        obtain ⟨i, hi, rfl, HI⟩ := hrel
        clear HS0
        by_cases hil : i < l.length
        · have hlt : (i : Int) < (l.length : Int) := by omega
          obtain ⟨b0, off0, hao, k0, k1, k2, k3, k4, k5⟩ := (unhide HL wr (unhide HI).1).jn hil
          subst hao
          have hfirst := (unhide HI).2.2.2
          rw [List.drop_eq_getElem_cons hil, firstE_cons] at hfirst
          have RC1 := hide (fun (u : World) (hu : Fr (fun _ => False) w u) => unhide RC u hu l[i])
          have HPS : Hid (∀ c, l[i] = c → prAt t l (i + 1) = (prAt t l i).set i (c, (costV t c).1)) := hide (fun c hc => by rw [← hc]; exact prAt_step t l i hil)
          generalize l[i] = q at *
          have HPS := hide (unhide HPS q rfl)
          obtain ⟨k, f, o, s, n, r⟩ := q
          simp only at k0 k1 k2 k3 k4 k5
          generalize hcv : costV t ⟨k, f, o, s, n, r⟩ = cv at *
          have HFI := hide hfirst
          clear hfirst hcv
          go_upto_region 10 with (fail)
          obtain ⟨u1, hu1⟩ : ∃ u1, u1 = wr.alloc (.cells #[.int .i64 k, .int .i64 f, .int .i64 o, .int .i64 s, .int .i64 n, .bool r] 124) := ⟨_, rfl⟩
          obtain ⟨C, hC⟩ : ∃ C, C = wr.heap.size := ⟨_, rfl⟩
          rw [← hu1, ← hC]
          have HJ : Hid (Bx u1 C (jC ⟨k, f, o, s, n, r⟩) 124) := hide (by rw [hu1, hC]; exact Bx.new _ _ _)
          have hFa : Fr (fun _ => False) wr u1 := by rw [hu1]; exact (Fr.refl _ _).alloc _
          have HF2 := hide ((unhide HI).1.trans hFa (fun _ _ t => t))
          have HTB2 := hide ((unhide HI).2.1.keep hFa)
          have HK2 := hide ((unhide HI).2.2.1.keep (by omega) hFa)
          have RC2 := unhide RC1 u1 (unhide HF2)
          have HGC : Hid (g ≠ C) := hide (by rw [hC]; have := (unhide HI).2.2.1.lt (by omega) (by omega : 0 < l.length); omega)
          clear hFa hu1 hC HI k0 k1 k2 k3 k4 k5 RC1
          go_wp2_with (first | refine wpList_load_tariff rfl (.tmp 2) rfl (g := B) (A := A) (t := t) rfl (unhide HTB2) ?_ | refine wpList_load_journey rfl (.tmp 9) rfl (g := C) (j := ⟨k, f, o, s, n, r⟩) rfl (unhide HJ) ?_)
          refine RC2.mono ?_
          rintro e u2 ⟨rfl, hF⟩
          have HF3 := hide ((unhide HF2).trans hF (fun _ _ t => t))
          have HTB3 := hide ((unhide HTB2).keep hF)
          have HK3 := hide ((unhide HK2).keep (by omega) hF)
          have HJ3 := hide ((unhide HJ).keep hF)
          clear hF RC2 HF2 HTB2 HK2 HJ
          obtain ⟨c1, c2⟩ := cv
          simp only at HFI HPS
          by_cases hc : c2 = 0
          · subst hc
            have hroom : ∀ c, c < 7 → (∃ x, u2.cell? ⟨g, i * 7 + c, none⟩ = some x) ∧ u2.frozen? ⟨g, i * 7 + c, none⟩ = false := fun c hc => ⟨Option.isSome_iff_exists.1 ((unhide HK3).room (i * 7 + c) (by omega)).1, ((unhide HK3).room (i * 7 + c) (by omega)).2⟩
            obtain ⟨⟨x0, r0⟩, f0⟩ := hroom 0 (by omega)
            obtain ⟨⟨x1, r1⟩, f1⟩ := hroom 1 (by omega)
            obtain ⟨⟨x2, r2⟩, f2⟩ := hroom 2 (by omega)
            obtain ⟨⟨x3, r3⟩, f3⟩ := hroom 3 (by omega)
            obtain ⟨⟨x4, r4⟩, f4⟩ := hroom 4 (by omega)
            obtain ⟨⟨x5, r5⟩, f5⟩ := hroom 5 (by omega)
            obtain ⟨⟨x6, r6⟩, f6⟩ := hroom 6 (by omega)
            rw [Nat.add_zero] at r0 f0
            clear hroom
            have HJ4 := unhide HJ3
            have j0 : u2.cell? ⟨C, 0, none⟩ = some (.int .i64 k) := HJ4.cell 0
            have j1 : u2.cell? ⟨C, 1, none⟩ = some (.int .i64 f) := HJ4.cell 1
            have j2 : u2.cell? ⟨C, 2, none⟩ = some (.int .i64 o) := HJ4.cell 2
            have j3 : u2.cell? ⟨C, 3, none⟩ = some (.int .i64 s) := HJ4.cell 3
            have j4 : u2.cell? ⟨C, 4, none⟩ = some (.int .i64 n) := HJ4.cell 4
            have j5 : u2.cell? ⟨C, 5, none⟩ = some (.bool r) := HJ4.cell 5
            clear HJ4
            go_upto_region 14 with (fail)
            obtain ⟨u3, hu3⟩ : ∃ u3, u3 = (((((((u2.setCell ⟨g, i * 7, none⟩ (.int .i64 k)).setCell ⟨g, i * 7 + 1, none⟩ (.int .i64 f)).setCell ⟨g, i * 7 + 2, none⟩ (.int .i64 o)).setCell ⟨g, i * 7 + 3, none⟩ (.int .i64 s)).setCell ⟨g, i * 7 + 4, none⟩ (.int .i64 n)).setCell ⟨g, i * 7 + 5, none⟩ (.bool r)).setCell ⟨g, i * 7 + 6, none⟩ (.int .i64 c1)) := ⟨_, rfl⟩
            rw [← hu3]
            have hKn : KRow u3 (some ⟨g, 0, none⟩) l.length g 7 (pV (prAt t l (i + 1))) := by
              rw [unhide HPS, hu3]
              exact (unhide HK3).setP (by rw [prAt_length t l (by omega)]; exact hil) (⟨k, f, o, s, n, r⟩, c1)
            have hFg : Fr (fun q => q = g) u2 u3 := by
              rw [hu3]
              repeat (with_reducible (first | exact Fr.refl _ _ | refine Fr.setOwn ?_ _ _))
            have HS1 : Hid (Fr (fun _ => False) w u3 ∧ TB u3 B A t ∧ KRow u3 (some ⟨g, 0, none⟩) l.length g 7 (pV (prAt t l (i + 1))) ∧ firstE t (l.drop (i + 1)) = firstE t l) := hide ⟨(unhide HF3).trans hFg (fun q hq e => by have := unhide HGW; omega), (unhide HTB3).frame hFg (fun e => by have := unhide HBG; omega), hKn, by simpa using unhide HFI⟩
            clear hu3 hKn hFg r0 r1 r2 r3 r4 r5 r6 f0 f1 f2 f3 f4 f5 f6 j0 j1 j2 j3 j4 j5 HFI HPS HF3 HTB3 HK3 HJ3
            go_wp2
            exact ⟨⟨i + 1, by omega, by go_num, HS1⟩, by simp [intOf]; omega⟩
          · have HX2 : Hid (allE t l = c2) := hide (by rw [unhide HX, ← unhide HFI, if_neg hc])
            have hb2 : (c2 == 0) = false := by simp [hc]
            have hb3 : (c2 != 0) = true := by simp [hc]
            have HC := hide hc
            clear HX HPS HFI hc HTB3 HK3 HJ3
            go_wp2
            go_ret2
            exact AllPost.fail (unhide HF3) (unhide HX2) (unhide HC)
        · obtain rfl : i = l.length := by omega
          have hlt : ¬ (l.length : Int) < (l.length : Int) := by omega
          have HX2 : Hid (allE t l = 0) := hide (by rw [unhide HX, ← (unhide HI).2.2.2, List.drop_length]; rfl)
          have HR : Hid (AllPost t l w (.returned (.tuple #[.slice (some ⟨g, 0, none⟩) l.length l.length, .int .i64 0])) wr) := hide (by
            have e : allL t l = priced t l := by unfold allL; rw [if_pos (unhide HX2)]
            have k := (unhide HI).2.2.1
            rw [prAt_all] at k
            exact ⟨some ⟨g, 0, none⟩, l.length, g, by rw [e, unhide HX2]; simp [priced], by rw [e]; exact k, fun _ => unhide HGW, (unhide HI).1⟩)
          clear HI HX HX2
          go_wp2
          go_ret2
          exact unhide HR
  · have HX : Hid (allE t l = rightE t) := hide (by rw [unhide HE, if_neg h0])
    have hb2 : (rightE t == 0) = false := by simp [h0]
    have hb3 : (rightE t != 0) = true := by simp [h0]
    have HXX : Hid (∀ w', Fr (fun _ => False) w w' → AllPost t l w (.returned (.tuple #[.slice none 0 0, .int .i64 (rightE t)])) w') := hide (fun w' hf => AllPost.fail hf (unhide HX) h0)
    clear HE RC HL HTB1 HX h0
    generalize rightE t = rr at *
    go_wp2
    go_ret2
    exact unhide HXX _ (unhide HF1)

end Go.Proofs.YtjgbllfppomcmaaGreat

