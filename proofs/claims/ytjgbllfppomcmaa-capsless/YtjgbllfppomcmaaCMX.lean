import Derived.Test.YtjgbllfppomcmaaCM2
import Derived.Test.YtjgbllfppomcmaaCR2
import Derived.Test.YtjgbllfppomcmaaCD1
/- What caps hold: a day that is told, a week of such days. -/
namespace Go.Proofs.Ytjgbllfppomcmaa
open Go.RowKit

/-- What holds of a day that was told. -/
structure GoodD (t : Tf) (d : Dy) : Prop where
  z : ZIn t d
  bus : 0 ≤ d.bus ∧ d.bus ≤ t.busDaily
  cap : d.bus ≤ d.cap ∧ d.cap ≤ d.rail + d.bus
  held : d.cap ≤ max ((spanOf t d.low d.high).getD ⟨0, 0, 0, 0, 0⟩).daily t.busDaily
  none : d.low = 0 → d.cap = d.bus
  rail : 0 ≤ d.rail ∧ d.rail ≤ 2097152000
  most : 0 ≤ d.most ∧ d.most ≤ 2097152000

theorem foldD_in {t : Tf} {day : Int} (hr : rightE t = 0) : ∀ (l : List (Jn × Int)) (d : Dy) (n : Int), DyIn d n → ZSum t d → (∀ p ∈ l, pjE t day p = 0) → DyIn (l.foldl (putD t) d) (n + l.length * 1048576) ∧ ZSum t (l.foldl (putD t) d)
  | [], d, n, h1, h2, _ => ⟨by simpa using h1, h2⟩
  | p :: r, d, n, h1, h2, h3 => by
    have hp := h3 p (List.mem_cons_self ..)
    have := foldD_in hr r (putD t d p) (n + 1048576) (h1.put t p (pjE_price hp)) (h2.put hr hp) (fun q hq => h3 q (List.mem_cons_of_mem _ hq))
    rw [List.foldl_cons, show n + ((p :: r).length : Int) * 1048576 = n + 1048576 + (r.length : Int) * 1048576 by rw [List.length_cons]; omega]
    exact this

theorem good_day {t : Tf} {day : Int} {l : List (Jn × Int)} (h : dE t day l = 0) : GoodD t (dR t day l) ∧ (dR t day l).day = day := by
  obtain ⟨h0, h1, h2⟩ := dE_zero.1 h
  have hf := foldD_in h0 l (d0 day) 0 (by unfold DyIn d0; simp) ⟨.inl ⟨rfl, rfl⟩, fun _ => rfl⟩ h2
  have hs : l.foldl (putD t) (d0 day) = sumD t day l := rfl
  rw [hs] at hf
  obtain ⟨⟨g1, g2, g3⟩, hz, hz0⟩ := hf
  have hd := sumD_day t day l
  have hb := busDaily_of h0
  unfold dR
  rw [if_pos h]
  generalize sumD t day l = s at *
  obtain ⟨s0, s1, s2, s3, s4, s5, s6⟩ := s
  simp only at g1 g2 g3 hz0 hd
  have hc := cap_day h0 (d := heldD t ⟨s0, s1, s2, s3, s4, s5, s6⟩) ⟨hz, hz0⟩ g1.1 (·.daily)
  have e : cappedD t (heldD t ⟨s0, s1, s2, s3, s4, s5, s6⟩) = ⟨s0, s1, imin s2 t.busDaily, capV t (heldD t ⟨s0, s1, s2, s3, s4, s5, s6⟩) (·.daily), s4, s5, s6⟩ := rfl
  rw [e, hc]
  have hl : (l.length : Int) ≤ 2000 := by omega
  have hh : (heldD t ⟨s0, s1, s2, s3, s4, s5, s6⟩).low = s5 := rfl
  have hh6 : (heldD t ⟨s0, s1, s2, s3, s4, s5, s6⟩).high = s6 := rfl
  have hh1 : (heldD t ⟨s0, s1, s2, s3, s4, s5, s6⟩).rail = s1 := rfl
  have hh2 : (heldD t ⟨s0, s1, s2, s3, s4, s5, s6⟩).bus = imin s2 t.busDaily := rfl
  rw [hh, hh6, hh1, hh2]
  generalize hsp : ((spanOf t s5 s6).getD ⟨0, 0, 0, 0, 0⟩).daily = dl
  simp only [imin_eq, imax_eq]
  refine ⟨⟨hz, ?_, ?_, ?_, ?_, ?_, ?_⟩, hd⟩
  · simp only; omega
  · simp only
    by_cases hl5 : 0 < s5
    · rw [if_pos hl5]; omega
    · rw [if_neg hl5]; omega
  · simp only
    rw [hsp]
    by_cases hl5 : 0 < s5
    · rw [if_pos hl5]; omega
    · rw [if_neg hl5]; omega
  · intro hl5
    simp only at hl5 ⊢
    rw [if_neg (by omega)]
  · simp only; omega
  · simp only; omega

theorem GoodD.right {t : Tf} (hr : rightE t = 0) {d : Dy} (h : GoodD t d) : dayRE t d = 0 := by
  have hb := busDaily_of hr
  obtain ⟨hz, h1, h2, _, _, h5, h6⟩ := h
  unfold dayRE
  have ht : totsB d = true := by
    unfold totsB
    simp only [Bool.and_eq_true, totB_iff]
    omega
  have hzb : zonB t d.low d.high = true := by
    unfold zonB
    rcases hz with q | q
    · rw [if_pos q]
    · by_cases h0 : d.low = 0 ∧ d.high = 0
      · rw [if_pos h0]
      · rw [if_neg h0, span_has hr q.1 q.2.1 q.2.2]
        simp
        exact q.2.1
  rw [if_pos ⟨ht, by omega⟩, if_pos hzb]

end Go.Proofs.Ytjgbllfppomcmaa

/- What caps hold of a week: mathematics. -/
namespace Go.Proofs.Ytjgbllfppomcmaa
open Go.RowKit

theorem daysB_at (t : Tf) : ∀ (l : List PrA) (f : Int), daysB t f l = true → ∀ i (h : i < (daysL t f l).length), GoodD t (daysL t f l)[i] ∧ (daysL t f l)[i].day = f + i ∧ rightE t = 0
  | [], _, _, i, h => absurd h (by simp [daysL])
  | x :: r, f, hb, i, h => by
    rw [daysB, Bool.and_eq_true, decide_eq_true_eq] at hb
    cases i with
    | zero =>
      have := good_day hb.1
      exact ⟨this.1, by simpa [daysL] using this.2, (dE_zero.1 hb.1).1⟩
    | succ i =>
      have := daysB_at t r (f + 1) hb.2 i (by simpa [daysL] using h)
      exact ⟨by simpa [daysL] using this.1, by have e := this.2.1; simp only [daysL, List.getElem_cons_succ]; rw [e]; omega, this.2.2⟩

theorem firstW_good {t : Tf} (hr : rightE t = 0) {week : Int} (h0 : 0 ≤ week) (h1 : week ≤ 100000) : ∀ (l : List Dy) (f : Int) (a : Option Dy), 7 * week ≤ f → f + l.length ≤ 7 * week + 7 → (∀ i (h : i < l.length), GoodD t l[i] ∧ l[i].day = f + i) → (∀ x, a = some x → 7 * week ≤ x.day ∧ x.day < f) → firstW t a l = 0
  | [], _, a, _, _, _, _ => by cases a <;> rfl
  | d :: r, f, a, hf, hl, hg, ha => by
    have hd := hg 0 (by simp)
    simp only [List.getElem_cons_zero] at hd
    have hday : d.day = f := by have := hd.2; omega
    rw [List.length_cons] at hl
    rw [firstW_cons t a d r (fun x hx => by
      have hx2 := ha x hx
      unfold follB weekV
      have t1 : told d.day = true := (told_iff _).2 (by omega)
      have t2 : told x.day = true := (told_iff _).2 (by omega)
      rw [t1, t2, if_pos rfl, if_pos rfl]
      simp only [Bool.and_eq_true, decide_eq_true_eq]
      omega) (hd.1.right hr)]
    refine firstW_good hr h0 h1 r (f + 1) (some d) (by omega) (by omega) (fun i h => ?_) (fun x hx => ?_)
    · have := hg (i + 1) (by simpa using h)
      simp only [List.getElem_cons_succ] at this
      exact ⟨this.1, by have e := this.2; omega⟩
    · injection hx with hx
      subst hx
      omega

/-- What holds of days of a week taken together. -/
structure WkIn (t : Tf) (s : Dy) (n : Int) : Prop where
  z : ZIn t s
  r : 0 ≤ s.rail ∧ s.rail ≤ n * 4000000000
  b : 0 ≤ s.bus ∧ s.bus ≤ n * 4000000000
  m : 0 ≤ s.most ∧ s.most ≤ n * 4000000000
  e : s.low = 0 → s.rail = 0

theorem WkIn.zero (t : Tf) : WkIn t dz 0 := ⟨.inl ⟨rfl, rfl⟩, by simp [dz], by simp [dz], by simp [dz], fun _ => rfl⟩

theorem ZIn.low {t : Tf} {d : Dy} (h : ZIn t d) : 0 ≤ d.low := by rcases h with q | q <;> omega

theorem WkIn.add {t : Tf} {s d : Dy} {n : Int} (hr : rightE t = 0) (h : WkIn t s n) (hd : GoodD t d) : WkIn t (addW s d) (n + 1) := by
  have hz := ZIn.week hr h.z (hd.right hr)
  have hb := busDaily_of hr
  obtain ⟨z, r, b, m, e⟩ := h
  obtain ⟨gz, g1, g2, g3, g4, g5, g6⟩ := hd
  have l1 := z.low
  have l2 := gz.low
  obtain ⟨s0, s1, s2, s3, s4, s5, s6⟩ := s
  obtain ⟨d0, d1, d2, d3, d4, d5, d6⟩ := d
  simp only at *
  refine ⟨hz, ?_, ?_, ?_, ?_⟩
  · simp only [addW, widD]; omega
  · simp only [addW, widD]; omega
  · simp only [addW, widD]; omega
  · simp only [addW, widD, lowW]
    intro q
    by_cases k : s5 = 0
    · rw [if_pos k] at q
      have := e k
      have := g4 q
      omega
    · rw [if_neg k] at q
      split at q <;> omega

/-- The week's cap. -/
theorem WkIn.hold {t : Tf} {s : Dy} {n : Int} (hr : rightE t = 0) (h : WkIn t s n) :
    let c := capV t (heldW t s) (·.weekly)
    c ≤ s.rail + s.bus ∧ c ≤ max ((spanOf t s.low s.high).getD ⟨0, 0, 0, 0, 0⟩).weekly t.busWeekly ∧ 0 ≤ c ∧ c ≤ n * 8000000000 := by
  have hb := busWeekly_of hr
  obtain ⟨z, r, b, m, e⟩ := h
  have hz : ZIn t (heldW t s) := z
  have hc := cap_week hr (d := heldW t s) hz r.1 (·.weekly)
  have l1 := z.low
  intro c
  have hcc : c = capV t (heldW t s) (·.weekly) := rfl
  rw [← hcc] at hc
  have e1 : (heldW t s).low = s.low := rfl
  have e2 : (heldW t s).high = s.high := rfl
  have e3 : (heldW t s).rail = s.rail := rfl
  have e4 : (heldW t s).bus = imin s.bus t.busWeekly := rfl
  rw [e1, e2, e3, e4] at hc
  generalize ((spanOf t s.low s.high).getD ⟨0, 0, 0, 0, 0⟩).weekly = q at *
  simp only [imin_eq, imax_eq] at hc
  by_cases k : 0 < s.low
  · rw [if_pos k] at hc
    omega
  · rw [if_neg k] at hc
    have := e (by omega)
    omega

end Go.Proofs.Ytjgbllfppomcmaa

