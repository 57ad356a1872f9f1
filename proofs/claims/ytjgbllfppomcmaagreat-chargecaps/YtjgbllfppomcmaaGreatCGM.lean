import Derived.Test.YtjgbllfppomcmaaGreatCMY
import Derived.Test.YtjgbllfppomcmaaGreatCPY
/- What caps hold: days that are told, weeks of such days; a fare less. -/
namespace Go.Proofs.YtjgbllfppomcmaaGreat
open Go.RowKit

theorem zonB_in {t : Tf} (hr : rightE t = 0) {lo hi : Int} (h : zonB t lo hi = true) : (lo = 0 ∧ hi = 0) ∨ (1 ≤ lo ∧ lo ≤ hi ∧ hi ≤ Zt t) := by
  unfold zonB at h
  split at h
  · left; assumption
  · right
    simp only [Bool.and_eq_true, decide_eq_true_eq] at h
    have := span_in hr h.1 h.2
    omega

theorem ZIn.week {t : Tf} (hr : rightE t = 0) {s d : Dy} (h : ZIn t s) (hd : dayRE t d = 0) : ZIn t (addW s d) := by
  obtain ⟨_, _, _, _, _, hz⟩ := dayRE_zero hd
  exact ZIn.widen (d := ⟨s.day, s.rail + (d.cap - d.bus), s.bus + d.bus, s.cap, s.most + d.most, s.low, s.high⟩) h (zonB_in hr hz)

/-- What holds of a day that was told. -/
structure GoodD (t : Tf) (d : Dy) : Prop where
  z : ZIn t d
  bus : 0 ≤ d.bus ∧ d.bus ≤ t.busDaily
  cap : d.bus ≤ d.cap ∧ d.cap ≤ d.rail + d.bus
  held : d.cap ≤ max ((spanOf t d.low d.high).getD ⟨0, 0, 0, 0, 0⟩).daily t.busDaily
  none : d.low = 0 → d.cap = d.bus
  rail : 0 ≤ d.rail ∧ d.rail ≤ 2097152000
  most : 0 ≤ d.most ∧ d.most ≤ 2097152000

theorem foldD_in {t : Tf} {day : Int} (hr : rightE t = 0) : ∀ (l : List (Jn × Int)) (d : Dy) (n : Int), DyIn d n → ZSum t d → (∀ p ∈ l, pjE t day p = 0) → DyIn (l.foldl (putD t) d) (n + l.length * 1048576) ∧ ZSum t (l.foldl (putD t) d)
  | [], d, n, h1, h2, _ => ⟨by simpa using h1, h2⟩
  | p :: r, d, n, h1, h2, h3 => by
    have hp := h3 p (List.mem_cons_self ..)
    have := foldD_in hr r (putD t d p) (n + 1048576) (h1.put t p (pjE_price hp)) (h2.put hr hp) (fun q hq => h3 q (List.mem_cons_of_mem _ hq))
    rw [List.foldl_cons, show n + ((p :: r).length : Int) * 1048576 = n + 1048576 + (r.length : Int) * 1048576 by rw [List.length_cons]; omega]
    exact this

theorem good_day {t : Tf} {day : Int} {l : List (Jn × Int)} (h : dE t day l = 0) : GoodD t (dR t day l) ∧ (dR t day l).day = day := by
  obtain ⟨h0, h1, h2⟩ := dE_zero.1 h
  have hf := foldD_in h0 l (d0 day) 0 (by unfold DyIn d0; simp) ⟨.inl ⟨rfl, rfl⟩, fun _ => rfl⟩ h2
  have hs : l.foldl (putD t) (d0 day) = sumD t day l := rfl
  rw [hs] at hf
  obtain ⟨⟨g1, g2, g3⟩, hz, hz0⟩ := hf
  have hd := sumD_day t day l
  have hb := busDaily_of h0
  unfold dR
  rw [if_pos h]
  generalize sumD t day l = s at *
  obtain ⟨s0, s1, s2, s3, s4, s5, s6⟩ := s
  simp only at g1 g2 g3 hz0 hd
  have hc := cap_day h0 (d := heldD t ⟨s0, s1, s2, s3, s4, s5, s6⟩) ⟨hz, hz0⟩ g1.1 (·.daily)
  have e : cappedD t (heldD t ⟨s0, s1, s2, s3, s4, s5, s6⟩) = ⟨s0, s1, imin s2 t.busDaily, capV t (heldD t ⟨s0, s1, s2, s3, s4, s5, s6⟩) (·.daily), s4, s5, s6⟩ := rfl
  rw [e, hc]
  have hl : (l.length : Int) ≤ 2000 := by omega
  have hh : (heldD t ⟨s0, s1, s2, s3, s4, s5, s6⟩).low = s5 := rfl
  have hh6 : (heldD t ⟨s0, s1, s2, s3, s4, s5, s6⟩).high = s6 := rfl
  have hh1 : (heldD t ⟨s0, s1, s2, s3, s4, s5, s6⟩).rail = s1 := rfl
  have hh2 : (heldD t ⟨s0, s1, s2, s3, s4, s5, s6⟩).bus = imin s2 t.busDaily := rfl
  rw [hh, hh6, hh1, hh2]
  generalize hsp : ((spanOf t s5 s6).getD ⟨0, 0, 0, 0, 0⟩).daily = dl
  simp only [imin_eq, imax_eq]
  refine ⟨⟨hz, ?_, ?_, ?_, ?_, ?_, ?_⟩, hd⟩
  · simp only; omega
  · simp only
    by_cases hl5 : 0 < s5
    · rw [if_pos hl5]; omega
    · rw [if_neg hl5]; omega
  · simp only
    rw [hsp]
    by_cases hl5 : 0 < s5
    · rw [if_pos hl5]; omega
    · rw [if_neg hl5]; omega
  · intro hl5
    simp only at hl5 ⊢
    rw [if_neg (by omega)]
  · simp only; omega
  · simp only; omega

theorem GoodD.right {t : Tf} (hr : rightE t = 0) {d : Dy} (h : GoodD t d) : dayRE t d = 0 := by
  have hb := busDaily_of hr
  obtain ⟨hz, h1, h2, _, _, h5, h6⟩ := h
  unfold dayRE
  have ht : totsB d = true := by
    unfold totsB
    simp only [Bool.and_eq_true, totB_iff]
    omega
  have hzb : zonB t d.low d.high = true := by
    unfold zonB
    rcases hz with q | q
    · rw [if_pos q]
    · by_cases h0 : d.low = 0 ∧ d.high = 0
      · rw [if_pos h0]
      · rw [if_neg h0, span_has hr q.1 q.2.1 q.2.2]
        simp
        exact q.2.1
  rw [if_pos ⟨ht, by omega⟩, if_pos hzb]

/-- What holds of days of a week taken together. -/
structure WkIn (t : Tf) (s : Dy) (n : Int) : Prop where
  z : ZIn t s
  r : 0 ≤ s.rail ∧ s.rail ≤ n * 4000000000
  b : 0 ≤ s.bus ∧ s.bus ≤ n * 4000000000
  m : 0 ≤ s.most ∧ s.most ≤ n * 4000000000
  e : s.low = 0 → s.rail = 0

theorem WkIn.zero (t : Tf) : WkIn t dz 0 := ⟨.inl ⟨rfl, rfl⟩, by simp [dz], by simp [dz], by simp [dz], fun _ => rfl⟩

theorem ZIn.low {t : Tf} {d : Dy} (h : ZIn t d) : 0 ≤ d.low := by rcases h with q | q <;> omega

theorem WkIn.add {t : Tf} {s d : Dy} {n : Int} (hr : rightE t = 0) (h : WkIn t s n) (hd : GoodD t d) : WkIn t (addW s d) (n + 1) := by
  have hz := ZIn.week hr h.z (hd.right hr)
  have hb := busDaily_of hr
  obtain ⟨z, r, b, m, e⟩ := h
  obtain ⟨gz, g1, g2, g3, g4, g5, g6⟩ := hd
  have l1 := z.low
  have l2 := gz.low
  obtain ⟨s0, s1, s2, s3, s4, s5, s6⟩ := s
  obtain ⟨d0, d1, d2, d3, d4, d5, d6⟩ := d
  simp only at *
  refine ⟨hz, ?_, ?_, ?_, ?_⟩
  · simp only [addW, widD]; omega
  · simp only [addW, widD]; omega
  · simp only [addW, widD]; omega
  · simp only [addW, widD, lowW]
    intro q
    by_cases k : s5 = 0
    · rw [if_pos k] at q
      have := e k
      have := g4 q
      omega
    · rw [if_neg k] at q
      split at q <;> omega

/-- The week's cap. -/
theorem WkIn.hold {t : Tf} {s : Dy} {n : Int} (hr : rightE t = 0) (h : WkIn t s n) :
    let c := capV t (heldW t s) (·.weekly)
    c ≤ s.rail + s.bus ∧ c ≤ max ((spanOf t s.low s.high).getD ⟨0, 0, 0, 0, 0⟩).weekly t.busWeekly ∧ 0 ≤ c ∧ c ≤ n * 8000000000 := by
  have hb := busWeekly_of hr
  obtain ⟨z, r, b, m, e⟩ := h
  have hz : ZIn t (heldW t s) := z
  have hc := cap_week hr (d := heldW t s) hz r.1 (·.weekly)
  have l1 := z.low
  intro c
  have hcc : c = capV t (heldW t s) (·.weekly) := rfl
  rw [← hcc] at hc
  have e1 : (heldW t s).low = s.low := rfl
  have e2 : (heldW t s).high = s.high := rfl
  have e3 : (heldW t s).rail = s.rail := rfl
  have e4 : (heldW t s).bus = imin s.bus t.busWeekly := rfl
  rw [e1, e2, e3, e4] at hc
  generalize ((spanOf t s.low s.high).getD ⟨0, 0, 0, 0, 0⟩).weekly = q at *
  simp only [imin_eq, imax_eq] at hc
  by_cases k : 0 < s.low
  · rw [if_pos k] at hc
    omega
  · rw [if_neg k] at hc
    have := e (by omega)
    omega

/-- Two lists, element by element. -/
def All2 {α β : Type} (R : α → β → Prop) : List α → List β → Prop
  | [], [] => True
  | a :: l, b :: m => R a b ∧ All2 R l m
  | _, _ => False

theorem All2.snoc {α β : Type} {R : α → β → Prop} : ∀ {l : List α} {m : List β} {a : α} {b : β}, All2 R l m → R a b → All2 R (l ++ [a]) (m ++ [b])
  | [], [], _, _, _, h => ⟨h, trivial⟩
  | _ :: _, _ :: _, _, _, h, h2 => ⟨h.1, h.2.snoc h2⟩

theorem All2.length {α β : Type} {R : α → β → Prop} : ∀ {l : List α} {m : List β}, All2 R l m → l.length = m.length
  | [], [], _ => rfl
  | _ :: _, _ :: _, h => by simpa using h.2.length

theorem All2.at {α β : Type} {R : α → β → Prop} : ∀ {l : List α} {m : List β}, All2 R l m → ∀ i (h : i < l.length) (h' : i < m.length), R l[i] m[i]
  | [], [], _, i, h, _ => absurd h (by simp)
  | _ :: _, _ :: _, hh, 0, _, _ => hh.1
  | _ :: _, _ :: _, hh, i + 1, h, h' => hh.2.at i (by simpa using h) (by simpa using h')

/-- Zones as wide. -/
def ZLe (a b : Dy) : Prop := a.low = 0 ∨ (1 ≤ b.low ∧ b.low ≤ a.low ∧ a.high ≤ b.high)

theorem ZLe.refl {t : Tf} {a : Dy} (h : ZIn t a) : ZLe a a := by rcases h with q | q; exact .inl q.1; exact .inr ⟨q.1, by omega, by omega⟩

theorem span_le {t : Tf} (hr : rightE t = 0) {a b : Dy} (za : ZIn t a) (zb : ZIn t b) (h : ZLe a b) (ha : ¬ a.low = 0) :
    ((spanOf t a.low a.high).getD ⟨0, 0, 0, 0, 0⟩).daily ≤ ((spanOf t b.low b.high).getD ⟨0, 0, 0, 0, 0⟩).daily ∧ ((spanOf t a.low a.high).getD ⟨0, 0, 0, 0, 0⟩).weekly ≤ ((spanOf t b.low b.high).getD ⟨0, 0, 0, 0, 0⟩).weekly := by
  have h1 : 1 ≤ a.low ∧ a.low ≤ a.high ∧ a.high ≤ Zt t := by rcases za with q | q; exact absurd q.1 ha; exact q
  have h2 : 1 ≤ b.low ∧ b.low ≤ a.low ∧ a.high ≤ b.high := by rcases h with q | q; exact absurd q ha; exact q
  have h3 : 1 ≤ b.low ∧ b.low ≤ b.high ∧ b.high ≤ Zt t := by rcases zb with q | q; omega; exact q
  obtain ⟨s, hs⟩ := Option.isSome_iff_exists.1 (span_has hr h1.1 h1.2.1 h1.2.2)
  obtain ⟨s', hs'⟩ := Option.isSome_iff_exists.1 (span_has hr h3.1 h3.2.1 h3.2.2)
  rw [hs, hs']
  exact span_mono hr hs hs' h2.2.1 h2.2.2 h1.2.1 h3.2.1

theorem capV_mono {t : Tf} (hr : rightE t = 0) {a b : Dy} (za : ZIn t a) (zb : ZIn t b) (ea : a.low = 0 → a.rail = 0) (ra : 0 ≤ a.rail) (hb : a.bus = b.bus) (hrl : a.rail ≤ b.rail) (h : ZLe a b) (c : Spn → Int)
    (hc : ¬ a.low = 0 → c ((spanOf t a.low a.high).getD ⟨0, 0, 0, 0, 0⟩) ≤ c ((spanOf t b.low b.high).getD ⟨0, 0, 0, 0, 0⟩)) : capV t a c ≤ capV t b c := by
  rw [cap_week hr za ra c, cap_week hr zb (by omega) c]
  have l1 := za.low
  have l2 := zb.low
  by_cases k : a.low = 0
  · have e := ea k
    rw [if_neg (by omega)]
    split
    · simp only [imin_eq, imax_eq]; omega
    · omega
  · have h2 : 1 ≤ b.low := by rcases h with q | q; exact absurd q k; exact q.1
    have hh := hc k
    rw [if_pos (by omega), if_pos (by omega)]
    simp only [imin_eq, imax_eq]
    omega

structure DLe (a b : Dy) : Prop where
  bus : a.bus = b.bus
  cap : a.cap ≤ b.cap
  most : a.most ≤ b.most
  z : ZLe a b

structure SLe (a b : Dy) : Prop where
  bus : a.bus = b.bus
  rail : a.rail ≤ b.rail
  most : a.most ≤ b.most
  z : ZLe a b

theorem sum_in {t : Tf} {day : Int} {l : List (Jn × Int)} (h : dE t day l = 0) : ZSum t (sumD t day l) ∧ 0 ≤ (sumD t day l).rail := by
  obtain ⟨h0, h1, h2⟩ := dE_zero.1 h
  have hf := foldD_in h0 l (d0 day) 0 (by unfold DyIn d0; simp) ⟨.inl ⟨rfl, rfl⟩, fun _ => rfl⟩ h2
  exact ⟨hf.2, hf.1.1.1⟩

theorem day_le {t : Tf} {day : Int} {l m : List (Jn × Int)} (hl : dE t day l = 0) (hm : dE t day m = 0) (h : SLe (sumD t day l) (sumD t day m)) : DLe (dR t day l) (dR t day m) := by
  have hr := (dE_zero.1 hl).1
  obtain ⟨⟨za, ea⟩, ra⟩ := sum_in hl
  obtain ⟨⟨zb, _⟩, rb⟩ := sum_in hm
  unfold dR
  rw [if_pos hl, if_pos hm]
  generalize sumD t day l = a at *
  generalize sumD t day m = b at *
  refine ⟨?_, ?_, h.most, h.z⟩
  · show imin a.bus t.busDaily = imin b.bus t.busDaily
    rw [h.bus]
  · show capV t (heldD t a) (·.daily) ≤ capV t (heldD t b) (·.daily)
    exact capV_mono hr (a := heldD t a) (b := heldD t b) za zb ea ra (by show imin a.bus t.busDaily = imin b.bus t.busDaily; rw [h.bus]) h.rail h.z _ (fun k => (span_le hr (a := heldD t a) (b := heldD t b) za zb h.z k).1)

def DayR (t : Tf) (a b : Dy) : Prop := DLe a b ∧ GoodD t a ∧ GoodD t b

theorem SLe.add {t : Tf} {s s' d d' : Dy} (h : SLe s s') (zs : ZIn t s) (zs' : ZIn t s') (hd : DLe d d') (zd : ZIn t d) (zd' : ZIn t d') : SLe (addW s d) (addW s' d') := by
  obtain ⟨h1, h2, h3, h4⟩ := h
  obtain ⟨g1, g2, g3, g4⟩ := hd
  obtain ⟨s0, s1, s2, s3, s4, s5, s6⟩ := s
  obtain ⟨u0, u1, u2, u3, u4, u5, u6⟩ := s'
  obtain ⟨d0, d1, d2, d3, d4, d5, d6⟩ := d
  obtain ⟨e0, e1, e2, e3, e4, e5, e6⟩ := d'
  simp only [ZLe, ZIn] at *
  refine ⟨?_, ?_, ?_, ?_⟩
  · simp only [addW, widD]; omega
  · simp only [addW, widD]; omega
  · simp only [addW, widD]; omega
  · simp only [ZLe, addW, widD, lowW, imax_eq]
    repeat' split
    all_goals omega

theorem week_fold {t : Tf} (hr : rightE t = 0) (L : List Dy) : ∀ (M : List Dy) (s s' : Dy) (n : Int), All2 (DayR t) L M → WkIn t s n → WkIn t s' n → SLe s s' → SLe (L.foldl addW s) (M.foldl addW s') ∧ WkIn t (L.foldl addW s) (n + L.length) ∧ WkIn t (M.foldl addW s') (n + L.length) := by
  induction L with
  | nil =>
    intro M s s' n h h1 h2 h3
    cases M with
    | nil => exact ⟨h3, by simpa using h1, by simpa using h2⟩
    | cons b M => exact absurd h (fun q => q)
  | cons a L ih =>
    intro M s s' n h h1 h2 h3
    cases M with
    | nil => exact absurd h (fun q => q)
    | cons b M =>
      obtain ⟨g1, g2⟩ := h
      have := ih M (addW s a) (addW s' b) (n + 1) g2 (h1.add hr g1.2.1) (h2.add hr g1.2.2) (h3.add h1.z h2.z g1.1 g1.2.1.z g1.2.2.z)
      rw [show n + 1 + (L.length : Int) = n + ((a :: L).length : Int) by rw [List.length_cons]; omega] at this
      rw [List.foldl_cons, List.foldl_cons]
      exact this

theorem week_le {t : Tf} (hr : rightE t = 0) {L M : List Dy} (h : All2 (DayR t) L M) : wkV t L ≤ wkV t M := by
  obtain ⟨h1, h2, h3⟩ := week_fold hr L M dz dz 0 h (WkIn.zero t) (WkIn.zero t) ⟨rfl, Int.le_refl _, Int.le_refl _, .inl rfl⟩
  show capV t (heldW t (L.foldl addW dz)) (·.weekly) + (L.foldl addW dz).most ≤ capV t (heldW t (M.foldl addW dz)) (·.weekly) + (M.foldl addW dz).most
  generalize L.foldl addW dz = a at *
  generalize M.foldl addW dz = b at *
  have := capV_mono hr (a := heldW t a) (b := heldW t b) h2.z h3.z h2.e h2.r.1 (by show imin a.bus t.busWeekly = imin b.bus t.busWeekly; rw [h1.bus]) h1.rail h1.z (·.weekly) (fun k => (span_le hr (a := heldW t a) (b := heldW t b) h2.z h3.z h1.z k).2)
  have := h1.most
  omega

/-- A journey whose fare fell, or not. -/
def FallP (p q : Jn × Int) : Prop := q.1 = p.1 ∧ (q.2 = p.2 ∨ (¬ p.1.kind = 4 ∧ 0 ≤ q.2 ∧ q.2 < p.2))

theorem fall_pj {t : Tf} {day : Int} {p q : Jn × Int} (h : FallP p q) (hp : pjE t day p = 0) : pjE t day q = 0 := by
  obtain ⟨h1, h2⟩ := h
  obtain ⟨k1, k2, k3, k4⟩ := pjE_zero hp
  have hq : price q.2 = true := by rw [price_iff] at k2 ⊢; omega
  unfold pjE
  rw [h1, if_pos k1, if_pos hq, if_pos k3]
  by_cases k : p.1.kind = 1
  · rw [if_pos k, if_pos (k4 k)]
  · rw [if_neg k]

def FallS (s s' : Dy) : Prop := s'.rail ≤ s.rail ∧ s'.bus = s.bus ∧ s'.most ≤ s.most ∧ s'.low = s.low ∧ s'.high = s.high

theorem FallS.put {t : Tf} {s s' : Dy} (h : FallS s s') {p q : Jn × Int} (hf : FallP p q) : FallS (putD t s p) (putD t s' q) := by
  obtain ⟨h1, h2, h3, h4, h5⟩ := h
  obtain ⟨g1, g2⟩ := hf
  obtain ⟨s0, s1, s2, s3, s4, s5, s6⟩ := s
  obtain ⟨u0, u1, u2, u3, u4, u5, u6⟩ := s'
  simp only at *
  subst h4 h5
  have z1 : zF t q = zF t p := by unfold zF; rw [g1]
  have z2 : zT t q = zT t p := by unfold zT; rw [g1]
  unfold putD
  rw [g1, z1, z2]
  by_cases k : p.1.kind = 1
  · rw [if_pos k, if_pos k]
    refine ⟨?_, h2, h3, rfl, rfl⟩
    simp only [widD]; omega
  · rw [if_neg k, if_neg k]
    by_cases k4 : p.1.kind = 4
    · rw [if_pos k4, if_pos k4]
      refine ⟨h1, ?_, h3, rfl, rfl⟩
      simp only; omega
    · rw [if_neg k4, if_neg k4]
      refine ⟨h1, h2, ?_, rfl, rfl⟩
      simp only; omega

theorem fall_fold {t : Tf} (ps : List (Jn × Int)) : ∀ (qs : List (Jn × Int)) (s s' : Dy), All2 FallP ps qs → FallS s s' → FallS (ps.foldl (putD t) s) (qs.foldl (putD t) s') := by
  induction ps with
  | nil =>
    intro qs s s' h hs
    cases qs with
    | nil => exact hs
    | cons q qs => exact absurd h (fun q => q)
  | cons p ps ih =>
    intro qs s s' h hs
    cases qs with
    | nil => exact absurd h (fun q => q)
    | cons q qs =>
      obtain ⟨g1, g2⟩ := h
      rw [List.foldl_cons, List.foldl_cons]
      exact ih qs _ _ g2 (hs.put g1)

theorem fall_all {t : Tf} {day : Int} : ∀ {ps qs : List (Jn × Int)}, All2 FallP ps qs → (∀ p ∈ ps, pjE t day p = 0) → ∀ q ∈ qs, pjE t day q = 0
  | [], [], _, _, q, hq => absurd hq (by simp)
  | p :: ps, q :: qs, h, hp, x, hx => by
    rcases List.mem_cons.1 hx with rfl | hx
    · exact fall_pj h.1 (hp p (List.mem_cons_self ..))
    · exact fall_all h.2 (fun y hy => hp y (List.mem_cons_of_mem _ hy)) x hx

theorem fall_day {t : Tf} {day : Int} {ps qs : List (Jn × Int)} (h : All2 FallP ps qs) (hp : dE t day ps = 0) : dE t day qs = 0 ∧ DayR t (dR t day qs) (dR t day ps) := by
  obtain ⟨h0, h1, h2⟩ := dE_zero.1 hp
  have hq : dE t day qs = 0 := dE_zero.2 ⟨h0, by rw [← h.length]; exact h1, fall_all h h2⟩
  have hs : FallS (sumD t day ps) (sumD t day qs) := fall_fold ps qs _ _ h ⟨Int.le_refl _, rfl, Int.le_refl _, rfl, rfl⟩
  have hz := (sum_in hp).1.1
  obtain ⟨a1, a2, a3, a4, a5⟩ := hs
  refine ⟨hq, day_le hq hp ⟨a2, a1, a3, ?_⟩, (good_day hq).1, (good_day hp).1⟩
  unfold ZLe
  unfold ZIn at hz
  omega

theorem more_day {t : Tf} {day : Int} {l : List (Jn × Int)} {x : Jn × Int} (h : dE t day l = 0) (h2 : dE t day (l ++ [x]) = 0) (hk : ¬ x.1.kind = 4) : DayR t (dR t day l) (dR t day (l ++ [x])) := by
  have hr := (dE_zero.1 h).1
  have hx : pjE t day x = 0 := (dE_zero.1 h2).2.2 x (by simp)
  obtain ⟨_, hpr, _, _⟩ := pjE_zero hx
  rw [price_iff] at hpr
  have e : sumD t day (l ++ [x]) = putD t (sumD t day l) x := by unfold sumD; rw [List.foldl_append]; rfl
  have hz := (sum_in h).1.1
  have hzo := fun k => zones_of hr hx k
  refine ⟨day_le h h2 ?_, (good_day h).1, (good_day h2).1⟩
  rw [e]
  generalize sumD t day l = s at *
  obtain ⟨s0, s1, s2, s3, s4, s5, s6⟩ := s
  unfold putD
  by_cases k : x.1.kind = 1
  · rw [if_pos k]
    have hq := hzo k
    refine ⟨rfl, by simp only [widD]; omega, Int.le_refl _, ?_⟩
    simp only [ZLe, ZIn, widD, lowW, imax_eq] at *
    repeat' split
    all_goals omega
  · rw [if_neg k, if_neg hk]
    refine ⟨rfl, Int.le_refl _, by simp only; omega, ?_⟩
    simp only [ZLe, ZIn] at *
    omega

end Go.Proofs.YtjgbllfppomcmaaGreat

