import Derived.Test.YtjgbllfppomcmaaCMX
import Derived.Test.YtjgbllfppomcmaaCD1
/- A fare less, a journey more: mathematics. -/
namespace Go.Proofs.Ytjgbllfppomcmaa
open Go.RowKit

/-- Two lists, element by element. -/
def All2 {α β : Type} (R : α → β → Prop) : List α → List β → Prop
  | [], [] => True
  | a :: l, b :: m => R a b ∧ All2 R l m
  | _, _ => False
theorem All2.snoc {α β : Type} {R : α → β → Prop} : ∀ {l : List α} {m : List β} {a : α} {b : β}, All2 R l m → R a b → All2 R (l ++ [a]) (m ++ [b])
  | [], [], _, _, _, h => ⟨h, trivial⟩
  | _ :: _, _ :: _, _, _, h, h2 => ⟨h.1, h.2.snoc h2⟩
theorem All2.length {α β : Type} {R : α → β → Prop} : ∀ {l : List α} {m : List β}, All2 R l m → l.length = m.length
  | [], [], _ => rfl
  | _ :: _, _ :: _, h => by simpa using h.2.length
theorem All2.at {α β : Type} {R : α → β → Prop} : ∀ {l : List α} {m : List β}, All2 R l m → ∀ i (h : i < l.length) (h' : i < m.length), R l[i] m[i]
  | [], [], _, i, h, _ => absurd h (by simp)
  | _ :: _, _ :: _, hh, 0, _, _ => hh.1
  | _ :: _, _ :: _, hh, i + 1, h, h' => hh.2.at i (by simpa using h) (by simpa using h')

/-- Zones as wide. -/
def ZLe (a b : Dy) : Prop := a.low = 0 ∨ (1 ≤ b.low ∧ b.low ≤ a.low ∧ a.high ≤ b.high)
theorem ZLe.refl {t : Tf} {a : Dy} (h : ZIn t a) : ZLe a a := by rcases h with q | q; exact .inl q.1; exact .inr ⟨q.1, by omega, by omega⟩

theorem span_le {t : Tf} (hr : rightE t = 0) {a b : Dy} (za : ZIn t a) (zb : ZIn t b) (h : ZLe a b) (ha : ¬ a.low = 0) :
    ((spanOf t a.low a.high).getD ⟨0, 0, 0, 0, 0⟩).daily ≤ ((spanOf t b.low b.high).getD ⟨0, 0, 0, 0, 0⟩).daily ∧ ((spanOf t a.low a.high).getD ⟨0, 0, 0, 0, 0⟩).weekly ≤ ((spanOf t b.low b.high).getD ⟨0, 0, 0, 0, 0⟩).weekly := by
  have h1 : 1 ≤ a.low ∧ a.low ≤ a.high ∧ a.high ≤ Zt t := by rcases za with q | q; exact absurd q.1 ha; exact q
  have h2 : 1 ≤ b.low ∧ b.low ≤ a.low ∧ a.high ≤ b.high := by rcases h with q | q; exact absurd q ha; exact q
  have h3 : 1 ≤ b.low ∧ b.low ≤ b.high ∧ b.high ≤ Zt t := by rcases zb with q | q; omega; exact q
  obtain ⟨s, hs⟩ := Option.isSome_iff_exists.1 (span_has hr h1.1 h1.2.1 h1.2.2)
  obtain ⟨s', hs'⟩ := Option.isSome_iff_exists.1 (span_has hr h3.1 h3.2.1 h3.2.2)
  rw [hs, hs']
  exact span_mono hr hs hs' h2.2.1 h2.2.2 h1.2.1 h3.2.1

theorem capV_mono {t : Tf} (hr : rightE t = 0) {a b : Dy} (za : ZIn t a) (zb : ZIn t b) (ea : a.low = 0 → a.rail = 0) (ra : 0 ≤ a.rail) (hb : a.bus = b.bus) (hrl : a.rail ≤ b.rail) (h : ZLe a b) (c : Spn → Int)
    (hc : ¬ a.low = 0 → c ((spanOf t a.low a.high).getD ⟨0, 0, 0, 0, 0⟩) ≤ c ((spanOf t b.low b.high).getD ⟨0, 0, 0, 0, 0⟩)) : capV t a c ≤ capV t b c := by
  rw [cap_week hr za ra c, cap_week hr zb (by omega) c]
  have l1 := za.low
  have l2 := zb.low
  by_cases k : a.low = 0
  · have e := ea k
    rw [if_neg (by omega)]
    split
    · simp only [imin_eq, imax_eq]; omega
    · omega
  · have h2 : 1 ≤ b.low := by rcases h with q | q; exact absurd q k; exact q.1
    have hh := hc k
    rw [if_pos (by omega), if_pos (by omega)]
    simp only [imin_eq, imax_eq]
    omega

structure DLe (a b : Dy) : Prop where
  bus : a.bus = b.bus
  cap : a.cap ≤ b.cap
  most : a.most ≤ b.most
  z : ZLe a b
structure SLe (a b : Dy) : Prop where
  bus : a.bus = b.bus
  rail : a.rail ≤ b.rail
  most : a.most ≤ b.most
  z : ZLe a b

theorem sum_in {t : Tf} {day : Int} {l : List (Jn × Int)} (h : dE t day l = 0) : ZSum t (sumD t day l) ∧ 0 ≤ (sumD t day l).rail := by
  obtain ⟨h0, h1, h2⟩ := dE_zero.1 h
  have hf := foldD_in h0 l (d0 day) 0 (by unfold DyIn d0; simp) ⟨.inl ⟨rfl, rfl⟩, fun _ => rfl⟩ h2
  exact ⟨hf.2, hf.1.1.1⟩

theorem day_le {t : Tf} {day : Int} {l m : List (Jn × Int)} (hl : dE t day l = 0) (hm : dE t day m = 0) (h : SLe (sumD t day l) (sumD t day m)) : DLe (dR t day l) (dR t day m) := by
  have hr := (dE_zero.1 hl).1
  obtain ⟨⟨za, ea⟩, ra⟩ := sum_in hl
  obtain ⟨⟨zb, _⟩, rb⟩ := sum_in hm
  unfold dR
  rw [if_pos hl, if_pos hm]
  generalize sumD t day l = a at *
  generalize sumD t day m = b at *
  refine ⟨?_, ?_, h.most, h.z⟩
  · show imin a.bus t.busDaily = imin b.bus t.busDaily
    rw [h.bus]
  · show capV t (heldD t a) (·.daily) ≤ capV t (heldD t b) (·.daily)
    exact capV_mono hr (a := heldD t a) (b := heldD t b) za zb ea ra (by show imin a.bus t.busDaily = imin b.bus t.busDaily; rw [h.bus]) h.rail h.z _ (fun k => (span_le hr (a := heldD t a) (b := heldD t b) za zb h.z k).1)

def DayR (t : Tf) (a b : Dy) : Prop := DLe a b ∧ GoodD t a ∧ GoodD t b

theorem SLe.add {t : Tf} {s s' d d' : Dy} (h : SLe s s') (zs : ZIn t s) (zs' : ZIn t s') (hd : DLe d d') (zd : ZIn t d) (zd' : ZIn t d') : SLe (addW s d) (addW s' d') := by
  obtain ⟨h1, h2, h3, h4⟩ := h
  obtain ⟨g1, g2, g3, g4⟩ := hd
  obtain ⟨s0, s1, s2, s3, s4, s5, s6⟩ := s
  obtain ⟨u0, u1, u2, u3, u4, u5, u6⟩ := s'
  obtain ⟨d0, d1, d2, d3, d4, d5, d6⟩ := d
  obtain ⟨e0, e1, e2, e3, e4, e5, e6⟩ := d'
  simp only [ZLe, ZIn] at *
  refine ⟨?_, ?_, ?_, ?_⟩
  · simp only [addW, widD]; omega
  · simp only [addW, widD]; omega
  · simp only [addW, widD]; omega
  · simp only [ZLe, addW, widD, lowW, imax_eq]
    repeat' split
    all_goals omega

theorem week_fold {t : Tf} (hr : rightE t = 0) (L : List Dy) : ∀ (M : List Dy) (s s' : Dy) (n : Int), All2 (DayR t) L M → WkIn t s n → WkIn t s' n → SLe s s' → SLe (L.foldl addW s) (M.foldl addW s') ∧ WkIn t (L.foldl addW s) (n + L.length) ∧ WkIn t (M.foldl addW s') (n + L.length) := by
  induction L with
  | nil =>
    intro M s s' n h h1 h2 h3
    cases M with
    | nil => exact ⟨h3, by simpa using h1, by simpa using h2⟩
    | cons b M => exact absurd h (fun q => q)
  | cons a L ih =>
    intro M s s' n h h1 h2 h3
    cases M with
    | nil => exact absurd h (fun q => q)
    | cons b M =>
      obtain ⟨g1, g2⟩ := h
      have := ih M (addW s a) (addW s' b) (n + 1) g2 (h1.add hr g1.2.1) (h2.add hr g1.2.2) (h3.add h1.z h2.z g1.1 g1.2.1.z g1.2.2.z)
      rw [show n + 1 + (L.length : Int) = n + ((a :: L).length : Int) by rw [List.length_cons]; omega] at this
      rw [List.foldl_cons, List.foldl_cons]
      exact this

theorem week_le {t : Tf} (hr : rightE t = 0) {L M : List Dy} (h : All2 (DayR t) L M) : wkV t L ≤ wkV t M := by
  obtain ⟨h1, h2, h3⟩ := week_fold hr L M dz dz 0 h (WkIn.zero t) (WkIn.zero t) ⟨rfl, Int.le_refl _, Int.le_refl _, .inl rfl⟩
  show capV t (heldW t (L.foldl addW dz)) (·.weekly) + (L.foldl addW dz).most ≤ capV t (heldW t (M.foldl addW dz)) (·.weekly) + (M.foldl addW dz).most
  generalize L.foldl addW dz = a at *
  generalize M.foldl addW dz = b at *
  have := capV_mono hr (a := heldW t a) (b := heldW t b) h2.z h3.z h2.e h2.r.1 (by show imin a.bus t.busWeekly = imin b.bus t.busWeekly; rw [h1.bus]) h1.rail h1.z (·.weekly) (fun k => (span_le hr (a := heldW t a) (b := heldW t b) h2.z h3.z h1.z k).2)
  have := h1.most
  omega

/-- A journey whose fare fell, or not. -/
def FallP (p q : Jn × Int) : Prop := q.1 = p.1 ∧ (q.2 = p.2 ∨ (¬ p.1.kind = 4 ∧ 0 ≤ q.2 ∧ q.2 < p.2))

theorem fall_pj {t : Tf} {day : Int} {p q : Jn × Int} (h : FallP p q) (hp : pjE t day p = 0) : pjE t day q = 0 := by
  obtain ⟨h1, h2⟩ := h
  obtain ⟨k1, k2, k3, k4⟩ := pjE_zero hp
  have hq : price q.2 = true := by rw [price_iff] at k2 ⊢; omega
  unfold pjE
  rw [h1, if_pos k1, if_pos hq, if_pos k3]
  by_cases k : p.1.kind = 1
  · rw [if_pos k, if_pos (k4 k)]
  · rw [if_neg k]

def FallS (s s' : Dy) : Prop := s'.rail ≤ s.rail ∧ s'.bus = s.bus ∧ s'.most ≤ s.most ∧ s'.low = s.low ∧ s'.high = s.high
theorem FallS.put {t : Tf} {s s' : Dy} (h : FallS s s') {p q : Jn × Int} (hf : FallP p q) : FallS (putD t s p) (putD t s' q) := by
  obtain ⟨h1, h2, h3, h4, h5⟩ := h
  obtain ⟨g1, g2⟩ := hf
  obtain ⟨s0, s1, s2, s3, s4, s5, s6⟩ := s
  obtain ⟨u0, u1, u2, u3, u4, u5, u6⟩ := s'
  simp only at *
  subst h4 h5
  have z1 : zF t q = zF t p := by unfold zF; rw [g1]
  have z2 : zT t q = zT t p := by unfold zT; rw [g1]
  unfold putD
  rw [g1, z1, z2]
  by_cases k : p.1.kind = 1
  · rw [if_pos k, if_pos k]
    refine ⟨?_, h2, h3, rfl, rfl⟩
    simp only [widD]; omega
  · rw [if_neg k, if_neg k]
    by_cases k4 : p.1.kind = 4
    · rw [if_pos k4, if_pos k4]
      refine ⟨h1, ?_, h3, rfl, rfl⟩
      simp only; omega
    · rw [if_neg k4, if_neg k4]
      refine ⟨h1, h2, ?_, rfl, rfl⟩
      simp only; omega
theorem fall_fold {t : Tf} (ps : List (Jn × Int)) : ∀ (qs : List (Jn × Int)) (s s' : Dy), All2 FallP ps qs → FallS s s' → FallS (ps.foldl (putD t) s) (qs.foldl (putD t) s') := by
  induction ps with
  | nil =>
    intro qs s s' h hs
    cases qs with
    | nil => exact hs
    | cons q qs => exact absurd h (fun q => q)
  | cons p ps ih =>
    intro qs s s' h hs
    cases qs with
    | nil => exact absurd h (fun q => q)
    | cons q qs =>
      obtain ⟨g1, g2⟩ := h
      rw [List.foldl_cons, List.foldl_cons]
      exact ih qs _ _ g2 (hs.put g1)
theorem fall_all {t : Tf} {day : Int} : ∀ {ps qs : List (Jn × Int)}, All2 FallP ps qs → (∀ p ∈ ps, pjE t day p = 0) → ∀ q ∈ qs, pjE t day q = 0
  | [], [], _, _, q, hq => absurd hq (by simp)
  | p :: ps, q :: qs, h, hp, x, hx => by
    rcases List.mem_cons.1 hx with rfl | hx
    · exact fall_pj h.1 (hp p (List.mem_cons_self ..))
    · exact fall_all h.2 (fun y hy => hp y (List.mem_cons_of_mem _ hy)) x hx

theorem fall_day {t : Tf} {day : Int} {ps qs : List (Jn × Int)} (h : All2 FallP ps qs) (hp : dE t day ps = 0) : dE t day qs = 0 ∧ DayR t (dR t day qs) (dR t day ps) := by
  obtain ⟨h0, h1, h2⟩ := dE_zero.1 hp
  have hq : dE t day qs = 0 := dE_zero.2 ⟨h0, by rw [← h.length]; exact h1, fall_all h h2⟩
  have hs : FallS (sumD t day ps) (sumD t day qs) := fall_fold ps qs _ _ h ⟨Int.le_refl _, rfl, Int.le_refl _, rfl, rfl⟩
  have hz := (sum_in hp).1.1
  obtain ⟨a1, a2, a3, a4, a5⟩ := hs
  refine ⟨hq, day_le hq hp ⟨a2, a1, a3, ?_⟩, (good_day hq).1, (good_day hp).1⟩
  unfold ZLe
  unfold ZIn at hz
  omega

theorem fall_days {t : Tf} : ∀ (ts us : List PrA) (f : Int), All2 (fun x y : PrA => All2 FallP x.ps y.ps) ts us → daysB t f ts = true → daysB t f us = true ∧ All2 (DayR t) (daysL t f us) (daysL t f ts)
  | [], [], _, _, _ => ⟨rfl, trivial⟩
  | x :: ts, y :: us, f, h, hb => by
    rw [daysB, Bool.and_eq_true, decide_eq_true_eq] at hb
    have h1 := fall_day h.1 hb.1
    have h2 := fall_days ts us (f + 1) h.2 hb.2
    exact ⟨by rw [daysB, h2.1, Bool.and_true, decide_eq_true h1.1], h1.2, h2.2⟩

theorem more_day {t : Tf} {day : Int} {l : List (Jn × Int)} {x : Jn × Int} (h : dE t day l = 0) (h2 : dE t day (l ++ [x]) = 0) (hk : ¬ x.1.kind = 4) : DayR t (dR t day l) (dR t day (l ++ [x])) := by
  have hr := (dE_zero.1 h).1
  have hx : pjE t day x = 0 := (dE_zero.1 h2).2.2 x (by simp)
  obtain ⟨_, hpr, _, _⟩ := pjE_zero hx
  rw [price_iff] at hpr
  have e : sumD t day (l ++ [x]) = putD t (sumD t day l) x := by unfold sumD; rw [List.foldl_append]; rfl
  have hz := (sum_in h).1.1
  have hzo := fun k => zones_of hr hx k
  refine ⟨day_le h h2 ?_, (good_day h).1, (good_day h2).1⟩
  rw [e]
  generalize sumD t day l = s at *
  obtain ⟨s0, s1, s2, s3, s4, s5, s6⟩ := s
  unfold putD
  by_cases k : x.1.kind = 1
  · rw [if_pos k]
    have hq := hzo k
    refine ⟨rfl, by simp only [widD]; omega, Int.le_refl _, ?_⟩
    simp only [ZLe, ZIn, widD, lowW, imax_eq] at *
    repeat' split
    all_goals omega
  · rw [if_neg k, if_neg hk]
    refine ⟨rfl, Int.le_refl _, by simp only; omega, ?_⟩
    simp only [ZLe, ZIn] at *
    omega

theorem same_days {t : Tf} : ∀ (ts : List PrA) (f : Int), daysB t f ts = true → All2 (DayR t) (daysL t f ts) (daysL t f ts)
  | [], _, _ => trivial
  | x :: ts, f, hb => by
    rw [daysB, Bool.and_eq_true, decide_eq_true_eq] at hb
    have g := (good_day hb.1).1
    exact ⟨⟨⟨rfl, Int.le_refl _, Int.le_refl _, ZLe.refl g.z⟩, g, g⟩, same_days ts (f + 1) hb.2⟩

theorem more_days {t : Tf} {f : Int} {x y : PrA} {ts : List PrA} {p : Jn × Int} (he : y.ps = x.ps ++ [p]) (hk : ¬ p.1.kind = 4) (h : daysB t f (x :: ts) = true) (h2 : daysB t f (y :: ts) = true) : All2 (DayR t) (daysL t f (x :: ts)) (daysL t f (y :: ts)) := by
  rw [daysB, Bool.and_eq_true, decide_eq_true_eq] at h h2
  rw [he] at h2
  refine ⟨?_, same_days ts (f + 1) h.2⟩
  rw [he]
  exact more_day h.1 h2.1 hk

/-- What a week of good days comes to. -/
theorem wk_good {t : Tf} (hr : rightE t = 0) {week : Int} (h0 : 0 ≤ week) (h1 : week ≤ 100000) {l : List PrA} (hl : l.length ≤ 7) (hb : daysB t (7 * week) l = true) : wkE t (daysL t (7 * week) l) = 0 ∧ wkR t (daysL t (7 * week) l) = wkV t (daysL t (7 * week) l) := by
  have hn := daysL_length t l (7 * week)
  have e : wkE t (daysL t (7 * week) l) = 0 := by
    unfold wkE
    rw [if_pos hr, if_neg (by omega), firstW_good hr h0 h1 _ (7 * week) none (by omega) (by omega) (fun i hi => ⟨(daysB_at t l _ hb i hi).1, (daysB_at t l _ hb i hi).2.1⟩) (fun x hx => by cases hx)]
  exact ⟨e, by unfold wkR; rw [if_pos e]⟩

end Go.Proofs.Ytjgbllfppomcmaa

/- Rows of priced journeys of one's own. -/
namespace Go.Proofs.Ytjgbllfppomcmaa
open Go.RowKit

structure PRo where
  ao : Option Addr
  cap : Nat
  g : Nat
  ps : List (Jn × Int)
def PRo.val (d : PRo) : Value := .slice d.ao d.ps.length d.cap
def PRo.arg (d : PRo) : PrA := ⟨d.ao, d.cap, d.ps⟩

/-- Rows of priced journeys in new memory. -/
structure PRs (M : Nat) (w : World) (ao : Option Addr) (cap g : Nat) (ds : List PRo) : Prop where
  row : KRow w ao cap g 1 (ds.map PRo.val)
  new : 0 < cap → M ≤ g
  els : ∀ d ∈ ds, KRow w d.ao d.cap d.g 7 (pV d.ps) ∧ (0 < d.cap → M ≤ d.g ∧ (0 < cap → d.g ≠ g))

theorem PRs.nil (M : Nat) (w : World) : PRs M w none 0 0 [] := ⟨KRow.nil _ _ _, fun h => absurd h (by omega), fun d hd => absurd hd (by simp)⟩
theorem PRs.keep {M : Nat} {w w' : World} {ao : Option Addr} {cap g : Nat} {ds : List PRo} (h : PRs M w ao cap g ds) (hf : Fr (fun _ => False) w w') : PRs M w' ao cap g ds :=
  ⟨h.row.keep (by omega) hf, h.new, fun d hd => ⟨(h.els d hd).1.keep (by omega) hf, (h.els d hd).2⟩⟩
theorem PRs.prsAt {M : Nat} {w : World} {ao : Option Addr} {cap g : Nat} {ds : List PRo} (h : PRs M w ao cap g ds) : PrsAt w ao (ds.map PRo.arg) := by
  refine ⟨fun h0 => ?_, fun x hx => ?_⟩
  · rw [List.length_map] at h0
    have hle := h.row.le
    rw [List.length_map] at hle
    have hc : 0 < cap := by omega
    refine ⟨g, 0, h.row.ad hc, fun i hi => ?_⟩
    rw [List.length_map] at hi
    have := h.row.cells i (by rw [List.length_map]; exact hi)
    rw [Nat.zero_add, this]
    simp [PRo.val, PRo.arg]
  · obtain ⟨d, hd, rfl⟩ := List.mem_map.1 hx
    exact (h.els d hd).1.cat

theorem PRs.app {M : Nat} {w w2 w3 : World} {ao ao' : Option Addr} {cap g cap' g' : Nat} {ds : List PRo} (h : PRs M w ao cap g ds) (hM : M ≤ w.heap.size) (hf : Fr (fun _ => False) w w2) (d : PRo) (hd : KRow w2 d.ao d.cap d.g 7 (pV d.ps)) (hg : 0 < d.cap → w.heap.size ≤ d.g)
    (hr : KRow w3 ao' cap' g' 1 (ds.map PRo.val ++ [d.val])) (hgr : Grew w2 g cap w3 g' cap') : PRs M w3 ao' cap' g' (ds ++ [d]) := by
  have hfs : Fr (fun k => k = g ∧ 0 < cap) w2 w3 := by
    rcases hgr with ⟨_, _, f⟩ | ⟨_, _, f⟩
    · exact f
    · exact f.mono (fun _ _ t => t.elim)
  have hn : 0 < cap' → (g' = g ∧ 0 < cap) ∨ w2.heap.size ≤ g' := fun hc => by
    rcases hgr with ⟨e, e2, _⟩ | ⟨e, _, _⟩
    · exact .inl ⟨e, by omega⟩
    · exact .inr e
  have hs := hf.size
  have hglt : 0 < cap → g < w.heap.size := fun hc => h.row.lt (by omega) hc
  have hold : ∀ e ∈ ds, KRow w3 e.ao e.cap e.g 7 (pV e.ps) ∧ (0 < e.cap → e.g < w.heap.size) := fun e he => by
    have k := (h.els e he).1
    refine ⟨?_, fun hc => k.lt (by omega) hc⟩
    exact (k.keep (by omega) hf).stay (fun hc => hfs.block e.g ((k.keep (by omega) hf).lt (by omega) hc) (fun t => ((h.els e he).2 hc).2 t.2 t.1))
  have hdl : 0 < d.cap → d.g < w2.heap.size := fun hc => hd.lt (by omega) hc
  refine ⟨by rw [List.map_append]; exact hr, fun hc => ?_, fun e he => ?_⟩
  · rcases hn hc with ⟨e, e2⟩ | e
    · rw [e]; exact h.new e2
    · omega
  · rcases List.mem_append.1 he with he | he
    · refine ⟨(hold e he).1, fun hc => ⟨((h.els e he).2 hc).1, fun hc' => ?_⟩⟩
      rcases hn hc' with ⟨q, q2⟩ | q
      · rw [q]; exact ((h.els e he).2 hc).2 q2
      · have := (hold e he).2 hc; omega
    · rw [List.mem_singleton] at he
      subst he
      refine ⟨hd.stay (fun hc => hfs.block e.g (hdl hc) (fun t => by have := hg hc; have := hglt t.2; omega)), fun hc => ⟨Nat.le_trans hM (hg hc), fun hc' => ?_⟩⟩
      rcases hn hc' with ⟨q, q2⟩ | q
      · have := hg hc; have := hglt q2; omega
      · have := hdl hc; omega

theorem psInfo : (Try.prog.info? 41).map (fun i => (i.zero, i.size, i.bytes)) = some (some (.slice none 0 0), 1, 24) := by kernel_rfl

end Go.Proofs.Ytjgbllfppomcmaa

/- Rows appended within a statement: what stands behind. -/
namespace Go.Proofs.Ytjgbllfppomcmaa
open Go.RowKit

theorem KRow.nilA (w : World) (ao : Option Addr) (g k : Nat) : KRow w ao 0 g k [] :=
  ⟨Nat.zero_le _, Nat.zero_le _, fun h => absurd h (by omega), fun j hj => absurd hj (by omega), fun j hj => absurd hj (by simp), fun u hu => by cases hu⟩

theorem Grew.frC {w w' : World} {g cap g' cap' : Nat} (h : Grew w g cap w' g' cap') : Fr (fun q => q = g ∧ 0 < cap) w w' := by
  rcases h with ⟨_, _, f⟩ | ⟨_, _, f⟩
  · exact f
  · exact f.mono (fun _ _ t => t.elim)
theorem Grew.fresh {w0 w u : World} {g g' cap' : Nat} (h0 : Fr (fun _ => False) w0 w) (h : Grew w g 0 u g' cap') : Fr (fun _ => False) w0 u ∧ (0 < cap' → w.heap.size ≤ g') := by
  refine ⟨h0.trans h.frC (fun _ _ t => absurd t.2 (by omega)), fun hc => ?_⟩
  rcases h with ⟨_, e, _⟩ | ⟨e, _, _⟩
  · omega
  · exact e
theorem Grew.fresh0 {w0 w u : World} {g g' cap' : Nat} (h0 : Fr (fun _ => False) w0 w) (h : Grew w g 0 u g' cap') : Fr (fun _ => False) w0 u ∧ (0 < cap' → w0.heap.size ≤ g') :=
  ⟨(Grew.fresh h0 h).1, fun hc => Nat.le_trans h0.size ((Grew.fresh h0 h).2 hc)⟩
theorem Grew.more {w0 w u : World} {g cap g' cap' : Nat} (h0 : Fr (fun _ => False) w0 w) (hg : 0 < cap → w0.heap.size ≤ g) (h : Grew w g cap u g' cap') : Fr (fun _ => False) w0 u ∧ (0 < cap' → w0.heap.size ≤ g') := by
  refine ⟨h0.trans h.frC (fun q hq t => by have := hg t.2; have := t.1; omega), fun hc => ?_⟩
  have := h0.size
  rcases h with ⟨e1, e2, _⟩ | ⟨e, _, _⟩
  · rw [e1]; exact hg (by omega)
  · omega

theorem boxB {w wa : World} {cs : Array Value} {T U : TypeId} (h : Fr (fun _ => False) ((w.alloc (.cells #[] U)).alloc (.cells cs T)).drew wa) : Bx wa (w.heap.size + 1) cs T := by
  have h2 : Bx ((w.alloc (.cells #[] U)).alloc (.cells cs T)).drew (w.heap.size + 1) cs T := by
    rw [← heap_alloc w (.cells #[] U)]
    exact (Bx.new _ _ _).drew
  exact h2.keep h
theorem boxC {w wa : World} {cs : Array Value} {T U : TypeId} (h : Fr (fun _ => False) ((w.alloc (.cells cs T)).alloc (.cells #[] U)).drew wa) : Bx wa w.heap.size cs T :=
  (((Bx.new w cs T).keep ((Fr.refl _ _).alloc _)).drew).keep h

theorem srcBx {w : World} {N : Nat} {cs : List Value} (tx e : TypeId) (k : Nat) {T : TypeId} (h : Bx w N cs.toArray T) (ht : Try.prog.underlying tx = some (.slice e)) (hn : cs.length = k) (h1 : ∀ u ∈ cs, u.oneCell' = true) : Src Try.prog k tx (.slice (some ⟨N, 0, none⟩) 1 1) 1 cs w := by
  refine Src.ofSlice w ht ⟨N, 0, none⟩ 1 1 cs (by rw [hn, Nat.one_mul]) (fun j u hj => ?_) h1
  rw [Addr.add_lit, Nat.zero_add]
  have := h.cell j
  rw [this, List.getElem?_toArray, hj]

theorem CAt.srcC {w : World} {ao : Option Addr} {vs : List Value} (h : CAt w ao vs) (tx e : TypeId) (k n cap : Nat) (hk : 0 < k) (ht : Try.prog.underlying tx = some (.slice e)) (hn : vs.length = n * k) (h1 : ∀ u ∈ vs, u.oneCell' = true) : Src Try.prog k tx (.slice ao n cap) n vs w := by
  by_cases hm : 0 < vs.length
  · obtain ⟨b, off, rfl, hc⟩ := h hm
    refine Src.ofSlice w ht ⟨b, off, none⟩ n cap vs hn (fun j u hj => ?_) h1
    have hjl := (List.getElem?_eq_some_iff.1 hj).1
    rw [Addr.add_lit, hc j hjl, ← hj, List.getElem?_eq_getElem hjl]
  · have e0 : vs = [] := List.eq_nil_of_length_eq_zero (by omega)
    subst e0
    obtain rfl : n = 0 := by
      rcases Nat.eq_zero_or_pos n with h0 | h0
      · exact h0
      · have := Nat.mul_pos h0 hk; simp at hn; omega
    cases ao with
    | none => exact Src.ofNil w ht cap
    | some b => exact Src.ofSlice w ht b 0 cap [] (by simp) (fun j u hj => by simp at hj) (fun u hu => by cases hu)

/-- One row of one's own, as the first of a row. -/
theorem withRow {w6 wb wz : World} {ao2 aw : Option Addr} {cap2 g2 cw gw : Nat} {ps : List (Jn × Int)} {p : Jn × Int} (h2 : KRow wb ao2 cap2 g2 7 (pV ps ++ pL p)) (f2 : Fr (fun _ => False) w6 wb) (n2 : 0 < cap2 → w6.heap.size ≤ g2)
    {cs : Array Value} {T : TypeId} (h3 : KRow wz aw cw gw 1 ([] ++ [Value.slice ao2 (ps.length + 1) cap2])) (h4 : Grew (wb.alloc (.cells cs T)) 0 0 wz gw cw) : Fr (fun _ => False) w6 wz ∧ PRs w6.heap.size wz aw cw gw [⟨ao2, cap2, g2, ps ++ [p]⟩] := by
  have fa : Fr (fun _ => False) wb (wb.alloc (.cells cs T)) := (Fr.refl _ _).alloc _
  obtain ⟨f3, n3⟩ := Grew.fresh fa h4
  have f4 := f2.trans f3 (fun _ _ t => t)
  have hs := fa.size
  have hs2 := f2.size
  have ha : wb.heap.size < (wb.alloc (.cells cs T)).heap.size := by rw [heap_alloc]; omega
  refine ⟨f4, ?_, fun hc => by have := n3 hc; omega, fun d hd => ?_⟩
  · have e : PRo.val ⟨ao2, cap2, g2, ps ++ [p]⟩ = Value.slice ao2 (ps.length + 1) cap2 := by unfold PRo.val; simp
    simp only [List.map_cons, List.map_nil, e]
    exact h3
  · rw [List.mem_singleton] at hd
    subst hd
    have e : pV (ps ++ [p]) = pV ps ++ pL p := by simp [pV]
    rw [e]
    refine ⟨h2.keep (by omega) f3, fun hc => ⟨n2 hc, fun hc' => ?_⟩⟩
    have := h2.lt (by omega) hc
    have := n3 hc'
    show g2 ≠ gw
    omega

/-- Rows handed in, put behind one of one's own. -/
theorem PRs.with {M : Nat} {w u w6 : World} {aw aw' : Option Addr} {cw gw cw' gw' : Nat} {d : PRo} {tl : List PrA} (h : PRs M w aw cw gw [d]) (hM : M ≤ w6.heap.size) (hMw : w6.heap.size ≤ M) (f6 : Fr (fun _ => False) w6 w) (htl : ∀ x ∈ tl, CAt w6 x.io (pV x.ps))
    (hr : KRow u aw' cw' gw' 1 ([d].map PRo.val ++ tl.map (fun x => Value.slice x.io x.ps.length x.ic))) (hg : Grew w gw cw u gw' cw') : Fr (fun _ => False) w6 u ∧ PrsAt u aw' (d.arg :: tl) := by
  have hn : 0 < cw → w6.heap.size ≤ gw := fun hc => by have := h.new hc; omega
  obtain ⟨f7, _⟩ := Grew.more f6 hn hg
  refine ⟨f7, fun h0 => ?_, fun x hx => ?_⟩
  · have hle := hr.le
    simp only [List.map_cons, List.map_nil, List.length_append, List.length_map, List.length_cons, List.length_nil] at hle
    have hc : 0 < cw' := by omega
    refine ⟨gw', 0, hr.ad hc, fun i hi => ?_⟩
    have hi2 : i < ([d].map PRo.val ++ tl.map (fun x => Value.slice x.io x.ps.length x.ic)).length := by simpa [Nat.add_comm] using hi
    have := hr.cells i hi2
    rw [Nat.zero_add, this]
    cases i with
    | zero => rfl
    | succ i => simp
  · rcases List.mem_cons.1 hx with rfl | hx
    · obtain ⟨e1, e2⟩ := h.els d (List.mem_singleton.2 rfl)
      exact (e1.stay (fun hc => hg.frC.block d.g (e1.lt (by omega) hc) (fun t => (e2 hc).2 t.2 t.1))).cat
    · exact (htl x hx).keep f7

end Go.Proofs.Ytjgbllfppomcmaa

