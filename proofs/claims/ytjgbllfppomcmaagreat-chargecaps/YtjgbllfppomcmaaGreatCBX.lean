import Derived.Test.YtjgbllfppomcmaaGreatJNW
import Derived.Test.YtjgbllfppomcmaaGreatFAX
import Derived.Test.YtjgbllfppomcmaaGreatRF0
import Derived.Test.YtjgbllfppomcmaaGreatCGM
import Derived.Test.YtjgbllfppomcmaaGreatCPY
/- What a token owes: days, weeks and bills as values; that behind the three looks nothing fails. -/
namespace Go.Proofs.YtjgbllfppomcmaaGreat
open Go.RowKit

/-- What stays true of stations, and of how many there are. -/
structure KOk (T : Tm) (n : Nat) (s : Wk) : Prop where
  made : ∀ j : Jn, j ∈ s.made → j.kind ≠ 4 → T.known j.fr = true ∧ T.known j.to = true
  opn : ∀ j : Jn, s.opn = some j → T.known j.fr = true ∧ T.known j.to = true
  cnt : s.made.length + (if s.opn.isSome then 1 else 0) ≤ n

theorem KOk.start (T : Tm) : KOk T 0 wk0 := ⟨(fun j h => absurd h (by simp [wk0])), (fun j h => nomatch h), by simp [wk0]⟩

theorem KOk.shut {T : Tm} {n : Nat} {s : Wk} (h : KOk T n s) : KOk T n s.shut ∧ s.shut.opn = none := by
  refine ⟨?_, shut_opn s⟩
  unfold Wk.shut
  cases ho : s.opn with
  | none => exact h
  | some j =>
    refine ⟨fun i hi hk => ?_, (fun j h => nomatch h), ?_⟩
    · rcases List.mem_append.1 hi with h1 | h1
      · exact h.made i h1 hk
      · rw [List.mem_singleton] at h1; subst h1; exact h.opn _ ho
    · have := h.cnt
      rw [ho] at this
      simp at this ⊢
      omega

theorem KOk.ride {T : Tm} {n : Nat} {s : Wk} (h : KOk T n s) (x : Tp) : KOk T (n + 1) (s.ride T x) := by
  unfold Wk.ride
  refine ⟨fun i hi hk => ?_, h.opn, ?_⟩
  · rcases List.mem_append.1 hi with h1 | h1
    · exact h.made i h1 hk
    · rw [List.mem_singleton] at h1; subst h1; exact absurd rfl hk
  · have := h.cnt
    simp only [List.length_append, List.length_singleton] at this ⊢
    omega

theorem KOk.enter {T : Tm} {n : Nat} {s : Wk} (h : KOk T n s) (x : Tp) (hx : T.known x.place = true) : KOk T (n + 1) (s.enter T x) := by
  obtain ⟨h1, h2⟩ := h.shut
  unfold Wk.enter
  generalize s.shut = z at *
  refine ⟨h1.made, fun j hj => ?_, ?_⟩
  · injection hj with hj; subst hj; exact ⟨hx, hx⟩
  · have := h1.cnt
    rw [h2] at this
    simp at this ⊢
    omega

theorem KOk.late {T : Tm} {n : Nat} {s : Wk} (h : KOk T n s) (x : Tp) (hx : T.known x.place = true) : KOk T (n + 1) (s.late x) := by
  obtain ⟨h1, h2⟩ := h.shut
  unfold Wk.late Wk.put
  generalize s.shut = z at *
  refine ⟨fun i hi hk => ?_, fun j hj => ?_, ?_⟩
  · rcases List.mem_append.1 hi with h3 | h3
    · exact h1.made i h3 hk
    · rw [List.mem_singleton] at h3; subst h3; exact ⟨hx, hx⟩
  · have hj' : z.opn = some j := hj
    rw [h2] at hj'; cases hj'
  · have := h1.cnt
    rw [h2] at this ⊢
    simp at this ⊢
    omega

theorem KOk.leave {T : Tm} {lo c : Int} {n : Nat} {s : Wk} (h : KOk T n s) (hW : WOk T lo c s) (x : Tp) (hx : T.known x.place = true) : KOk T (n + 1) (s.leave T x) := by
  have hl := h.late x hx
  unfold Wk.leave
  cases hb : s.begun with
  | none => exact hl
  | some b =>
    simp only
    split
    · exact hl
    · unfold Wk.begun at hb
      cases ho : s.opn with
      | none => rw [ho] at hb; cases hb
      | some j =>
        rw [ho] at hb
        have hc := h.cnt
        rw [ho] at hc
        simp at hc
        unfold Wk.done
        cases hg : s.again with
        | false =>
          simp only [hg, Bool.false_eq_true, if_false, Option.some.injEq] at hb ⊢
          subst hb
          refine ⟨fun i hi hk => ?_, (fun j h => nomatch h), ?_⟩
          · rcases List.mem_append.1 hi with h1 | h1
            · exact h.made i h1 hk
            · rw [List.mem_singleton] at h1; subst h1; exact ⟨(h.opn _ ho).1, hx⟩
          · simp; omega
        | true =>
          simp only [hg, if_true] at hb ⊢
          obtain ⟨b', hb', hk, _⟩ := hW.again j ho hg
          rw [hb] at hb'
          injection hb' with hb'
          subst hb'
          obtain ⟨k, hr, hmk⟩ := hW.lastAt hb
          refine ⟨fun i hi hk2 => ?_, (fun j h => nomatch h), ?_⟩
          · rcases List.mem_or_eq_of_mem_set hi with h1 | h1
            · exact h.made i h1 hk2
            · subst h1; exact ⟨(h.made b (mem_of_get hmk) (by omega)).1, hx⟩
          · simp; omega

theorem KOk.more {T : Tm} {n m : Nat} {s : Wk} (h : KOk T n s) (hm : n ≤ m) : KOk T m s := ⟨h.made, h.opn, Nat.le_trans h.cnt hm⟩

theorem KOk.take {T : Tm} {lo c : Int} {n : Nat} {s : Wk} (h : KOk T n s) (hW : WOk T lo c s) (x : Tp) : KOk T (n + 1) (s.take T x) := by
  unfold Wk.take
  split
  · exact h.ride x
  · split
    · rename_i hk
      split
      · exact h.enter x hk
      · split
        · exact h.leave hW x hk
        · exact h.more (Nat.le_succ n)
    · exact h.more (Nat.le_succ n)

theorem KOk.at {T : Tm} (hT : 0 ≤ T.lng) {l : List Tp} (h : RgtOk l) (i : Nat) (hi : i ≤ l.length) : KOk T i (wkAt T l i) := by
  obtain ⟨lo, _, hlo, _⟩ := first_time h
  induction i with
  | zero => exact KOk.start T
  | succ i ih =>
    obtain ⟨c, h1, _⟩ := WOk.at hT h lo hlo i (by omega)
    rw [wkAt_succ T l i (by omega)]
    exact (ih (by omega)).take h1 _

/-- A day's journeys. -/
def dayJ (t : Tf) (its : List Tp) : List Jn := walkedJ (tmOf t) its
/-- What they cost, with what is given back. -/
def dayP (t : Tf) (l : List Ou) (its : List Tp) : List (Jn × Int) := backL t.delay l (priced t (dayJ t its))
def dayN (its : List Tp) : Int := match its with | [] => 0 | x :: _ => dayV x.time
def dayD (t : Tf) (l : List Ou) (its : List Tp) : Dy := dR t (dayN its) (dayP t l its)

theorem WOkA {T : Tm} (hT : 0 ≤ T.lng) {l : List Tp} (h : RgtOk l) (h0 : 0 < l.length) : WOk T (l[0]'h0).time (l[l.length - 1]'(by omega)).time (walkedW T l).shut := by
  have hlo : ∀ (j : Nat) (hj : j < l.length), (l[0]'h0).time ≤ l[j].time := fun j hj => h.mono 0 j (by omega) hj
  obtain ⟨c, h1, h2⟩ := WOk.at hT h _ hlo (l.length - 1) (by omega)
  have h3 := (h1.take hT (l[l.length - 1]'(by omega)) (hlo _ (by omega)) (h2 _ (by omega) (Nat.le_refl _))).shut
  rw [← wkAt_succ T l (l.length - 1) (by omega), show l.length - 1 + 1 = l.length by omega, wkAt_all] at h3
  exact h3

/-- What holds of a day's journeys. -/
theorem dayJ_ok {t : Tf} (hr : rightE t = 0) {l : List Tp} (h : RgtOk l) : (dayJ t l).length ≤ l.length ∧ ∀ j ∈ dayJ t l, (j.kind ≠ 4 → (stationOf t j.fr).isSome = true ∧ (stationOf t j.to).isSome = true) ∧ ∃ h0 : 0 < l.length, JOk (tmOf t) (l[0]'h0).time (l[l.length - 1]'(by omega)).time j := by
  have hT : 0 ≤ (tmOf t).lng := (small_of hr).longest.1
  have hk := KOk.at hT h l.length (Nat.le_refl _)
  rw [wkAt_all] at hk
  obtain ⟨k1, k2⟩ := hk.shut
  refine ⟨?_, fun j hj => ⟨k1.made j hj, ?_⟩⟩
  · have := k1.cnt
    rw [k2] at this
    simpa [dayJ, walkedJ] using this
  · have h0 : 0 < l.length := by
      cases l with
      | nil => exact absurd hj (by simp [dayJ, walkedJ, walkedW, wk0, Wk.shut])
      | cons x r => simp
    exact ⟨h0, (WOkA hT h h0).made j hj⟩

theorem costV_zero {t : Tf} (hr : rightE t = 0) {lo hi : Int} {j : Jn} (h : JOk (tmOf t) lo hi j) (hs : j.kind ≠ 4 → (stationOf t j.fr).isSome = true ∧ (stationOf t j.to).isSome = true) (h0 : 0 ≤ lo) (h1 : hi ≤ 2147483648) : (costV t j).2 = 0 ∧ price (costV t j).1 = true := by
  have a1 := h.k1
  have a2 := h.k4
  have a3 := h.lo
  have a4 := h.le
  have a5 := h.hi
  have hk : jKind j.kind = true := by simp [jKind]; omega
  have hj : jErr j = 0 := by
    unfold jErr
    rw [if_pos hk, if_pos ⟨(timeB_iff _).2 (by omega), (timeB_iff _).2 (by omega), h.le⟩, if_neg]
    rintro ⟨q1, q2⟩
    exact q2 (h.free q1)
  have hsm := small_of hr
  unfold costV
  rw [if_pos hj]
  by_cases k1 : j.kind = 1
  · rw [if_pos k1]
    obtain ⟨s1, s2⟩ := hs (by omega)
    unfold wholeV
    rw [if_pos ⟨s1, s2⟩]
    have z1 := station_zone hr s1
    have z2 := station_zone hr s2
    generalize ((stationOf t j.fr).getD ⟨0, 0, 0⟩).zone = a at *
    generalize ((stationOf t j.to).getD ⟨0, 0, 0⟩).zone = b at *
    generalize peakB t.bd j.st = pk
    have hsp : (spanOf t a b).isSome = true := by
      rcases Int.le_total a b with q | q
      · exact span_has hr z1.1 q z2.2
      · rw [spanOf_comm]; exact span_has hr z2.1 q z1.2
    rcases single_facts hr a b with ⟨e, _⟩ | ⟨s, n, e, hn, e1, _, e2, _⟩
    · rw [e] at hsp; cases hsp
    · have e0 : (singleR t a b pk).2 = 0 := by cases pk <;> simp [e1, e2]
      obtain ⟨g1, g2, _⟩ := single_range hr a b pk e0
      exact ⟨e0, (price_iff _).2 ⟨g1, g2⟩⟩
  · rw [if_neg k1]
    by_cases k4 : j.kind = 4
    · rw [if_pos k4]
      refine ⟨rfl, ?_⟩
      simp only
      have := hsm.bus
      split
      · rfl
      · exact (price_iff _).2 this
    · rw [if_neg k4]
      exact ⟨rfl, (price_iff _).2 hsm.most⟩

theorem firstE_zero {t : Tf} : ∀ (l : List Jn), (∀ j ∈ l, (costV t j).2 = 0) → firstE t l = 0
  | [], _ => rfl
  | j :: r, h => by
    rw [firstE_cons, if_pos (h j (List.mem_cons_self ..))]
    exact firstE_zero r (fun x hx => h x (List.mem_cons_of_mem _ hx))

theorem dayJ_cost {t : Tf} (hr : rightE t = 0) {l : List Tp} (h : RgtOk l) : ∀ j ∈ dayJ t l, (costV t j).2 = 0 ∧ price (costV t j).1 = true := fun j hj => by
  obtain ⟨h1, h0, h2⟩ := (dayJ_ok hr h).2 j hj
  exact costV_zero hr h2 h1 (h.time 0 h0).1 (h.time (l.length - 1) (by omega)).2

theorem allE_day {t : Tf} (hr : rightE t = 0) {l : List Tp} (h : RgtOk l) (hl : l.length ≤ 2000) : allE t (dayJ t l) = 0 ∧ allL t (dayJ t l) = priced t (dayJ t l) := by
  have h1 := (dayJ_ok hr h).1
  have e : allE t (dayJ t l) = 0 := by
    unfold allE
    rw [if_pos hr, if_neg (by omega)]
    exact firstE_zero _ (fun j hj => (dayJ_cost hr h j hj).1)
  exact ⟨e, by unfold allL; rw [if_pos e]⟩

theorem back1_cases (dl : Int) (l : List Ou) (p : Jn × Int) : (back1 dl l p).1 = p.1 ∧ ((back1 dl l p).2 = p.2 ∨ (¬ p.1.kind = 4 ∧ (back1 dl l p).2 = 0)) := by
  unfold back1
  split
  · rename_i hh
    refine ⟨rfl, .inr ⟨fun k4 => ?_, rfl⟩⟩
    unfold heldB at hh
    rw [List.any_eq_true] at hh
    obtain ⟨o, _, ho⟩ := hh
    unfold holdB at ho
    rw [if_neg (by omega), if_neg (by omega)] at ho
    cases ho
  · exact ⟨rfl, .inl rfl⟩

theorem dayP_length (t : Tf) (l : List Ou) (its : List Tp) : (dayP t l its).length = (dayJ t its).length := by simp [dayP, backL, priced]

theorem dayP_mem {t : Tf} (hr : rightE t = 0) {l : List Ou} {its : List Tp} (h : RgtOk its) {p : Jn × Int} (hp : p ∈ dayP t l its) : p.1 ∈ dayJ t its ∧ price p.2 = true := by
  unfold dayP backL priced at hp
  rw [List.map_map, List.mem_map] at hp
  obtain ⟨j, hj, rfl⟩ := hp
  obtain ⟨e1, e2⟩ := back1_cases t.delay l (j, (costV t j).1)
  simp only [Function.comp]
  rw [e1]
  refine ⟨hj, ?_⟩
  rcases e2 with e2 | ⟨_, e2⟩
  · rw [e2]; exact (dayJ_cost hr h j hj).2
  · rw [e2]; rfl

theorem dayN_eq {its : List Tp} (h0 : 0 < its.length) : dayN its = dayV (its[0]'h0).time := by
  cases its with
  | nil => simp at h0
  | cons x r => rfl
theorem dayV_eq {x : Int} (h : 0 ≤ x ∧ x ≤ 2147483648) : dayV x = (x - 270) / 1440 ∧ dayE x = 0 := by
  have hb := (timeB_iff x).2 h
  exact ⟨by simp [dayV, hb], by simp [dayE, hb]⟩

/-- A day's journeys are of the day. -/
theorem dayP_on {t : Tf} (hr : rightE t = 0) {l : List Ou} {its : List Tp} (h : RgtOk its) (hd : OneDay its) {p : Jn × Int} (hp : p ∈ dayP t l its) : pjE t (dayN its) p = 0 := by
  obtain ⟨hj, hpr⟩ := dayP_mem hr h hp
  obtain ⟨hs, h0, hk⟩ := (dayJ_ok hr h).2 _ hj
  have t0 := h.time 0 h0
  have t1 := h.time (its.length - 1) (by omega)
  have hsame := (oneDay_iff h).1 hd _ (List.getElem_mem h0) _ (List.getElem_mem (show its.length - 1 < its.length by omega))
  have a1 := hk.k1
  have a2 := hk.k4
  have a3 := hk.lo
  have a4 := hk.le
  have a5 := hk.hi
  have hon : onB (dayN its) p.1.st = true := by
    obtain ⟨e1, e2⟩ := dayV_eq (x := p.1.st) (by omega)
    unfold onB
    rw [dayN_eq h0, (dayV_eq t0).1, e1, e2]
    simp only [decide_true, Bool.true_and, decide_eq_true_eq]
    omega
  unfold pjE
  rw [if_pos (by simp [jk]; omega), if_pos hpr, if_pos hon]
  by_cases k1 : p.1.kind = 1
  · rw [if_pos k1, if_pos (hs (by omega))]
  · rw [if_neg k1]

theorem dE_day {t : Tf} (hr : rightE t = 0) {l : List Ou} {its : List Tp} (h : RgtOk its) (hl : its.length ≤ 2000) (hd : OneDay its) : dE t (dayN its) (dayP t l its) = 0 := by
  have h1 := (dayJ_ok hr h).1
  exact dE_zero.2 ⟨hr, by rw [dayP_length]; omega, fun p hp => dayP_on hr h hd hp⟩

/-- Taps by travel days. -/
theorem drop_late (c : Int) : ∀ (l : List Tp), l.Pairwise (fun a b => a.time ≤ b.time) → ∀ y ∈ l.drop (l.takeWhile (fun t => !isLate c t)).length, c ≤ y.time
  | [], _, y, hy => by simp at hy
  | b :: r, h, y, hy => by
    obtain ⟨h1, h2⟩ := List.pairwise_cons.1 h
    rw [List.takeWhile_cons] at hy
    cases hb : isLate c b with
    | false =>
      rw [hb] at hy
      simp only [Bool.not_false, if_true, List.length_cons, List.drop_succ_cons] at hy
      exact drop_late c r h2 y hy
    | true =>
      rw [hb] at hy
      simp only [Bool.not_true, Bool.false_eq_true, if_false, List.length_nil, List.drop_zero] at hy
      have hc : c ≤ b.time := by simpa [isLate] using hb
      rcases List.mem_cons.1 hy with rfl | hy
      · exact hc
      · have := h1 y hy; omega

theorem take_early (c : Int) : ∀ (l : List Tp), ∀ y ∈ l.take (l.takeWhile (fun t => !isLate c t)).length, y.time < c
  | [], y, hy => by simp at hy
  | b :: r, y, hy => by
    rw [List.takeWhile_cons] at hy
    cases hb : isLate c b with
    | false =>
      rw [hb] at hy
      simp only [Bool.not_false, if_true, List.length_cons, List.take_succ_cons] at hy
      rcases List.mem_cons.1 hy with rfl | hy
      · simpa [isLate] using hb
      · exact take_early c r y hy
    | true =>
      rw [hb] at hy
      simp at hy

theorem RgtOk.sorted {l : List Tp} (h : RgtOk l) : l.Pairwise (fun a b => a.time ≤ b.time) := h.2.imp (fun h => fol_time h)

/-- What holds of each travel day's taps. -/
structure ItsOk (m its : List Tp) : Prop where
  pos : 0 < its.length
  sub : its.Sublist m
  one : OneDay its

theorem daysN_ok : ∀ (n : Nat) (m : List Tp), RgtOk m → m.length ≤ n → (∀ its ∈ daysN n m, ItsOk m its) ∧ (daysN n m).Pairwise (fun a b => dayN a < dayN b)
  | 0, m, _, _ => ⟨fun its h => absurd h (by simp [daysN]), List.Pairwise.nil⟩
  | n + 1, [], _, _ => ⟨fun its h => absurd h (by simp [daysN]), List.Pairwise.nil⟩
  | n + 1, x :: r, h, hn => by
    have hp := dayLn_pos h (by simp)
    have hsub := List.drop_sublist (dayLn (x :: r)) (x :: r)
    have hdl : (List.drop (dayLn (x :: r)) (x :: r)).length = (x :: r).length - dayLn (x :: r) := List.length_drop ..
    have hln : (x :: r).length = r.length + 1 := rfl
    obtain ⟨i1, i2⟩ := daysN_ok n ((x :: r).drop (dayLn (x :: r))) (h.sub hsub) (by omega)
    have hx := tap_time (h.1 x (List.mem_cons_self ..))
    have hde := dEnd_eq hx
    have hlate := drop_late (dEnd x) (x :: r) h.sorted
    have hearly := take_early (dEnd x) (x :: r)
    have e : dayLn (x :: r) = ((x :: r).takeWhile (fun t => !isLate (dEnd x) t)).length := rfl
    rw [← e] at hlate hearly
    have hfirst : ItsOk (x :: r) ((x :: r).take (dayLn (x :: r))) := by
      refine ⟨by rw [List.length_take]; omega, List.take_sublist .., ?_⟩
      rw [oneDay_iff (h.sub (List.take_sublist ..))]
      have key : ∀ y ∈ (x :: r).take (dayLn (x :: r)), (y.time - 270) / 1440 = (x.time - 270) / 1440 := fun y hy => by
        have h1 := hearly y hy
        have h2 : x.time ≤ y.time := by
          have hm : y ∈ x :: r := List.mem_of_mem_take hy
          rcases List.mem_cons.1 hm with rfl | hm
          · omega
          · exact (List.pairwise_cons.1 h.sorted).1 y hm
        rw [hde] at h1
        omega
      exact fun a ha b hb => (key a ha).trans (key b hb).symm
    show (∀ its ∈ (x :: r).take (dayLn (x :: r)) :: daysN n ((x :: r).drop (dayLn (x :: r))), ItsOk (x :: r) its) ∧ ((x :: r).take (dayLn (x :: r)) :: daysN n ((x :: r).drop (dayLn (x :: r)))).Pairwise (fun a b => dayN a < dayN b)
    refine ⟨fun its hi => ?_, List.pairwise_cons.2 ⟨fun its hi => ?_, i2⟩⟩
    · rcases List.mem_cons.1 hi with rfl | hi
      · exact hfirst
      · exact ⟨(i1 its hi).pos, (i1 its hi).sub.trans hsub, (i1 its hi).one⟩
    · have hq := i1 its hi
      have hy := hq.sub.subset (List.getElem_mem hq.pos)
      have h3 := hlate _ hy
      have h4 := tap_time (h.1 _ (List.mem_of_mem_drop hy))
      have e1 : dayN ((x :: r).take (dayLn (x :: r))) = dayV x.time := by
        obtain ⟨k, hk⟩ : ∃ k, dayLn (x :: r) = k + 1 := ⟨dayLn (x :: r) - 1, by omega⟩
        rw [hk]; rfl
      rw [e1, dayN_eq hq.pos, (dayV_eq hx).1, (dayV_eq h4).1]
      rw [hde] at h3
      omega

theorem daysL_ok {m : List Tp} (h : RgtOk m) : (∀ its ∈ daysL m, ItsOk m its) ∧ (daysL m).Pairwise (fun a b => dayN a < dayN b) := daysN_ok m.length m h (Nat.le_refl _)

/-- Days of taps, and what they come to. -/
structure DRow (t : Tf) (D : List Dy) : Prop where
  good : ∀ d ∈ D, GoodD t d ∧ -1 ≤ d.day ∧ d.day ≤ 1500000
  rise : D.Pairwise (fun a b => a.day < b.day)

theorem dayD_good {t : Tf} (hr : rightE t = 0) {l : List Ou} {its : List Tp} (h : RgtOk its) (hl : its.length ≤ 2000) (h0 : 0 < its.length) (hd : OneDay its) : GoodD t (dayD t l its) ∧ (dayD t l its).day = dayN its ∧ -1 ≤ dayN its ∧ dayN its ≤ 1500000 := by
  have hg := good_day (dE_day hr (l := l) h hl hd)
  have ht := h.time 0 h0
  refine ⟨hg.1, hg.2, ?_⟩
  rw [dayN_eq h0, (dayV_eq ht).1]
  omega

def daysD (t : Tf) (l : List Ou) (m : List Tp) : List Dy := (daysL m).map (dayD t l)

theorem daysD_row {t : Tf} (hr : rightE t = 0) {l : List Ou} {m : List Tp} (h : RgtOk m) (hl : m.length ≤ 2000) : DRow t (daysD t l m) := by
  obtain ⟨h1, h2⟩ := daysL_ok h
  have hg : ∀ its ∈ daysL m, GoodD t (dayD t l its) ∧ (dayD t l its).day = dayN its ∧ -1 ≤ dayN its ∧ dayN its ≤ 1500000 := fun its hi =>
    dayD_good hr (h.sub (h1 its hi).sub) (Nat.le_trans (h1 its hi).sub.length_le hl) (h1 its hi).pos (h1 its hi).one
  refine ⟨fun d hd => ?_, ?_⟩
  · obtain ⟨its, hi, rfl⟩ := List.mem_map.1 hd
    obtain ⟨g1, g2, g3⟩ := hg its hi
    rw [g2]
    exact ⟨g1, g3⟩
  · unfold daysD
    rw [List.pairwise_map]
    exact List.Pairwise.imp_of_mem (fun ha hb hab => by rw [(hg _ ha).2.1, (hg _ hb).2.1]; exact hab) h2

/-- How many days are of the first one's week. -/
def otherB (w : Int) (d : Dy) : Bool := decide (weekV d.day ≠ w)
def wkLn : List Dy → Nat
  | [] => 0
  | d :: r => ((d :: r).takeWhile (fun x => !otherB (weekV d.day) x)).length
/-- The bills of days. -/
def billsN (t : Tf) : Nat → List Dy → List (Int × Int)
  | 0, _ => []
  | _ + 1, [] => []
  | n + 1, d :: r => (weekV d.day, wkV t ((d :: r).take (wkLn (d :: r)))) :: billsN t n ((d :: r).drop (wkLn (d :: r)))
def billsD (t : Tf) (D : List Dy) : List (Int × Int) := billsN t D.length D

theorem wkLn_pos {D : List Dy} (h0 : 0 < D.length) : 0 < wkLn D := by
  cases D with
  | nil => simp at h0
  | cons d r =>
    show 0 < ((d :: r).takeWhile (fun x => !otherB (weekV d.day) x)).length
    rw [List.takeWhile_cons]
    simp [otherB]
theorem wkLn_le (D : List Dy) : wkLn D ≤ D.length := by
  cases D with
  | nil => exact Nat.le_refl _
  | cons d r => exact (List.takeWhile_sublist _).length_le

theorem billsN_any (t : Tf) : ∀ (n k : Nat) (D : List Dy), D.length ≤ n → D.length ≤ k → billsN t n D = billsN t k D
  | 0, 0, _, _, _ => rfl
  | 0, k + 1, [], _, _ => rfl
  | n + 1, 0, [], _, _ => rfl
  | n + 1, k + 1, [], _, _ => rfl
  | 0, _, d :: r, hn, _ => absurd hn (by simp)
  | _ + 1, 0, d :: r, _, hk => absurd hk (by simp)
  | n + 1, k + 1, d :: r, hn, hk => by
    have hp := wkLn_pos (D := d :: r) (by simp)
    have hl : (List.drop (wkLn (d :: r)) (d :: r)).length = (d :: r).length - wkLn (d :: r) := List.length_drop ..
    have h2 : (d :: r).length = r.length + 1 := rfl
    show _ :: billsN t n _ = _ :: billsN t k _
    rw [billsN_any t n k _ (by omega) (by omega)]

theorem billsD_nil (t : Tf) : billsD t [] = [] := rfl
theorem billsD_step (t : Tf) {D : List Dy} (h0 : 0 < D.length) : billsD t D = (weekV (D[0]'h0).day, wkV t (D.take (wkLn D))) :: billsD t (D.drop (wkLn D)) := by
  cases D with
  | nil => simp at h0
  | cons d r =>
    have hp := wkLn_pos (D := d :: r) (by simp)
    have hl : (List.drop (wkLn (d :: r)) (d :: r)).length = (d :: r).length - wkLn (d :: r) := List.length_drop ..
    have h2 : (d :: r).length = r.length + 1 := rfl
    show _ :: billsN t r.length _ = _ :: billsN t _ _
    rw [billsN_any t r.length _ _ (by omega) (Nat.le_refl _)]
    rfl

/-- Rising numbers within some bounds are few. -/
theorem rise_few : ∀ (D : List Dy) (a : Int) (k : Nat), D.Pairwise (fun x y => x.day < y.day) → (∀ d ∈ D, a ≤ d.day ∧ d.day < a + k) → D.length ≤ k
  | [], _, _, _, _ => Nat.zero_le _
  | d :: r, a, 0, _, h => by have := h d (List.mem_cons_self ..); omega
  | d :: r, a, k + 1, hp, h => by
    obtain ⟨h1, h2⟩ := List.pairwise_cons.1 hp
    have hd := h d (List.mem_cons_self ..)
    have := rise_few r (a + 1) k h2 (fun x hx => by
      have q1 := h1 x hx
      have q2 := h x (List.mem_cons_of_mem _ hx)
      omega)
    rw [List.length_cons]
    omega

theorem takeWhile_mem {α : Type} (p : α → Bool) : ∀ (l : List α), ∀ y ∈ l.take (l.takeWhile p).length, p y = true
  | [], y, hy => by simp at hy
  | b :: r, y, hy => by
    rw [List.takeWhile_cons] at hy
    cases hb : p b with
    | true =>
      rw [hb] at hy
      simp only [if_true, List.length_cons, List.take_succ_cons] at hy
      rcases List.mem_cons.1 hy with rfl | hy
      · exact hb
      · exact takeWhile_mem p r y hy
    | false => rw [hb] at hy; simp at hy

theorem wk_same {D : List Dy} (h0 : 0 < D.length) : ∀ d ∈ D.take (wkLn D), weekV d.day = weekV (D[0]'h0).day := by
  cases D with
  | nil => simp at h0
  | cons x r =>
    intro d hd
    have := takeWhile_mem (fun y => !otherB (weekV x.day) y) (x :: r) d hd
    simpa [otherB] using this

theorem weekV_day {d : Int} (h : -1 ≤ d ∧ d ≤ 1500000) : weekV d = d / 7 := by
  have : told d = true := (told_iff _).2 (by omega)
  simp [weekV, this]

theorem DRow.sub {t : Tf} {D E : List Dy} (h : DRow t D) (hs : E.Sublist D) : DRow t E := ⟨fun d hd => h.good d (hs.subset hd), h.rise.sublist hs⟩

theorem firstW_row {t : Tf} (hr : rightE t = 0) (w : Int) : ∀ (D : List Dy) (a : Option Dy), DRow t D → (∀ d ∈ D, weekV d.day = w) → (∀ x, a = some x → weekV x.day = w ∧ ∀ d ∈ D, x.day < d.day) → firstW t a D = 0
  | [], a, _, _, _ => by cases a <;> rfl
  | d :: r, a, h, hw, ha => by
    have hd := h.good d (List.mem_cons_self ..)
    obtain ⟨h1, h2⟩ := List.pairwise_cons.1 h.rise
    rw [firstW_cons t a d r (fun x hx => by
      obtain ⟨q1, q2⟩ := ha x hx
      unfold follB
      rw [q1, hw d (List.mem_cons_self ..)]
      simp [q2 d (List.mem_cons_self ..)]) (hd.1.right hr)]
    refine firstW_row hr w r (some d) (h.sub (List.sublist_cons_self ..)) (fun x hx => hw x (List.mem_cons_of_mem _ hx)) (fun x hx => ?_)
    injection hx with hx
    subst hx
    exact ⟨hw _ (List.mem_cons_self ..), h1⟩

/-- A week of a row of days. -/
theorem wk_row {t : Tf} (hr : rightE t = 0) {D : List Dy} (h : DRow t D) (h0 : 0 < D.length) : (D.take (wkLn D)).length ≤ 7 ∧ wkE t (D.take (wkLn D)) = 0 ∧ wkR t (D.take (wkLn D)) = wkV t (D.take (wkLn D)) := by
  have hs := wk_same h0
  have hrow := h.sub (List.take_sublist (wkLn D) D)
  have h7 : (D.take (wkLn D)).length ≤ 7 := by
    refine rise_few _ (7 * weekV (D[0]'h0).day) 7 hrow.rise (fun d hd => ?_)
    have e := hs d hd
    have g := (hrow.good d hd).2
    rw [weekV_day g] at e
    omega
  have e : wkE t (D.take (wkLn D)) = 0 := by
    unfold wkE
    rw [if_pos hr, if_neg (by omega)]
    exact firstW_row hr _ _ none hrow hs (fun x hx => by cases hx)
  exact ⟨h7, e, by unfold wkR; rw [if_pos e]⟩

/-- The errors and the bills of taps. -/
def owedE (t : Tf) (l : List Ou) (m : List Tp) : Int := if rightE t = 0 then (if ousE l = 0 then rightT m else ousE l) else rightE t
def owedL (t : Tf) (l : List Ou) (m : List Tp) : List (Int × Int) := if owedE t l m = 0 then billsD t (daysD t l m) else []
theorem owedE_zero {t : Tf} {l : List Ou} {m : List Tp} (h : owedE t l m = 0) : rightE t = 0 ∧ ousE l = 0 ∧ rightT m = 0 := by
  unfold owedE at h
  split at h
  · rename_i h1
    split at h
    · rename_i h2
      exact ⟨h1, h2, h⟩
    · contradiction
  · contradiction

end Go.Proofs.YtjgbllfppomcmaaGreat

/- The program's charge: look, must, weekLength. -/
namespace Go.Proofs.YtjgbllfppomcmaaGreat
open Go.RowKit

theorem Fr.put8 {u w : World} {D : Nat} (h : Fr (fun _ => False) u w) (hD : u.heap.size ≤ D) (k : Nat) (x : Value) : Fr (fun _ => False) u (w.setCell ⟨D, k, none⟩ x) := h.setCell (p := ⟨D, k, none⟩) (fun q => by have : D < u.heap.size := q; omega) x

theorem bxS7 {w : World} {D : Nat} (h : Bx w D #[.int .i64 0, .int .i64 0, .int .i64 0, .int .i64 0, .int .i64 0, .int .i64 0, .int .i64 0] 70) (a0 a1 a2 a3 a4 a5 a6 : Value) : Bx (((((((w.setCell ⟨D, 0, none⟩ a0).setCell ⟨D, 1, none⟩ a1).setCell ⟨D, 2, none⟩ a2).setCell ⟨D, 3, none⟩ a3).setCell ⟨D, 4, none⟩ a4).setCell ⟨D, 5, none⟩ a5).setCell ⟨D, 6, none⟩ a6) D #[a0, a1, a2, a3, a4, a5, a6] 70 := ((((((h.setCell 0 a0).setCell 1 a1).setCell 2 a2).setCell 3 a3).setCell 4 a4).setCell 5 a5).setCell 6 a6

theorem clook_ok (w : World) : Calls Tryz.prog 23 #[.int .i64 0] w fun e w' => e = .returned (.tuple #[]) ∧ w' = w := by
  go_enter Tryz.func23, Tryz.ntmps23
  go_wp2
  go_end0
  exact ⟨rfl, rfl⟩
theorem clook_no (w : World) (x : Int) (hx : x ≠ 0) : Calls Tryz.prog 23 #[.int .i64 x] w fun e w' => e = gave x ∧ w' = w := by
  have hb2 : (x == 0) = false := by simp [hx]
  have hb3 : (x != 0) = true := by simp [hx]
  clear hx
  go_enter Tryz.func23, Tryz.ntmps23
  go_wp2
  exact ⟨rfl, rfl, rfl⟩

theorem mustT_ok (w : World) (ao : Option Addr) (n cap : Nat) : Calls Tryz.prog 26 #[.slice ao n cap, .int .i64 0] w fun e w' => e = .returned (.slice ao n cap) ∧ w' = w := by
  have R := hide (clook_ok w)
  go_enter Tryz.func26, Tryz.ntmps26
  go_wp2_with fail
  refine (unhide R).mono ?_
  rintro e w1 ⟨rfl, rfl⟩
  go_wp2
  go_ret
  exact ⟨rfl, rfl⟩
theorem mustT_no (w : World) (ao : Option Addr) (n cap : Nat) (x : Int) (hx : x ≠ 0) : Calls Tryz.prog 26 #[.slice ao n cap, .int .i64 x] w fun e w' => e = gave x ∧ w' = w := by
  have R := hide (clook_no w x hx)
  clear hx
  go_enter Tryz.func26, Tryz.ntmps26
  go_wp2_with fail
  refine (unhide R).mono ?_
  rintro e w1 ⟨rfl, rfl⟩
  go_wp2
  exact ⟨rfl, rfl, rfl⟩
theorem mustJ_ok (w : World) (ao : Option Addr) (n cap : Nat) : Calls Tryz.prog 61 #[.slice ao n cap, .int .i64 0] w fun e w' => e = .returned (.slice ao n cap) ∧ w' = w := by
  have R := hide (clook_ok w)
  go_enter Tryz.func61, Tryz.ntmps61
  go_wp2_with fail
  refine (unhide R).mono ?_
  rintro e w1 ⟨rfl, rfl⟩
  go_wp2
  go_ret
  exact ⟨rfl, rfl⟩
theorem mustP_ok (w : World) (ao : Option Addr) (n cap : Nat) : Calls Tryz.prog 59 #[.slice ao n cap, .int .i64 0] w fun e w' => e = .returned (.slice ao n cap) ∧ w' = w := by
  have R := hide (clook_ok w)
  go_enter Tryz.func59, Tryz.ntmps59
  go_wp2_with fail
  refine (unhide R).mono ?_
  rintro e w1 ⟨rfl, rfl⟩
  go_wp2
  go_ret
  exact ⟨rfl, rfl⟩
theorem mustI_ok (w : World) (n : Int) : Calls Tryz.prog 66 #[.int .i64 n, .int .i64 0] w fun e w' => e = .returned (.int .i64 n) ∧ w' = w := by
  have R := hide (clook_ok w)
  go_enter Tryz.func66, Tryz.ntmps66
  go_wp2_with fail
  refine (unhide R).mono ?_
  rintro e w1 ⟨rfl, rfl⟩
  go_wp2
  go_ret
  exact ⟨rfl, rfl⟩
set_option maxHeartbeats 1000000 in
theorem mustD_ok (w : World) (d : Dy) : Calls Tryz.prog 64 #[.agg (dyC d), .int .i64 0] w fun e w' => e = .returned (.agg (dyC d)) ∧ Fr (fun _ => False) w w' := by
  obtain ⟨v, hv⟩ : ∃ v, v = (w.alloc (.cells (dyC d) 70)).alloc (.cells (dyC dz) 70) := ⟨_, rfl⟩
  have HF : Hid (Fr (fun _ => False) w v) := hide (by rw [hv]; exact ((Fr.refl _ w).alloc _).alloc _)
  have h1 : Bx v w.heap.size (dyC d) 70 := by rw [hv]; exact (Bx.new _ _ _).keep ((Fr.refl _ _).alloc _)
  have h2 : Bx v (w.heap.size + 1) (dyC dz) 70 := by
    rw [hv, ← heap_alloc w (.cells (dyC d) 70)]; exact Bx.new _ _ _
  obtain ⟨B, hB⟩ : ∃ B, B = w.heap.size := ⟨_, rfl⟩
  have HL : Hid (w.heap.size ≤ B) := hide (by omega)
  rw [← hB] at h1 h2
  have HB := hide hB
  have HV := hide hv
  clear hv hB
  obtain ⟨a0, a1, a2, a3, a4, a5, a6⟩ := d
  simp only [dyC, dz] at *
  have R := hide (clook_ok v)
  have c0 : v.cell? ⟨B, 0, none⟩ = some (.int .i64 a0) := h1.cell 0
  have c1 : v.cell? ⟨B, 1, none⟩ = some (.int .i64 a1) := h1.cell 1
  have c2 : v.cell? ⟨B, 2, none⟩ = some (.int .i64 a2) := h1.cell 2
  have c3 : v.cell? ⟨B, 3, none⟩ = some (.int .i64 a3) := h1.cell 3
  have c4 : v.cell? ⟨B, 4, none⟩ = some (.int .i64 a4) := h1.cell 4
  have c5 : v.cell? ⟨B, 5, none⟩ = some (.int .i64 a5) := h1.cell 5
  have c6 : v.cell? ⟨B, 6, none⟩ = some (.int .i64 a6) := h1.cell 6
  have e0 : v.cell? ⟨B + 1, 0, none⟩ = some (.int .i64 0) := h2.cell 0
  have e1 : v.cell? ⟨B + 1, 1, none⟩ = some (.int .i64 0) := h2.cell 1
  have e2 : v.cell? ⟨B + 1, 2, none⟩ = some (.int .i64 0) := h2.cell 2
  have e3 : v.cell? ⟨B + 1, 3, none⟩ = some (.int .i64 0) := h2.cell 3
  have e4 : v.cell? ⟨B + 1, 4, none⟩ = some (.int .i64 0) := h2.cell 4
  have e5 : v.cell? ⟨B + 1, 5, none⟩ = some (.int .i64 0) := h2.cell 5
  have e6 : v.cell? ⟨B + 1, 6, none⟩ = some (.int .i64 0) := h2.cell 6
  have HX := hide h2
  have f0 := h2.frozen 0
  have f1 := h2.frozen 1
  have f2 := h2.frozen 2
  have f3 := h2.frozen 3
  have f4 := h2.frozen 4
  have f5 := h2.frozen 5
  have f6 := h2.frozen 6
  clear h1 h2
  go_enter Tryz.func64, Tryz.ntmps64
  go_upto_region 1 with (fail)
  rw [← unhide HV, ← unhide HB]
  clear HV
  go_wp2_with fail
  refine (unhide R).mono ?_
  rintro e w1 ⟨rfl, hq⟩
  obtain rfl := hq.symm
  clear hq R
  go_wp2
  have hb := bxS7 (unhide HX) (.int .i64 a0) (.int .i64 a1) (.int .i64 a2) (.int .i64 a3) (.int .i64 a4) (.int .i64 a5) (.int .i64 a6)
  have hF2 : Fr (fun _ => False) w _ := Fr.put8 (Fr.put8 (Fr.put8 (Fr.put8 (Fr.put8 (Fr.put8 (Fr.put8 (unhide HF) (Nat.le_succ_of_le (unhide HL)) 0 (.int .i64 a0)) (Nat.le_succ_of_le (unhide HL)) 1 (.int .i64 a1)) (Nat.le_succ_of_le (unhide HL)) 2 (.int .i64 a2)) (Nat.le_succ_of_le (unhide HL)) 3 (.int .i64 a3)) (Nat.le_succ_of_le (unhide HL)) 4 (.int .i64 a4)) (Nat.le_succ_of_le (unhide HL)) 5 (.int .i64 a5)) (Nat.le_succ_of_le (unhide HL)) 6 (.int .i64 a6)
  generalize ((((((v.setCell ⟨B + 1, 0, none⟩ (.int .i64 a0)).setCell ⟨B + 1, 1, none⟩ (.int .i64 a1)).setCell ⟨B + 1, 2, none⟩ (.int .i64 a2)).setCell ⟨B + 1, 3, none⟩ (.int .i64 a3)).setCell ⟨B + 1, 4, none⟩ (.int .i64 a4)).setCell ⟨B + 1, 5, none⟩ (.int .i64 a5)).setCell ⟨B + 1, 6, none⟩ (.int .i64 a6) = z at *
  have z0 : z.cell? ⟨B + 1, 0, none⟩ = some (.int .i64 a0) := hb.cell 0
  have z1 : z.cell? ⟨B + 1, 1, none⟩ = some (.int .i64 a1) := hb.cell 1
  have z2 : z.cell? ⟨B + 1, 2, none⟩ = some (.int .i64 a2) := hb.cell 2
  have z3 : z.cell? ⟨B + 1, 3, none⟩ = some (.int .i64 a3) := hb.cell 3
  have z4 : z.cell? ⟨B + 1, 4, none⟩ = some (.int .i64 a4) := hb.cell 4
  have z5 : z.cell? ⟨B + 1, 5, none⟩ = some (.int .i64 a5) := hb.cell 5
  have z6 : z.cell? ⟨B + 1, 6, none⟩ = some (.int .i64 a6) := hb.cell 6
  refine bodyPost_ret (v := .agg #[.int .i64 a0, .int .i64 a1, .int .i64 a2, .int .i64 a3, .int .i64 a4, .int .i64 a5, .int .i64 a6]) (by simp [results, z0, z1, z2, z3, z4, z5, z6, Tryz.results64, go_sem]) rfl ⟨rfl, hF2⟩

/-- Days by their indices. -/
def ixG (p : Dy → Bool) : List Dy → Nat → Int
  | [], _ => -1
  | b :: r, i => if p b then (i : Int) else ixG p r (i + 1)
theorem ixG_cons (p : Dy → Bool) (b : Dy) (r : List Dy) (i : Nat) : ixG p (b :: r) i = if p b then (i : Int) else ixG p r (i + 1) := rfl
theorem ixG_while (p : Dy → Bool) : ∀ (l : List Dy) (i : Nat), (ixG p l i = -1 ∧ (l.takeWhile (fun t => !p t)).length = l.length) ∨ (ixG p l i = (i : Int) + ((l.takeWhile (fun t => !p t)).length : Nat) ∧ (l.takeWhile (fun t => !p t)).length < l.length)
  | [], _ => .inl ⟨rfl, rfl⟩
  | b :: r, i => by
    rw [ixG_cons]
    cases h : p b with
    | true => exact .inr ⟨by simp [h], by simp [h]⟩
    | false =>
      rcases ixG_while p r (i + 1) with ⟨e1, e2⟩ | ⟨e1, e2⟩
      · exact .inl ⟨by simpa using e1, by simp [h, e2]⟩
      · refine .inr ⟨?_, by simp [h]; omega⟩
        simp only [Bool.false_eq_true, if_false, e1, List.takeWhile_cons, h, Bool.not_false, if_true, List.length_cons]
        omega

theorem other_any (w : World) (d : Dy) (c : Int) (k : Nat) (d0 : w.cell? ⟨k, 0, none⟩ = some (.int .i64 c)) :
    Calls Tryz.prog 68 #[.agg (dyC d), .pointer (some ⟨k, 0, none⟩)] w fun e w' => e = .returned (.bool (otherB c d)) ∧ Fr (fun _ => False) w w' := by
  obtain ⟨v, hv⟩ : ∃ v, v = w.alloc (.cells (dyC d) 70) := ⟨_, rfl⟩
  have hk := World.block_lt_of_cell? _ _ d0
  have HF : Hid (Fr (fun _ => False) w v) := hide (by rw [hv]; exact (Fr.refl _ w).alloc _)
  have h1 : Bx v w.heap.size (dyC d) 70 := by rw [hv]; exact Bx.new _ _ _
  have d1 : v.cell? ⟨k, 0, none⟩ = some (.int .i64 c) := ((unhide HF).cell hk (fun t => t)).trans d0
  obtain ⟨B, hB⟩ : ∃ B, B = w.heap.size := ⟨_, rfl⟩
  rw [← hB] at h1
  have HB := hide hB
  have HV := hide hv
  clear hv hB hk d0
  have HX : Hid (otherB c d = decide (weekV d.day ≠ c)) := hide rfl
  generalize otherB c d = z at *
  obtain ⟨a0, a1, a2, a3, a4, a5, a6⟩ := d
  simp only [dyC] at *
  have c0 : v.cell? ⟨B, 0, none⟩ = some (.int .i64 a0) := h1.cell 0
  have RW := hide (fun (u : World) => week_any u a0)
  generalize weekV a0 = x at *
  clear h1
  go_enter Tryz.func68, Tryz.ntmps68
  go_upto_region 1 with (fail)
  rw [← unhide HV, ← unhide HB]
  clear HV
  by_cases hxc : x = c
  · subst hxc
    have HZ : Hid (z = false) := hide (by rw [unhide HX]; simp)
    go_region_held3 (fun u => u.cell? ⟨B, 0, none⟩ = some (.int .i64 a0) ∧ u.cell? ⟨k, 0, none⟩ = some (.int .i64 x))
      ((exact ⟨c0, d1⟩))
      ((go_at_call 19; refine (unhide RW _).mono ?_; rintro e wa ⟨rfl, rfl⟩))
    go_wp2
    go_ret
    exact ⟨by rw [unhide HZ]; rfl, (unhide HF).drew⟩
  · have hb2 : (x == c) = false := by simp [hxc]
    have hb3 : (x != c) = true := by simp [hxc]
    have HZ : Hid (z = true) := hide (by rw [unhide HX]; simp [hxc])
    clear hxc
    go_region_held3 (fun u => u.cell? ⟨B, 0, none⟩ = some (.int .i64 a0) ∧ u.cell? ⟨k, 0, none⟩ = some (.int .i64 c))
      ((exact ⟨c0, d1⟩))
      ((go_at_call 19; refine (unhide RW _).mono ?_; rintro e wa ⟨rfl, rfl⟩))
    go_wp2
    go_ret
    exact ⟨by rw [unhide HZ]; rfl, (unhide HF).drew⟩

end Go.Proofs.YtjgbllfppomcmaaGreat

/- How many days are of the first one's week: the program's weekLength. -/
namespace Go.Proofs.YtjgbllfppomcmaaGreat
open Go.RowKit

theorem CAt.dy7 {w : World} {ao : Option Addr} {l : List Dy} (h : CAt w ao (dyV l)) {i : Nat} (hi : i < l.length) : ∃ b off, ao = some ⟨b, off, none⟩ ∧
    w.cell? ⟨b, off + i * 7, none⟩ = some (.int .i64 l[i].day) ∧ w.cell? ⟨b, off + i * 7 + 1, none⟩ = some (.int .i64 l[i].rail) ∧ w.cell? ⟨b, off + i * 7 + 2, none⟩ = some (.int .i64 l[i].bus) ∧
    w.cell? ⟨b, off + i * 7 + 3, none⟩ = some (.int .i64 l[i].cap) ∧ w.cell? ⟨b, off + i * 7 + 4, none⟩ = some (.int .i64 l[i].most) ∧ w.cell? ⟨b, off + i * 7 + 5, none⟩ = some (.int .i64 l[i].low) ∧ w.cell? ⟨b, off + i * 7 + 6, none⟩ = some (.int .i64 l[i].high) := by
  obtain ⟨b, off, e, q⟩ := h.dy hi
  exact ⟨b, off, e, q 0 (by omega) _ rfl, q 1 (by omega) _ rfl, q 2 (by omega) _ rfl, q 3 (by omega) _ rfl, q 4 (by omega) _ rfl, q 5 (by omega) _ rfl, q 6 (by omega) _ rfl⟩

theorem indexDy_any (w : World) (c : Int) (k : Nat) (d0 : w.cell? ⟨k, 0, none⟩ = some (.int .i64 c)) (ao : Option Addr) (cap : Nat) (l : List Dy) (h : CAt w ao (dyV l)) (hl : l.length ≤ 140737488355328) :
    Calls Tryz.prog 67 #[.slice ao l.length cap, .func (.func 68) #[] #[.pointer (some ⟨k, 0, none⟩)]] w fun e w' => e = .returned (.int .i64 (ixG (otherB c) l 0)) ∧ Fr (fun _ => False) w w' := by
  have HC := hide (fun (w' : World) (hf : Fr (fun _ => False) w w') (s : Dy) => (other_any w' s c k ((hf.cell (a := ⟨k, 0, none⟩) (World.block_lt_of_cell? _ _ d0) (fun t => t)).trans d0) : Calls Tryz.prog 68 #[.agg (dyC s), .pointer (some ⟨k, 0, none⟩)] w' fun e w'' => e = .returned (.bool ((otherB c) s)) ∧ Fr (fun _ => False) w' w''))
  have H := hide h
  generalize hp : (otherB c) = p at *
  have HC' : Hid (∀ (w' : World) (hf : Fr (fun _ => False) w w') (s : Dy), Calls Tryz.prog 68 #[.agg (dyC s), .pointer (some ⟨k, 0, none⟩)] w' fun e w'' => e = .returned (.bool (p s)) ∧ Fr (fun _ => False) w' w'') := hide (fun w' hf s => unhide HC w' hf s)
  clear h d0 hp HC
  go_enter Tryz.func67, Tryz.ntmps67
  go_wp2
  go_loopw [5, 8] (fun _ iv wr => ∃ (i : Nat), i ≤ l.length ∧ iv = .int .i64 i ∧ Hid (Fr (fun _ => False) w wr ∧ ixG p (l.drop i) i = ixG p l 0)) (fun _ iv _ => l.length - (intOf iv).toNat)
  case atStart => exact ⟨0, Nat.zero_le _, rfl, Fr.refl _ _, by simp⟩
  case round =>
    obtain ⟨i, hi, rfl, HI⟩ := hrel
    by_cases hil : i < l.length
    · obtain ⟨b, off, rfl, c0, c1, c2, c3, c4, c5, c6⟩ := ((unhide H).keep (unhide HI).1).dy7 hil
      have ht := (unhide HI).2
      rw [List.drop_eq_getElem_cons hil, ixG_cons] at ht
      have R := unhide HC' wr (unhide HI).1 l[i]
      generalize l[i] = x at *
      have HT := hide ht
      clear ht
      simp only [dyC] at R
      cases hx : p x with
      | true =>
        rw [hx] at R HT
        clear hx
        have HT' : Hid (ixG p l 0 = (i : Int)) := hide (by have := unhide HT; simpa using this.symm)
        clear HT
        go_wp2_with fail
        refine R.mono ?_
        rintro e w1 ⟨rfl, hF⟩
        have HF := hide ((unhide HI).1.trans hF (fun _ _ t => t))
        clear hF R
        go_wp2
        go_ret
        exact ⟨by rw [unhide HT']; rfl, unhide HF⟩
      | false =>
        rw [hx] at R HT
        clear hx
        have HT' : Hid (ixG p (l.drop (i + 1)) (i + 1) = ixG p l 0) := hide (by have := unhide HT; simpa using this)
        clear HT
        go_wp2_with fail
        refine R.mono ?_
        rintro e w1 ⟨rfl, hF⟩
        have HF := hide ((unhide HI).1.trans hF (fun _ _ t => t))
        clear hF R
        go_wp2
        exact ⟨⟨i + 1, by omega, by go_num, unhide HF, unhide HT'⟩, by simp [intOf]; omega⟩
    · obtain rfl : i = l.length := by omega
      have ht := (unhide HI).2
      rw [List.drop_length] at ht
      have HN := hide ht
      have HF := hide (unhide HI).1
      clear ht HI H
      go_wp2
      go_ret
      exact ⟨by rw [← unhide HN]; rfl, unhide HF⟩

theorem wkLn_eq (l : List Dy) (h : 0 < l.length) : wkLn l = (l.takeWhile (fun t => !otherB (weekV l[0].day) t)).length := by
  cases l with
  | nil => simp at h
  | cons x r => rfl

theorem weekLength_any (w : World) (ao : Option Addr) (cap : Nat) (l : List Dy) (h : CAt w ao (dyV l)) (hl : l.length ≤ 140737488355328) (h0 : 0 < l.length) :
    Calls Tryz.prog 29 #[.slice ao l.length cap] w fun e w' => e = .returned (.int .i64 (wkLn l)) ∧ Fr (fun _ => False) w w' := by
  obtain ⟨b, off, rfl, c0, c1, c2, c3, c4, c5, c6⟩ := h.dy7 h0
  simp only [Nat.zero_mul, Nat.add_zero] at c0 c1 c2 c3 c4 c5 c6
  have R1 := hide (week_any w l[0].day)
  have HD := hide (wkLn_eq l h0)
  generalize l[0].day = tm at *
  generalize weekV tm = tv at *
  have R3 := hide (fun (w' : World) (hf : Fr (fun _ => False) w w') (k : Nat) (d : w'.cell? ⟨k, 0, none⟩ = some (.int .i64 tv)) => indexDy_any w' tv k d (some ⟨b, off, none⟩) cap l (h.keep hf) hl)
  have HX := hide (ixG_while (otherB tv) l 0)
  generalize ixG (otherB tv) l 0 = r at *
  generalize hT : (l.takeWhile (fun t => !otherB tv t)).length = n at *
  generalize wkLn l = z at *
  clear hT h c1 c2 c3 c4 c5 c6
  go_enter Tryz.func29, Tryz.ntmps29
  go_wp2_with fail
  refine (unhide R1).mono ?_
  rintro e w2 ⟨rfl, rfl⟩
  go_wp2_with fail
  refine (unhide R3 _ ((Fr.refl _ _).alloc _) w2.heap.size (by simp [go_sem])).mono ?_
  rintro e w3 ⟨rfl, hF⟩
  have HF : Hid (Fr (fun _ => False) w2 w3) := hide (((Fr.refl _ _).alloc _).trans hF (fun _ _ t => t))
  clear hF R1 R3
  rcases unhide HX with ⟨e1, e2⟩ | ⟨e1, e2⟩
  · subst e1
    have HZ : Hid (z = l.length) := hide (by rw [unhide HD]; exact e2)
    clear e2 HX HD
    go_wp2
    go_ret
    exact ⟨by rw [unhide HZ]; rfl, unhide HF⟩
  · have HZ : Hid (z = n) := hide (unhide HD)
    have e3 : r = (n : Int) := by omega
    subst e3
    clear e2 HX HD e1
    go_wp2
    go_ret
    exact ⟨by rw [unhide HZ]; rfl, unhide HF⟩

end Go.Proofs.YtjgbllfppomcmaaGreat

