/- Proved: the law ChargeCaps answers true for every tariff, slice of outages, slice of taps and int, and its arguments read afterwards as they read before. No condition but the form's own reach. -/
import Derived.Test.YtjgbllfppomcmaaGreatCBZ
import Derived.Test.YtjgbllfppomcmaaGreatCB8
import Derived.Test.YtjgbllfppomcmaaGreatOQX
import Derived.Test.YtjgbllfppomcmaaGreatFRX
import Derived.Test.YtjgbllfppomcmaaGreatOBX
/- A bill is held by the caps, and weeks don't see each other: mathematics. -/
namespace Go.Proofs.YtjgbllfppomcmaaGreat
open Go.RowKit

/-- Is a tap of a week? -/
def inW (W : Int) (x : Tp) : Bool := decide (weekV (dayV x.time) = W)
def ofW (W : Int) (d : Dy) : Bool := decide (weekV d.day = W)

theorem while_app {α : Type} (p : α → Bool) : ∀ (a b : List α), (∀ x ∈ a, p x = true) → (∀ x ∈ b, p x = false) → (a ++ b).takeWhile p = a
  | [], [], _, _ => rfl
  | [], y :: b, _, h => by rw [List.nil_append, List.takeWhile_cons, h y (List.mem_cons_self ..)]; rfl
  | x :: a, b, h, h2 => by
    rw [List.cons_append, List.takeWhile_cons, h x (List.mem_cons_self ..)]
    simp only [if_true]
    rw [while_app p a b (fun y hy => h y (List.mem_cons_of_mem _ hy)) h2]

theorem days_filter (W : Int) : ∀ (n : Nat) (m : List Tp), RgtOk m → m.length ≤ n → daysL (m.filter (inW W)) = (daysN n m).filter (fun its => decide (weekV (dayN its) = W))
  | 0, [], _, _ => rfl
  | 0, _ :: _, _, hn => absurd hn (by simp)
  | _ + 1, [], _, _ => rfl
  | n + 1, x :: r, h, hn => by
    have hp := dayLn_pos h (by simp)
    have hsub := List.drop_sublist (dayLn (x :: r)) (x :: r)
    have hdl : (List.drop (dayLn (x :: r)) (x :: r)).length = (x :: r).length - dayLn (x :: r) := List.length_drop ..
    have hln : (x :: r).length = r.length + 1 := rfl
    have ih := days_filter W n ((x :: r).drop (dayLn (x :: r))) (h.sub hsub) (by omega)
    have hx := tap_time (h.1 x (List.mem_cons_self ..))
    have hde := dEnd_eq hx
    have hlate := drop_late (dEnd x) (x :: r) h.sorted
    have hearly := take_early (dEnd x) (x :: r)
    have e : dayLn (x :: r) = ((x :: r).takeWhile (fun t => !isLate (dEnd x) t)).length := rfl
    rw [← e] at hlate hearly
    have hsplit := List.take_append_drop (dayLn (x :: r)) (x :: r)
    obtain ⟨k, hk⟩ : ∃ k, dayLn (x :: r) = k + 1 := ⟨dayLn (x :: r) - 1, by omega⟩
    have hg : (x :: r).take (dayLn (x :: r)) = x :: r.take k := by rw [hk]; rfl
    have hday : ∀ y ∈ (x :: r).take (dayLn (x :: r)), dayV y.time = dayV x.time := fun y hy => by
      have hm : y ∈ x :: r := List.mem_of_mem_take hy
      have h1 := hearly y hy
      have hty := tap_time (h.1 y hm)
      have h2 : x.time ≤ y.time := by
        rcases List.mem_cons.1 hm with rfl | hm
        · omega
        · exact (List.pairwise_cons.1 h.sorted).1 y hm
      rw [(dayV_eq hty).1, (dayV_eq hx).1]
      rw [hde] at h1
      omega
    show daysL ((x :: r).filter (inW W)) = ((x :: r).take (dayLn (x :: r)) :: daysN n ((x :: r).drop (dayLn (x :: r)))).filter (fun its => decide (weekV (dayN its) = W))
    rw [show ((x :: r).take (dayLn (x :: r)) :: daysN n ((x :: r).drop (dayLn (x :: r)))).filter (fun its => decide (weekV (dayN its) = W)) = if decide (weekV (dayN ((x :: r).take (dayLn (x :: r)))) = W) = true then (x :: r).take (dayLn (x :: r)) :: (daysN n ((x :: r).drop (dayLn (x :: r)))).filter (fun its => decide (weekV (dayN its) = W)) else (daysN n ((x :: r).drop (dayLn (x :: r)))).filter (fun its => decide (weekV (dayN its) = W)) from List.filter_cons ..]
    have hdn : dayN ((x :: r).take (dayLn (x :: r))) = dayV x.time := by rw [hg]; rfl
    rw [hdn, ← ih]
    have hfm : (x :: r).filter (inW W) = ((x :: r).take (dayLn (x :: r))).filter (inW W) ++ ((x :: r).drop (dayLn (x :: r))).filter (inW W) := by
      rw [← List.filter_append, hsplit]
    by_cases hw : weekV (dayV x.time) = W
    · rw [if_pos (by simpa using hw)]
      have hgf : ((x :: r).take (dayLn (x :: r))).filter (inW W) = (x :: r).take (dayLn (x :: r)) := List.filter_eq_self.2 (fun y hy => by unfold inW; rw [hday y hy]; simpa using hw)
      rw [hgf] at hfm
      have hfl : ∀ y ∈ ((x :: r).drop (dayLn (x :: r))).filter (inW W), dEnd x ≤ y.time := fun y hy => hlate y (List.mem_filter.1 hy).1
      have hRF : RgtOk ((x :: r).filter (inW W)) := h.sub List.filter_sublist
      have hlen0 : 0 < ((x :: r).filter (inW W)).length := by rw [hfm, List.length_append, hg]; simp; omega
      have hdl2 : dayLn ((x :: r).filter (inW W)) = ((x :: r).take (dayLn (x :: r))).length := by
        rw [hfm, hg, List.cons_append]
        show ((x :: (r.take k ++ _)).takeWhile (fun t => !isLate (dEnd x) t)).length = _
        rw [← List.cons_append, ← hg, while_app _ _ _ (fun y hy => by have := hearly y hy; simp [isLate]; omega) (fun y hy => by have := hfl y hy; simp [isLate]; omega)]
      have hst := daysN_step hRF hlen0 (Nat.le_refl _)
      show daysN _ _ = _
      rw [hst, hdl2, hfm, List.take_left, List.drop_left]
      rfl
    · rw [if_neg (by simpa using hw)]
      have hgf : ((x :: r).take (dayLn (x :: r))).filter (inW W) = [] := List.filter_eq_nil_iff.2 (fun y hy => by unfold inW; rw [hday y hy]; simpa using hw)
      rw [hfm, hgf, List.nil_append]

theorem daysD_filter {t : Tf} (hr : rightE t = 0) {l : List Ou} {m : List Tp} (h : RgtOk m) (hl : m.length ≤ 2000) (W : Int) : daysD t l (m.filter (inW W)) = (daysD t l m).filter (ofW W) := by
  have hits := (daysL_ok h).1
  unfold daysD
  rw [days_filter W m.length m h (Nat.le_refl _), List.filter_map]
  congr 1
  refine List.filter_congr (fun its hi => ?_)
  have q := hits its hi
  have := (dayD_good hr (l := l) (h.sub q.sub) (Nat.le_trans q.sub.length_le hl) q.pos q.one).2.1
  simp only [Function.comp, ofW, this]

theorem wk_rest (w : Int) : ∀ (D : List Dy), D.Pairwise (fun a b => a.day < b.day) → (∀ d ∈ D, -1 ≤ d.day ∧ d.day ≤ 1500000) → (∀ d ∈ D, w ≤ weekV d.day) → ∀ y ∈ D.drop (D.takeWhile (fun x => !otherB w x)).length, w < weekV y.day
  | [], _, _, _, y, hy => by simp at hy
  | d :: r, h1, h2, h3, y, hy => by
    obtain ⟨p1, p2⟩ := List.pairwise_cons.1 h1
    rw [List.takeWhile_cons] at hy
    cases hb : otherB w d with
    | false =>
      rw [hb] at hy
      simp only [Bool.not_false, if_true, List.length_cons, List.drop_succ_cons] at hy
      exact wk_rest w r p2 (fun x hx => h2 x (List.mem_cons_of_mem _ hx)) (fun x hx => h3 x (List.mem_cons_of_mem _ hx)) y hy
    | true =>
      rw [hb] at hy
      simp only [Bool.not_true, Bool.false_eq_true, if_false, List.length_nil, List.drop_zero] at hy
      have hd := h3 d (List.mem_cons_self ..)
      have hne : weekV d.day ≠ w := by simpa [otherB] using hb
      rcases List.mem_cons.1 hy with rfl | hy
      · omega
      · have q1 := p1 y hy
        have q2 := h2 d (List.mem_cons_self ..)
        have q3 := h2 y (List.mem_cons_of_mem _ hy)
        rw [weekV_day q2] at hd hne
        rw [weekV_day q3]
        omega

/-- What a bill is. -/
theorem bills_at {t : Tf} : ∀ (n : Nat) (D : List Dy), DRow t D → D.length ≤ n → ∀ b ∈ billsN t n D, D.filter (ofW b.1) ≠ [] ∧ b.2 = wkV t (D.filter (ofW b.1))
  | 0, _, _, _, b, hb => absurd hb (by simp [billsN])
  | _ + 1, [], _, _, b, hb => absurd hb (by simp [billsN])
  | n + 1, d :: r, h, hn, b, hb => by
    have hp := wkLn_pos (D := d :: r) (by simp)
    have hl : (List.drop (wkLn (d :: r)) (d :: r)).length = (d :: r).length - wkLn (d :: r) := List.length_drop ..
    have h2 : (d :: r).length = r.length + 1 := rfl
    have hs := wk_same (D := d :: r) (by simp)
    simp only [List.getElem_cons_zero] at hs
    have hrng : ∀ x ∈ d :: r, -1 ≤ x.day ∧ x.day ≤ 1500000 := fun x hx => (h.good x hx).2
    have hge : ∀ x ∈ d :: r, weekV d.day ≤ weekV x.day := fun x hx => by
      rcases List.mem_cons.1 hx with rfl | hx'
      · exact Int.le_refl _
      · have q1 := (List.pairwise_cons.1 h.rise).1 x hx'
        rw [weekV_day (hrng d (List.mem_cons_self ..)), weekV_day (hrng x hx)]
        omega
    have hrest := wk_rest (weekV d.day) (d :: r) h.rise hrng hge
    have e : wkLn (d :: r) = ((d :: r).takeWhile (fun x => !otherB (weekV d.day) x)).length := rfl
    rw [← e] at hrest
    have hsplit := List.take_append_drop (wkLn (d :: r)) (d :: r)
    have hf : ∀ W, (d :: r).filter (ofW W) = ((d :: r).take (wkLn (d :: r))).filter (ofW W) ++ ((d :: r).drop (wkLn (d :: r))).filter (ofW W) := fun W => by
      rw [← List.filter_append, hsplit]
    have hb' : b ∈ (weekV d.day, wkV t ((d :: r).take (wkLn (d :: r)))) :: billsN t n ((d :: r).drop (wkLn (d :: r))) := hb
    rcases List.mem_cons.1 hb' with rfl | hb'
    · have g1 : ((d :: r).take (wkLn (d :: r))).filter (ofW (weekV d.day)) = (d :: r).take (wkLn (d :: r)) := List.filter_eq_self.2 (fun y hy => by simp [ofW, hs y hy])
      have g2 : ((d :: r).drop (wkLn (d :: r))).filter (ofW (weekV d.day)) = [] := List.filter_eq_nil_iff.2 (fun y hy => by have := hrest y hy; simp [ofW]; omega)
      rw [hf, g1, g2, List.append_nil]
      refine ⟨fun q => ?_, rfl⟩
      have := congrArg List.length q
      rw [List.length_take] at this
      simp at this
      omega
    · obtain ⟨i1, i2⟩ := bills_at n _ (h.sub (List.drop_sublist ..)) (by omega) b hb'
      obtain ⟨y, hy⟩ := List.exists_mem_of_ne_nil _ i1
      obtain ⟨hy1, hy2⟩ := List.mem_filter.1 hy
      have hyw : weekV y.day = b.1 := by simpa [ofW] using hy2
      have hyn := hrest y hy1
      have g1 : ((d :: r).take (wkLn (d :: r))).filter (ofW b.1) = [] := List.filter_eq_nil_iff.2 (fun z hz => by have := hs z hz; simp [ofW]; omega)
      rw [hf, g1, List.nil_append]
      exact ⟨i1, i2⟩

theorem bills_one {t : Tf} {D : List Dy} (h0 : D ≠ []) (W : Int) (h : ∀ d ∈ D, weekV d.day = W) : billsD t D = [(W, wkV t D)] := by
  cases D with
  | nil => exact absurd rfl h0
  | cons d r =>
    have hd := h d (List.mem_cons_self ..)
    have e : wkLn (d :: r) = (d :: r).length := by
      show ((d :: r).takeWhile (fun x => !otherB (weekV d.day) x)).length = _
      have := while_app (fun x => !otherB (weekV d.day) x) (d :: r) [] (fun x hx => by simp [otherB, h x hx, hd]) (fun x hx => by cases hx)
      rw [List.append_nil] at this
      rw [this]
    rw [billsD_step t (by simp), e, List.take_length, List.drop_length]
    simp only [List.getElem_cons_zero, hd]
    rfl

/-- How many taps are no rides, how many journeys by rail. -/
def nbB (x : Tp) : Bool := decide (x.kind ≠ 3)
structure RCt (n : Nat) (s : Wk) : Prop where
  cnt : s.made.countP railB + (if s.opn.isSome then 1 else 0) ≤ n

theorem countP_set_is {α : Type} (p : α → Bool) : ∀ (l : List α) (k : Nat) (y z : α), l[k]? = some z → p y = p z → (l.set k y).countP p = l.countP p
  | [], _, _, _, h, _ => by simp at h
  | x :: r, 0, y, z, h, hp => by
    simp at h
    subst h
    simp only [List.set_cons_zero, List.countP_cons, hp]
  | x :: r, k + 1, y, z, h, hp => by
    simp at h
    simp only [List.set_cons_succ, List.countP_cons, countP_set_is p r k y z h hp]

theorem RCt.shut {T : Tm} {lo c : Int} {n : Nat} {s : Wk} (h : RCt n s) (hW : WOk T lo c s) : RCt n s.shut := by
  unfold Wk.shut
  cases ho : s.opn with
  | none => exact h
  | some j =>
    have := h.cnt
    have hk := (hW.opn j ho).2.1
    rw [ho] at this
    refine ⟨?_⟩
    simp only [List.countP_append, List.countP_cons, List.countP_nil, Option.isSome_none, Option.isSome_some, if_true] at this ⊢
    rw [show railB j = true by simp [railB, hk]]
    simp
    omega

theorem RCt.take {T : Tm} {lo c : Int} {n : Nat} {s : Wk} (h : RCt n s) (hW : WOk T lo c s) (x : Tp) : RCt (n + (if nbB x then 1 else 0)) (s.take T x) := by
  unfold Wk.take
  by_cases h3 : x.kind = 3
  · rw [if_pos h3]
    have hb : nbB x = false := by simp [nbB, h3]
    rw [hb]
    have e : (s.ride T x).made.countP railB = s.made.countP railB := by
      show (s.made ++ [rideJ T s x]).countP railB = _
      rw [List.countP_append]
      simp [railB, rideJ]
    refine ⟨?_⟩
    rw [e, show (s.ride T x).opn = s.opn from rfl]
    have := h.cnt
    simp only [Bool.false_eq_true, if_false, Nat.add_zero]
    exact this
  · rw [if_neg h3]
    have hb : nbB x = true := by simp [nbB, h3]
    rw [hb]
    have hs := h.shut hW
    have hso := shut_opn s
    have hlate : RCt (n + 1) (s.late x) := by
      unfold Wk.late Wk.put
      refine ⟨?_⟩
      have := hs.cnt
      rw [hso] at this ⊢
      simp only [List.countP_append, List.countP_cons, List.countP_nil]
      rw [show railB (lone 3 x) = true by rfl]
      simp at this ⊢
      omega
    simp only [if_true]
    split
    · split
      · unfold Wk.enter
        refine ⟨?_⟩
        have := hs.cnt
        rw [hso] at this
        simp at this ⊢
        omega
      · split
        · unfold Wk.leave
          cases hbg : s.begun with
          | none => exact hlate
          | some b =>
            simp only
            split
            · exact hlate
            · unfold Wk.begun at hbg
              cases ho : s.opn with
              | none => rw [ho] at hbg; cases hbg
              | some j =>
                rw [ho] at hbg
                have hc := h.cnt
                rw [ho] at hc
                simp at hc
                unfold Wk.done
                cases hg : s.again with
                | false =>
                  simp only [hg, Bool.false_eq_true, if_false, Option.some.injEq] at hbg ⊢
                  refine ⟨?_⟩
                  simp only [List.countP_append, List.countP_cons, List.countP_nil]
                  rw [show railB (wholeJ b x) = true by rfl]
                  simp
                  omega
                | true =>
                  simp only [hg, if_true] at hbg ⊢
                  obtain ⟨b', hb', hk, _⟩ := hW.again j ho hg
                  rw [hbg] at hb'
                  injection hb' with hb'
                  subst hb'
                  obtain ⟨k, hrl, hmk⟩ := hW.lastAt hbg
                  refine ⟨?_⟩
                  rw [hrl]
                  simp only [Option.getD_some]
                  rw [countP_set_is railB s.made k (wholeJ b x) b hmk (by simp [railB, wholeJ, hk])]
                  simp
                  omega
        · exact ⟨Nat.le_trans h.cnt (Nat.le_succ n)⟩
    · exact ⟨Nat.le_trans h.cnt (Nat.le_succ n)⟩

theorem RCt.at {T : Tm} (hT : 0 ≤ T.lng) {l : List Tp} (h : RgtOk l) (i : Nat) (hi : i ≤ l.length) : RCt ((l.take i).countP nbB) (wkAt T l i) := by
  obtain ⟨lo, _, hlo, _⟩ := first_time h
  induction i with
  | zero => exact ⟨by simp [wkAt_zero, wk0]⟩
  | succ i ih =>
    obtain ⟨c, h1, _⟩ := WOk.at hT h lo hlo i (by omega)
    rw [wkAt_succ T l i (by omega), List.take_succ_eq_append_getElem (show i < l.length by omega), List.countP_append]
    have := (ih (by omega)).take h1 (l[i]'(by omega))
    simpa [List.countP_cons] using this

theorem rail_few {t : Tf} (hr : rightE t = 0) {l : List Tp} (h : RgtOk l) : (dayJ t l).countP railB ≤ l.countP nbB := by
  have hT : 0 ≤ (tmOf t).lng := (small_of hr).longest.1
  obtain ⟨lo, _, hlo, _⟩ := first_time h
  obtain ⟨c, h1, _⟩ := WOk.at hT h lo hlo l.length (Nat.le_refl _)
  have hk := (RCt.at hT h l.length (Nat.le_refl _)).shut h1
  rw [wkAt_all, List.take_length] at hk
  have := hk.cnt
  rw [shut_opn] at this
  simpa [dayJ, walkedJ] using this

/-- A day's Most. -/
def loneB (p : Jn × Int) : Bool := decide (p.1.kind ≠ 1) && decide (p.1.kind ≠ 4)
theorem most_fold {t : Tf} (hm : 0 ≤ t.most) : ∀ (l : List (Jn × Int)) (d : Dy), (∀ p ∈ l, loneB p = true → p.2 ≤ t.most) → (l.foldl (putD t) d).most ≤ d.most + (l.countP loneB : Nat) * t.most
  | [], d, _ => by simp
  | p :: r, d, h => by
    have ih := most_fold hm r (putD t d p) (fun x hx => h x (List.mem_cons_of_mem _ hx))
    have hp := h p (List.mem_cons_self ..)
    rw [List.foldl_cons, List.countP_cons]
    unfold loneB at hp
    by_cases k1 : p.1.kind = 1
    · have e : (putD t d p).most = d.most := by unfold putD; rw [if_pos k1]; rfl
      have e2 : loneB p = false := by simp [loneB, k1]
      rw [e] at ih
      rw [e2]
      simpa using ih
    · by_cases k4 : p.1.kind = 4
      · have e : (putD t d p).most = d.most := by unfold putD; rw [if_neg k1, if_pos k4]
        have e2 : loneB p = false := by simp [loneB, k4]
        rw [e] at ih
        rw [e2]
        simpa using ih
      · have e : (putD t d p).most = d.most + p.2 := by unfold putD; rw [if_neg k1, if_neg k4]
        have e2 : loneB p = true := by simp [loneB, k1, k4]
        rw [e] at ih
        rw [e2]
        have := hp (by simp [k1, k4])
        simp only [if_true]
        have e3 : ((List.countP loneB r + 1 : Nat) : Int) * t.most = (List.countP loneB r : Nat) * t.most + t.most := by rw [Int.natCast_succ, Int.add_mul, Int.one_mul]
        rw [e3]
        omega

theorem most_day {t : Tf} (hr : rightE t = 0) {l : List Ou} {its : List Tp} (h : RgtOk its) (hl : its.length ≤ 2000) (hd : OneDay its) : (dayD t l its).most ≤ (its.countP nbB : Nat) * t.most := by
  have hm := (small_of hr).most
  have hde := dE_day hr (l := l) h hl hd
  have e : (dayD t l its).most = (sumD t (dayN its) (dayP t l its)).most := by
    unfold dayD dR
    rw [if_pos hde]
    rfl
  rw [e]
  have hp : ∀ p ∈ dayP t l its, loneB p = true → p.2 ≤ t.most := fun p hp hlone => by
    unfold dayP backL priced at hp
    rw [List.map_map, List.mem_map] at hp
    obtain ⟨j, hj, rfl⟩ := hp
    obtain ⟨e1, e2⟩ := back1_cases t.delay l (j, (costV t j).1)
    simp only [Function.comp] at hlone ⊢
    simp only [loneB, e1, Bool.and_eq_true, decide_eq_true_eq] at hlone
    rcases e2 with e2 | ⟨_, e2⟩
    · rw [e2]
      have hc := (dayJ_cost hr h j hj).1
      show (costV t j).1 ≤ t.most
      unfold costV at hc ⊢
      split
      · rw [if_neg hlone.1, if_neg hlone.2]; exact Int.le_refl _
      · exact hm.1
    · rw [e2]; exact hm.1
  have h1 := most_fold hm.1 (dayP t l its) (d0 (dayN its)) hp
  have h2 : (dayP t l its).countP loneB ≤ (dayJ t its).countP railB := by
    unfold dayP backL priced
    rw [List.map_map, List.countP_map]
    refine List.countP_mono_left (fun j hj hlone => ?_)
    simp only [Function.comp, loneB, (back1_cases t.delay l (j, (costV t j).1)).1, Bool.and_eq_true, decide_eq_true_eq] at hlone
    simp [railB, hlone.2]
  have h3 := rail_few hr h
  have h4 : ((dayP t l its).countP loneB : Int) * t.most ≤ (its.countP nbB : Nat) * t.most := Int.mul_le_mul_of_nonneg_right (by omega) hm.1
  have h5 : (d0 (dayN its)).most = 0 := rfl
  unfold sumD
  omega

theorem most_weekF : ∀ (L : List Dy) (s : Dy), (L.foldl addW s).most = s.most + (L.map (·.most)).foldl (· + ·) 0
  | [], s => by simp
  | d :: r, s => by
    have h : ∀ (l : List Int) (a : Int), l.foldl (· + ·) a = a + l.foldl (· + ·) 0 := by
      intro l
      induction l with
      | nil => intro a; simp
      | cons x l ih => intro a; rw [List.foldl_cons, List.foldl_cons, ih, ih (0 + x)]; omega
    rw [List.foldl_cons, most_weekF r (addW s d), List.map_cons, List.foldl_cons, h _ (0 + d.most)]
    show s.most + d.most + _ = _
    omega

theorem most_days {t : Tf} (hr : rightE t = 0) {l : List Ou} : ∀ (n : Nat) (m : List Tp), RgtOk m → m.length ≤ n → m.length ≤ 2000 → (((daysN n m).map (dayD t l)).map (·.most)).foldl (· + ·) 0 ≤ (m.countP nbB : Nat) * t.most
  | 0, [], _, _, _ => by simp [daysN]
  | 0, _ :: _, _, hn, _ => absurd hn (by simp)
  | _ + 1, [], _, _, _ => by simp [daysN]
  | n + 1, x :: r, h, hn, h2 => by
    have hp := dayLn_pos h (by simp)
    have hsub := List.drop_sublist (dayLn (x :: r)) (x :: r)
    have hdl : (List.drop (dayLn (x :: r)) (x :: r)).length = (x :: r).length - dayLn (x :: r) := List.length_drop ..
    have hln : (x :: r).length = r.length + 1 := rfl
    have ih := most_days hr (l := l) n ((x :: r).drop (dayLn (x :: r))) (h.sub hsub) (by omega) (by omega)
    have hits := (daysN_ok (n + 1) (x :: r) h hn).1 ((x :: r).take (dayLn (x :: r))) (List.mem_cons_self ..)
    have hd := most_day hr (l := l) (h.sub hits.sub) (Nat.le_trans hits.sub.length_le h2) hits.one
    have hcnt : (x :: r).countP nbB = ((x :: r).take (dayLn (x :: r))).countP nbB + ((x :: r).drop (dayLn (x :: r))).countP nbB := by
      rw [← List.countP_append, List.take_append_drop]
    have hf : ∀ (l : List Int) (a : Int), l.foldl (· + ·) a = a + l.foldl (· + ·) 0 := by
      intro l
      induction l with
      | nil => intro a; simp
      | cons x l ih => intro a; rw [List.foldl_cons, List.foldl_cons, ih, ih (0 + x)]; omega
    show ((((x :: r).take (dayLn (x :: r)) :: daysN n ((x :: r).drop (dayLn (x :: r)))).map (dayD t l)).map (·.most)).foldl (· + ·) 0 ≤ _
    rw [List.map_cons, List.map_cons, List.foldl_cons, hf, hcnt, Int.natCast_add, Int.add_mul]
    omega

/-- The widest cap of a week. -/
def topS (l : List Spn) (a : Int) : Int := l.foldl (fun a s => imax a s.weekly) a
theorem topS_ge : ∀ (l : List Spn) (a : Int), a ≤ topS l a ∧ ∀ s ∈ l, s.weekly ≤ topS l a
  | [], a => ⟨Int.le_refl _, fun s hs => by cases hs⟩
  | x :: r, a => by
    obtain ⟨h1, h2⟩ := topS_ge r (imax a x.weekly)
    have e : topS (x :: r) a = topS r (imax a x.weekly) := rfl
    rw [e]
    rw [imax_eq] at h1 h2 ⊢
    refine ⟨by omega, fun s hs => ?_⟩
    rcases List.mem_cons.1 hs with rfl | hs
    · omega
    · exact h2 s hs

/-- What ChargeCaps asks of one bill. -/
theorem caps_math {t : Tf} {l : List Ou} {m : List Tp} (h : owedE t l m = 0) {b : Int × Int} (hb : b ∈ owedL t l m) :
    owedE t l (m.filter (inW b.1)) = 0 ∧ owedL t l (m.filter (inW b.1)) = [b] ∧ b.2 ≤ topS t.sp t.busWeekly + ((m.filter (inW b.1)).countP nbB : Nat) * t.most := by
  obtain ⟨hr, ho, hrt⟩ := owedE_zero h
  obtain ⟨hl, hok⟩ := (rightT_zero m).1 hrt
  have hrow := daysD_row hr (l := l) hok hl
  have hle : (m.filter (inW b.1)).length ≤ m.length := List.length_filter_le ..
  have hok2 : RgtOk (m.filter (inW b.1)) := hok.sub List.filter_sublist
  have hrt2 : rightT (m.filter (inW b.1)) = 0 := (rightT_zero _).2 ⟨by omega, hok2⟩
  have h2 : owedE t l (m.filter (inW b.1)) = 0 := by unfold owedE; rw [if_pos hr, if_pos ho]; exact hrt2
  have hbm := hb
  unfold owedL at hbm
  rw [if_pos h] at hbm
  obtain ⟨g1, g2⟩ := bills_at (daysD t l m).length (daysD t l m) hrow (Nat.le_refl _) b hbm
  have hdf := daysD_filter hr (l := l) hok hl b.1
  have hone : owedL t l (m.filter (inW b.1)) = [b] := by
    unfold owedL
    rw [if_pos h2, hdf, bills_one g1 b.1 (fun d hd => by simpa [ofW] using (List.mem_filter.1 hd).2), ← g2]
  refine ⟨h2, hone, ?_⟩
  have hrow2 := daysD_row hr (l := l) hok2 (by omega)
  rw [hdf] at hrow2
  have hwk := wkIn_sum hr ((daysD t l m).filter (ofW b.1)) (fun d hd => (hrow2.good d hd).1)
  have hh := hwk.hold hr
  have hbw := busWeekly_of hr
  have hsp : ((spanOf t (sumW ((daysD t l m).filter (ofW b.1))).low (sumW ((daysD t l m).filter (ofW b.1))).high).getD ⟨0, 0, 0, 0, 0⟩).weekly ≤ topS t.sp t.busWeekly := by
    have htop := topS_ge t.sp t.busWeekly
    cases hs : spanOf t (sumW ((daysD t l m).filter (ofW b.1))).low (sumW ((daysD t l m).filter (ofW b.1))).high with
    | none => simp only [Option.getD_none]; omega
    | some s => simp only [Option.getD_some]; exact htop.2 s (spanOf_some hs).1
  have hmost : (sumW ((daysD t l m).filter (ofW b.1))).most ≤ ((m.filter (inW b.1)).countP nbB : Nat) * t.most := by
    have k1 := most_weekF ((daysD t l m).filter (ofW b.1)) dz
    have k2 := most_days hr (l := l) (m.filter (inW b.1)).length (m.filter (inW b.1)) hok2 (Nat.le_refl _) (by omega)
    have k3 : (daysN (m.filter (inW b.1)).length (m.filter (inW b.1))).map (dayD t l) = (daysD t l m).filter (ofW b.1) := hdf
    rw [k3] at k2
    have k4 : dz.most = 0 := rfl
    unfold sumW
    omega
  have htop := (topS_ge t.sp t.busWeekly).1
  simp only at hh
  rw [g2]
  unfold wkV
  omega

end Go.Proofs.YtjgbllfppomcmaaGreat

/- The walk of ChargeCaps. -/
namespace Go.Proofs.YtjgbllfppomcmaaGreat
open Go.RowKit

theorem tpV_snocK (l : List Tp) (x : Tp) : tpV (l ++ [x]) = tpV l ++ tpL x := by simp [tpV]
theorem tpL_oneK (x : Tp) : ∀ u ∈ tpL x, u.oneCell' = true := fun u hu => by simp only [tpL, List.mem_cons, List.not_mem_nil, or_false] at hu; rcases hu with rfl | rfl | rfl | rfl | rfl | rfl <;> rfl

/-- A row of taps of one's own, as it grows. -/
structure TLK (w0 w : World) (ao : Option Addr) (cap g : Nat) (L : List Tp) : Prop where
  row : KRow w ao cap g 6 (tpV L)
  new : 0 < cap → w0.heap.size ≤ g
  fr : Fr (fun _ => False) w0 w

theorem TLK.app {w0 w w2 w3 : World} {ao ao' : Option Addr} {cap g cap' g' : Nat} {L : List Tp} (h : TLK w0 w ao cap g L) (hf : Fr (fun _ => False) w w2) (x : Tp) (hr : KRow w3 ao' cap' g' 6 (tpV L ++ tpL x)) (hg : Grew w2 g cap w3 g' cap') : TLK w0 w3 ao' cap' g' (L ++ [x]) := by
  refine ⟨by rw [tpV_snocK]; exact hr, fun hc => ?_, ?_⟩
  · rcases hg with ⟨e, e2, _⟩ | ⟨e, _, _⟩
    · rw [e]; exact h.new (by omega)
    · have := h.fr.size; have := hf.size; omega
  · rcases hg with ⟨_, _, f⟩ | ⟨_, _, f⟩
    · exact (h.fr.trans hf (fun _ _ t => t)).trans f (fun i hi t => by have := h.new t.2; omega)
    · exact (h.fr.trans hf (fun _ _ t => t)).trans f (fun _ _ t => t)

theorem inW_step (W : Int) (m : List Tp) (i : Nat) (h : i < m.length) : (m.take (i + 1)).filter (inW W) = (m.take i).filter (inW W) ++ (if inW W m[i] then [m[i]] else []) := by
  rw [List.take_succ_eq_append_getElem h, List.filter_append]
  simp only [List.filter_cons, List.filter_nil]
theorem topS_step (l : List Spn) (a : Int) (i : Nat) (h : i < l.length) : topS (l.take (i + 1)) a = imax (topS (l.take i) a) l[i].weekly := by
  unfold topS
  rw [List.take_succ_eq_append_getElem h, List.foldl_append]
  rfl

/-- What the loop over taps holds. -/
def KRel (W : Int) (m : List Tp) (w3 wr : World) (i ln rl : Nat) (ao : Option Addr) (cap g : Nat) : Prop := ∃ L, TLK w3 wr ao cap g L ∧ L = (m.take i).filter (inW W) ∧ L.length = ln ∧ L.countP nbB = rl

set_option maxRecDepth 100000 in
set_option maxHeartbeats 8000000 in
theorem caps_walkE (w : World) (A : Ad) (t : Tf) (hT : TAt w A t) (ao1 : Option Addr) (cap1 : Nat) (l : List Ou) (hl : CAt w ao1 (ouV l)) (hln : l.length ≤ 140737488355328) (ao0 : Option Addr) (cap0 : Nat) (m : List Tp) (hm : CAt w ao0 (tpV m)) (hml : m.length ≤ 4398046511104) (hcap : m.length ≤ cap0) (p : Int) (hp1 : -9223372036854775808 ≤ p) (hp2 : p ≤ 9223372036854775807) :
    Calls Tryz.prog 5 #[tv A t, .slice ao1 l.length cap1, .slice ao0 m.length cap0, .int .i64 p] w fun e w' => e = .returned (.bool true) ∧ Fr (fun _ => False) w w' := by
  have RB1 := hide (fun (u : World) (hu : Fr (fun _ => False) w u) (bo : Option Addr) (bc : Nat) (k : List Tp) (hk : CAt u bo (tpV k)) (hkl : k.length ≤ 4398046511104) (hkc : k.length ≤ bc) => bills_any u A t (hT.keep hu) ao1 cap1 l (hl.keep hu) hln bo bc k hk hkl hkc)
  unfold OwedP at RB1
  have H := hide hm
  have HSP0 := hT.sp
  obtain ⟨aS, cS, aP, cP, aB, cB⟩ := A
  have HSP := hide HSP0
  clear HSP0
  have HTB := hide (TB.new w ⟨aS, cS, aP, cP, aB, cB⟩ t)
  obtain ⟨v, hv⟩ : ∃ v, v = w.alloc (.cells (tc ⟨aS, cS, aP, cP, aB, cB⟩ t) 27) := ⟨_, rfl⟩
  have hFv : Fr (fun _ => False) w v := by rw [hv]; exact (Fr.refl _ _).alloc _
  have HFV := hide hFv
  have HV := hide hv
  rw [← hv] at HTB
  obtain ⟨B, hB⟩ : ∃ B, B = w.heap.size := ⟨_, rfl⟩
  rw [← hB] at HTB
  have HBB := hide hB
  have HRT : Hid (owedE t l m = 0 → rightE t = 0 ∧ m.length ≤ 2000) := hide (fun e => by
    obtain ⟨h1, _, h3⟩ := owedE_zero e
    exact ⟨h1, ((rightT_zero m).1 h3).1⟩)
  have HIN := hide (owedL_in t l m)
  obtain ⟨P, hP⟩ : ∃ P, owedL t l m = P := ⟨_, rfl⟩
  have HCM : Hid (owedE t l m = 0 → ∀ b ∈ P, owedE t l (m.filter (inW b.1)) = 0 ∧ owedL t l (m.filter (inW b.1)) = [b] ∧ b.2 ≤ topS t.sp t.busWeekly + ((m.filter (inW b.1)).countP nbB : Nat) * t.most) := hide (fun e b hb => caps_math e (by rw [hP]; exact hb))
  have RB0 := hide (fun (u : World) (hu : Fr (fun _ => False) w u) => unhide RB1 u hu ao0 cap0 m ((unhide H).keep hu) hml hcap)
  rw [hP] at RB0 HIN
  clear hFv hv hT hm hB hl hln hP
  unfold tv at RB0 RB1 ⊢
  unfold tc at HV RB0 RB1 ⊢
  go_enter Tryz.func5, Tryz.ntmps5
  go_upto_region 1 with (fail)
  rw [← unhide HBB, ← unhide HV]
  clear HV HBB
  go_wp2_with fail
  refine (awake_anyE v).mono ?_
  rintro e w1 ⟨rfl, hF⟩
  have HF1 := hide ((unhide HFV).trans hF (fun _ _ t => t))
  replace HTB := hide ((unhide HTB).keep hF)
  clear hF HFV
  go_wp2_with (refine wpList_load_tariff rfl (.tmp 4) rfl (g := B) (A := ⟨aS, cS, aP, cP, aB, cB⟩) (t := t) rfl (unhide HTB) ?_)
  refine (unhide RB0 w1 (unhide HF1)).mono ?_
  rintro e w2 ⟨aa, ca, ga, rfl, hka, hga, hF⟩
  have HF2 := hide ((unhide HF1).trans hF (fun _ _ t => t))
  replace HTB := hide ((unhide HTB).keep hF)
  have HKA := hide hka.cat
  clear hF hka hga HF1 RB0
  by_cases he : owedE t l m = 0
  case neg =>
    obtain ⟨n1, hn1⟩ : ∃ n1, P.length = n1 := ⟨_, rfl⟩
    rw [hn1]
    have q2 : (owedE t l m == 0) = false := by simp [he]
    have q3 : (owedE t l m != 0) = true := by simp [he]
    clear he HRT HIN HCM HKA hn1 HTB RB1 H HSP
    generalize owedE t l m = E at *
    go_wp2
    go_ret
    exact ⟨rfl, unhide HF2⟩
  case pos =>
    obtain ⟨hr, hm2⟩ := unhide HRT he
    have HCM1 : Hid (∀ b ∈ P, owedE t l (m.filter (inW b.1)) = 0 ∧ owedL t l (m.filter (inW b.1)) = [b] ∧ b.2 ≤ topS t.sp t.busWeekly + ((m.filter (inW b.1)).countP nbB : Nat) * t.most) := hide (unhide HCM he)
    rw [he]
    by_cases h0 : P.length = 0
    case pos =>
      rw [h0]
      clear he HRT HIN HCM HKA HTB RB1 H HSP HCM1 hr hm2 h0
      go_wp2
      go_ret
      exact ⟨rfl, unhide HF2⟩
    case neg =>
      obtain ⟨q, hq0, hq1, hcase⟩ : ∃ q : Nat, (q : Int) ≤ 9223372036854775807 ∧ (p < 0 ∨ ¬ p < 0) ∧ ((p < 0 ∧ wrap64 (p + 1) = p + 1 ∧ -(p + 1) = (q : Int)) ∨ (¬ p < 0 ∧ p = (q : Int))) := by
        by_cases hpn : p < 0
        · exact ⟨(-(p + 1)).toNat, by omega, .inl hpn, .inl ⟨hpn, by unfold wrap64; omega, by omega⟩⟩
        · exact ⟨p.toNat, by omega, .inr hpn, .inr ⟨hpn, by omega⟩⟩
      have hlt : q % P.length < P.length := Nat.mod_lt _ (by omega)
      obtain ⟨b0, off0, hao, c0, c1⟩ := (unhide HKA).bl hlt
      subst hao
      have hb := unhide HCM1 _ (List.getElem_mem hlt)
      have hbi := (unhide HIN).2 _ (List.getElem_mem hlt)
      have hmod : (q : Int).tmod (P.length : Int) = ((q % P.length : Nat) : Int) := by rw [Int.tmod_eq_emod_of_nonneg (by omega)]; exact (Int.natCast_emod _ _).symm
      generalize P[q % P.length] = x at *
      generalize q % P.length = r at *
      obtain ⟨n1, hn1⟩ : ∃ n1, P.length = n1 := ⟨_, rfl⟩
      rw [hn1] at hlt hmod h0 ⊢
      obtain ⟨W, am⟩ := x
      simp only at c0 c1 hb hbi
      have HB := hide hb
      have HBI := hide hbi
      have HM2 := hide hm2
      have hrI : (r : Int) < (n1 : Int) := by omega
      have hn1I : (0 : Int) < (n1 : Int) := by omega
      have hnz : ((n1 : Int) == 0) = false := by simp; omega
      have hnz2 : ¬ (n1 : Int) = 0 := by omega
      have HMOST : Hid (0 ≤ t.most ∧ t.most ≤ 1048576) := hide (small_of hr).most
      have HBWK : Hid (0 ≤ t.busWeekly ∧ t.busWeekly ≤ 1048576) := hide (busWeekly_of hr)
      have HSPV : Hid (∀ s ∈ t.sp, 0 ≤ s.weekly ∧ s.weekly ≤ 1048576) := hide (fun s hs => ((small_of hr).sp s hs).2.2.2)
      have HSPL : Hid (t.sp.length ≤ 45) := hide (small_of hr).lP
      clear he HRT HIN HCM HKA HCM1 hr hb hbi hq1
      rcases hcase with ⟨k1, k2, k3⟩ | ⟨k1, k2⟩
      · have hq : -(p + 1) = (q : Int) := k3
        have hmod2 : -((p + 1).tmod (n1 : Int)) = (r : Int) := by rw [← Int.neg_tmod, hq]; exact hmod
        clear hq k3 hmod
        have hmod := hmod2
        go_upto_region 7 with (fail)
        clear k1 k2
        have HW3 : Hid (w2.heap.size = w2.heap.size) := hide rfl
        go_upto_region 8 with (fail)
        obtain ⟨w3, hw3⟩ : ∃ u, u = w2.alloc (.cells #[.int .i64 W, .int .i64 am] 43) := ⟨_, rfl⟩
        obtain ⟨X, hX⟩ : ∃ X, X = w2.heap.size := ⟨_, rfl⟩
        rw [← hw3, ← hX]
        have hF : Fr (fun _ => False) w2 w3 := by rw [hw3]; exact (Fr.refl _ _).alloc _
        have HXB : Hid (Bx w3 X #[.int .i64 W, .int .i64 am] 43) := hide (by rw [hw3, hX]; exact Bx.new _ _ _)
        have HF3 := hide ((unhide HF2).trans hF (fun _ _ t => t))
        have HTB3 := hide ((unhide HTB).keep hF)
        (try clear hmod2); clear hw3 hX hF HW3 HF2 HTB c0 c1 hmod hrI hn1I hnz hnz2 hlt h0
        obtain ⟨iz, hiz⟩ := info_of3 tInfo
        have HIZ := hide hiz
        obtain ⟨mn, hmn⟩ : ∃ mn, m.length = mn := ⟨_, rfl⟩
        have HMN := hide hmn
        rw [hmn] at hm2 ⊢
        clear hiz hmn
        have HST0 : Hid (KRel W m w3 w3 0 0 0 none 0 0) := hide ⟨[], ⟨KRow.nil _ _ _, fun h => absurd h (by omega), Fr.refl _ _⟩, rfl, rfl, rfl⟩
        go_wp2
        go_loopw [13, 14, 15, 16, 17] (fun ov rv iv _ _ wr => ∃ (i ln rl : Nat) (ao : Option Addr) (cap g : Nat), i ≤ mn ∧ ln ≤ i ∧ rl ≤ i ∧ ov = .slice ao ln cap ∧ rv = .int .i64 rl ∧ iv = .int .i64 i ∧ Hid (KRel W m w3 wr i ln rl ao cap g)) (fun _ _ iv _ _ _ => mn - (intOf iv).toNat)
        case atStart => exact ⟨0, 0, 0, none, 0, 0, Nat.zero_le _, Nat.le_refl _, Nat.le_refl _, rfl, rfl, rfl, HST0⟩
        case round =>
          obtain ⟨i, ln, rl, ao, cap, g, hi, hli, hri, rfl, rfl, rfl, HI⟩ := hrel
          clear HST0
          by_cases hil : i < mn
          · have hltI : (i : Int) < (mn : Int) := by omega
            have hmi : i < m.length := by have := unhide HMN; omega
            have HY := hide (inW_step W m i hmi)
            obtain ⟨L0, hTL0, _⟩ := unhide HI
            have HFI := hide hTL0.fr
            obtain ⟨b, off, rfl, c0, c1, c2, c3, c4, c5⟩ := (((unhide H).keep (unhide HF3)).keep (unhide HFI)).tp hmi
            obtain ⟨x, hx⟩ : ∃ x, m[i] = x := ⟨_, rfl⟩
            rw [hx] at HY c0 c1 c2 c3 c4 c5
            have HC3 := hide (fun (u : World) (hu : Fr (fun _ => False) w3 u) => (by
              obtain ⟨b', off', e1, _, _, _, d3, _⟩ := (((unhide H).keep (unhide HF3)).keep hu).tp hmi
              rw [hx] at d3
              injection e1 with e1
              injection e1 with e1 e2
              subst e1 e2
              exact d3 : u.cell? ⟨b, off + i * 6 + 3, none⟩ = some (.int .i64 x.kind)))
            have HIX := hide (And.intro hil (And.intro hm2 (And.intro hli hri)))
            clear hx hmi hTL0
            obtain ⟨x0, x1, x2, x3, x4, x5⟩ := x
            simp only at c0 c1 c2 c3 c4 c5
            simp only at HC3
            obtain ⟨dv, hdv⟩ : ∃ dv, dayV x5 = dv := ⟨_, rfl⟩
            obtain ⟨wv, hwv⟩ : ∃ wv, weekV dv = wv := ⟨_, rfl⟩
            have RDY := cday_any wr x5
            rw [hdv] at RDY
            generalize dayE x5 = de at *
            have HRW := hide (fun (u : World) => week_any u dv)
            rw [hwv] at HRW
            have HWK : Hid (weekV (dayV x5) = wv) := hide (by rw [hdv, hwv])
            have HRD := hide RDY
            clear hdv hwv RDY
            go_wp2_with fail
            refine (unhide HRD).mono ?_
            rintro e w4 ⟨rfl, hq⟩
            obtain rfl := hq.symm
            clear hq HRD
            have HXC : Hid (∀ u, Fr (fun _ => False) wr u → u.cell? ⟨X, 0, none⟩ = some (.int .i64 W)) := hide (fun u hu => ((unhide HXB).keep ((unhide HFI).trans hu (fun _ _ t => t))).cell 0)
            have d0 := unhide HXC wr (Fr.refl _ _)
            obtain ⟨cb, hcb⟩ : ∃ cb, (wv == W) = cb := ⟨_, rfl⟩
            have HCB := hide hcb
            go_upto_region 14 with (fail)
            go_cut [73] from 69 to 73 (fun cv wd => cv = .bool cb ∧ wd = wr.drew)
            case first =>
              go_region_held3 (fun u => u.cell? ⟨X, 0, none⟩ = some (.int .i64 W))
                ((refine unhide HXC _ ?_; repeat (first | (with_reducible exact Fr.refl _ _) | (with_reducible refine Fr.drew ?_))))
                ((go_at_call 19; refine (unhide HRW _).mono ?_; rintro e wa ⟨rfl, rfl⟩))
              all_goals
                go_wp2_with fail
                go_meet
                exact ⟨by first | rfl | rw [unhide HCB], rfl⟩
            case rest =>
              obtain ⟨rfl, rfl⟩ := hcut
              have hdr : Fr (fun _ => False) wr wr.drew := (Fr.refl _ _).drew
              obtain ⟨wc, hwc⟩ : ∃ x, x = wr.drew := ⟨_, rfl⟩
              rw [← hwc] at hdr ⊢
              have e0 := (hdr.cell (World.block_lt_of_cell? _ _ c0) (fun t => t)).trans c0
              have e1 := (hdr.cell (World.block_lt_of_cell? _ _ c1) (fun t => t)).trans c1
              have e2 := (hdr.cell (World.block_lt_of_cell? _ _ c2) (fun t => t)).trans c2
              have e3 := (hdr.cell (World.block_lt_of_cell? _ _ c3) (fun t => t)).trans c3
              have e4 := (hdr.cell (World.block_lt_of_cell? _ _ c4) (fun t => t)).trans c4
              have e5 := (hdr.cell (World.block_lt_of_cell? _ _ c5) (fun t => t)).trans c5
              have HDR := hide hdr
              clear hwc hdr c0 c1 c2 c3 c4 c5 d0 HXC HRW hcb
              cases cb with
              | false =>
                have HNX : Hid (KRel W m w3 wc (i + 1) ln rl ao cap g) := hide (by
                  obtain ⟨L, h1, h2, h3, h4⟩ := unhide HI
                  have hne : ¬ wv = W := by have := unhide HCB; simpa using this
                  have e : inW W ⟨x0, x1, x2, x3, x4, x5⟩ = false := by unfold inW; rw [unhide HWK]; simpa using hne
                  refine ⟨L, ⟨h1.row.keep (by omega) (unhide HDR), h1.new, h1.fr.trans (unhide HDR) (fun _ _ t => t)⟩, ?_, h3, h4⟩
                  rw [unhide HY, e, ← h2]
                  simp)
                clear HY HCB HI HDR HFI HC3 HWK e0 e1 e2 e3 e4 e5
                go_wp2
                exact ⟨⟨i + 1, ln, rl, ao, cap, g, by have := unhide HIX; omega, by have := unhide HIX; omega, by have := unhide HIX; omega, rfl, rfl, by go_num, HNX⟩, by have := unhide HIX; simp [intOf]; omega⟩
              | true =>
                have HY1 : Hid ((m.take (i + 1)).filter (inW W) = (m.take i).filter (inW W) ++ [⟨x0, x1, x2, x3, x4, x5⟩]) := hide (by
                  have hne : wv = W := by have := unhide HCB; simpa using this
                  have e : inW W ⟨x0, x1, x2, x3, x4, x5⟩ = true := by unfold inW; rw [unhide HWK]; simpa using hne
                  rw [unhide HY, e]
                  rfl)
                clear HY HCB HWK
                obtain ⟨L, h1, h2, h3, h4⟩ := unhide HI
                have HTL := hide h1
                have HL := hide (And.intro h2 (And.intro h3 h4))
                clear h1 h2 h3 h4 HI
                have HSR : Hid (Src Tryz.prog 6 29 (.slice (some ⟨wc.heap.size, 0, none⟩) 1 1) 1 [.int .i64 x0, .int .i64 x1, .string x2, .int .i64 x3, .int .i64 x4, .int .i64 x5] (wc.alloc (.cells #[.int .i64 x0, .int .i64 x1, .string x2, .int .i64 x3, .int .i64 x4, .int .i64 x5] 47))) := hide (src_one wc [.int .i64 x0, .int .i64 x1, .string x2, .int .i64 x3, .int .i64 x4, .int .i64 x5] 29 47 6 Tryz.underlying29 rfl (fun v hv => by simp only [List.mem_cons, List.not_mem_nil, or_false] at hv; rcases hv with rfl | rfl | rfl | rfl | rfl | rfl <;> rfl) (fun j => by rw [World.cell?_alloc_new]; exact List.getElem?_toArray.symm ▸ rfl))
                have HRW : Hid (KRow (wc.alloc (.cells #[.int .i64 x0, .int .i64 x1, .string x2, .int .i64 x3, .int .i64 x4, .int .i64 x5] 47)) ao cap g 6 (tpV L)) := hide ((unhide HTL).row.keep (by omega) ((unhide HDR).alloc _))
                have HVL : Hid ((tpV L).length = ln * 6) := hide (by rw [tpV_length, (unhide HL).2.1])
                go_wp2_with (at_builtin; refine wpList_append_krow _ rfl (.tmp 74) (.tmp 79) 29 29 rfl 47 iz _ 6 (by omega) Tryz.underlying29 (unhide HIZ).1 (unhide HIZ).2.1 rfl (unhide HIZ).2.2.1 rfl (unhide HRW) (unhide HVL) _ [.int .i64 x0, .int .i64 x1, .string x2, .int .i64 x3, .int .i64 x4, .int .i64 x5] 1 rfl (unhide HSR) (by rw [(unhide HIZ).2.2.2]; have := unhide HIX; omega) (by have := unhide HIX; omega) ?_)
                intro ao2 cap2 w5 g2 hrow hgr
                have hTL5 : TLK w3 w5 ao2 cap2 g2 (L ++ [⟨x0, x1, x2, x3, x4, x5⟩]) := (unhide HTL).app ((unhide HDR).alloc _) ⟨x0, x1, x2, x3, x4, x5⟩ hrow hgr
                have y3 := unhide HC3 w5 hTL5.fr
                have HTL5 := hide hTL5
                clear hrow hgr hTL5 HRW HSR HVL HTL HDR HFI HC3 e0 e1 e2 e3 e4 e5
                by_cases hk : x3 = 3
                · have kb : (x3 != 3) = false := by simp [hk]
                  have kb2 : (x3 == 3) = true := by simp [hk]
                  have HNX : Hid (KRel W m w3 w5 (i + 1) (ln + 1) rl ao2 cap2 g2) := hide (by
                    obtain ⟨h2, h3, h4⟩ := unhide HL
                    refine ⟨_, unhide HTL5, by rw [unhide HY1, ← h2], by rw [List.length_append, h3]; rfl, ?_⟩
                    rw [List.countP_append, h4]
                    simp [nbB, hk])
                  clear HL HTL5 HY1 hk
                  go_wp2
                  exact ⟨⟨i + 1, ln + 1, rl, ao2, cap2, g2, by have := unhide HIX; omega, by have := unhide HIX; omega, by have := unhide HIX; omega, rfl, rfl, by go_num, HNX⟩, by have := unhide HIX; simp [intOf]; omega⟩
                · have kb : (x3 != 3) = true := by simp [hk]
                  have kb2 : (x3 == 3) = false := by simp [hk]
                  have HNX : Hid (KRel W m w3 w5 (i + 1) (ln + 1) (rl + 1) ao2 cap2 g2) := hide (by
                    obtain ⟨h2, h3, h4⟩ := unhide HL
                    refine ⟨_, unhide HTL5, by rw [unhide HY1, ← h2], by rw [List.length_append, h3]; rfl, ?_⟩
                    rw [List.countP_append, h4]
                    simp [nbB, hk])
                  have hrI : (rl : Int) ≤ 2000 := by have := unhide HIX; omega
                  clear HL HTL5 HY1 hk
                  go_wp2
                  exact ⟨⟨i + 1, ln + 1, rl + 1, ao2, cap2, g2, by have := unhide HIX; omega, by have := unhide HIX; omega, by have := unhide HIX; omega, rfl, by go_num, by go_num, HNX⟩, by have := unhide HIX; simp [intOf]; omega⟩
          · obtain rfl : i = mn := by omega
            have hltn : ¬ (i : Int) < (i : Int) := by omega
            obtain ⟨L, ⟨hrow, hnew, hfr⟩, hLL, hLn, hLc⟩ := unhide HI
            rw [← unhide HMN, List.take_length] at hLL
            subst hLL
            have hrle := hrow.le
            rw [tpV_length, hLn] at hrle
            have hwf := (unhide HF3).trans hfr (fun _ _ t => t)
            obtain ⟨z1, z2, z3⟩ := unhide HB
            have RZ : Hid (∀ u, Fr (fun _ => False) wr u → Calls Tryz.prog 11 #[.agg #[.slice aS t.st.length cS, .slice aP t.sp.length cP, .slice aB t.bd.length cB, .float .f64 t.off, .int .i64 t.bus, .int .i64 t.busDaily, .int .i64 t.busWeekly, .int .i64 t.hopper, .int .i64 t.most, .int .i64 t.longest, .int .i64 t.change, .int .i64 t.passback, .int .i64 t.delay, .int .i64 t.threshold], .slice ao1 l.length cap1, .slice ao ln cap] u fun e w' =>
                ∃ g c, e = .returned (.tuple #[.slice (some ⟨g, 0, none⟩) 1 c, .int .i64 0]) ∧ w'.cell? ⟨g, 0, none⟩ = some (.int .i64 W) ∧ w'.cell? ⟨g, 1, none⟩ = some (.int .i64 am) ∧ Fr (fun _ => False) u w') := hide (fun u hu => by
              have := unhide RB1 u (hwf.trans hu (fun _ _ t => t)) ao cap (m.filter (inW W)) (hrow.cat.keep hu) (by rw [hLn]; have := unhide HM2; omega) (by rw [hLn]; omega)
              rw [hLn, z1, z2] at this
              refine this.mono ?_
              rintro e w' ⟨oa, oc, og, rfl, hk, _, hf⟩
              have hle := hk.le
              have hcap : 0 < oc := by simp [blV, blL] at hle; omega
              refine ⟨og, oc, by rw [hk.ad hcap]; rfl, ?_, ?_, hf⟩
              · have := hk.cells 0 (by simp [blV, blL]); simpa [blV, blL] using this
              · have := hk.cells 1 (by simp [blV, blL]); simpa [blV, blL] using this)
            have HBND : Hid (am ≤ topS t.sp t.busWeekly + (rl : Int) * t.most) := hide (by rw [← hLc]; exact z3)
            have HRL : Hid (rl ≤ 2000) := hide (by have := unhide HM2; omega)
            have HTB5 := hide ((unhide HTB3).keep hfr)
            have HXB5 := hide ((unhide HXB).keep hfr)
            have HF5 := hide hwf
            have HSP5 := hide ((unhide HSP).keep hwf)
            have HTS := hide (topS_step t.sp t.busWeekly)
            have HSN := HSPL
            have HS00 : Hid (t.busWeekly = topS (t.sp.take 0) t.busWeekly ∧ 0 ≤ t.busWeekly ∧ t.busWeekly ≤ 1048576) := hide ⟨rfl, unhide HBWK⟩
            have HEND : Hid (t.sp.take t.sp.length = t.sp) := hide (List.take_length ..)
            obtain ⟨sn, hsn⟩ : ∃ sn, t.sp.length = sn := ⟨_, rfl⟩
            have HSNN := hide hsn
            have hsn45 : sn ≤ 45 := by have := unhide HSPL; omega
            have d6 : wr.cell? ⟨B, 6, none⟩ = some (.int .i64 t.busWeekly) := (unhide HTB5).cell 6
            have d1 : wr.cell? ⟨B, 1, none⟩ = some (.slice aP sn cP) := by rw [← hsn]; exact (unhide HTB5).cell 1
            have HD1 : Hid (∀ u, Fr (fun _ => False) wr u → u.cell? ⟨B, 1, none⟩ = some (.slice aP sn cP)) := hide (fun u hu => by rw [← hsn]; exact ((unhide HTB5).keep hu).cell 1)
            clear hrow hnew hfr hLn hLc hrle hwf z1 z2 z3 HI HTB3 HXB HF3 HSP HSPL HB RB1 H HMN HBWK HIZ hsn
            obtain ⟨w6, hw6⟩ : ∃ x, x = wr := ⟨_, rfl⟩
            subst hw6
            go_wp2
            go_loopw [18, 19] (fun av iv wr => ∃ (j : Nat) (a : Int), j ≤ sn ∧ av = .int .i64 a ∧ iv = .int .i64 j ∧ Hid (a = topS (t.sp.take j) t.busWeekly ∧ 0 ≤ a ∧ a ≤ 1048576) ∧ Hid (Fr (fun _ => False) w6 wr)) (fun _ iv _ => sn - (intOf iv).toNat)
            case atStart => exact ⟨0, t.busWeekly, Nat.zero_le _, rfl, rfl, HS00, hide (Fr.refl _ _)⟩
            case round =>
              obtain ⟨j, a, hj, rfl, rfl, HA, HJ⟩ := hrel
              clear HS00 d6 d1
              have d1 := unhide HD1 wr (unhide HJ)
              by_cases hjl : j < sn
              · have hltJ : (j : Int) < (sn : Int) := by omega
                have hjs : j < t.sp.length := by have := unhide HSNN; omega
                obtain ⟨sb, so, hsa, s0, s1, s2, s3, s4⟩ := ((unhide HSP5).keep (unhide HJ)).sp hjs
                subst hsa
                have hstep := unhide HTS j hjs
                have hsv := unhide HSPV _ (List.getElem_mem hjs)
                generalize t.sp[j] = y at *
                obtain ⟨y0, y1, y2, y4, y5⟩ := y
                simp only at s4 hstep hsv
                rw [← (unhide HA).1, imax_eq] at hstep
                have HSTP := hide hstep
                have HSV := hide (And.intro hsv (unhide HA).2)
                have HIX := hide hjl
                clear hstep hsv s0 s1 s2 s3 hjs HA
                by_cases hay : a < y5
                · have HNX : Hid (y5 = topS (t.sp.take (j + 1)) t.busWeekly ∧ 0 ≤ y5 ∧ y5 ≤ 1048576) := hide ⟨by rw [unhide HSTP]; omega, (unhide HSV).1⟩
                  clear HSTP HSV
                  go_wp2
                  exact ⟨⟨j + 1, y5, by have := unhide HIX; omega, rfl, by go_num, HNX, HJ⟩, by have := unhide HIX; simp [intOf]; omega⟩
                · have HNX : Hid (a = topS (t.sp.take (j + 1)) t.busWeekly ∧ 0 ≤ a ∧ a ≤ 1048576) := hide ⟨by rw [unhide HSTP]; omega, (unhide HSV).2⟩
                  clear HSTP HSV
                  go_wp2
                  exact ⟨⟨j + 1, a, by have := unhide HIX; omega, rfl, by go_num, HNX, HJ⟩, by have := unhide HIX; simp [intOf]; omega⟩
              · obtain rfl : j = sn := by omega
                have hltn2 : ¬ (j : Int) < (j : Int) := by omega
                have hav : a = topS t.sp t.busWeekly := by rw [(unhide HA).1, ← unhide HSNN, unhide HEND]
                have hab := (unhide HA).2
                have HTB7 := hide ((unhide HTB5).keep (unhide HJ))
                have HXB7 := hide ((unhide HXB5).keep (unhide HJ))
                have HF7 := hide ((unhide HF5).trans (unhide HJ) (fun _ _ t => t))
                have hbnd : am ≤ a + (rl : Int) * t.most := by rw [hav]; exact unhide HBND
                have hpm : 0 ≤ (rl : Int) * t.most ∧ (rl : Int) * t.most ≤ 2097152000 := by
                  have h1 := (unhide HMOST).1
                  have h2 := (unhide HMOST).2
                  have h3 := unhide HRL
                  refine ⟨Int.mul_nonneg (by omega) h1, ?_⟩
                  have : (rl : Int) * t.most ≤ 2000 * 1048576 := Int.mul_le_mul (by omega) h2 h1 (by omega)
                  omega
                have HBD := hide (And.intro hbnd (And.intro hab hpm))
                have RZ7 := hide (unhide RZ wr (unhide HJ))
                clear hav hab hbnd hpm HA HTS HSPV HBND HD1 HSP5 HTB5 HXB5 HF5 RZ HEND HMOST HRL HSNN HJ
                go_wp2_with (refine wpList_load_tariff rfl (.tmp 4) rfl (g := B) (A := ⟨aS, cS, aP, cP, aB, cB⟩) (t := t) rfl (unhide HTB7) ?_)
                refine (unhide RZ7).mono ?_
                rintro e w8 ⟨gz, cz, rfl, g0, g1, hF⟩
                have HF8 := hide ((unhide HF7).trans hF (fun _ _ t => t))
                have x0 : w8.cell? ⟨X, 0, none⟩ = some (.int .i64 W) := ((unhide HXB7).keep hF).cell 0
                have x1 : w8.cell? ⟨X, 1, none⟩ = some (.int .i64 am) := ((unhide HXB7).keep hF).cell 1
                have d8 : w8.cell? ⟨B, 8, none⟩ = some (.int .i64 t.most) := ((unhide HTB7).keep hF).cell 8
                have q1 := egBl
                have q2 := eqBl
                clear hF HTB7 HXB7 HF7 RZ7
                obtain ⟨hbnd, hab, hpm⟩ := unhide HBD
                obtain ⟨tm, htm⟩ : ∃ tm, t.most = tm := ⟨_, rfl⟩
                rw [htm] at d8 hbnd hpm
                obtain ⟨PM, hPM⟩ : ∃ PM, (rl : Int) * tm = PM := ⟨_, rfl⟩
                rw [hPM] at hbnd hpm
                have v1 : IntKind.i64.wrap ((rl : Int) * tm) = PM := by rw [hPM, IntKind.wrap_i64]; omega
                have v1b : wrap64 ((rl : Int) * tm) = PM := by rw [hPM]; unfold wrap64; omega
                obtain ⟨TT, hTT⟩ : ∃ TT, a + PM = TT := ⟨_, rfl⟩
                have v2 : IntKind.i64.wrap (a + PM) = TT := by rw [IntKind.wrap_i64, ← hTT]; omega
                have v2b : wrap64 (a + PM) = TT := by rw [← hTT]; unfold wrap64; omega
                rw [hTT] at hbnd
                clear hPM HBD htm hTT hab hpm
                go_upto_region 24 with (fail)
                go_quiet (fail)
                go_wp2
                go_ret
                exact ⟨by first | rfl | simp [*], hide ((unhide HF8).drewN _) |> unhide⟩
      · subst k2
        go_upto_region 7 with (fail)
        clear k1
        have HW3 : Hid (w2.heap.size = w2.heap.size) := hide rfl
        go_upto_region 8 with (fail)
        obtain ⟨w3, hw3⟩ : ∃ u, u = w2.alloc (.cells #[.int .i64 W, .int .i64 am] 43) := ⟨_, rfl⟩
        obtain ⟨X, hX⟩ : ∃ X, X = w2.heap.size := ⟨_, rfl⟩
        rw [← hw3, ← hX]
        have hF : Fr (fun _ => False) w2 w3 := by rw [hw3]; exact (Fr.refl _ _).alloc _
        have HXB : Hid (Bx w3 X #[.int .i64 W, .int .i64 am] 43) := hide (by rw [hw3, hX]; exact Bx.new _ _ _)
        have HF3 := hide ((unhide HF2).trans hF (fun _ _ t => t))
        have HTB3 := hide ((unhide HTB).keep hF)
        (try clear hmod2); clear hw3 hX hF HW3 HF2 HTB c0 c1 hmod hrI hn1I hnz hnz2 hlt h0
        obtain ⟨iz, hiz⟩ := info_of3 tInfo
        have HIZ := hide hiz
        obtain ⟨mn, hmn⟩ : ∃ mn, m.length = mn := ⟨_, rfl⟩
        have HMN := hide hmn
        rw [hmn] at hm2 ⊢
        clear hiz hmn
        have HST0 : Hid (KRel W m w3 w3 0 0 0 none 0 0) := hide ⟨[], ⟨KRow.nil _ _ _, fun h => absurd h (by omega), Fr.refl _ _⟩, rfl, rfl, rfl⟩
        go_wp2
        go_loopw [13, 14, 15, 16, 17] (fun ov rv iv _ _ wr => ∃ (i ln rl : Nat) (ao : Option Addr) (cap g : Nat), i ≤ mn ∧ ln ≤ i ∧ rl ≤ i ∧ ov = .slice ao ln cap ∧ rv = .int .i64 rl ∧ iv = .int .i64 i ∧ Hid (KRel W m w3 wr i ln rl ao cap g)) (fun _ _ iv _ _ _ => mn - (intOf iv).toNat)
        case atStart => exact ⟨0, 0, 0, none, 0, 0, Nat.zero_le _, Nat.le_refl _, Nat.le_refl _, rfl, rfl, rfl, HST0⟩
        case round =>
          obtain ⟨i, ln, rl, ao, cap, g, hi, hli, hri, rfl, rfl, rfl, HI⟩ := hrel
          clear HST0
          by_cases hil : i < mn
          · have hltI : (i : Int) < (mn : Int) := by omega
            have hmi : i < m.length := by have := unhide HMN; omega
            have HY := hide (inW_step W m i hmi)
            obtain ⟨L0, hTL0, _⟩ := unhide HI
            have HFI := hide hTL0.fr
            obtain ⟨b, off, rfl, c0, c1, c2, c3, c4, c5⟩ := (((unhide H).keep (unhide HF3)).keep (unhide HFI)).tp hmi
            obtain ⟨x, hx⟩ : ∃ x, m[i] = x := ⟨_, rfl⟩
            rw [hx] at HY c0 c1 c2 c3 c4 c5
            have HC3 := hide (fun (u : World) (hu : Fr (fun _ => False) w3 u) => (by
              obtain ⟨b', off', e1, _, _, _, d3, _⟩ := (((unhide H).keep (unhide HF3)).keep hu).tp hmi
              rw [hx] at d3
              injection e1 with e1
              injection e1 with e1 e2
              subst e1 e2
              exact d3 : u.cell? ⟨b, off + i * 6 + 3, none⟩ = some (.int .i64 x.kind)))
            have HIX := hide (And.intro hil (And.intro hm2 (And.intro hli hri)))
            clear hx hmi hTL0
            obtain ⟨x0, x1, x2, x3, x4, x5⟩ := x
            simp only at c0 c1 c2 c3 c4 c5
            simp only at HC3
            obtain ⟨dv, hdv⟩ : ∃ dv, dayV x5 = dv := ⟨_, rfl⟩
            obtain ⟨wv, hwv⟩ : ∃ wv, weekV dv = wv := ⟨_, rfl⟩
            have RDY := cday_any wr x5
            rw [hdv] at RDY
            generalize dayE x5 = de at *
            have HRW := hide (fun (u : World) => week_any u dv)
            rw [hwv] at HRW
            have HWK : Hid (weekV (dayV x5) = wv) := hide (by rw [hdv, hwv])
            have HRD := hide RDY
            clear hdv hwv RDY
            go_wp2_with fail
            refine (unhide HRD).mono ?_
            rintro e w4 ⟨rfl, hq⟩
            obtain rfl := hq.symm
            clear hq HRD
            have HXC : Hid (∀ u, Fr (fun _ => False) wr u → u.cell? ⟨X, 0, none⟩ = some (.int .i64 W)) := hide (fun u hu => ((unhide HXB).keep ((unhide HFI).trans hu (fun _ _ t => t))).cell 0)
            have d0 := unhide HXC wr (Fr.refl _ _)
            obtain ⟨cb, hcb⟩ : ∃ cb, (wv == W) = cb := ⟨_, rfl⟩
            have HCB := hide hcb
            go_upto_region 14 with (fail)
            go_cut [73] from 69 to 73 (fun cv wd => cv = .bool cb ∧ wd = wr.drew)
            case first =>
              go_region_held3 (fun u => u.cell? ⟨X, 0, none⟩ = some (.int .i64 W))
                ((refine unhide HXC _ ?_; repeat (first | (with_reducible exact Fr.refl _ _) | (with_reducible refine Fr.drew ?_))))
                ((go_at_call 19; refine (unhide HRW _).mono ?_; rintro e wa ⟨rfl, rfl⟩))
              all_goals
                go_wp2_with fail
                go_meet
                exact ⟨by first | rfl | rw [unhide HCB], rfl⟩
            case rest =>
              obtain ⟨rfl, rfl⟩ := hcut
              have hdr : Fr (fun _ => False) wr wr.drew := (Fr.refl _ _).drew
              obtain ⟨wc, hwc⟩ : ∃ x, x = wr.drew := ⟨_, rfl⟩
              rw [← hwc] at hdr ⊢
              have e0 := (hdr.cell (World.block_lt_of_cell? _ _ c0) (fun t => t)).trans c0
              have e1 := (hdr.cell (World.block_lt_of_cell? _ _ c1) (fun t => t)).trans c1
              have e2 := (hdr.cell (World.block_lt_of_cell? _ _ c2) (fun t => t)).trans c2
              have e3 := (hdr.cell (World.block_lt_of_cell? _ _ c3) (fun t => t)).trans c3
              have e4 := (hdr.cell (World.block_lt_of_cell? _ _ c4) (fun t => t)).trans c4
              have e5 := (hdr.cell (World.block_lt_of_cell? _ _ c5) (fun t => t)).trans c5
              have HDR := hide hdr
              clear hwc hdr c0 c1 c2 c3 c4 c5 d0 HXC HRW hcb
              cases cb with
              | false =>
                have HNX : Hid (KRel W m w3 wc (i + 1) ln rl ao cap g) := hide (by
                  obtain ⟨L, h1, h2, h3, h4⟩ := unhide HI
                  have hne : ¬ wv = W := by have := unhide HCB; simpa using this
                  have e : inW W ⟨x0, x1, x2, x3, x4, x5⟩ = false := by unfold inW; rw [unhide HWK]; simpa using hne
                  refine ⟨L, ⟨h1.row.keep (by omega) (unhide HDR), h1.new, h1.fr.trans (unhide HDR) (fun _ _ t => t)⟩, ?_, h3, h4⟩
                  rw [unhide HY, e, ← h2]
                  simp)
                clear HY HCB HI HDR HFI HC3 HWK e0 e1 e2 e3 e4 e5
                go_wp2
                exact ⟨⟨i + 1, ln, rl, ao, cap, g, by have := unhide HIX; omega, by have := unhide HIX; omega, by have := unhide HIX; omega, rfl, rfl, by go_num, HNX⟩, by have := unhide HIX; simp [intOf]; omega⟩
              | true =>
                have HY1 : Hid ((m.take (i + 1)).filter (inW W) = (m.take i).filter (inW W) ++ [⟨x0, x1, x2, x3, x4, x5⟩]) := hide (by
                  have hne : wv = W := by have := unhide HCB; simpa using this
                  have e : inW W ⟨x0, x1, x2, x3, x4, x5⟩ = true := by unfold inW; rw [unhide HWK]; simpa using hne
                  rw [unhide HY, e]
                  rfl)
                clear HY HCB HWK
                obtain ⟨L, h1, h2, h3, h4⟩ := unhide HI
                have HTL := hide h1
                have HL := hide (And.intro h2 (And.intro h3 h4))
                clear h1 h2 h3 h4 HI
                have HSR : Hid (Src Tryz.prog 6 29 (.slice (some ⟨wc.heap.size, 0, none⟩) 1 1) 1 [.int .i64 x0, .int .i64 x1, .string x2, .int .i64 x3, .int .i64 x4, .int .i64 x5] (wc.alloc (.cells #[.int .i64 x0, .int .i64 x1, .string x2, .int .i64 x3, .int .i64 x4, .int .i64 x5] 47))) := hide (src_one wc [.int .i64 x0, .int .i64 x1, .string x2, .int .i64 x3, .int .i64 x4, .int .i64 x5] 29 47 6 Tryz.underlying29 rfl (fun v hv => by simp only [List.mem_cons, List.not_mem_nil, or_false] at hv; rcases hv with rfl | rfl | rfl | rfl | rfl | rfl <;> rfl) (fun j => by rw [World.cell?_alloc_new]; exact List.getElem?_toArray.symm ▸ rfl))
                have HRW : Hid (KRow (wc.alloc (.cells #[.int .i64 x0, .int .i64 x1, .string x2, .int .i64 x3, .int .i64 x4, .int .i64 x5] 47)) ao cap g 6 (tpV L)) := hide ((unhide HTL).row.keep (by omega) ((unhide HDR).alloc _))
                have HVL : Hid ((tpV L).length = ln * 6) := hide (by rw [tpV_length, (unhide HL).2.1])
                go_wp2_with (at_builtin; refine wpList_append_krow _ rfl (.tmp 74) (.tmp 79) 29 29 rfl 47 iz _ 6 (by omega) Tryz.underlying29 (unhide HIZ).1 (unhide HIZ).2.1 rfl (unhide HIZ).2.2.1 rfl (unhide HRW) (unhide HVL) _ [.int .i64 x0, .int .i64 x1, .string x2, .int .i64 x3, .int .i64 x4, .int .i64 x5] 1 rfl (unhide HSR) (by rw [(unhide HIZ).2.2.2]; have := unhide HIX; omega) (by have := unhide HIX; omega) ?_)
                intro ao2 cap2 w5 g2 hrow hgr
                have hTL5 : TLK w3 w5 ao2 cap2 g2 (L ++ [⟨x0, x1, x2, x3, x4, x5⟩]) := (unhide HTL).app ((unhide HDR).alloc _) ⟨x0, x1, x2, x3, x4, x5⟩ hrow hgr
                have y3 := unhide HC3 w5 hTL5.fr
                have HTL5 := hide hTL5
                clear hrow hgr hTL5 HRW HSR HVL HTL HDR HFI HC3 e0 e1 e2 e3 e4 e5
                by_cases hk : x3 = 3
                · have kb : (x3 != 3) = false := by simp [hk]
                  have kb2 : (x3 == 3) = true := by simp [hk]
                  have HNX : Hid (KRel W m w3 w5 (i + 1) (ln + 1) rl ao2 cap2 g2) := hide (by
                    obtain ⟨h2, h3, h4⟩ := unhide HL
                    refine ⟨_, unhide HTL5, by rw [unhide HY1, ← h2], by rw [List.length_append, h3]; rfl, ?_⟩
                    rw [List.countP_append, h4]
                    simp [nbB, hk])
                  clear HL HTL5 HY1 hk
                  go_wp2
                  exact ⟨⟨i + 1, ln + 1, rl, ao2, cap2, g2, by have := unhide HIX; omega, by have := unhide HIX; omega, by have := unhide HIX; omega, rfl, rfl, by go_num, HNX⟩, by have := unhide HIX; simp [intOf]; omega⟩
                · have kb : (x3 != 3) = true := by simp [hk]
                  have kb2 : (x3 == 3) = false := by simp [hk]
                  have HNX : Hid (KRel W m w3 w5 (i + 1) (ln + 1) (rl + 1) ao2 cap2 g2) := hide (by
                    obtain ⟨h2, h3, h4⟩ := unhide HL
                    refine ⟨_, unhide HTL5, by rw [unhide HY1, ← h2], by rw [List.length_append, h3]; rfl, ?_⟩
                    rw [List.countP_append, h4]
                    simp [nbB, hk])
                  have hrI : (rl : Int) ≤ 2000 := by have := unhide HIX; omega
                  clear HL HTL5 HY1 hk
                  go_wp2
                  exact ⟨⟨i + 1, ln + 1, rl + 1, ao2, cap2, g2, by have := unhide HIX; omega, by have := unhide HIX; omega, by have := unhide HIX; omega, rfl, by go_num, by go_num, HNX⟩, by have := unhide HIX; simp [intOf]; omega⟩
          · obtain rfl : i = mn := by omega
            have hltn : ¬ (i : Int) < (i : Int) := by omega
            obtain ⟨L, ⟨hrow, hnew, hfr⟩, hLL, hLn, hLc⟩ := unhide HI
            rw [← unhide HMN, List.take_length] at hLL
            subst hLL
            have hrle := hrow.le
            rw [tpV_length, hLn] at hrle
            have hwf := (unhide HF3).trans hfr (fun _ _ t => t)
            obtain ⟨z1, z2, z3⟩ := unhide HB
            have RZ : Hid (∀ u, Fr (fun _ => False) wr u → Calls Tryz.prog 11 #[.agg #[.slice aS t.st.length cS, .slice aP t.sp.length cP, .slice aB t.bd.length cB, .float .f64 t.off, .int .i64 t.bus, .int .i64 t.busDaily, .int .i64 t.busWeekly, .int .i64 t.hopper, .int .i64 t.most, .int .i64 t.longest, .int .i64 t.change, .int .i64 t.passback, .int .i64 t.delay, .int .i64 t.threshold], .slice ao1 l.length cap1, .slice ao ln cap] u fun e w' =>
                ∃ g c, e = .returned (.tuple #[.slice (some ⟨g, 0, none⟩) 1 c, .int .i64 0]) ∧ w'.cell? ⟨g, 0, none⟩ = some (.int .i64 W) ∧ w'.cell? ⟨g, 1, none⟩ = some (.int .i64 am) ∧ Fr (fun _ => False) u w') := hide (fun u hu => by
              have := unhide RB1 u (hwf.trans hu (fun _ _ t => t)) ao cap (m.filter (inW W)) (hrow.cat.keep hu) (by rw [hLn]; have := unhide HM2; omega) (by rw [hLn]; omega)
              rw [hLn, z1, z2] at this
              refine this.mono ?_
              rintro e w' ⟨oa, oc, og, rfl, hk, _, hf⟩
              have hle := hk.le
              have hcap : 0 < oc := by simp [blV, blL] at hle; omega
              refine ⟨og, oc, by rw [hk.ad hcap]; rfl, ?_, ?_, hf⟩
              · have := hk.cells 0 (by simp [blV, blL]); simpa [blV, blL] using this
              · have := hk.cells 1 (by simp [blV, blL]); simpa [blV, blL] using this)
            have HBND : Hid (am ≤ topS t.sp t.busWeekly + (rl : Int) * t.most) := hide (by rw [← hLc]; exact z3)
            have HRL : Hid (rl ≤ 2000) := hide (by have := unhide HM2; omega)
            have HTB5 := hide ((unhide HTB3).keep hfr)
            have HXB5 := hide ((unhide HXB).keep hfr)
            have HF5 := hide hwf
            have HSP5 := hide ((unhide HSP).keep hwf)
            have HTS := hide (topS_step t.sp t.busWeekly)
            have HSN := HSPL
            have HS00 : Hid (t.busWeekly = topS (t.sp.take 0) t.busWeekly ∧ 0 ≤ t.busWeekly ∧ t.busWeekly ≤ 1048576) := hide ⟨rfl, unhide HBWK⟩
            have HEND : Hid (t.sp.take t.sp.length = t.sp) := hide (List.take_length ..)
            obtain ⟨sn, hsn⟩ : ∃ sn, t.sp.length = sn := ⟨_, rfl⟩
            have HSNN := hide hsn
            have hsn45 : sn ≤ 45 := by have := unhide HSPL; omega
            have d6 : wr.cell? ⟨B, 6, none⟩ = some (.int .i64 t.busWeekly) := (unhide HTB5).cell 6
            have d1 : wr.cell? ⟨B, 1, none⟩ = some (.slice aP sn cP) := by rw [← hsn]; exact (unhide HTB5).cell 1
            have HD1 : Hid (∀ u, Fr (fun _ => False) wr u → u.cell? ⟨B, 1, none⟩ = some (.slice aP sn cP)) := hide (fun u hu => by rw [← hsn]; exact ((unhide HTB5).keep hu).cell 1)
            clear hrow hnew hfr hLn hLc hrle hwf z1 z2 z3 HI HTB3 HXB HF3 HSP HSPL HB RB1 H HMN HBWK HIZ hsn
            obtain ⟨w6, hw6⟩ : ∃ x, x = wr := ⟨_, rfl⟩
            subst hw6
            go_wp2
            go_loopw [18, 19] (fun av iv wr => ∃ (j : Nat) (a : Int), j ≤ sn ∧ av = .int .i64 a ∧ iv = .int .i64 j ∧ Hid (a = topS (t.sp.take j) t.busWeekly ∧ 0 ≤ a ∧ a ≤ 1048576) ∧ Hid (Fr (fun _ => False) w6 wr)) (fun _ iv _ => sn - (intOf iv).toNat)
            case atStart => exact ⟨0, t.busWeekly, Nat.zero_le _, rfl, rfl, HS00, hide (Fr.refl _ _)⟩
            case round =>
              obtain ⟨j, a, hj, rfl, rfl, HA, HJ⟩ := hrel
              clear HS00 d6 d1
              have d1 := unhide HD1 wr (unhide HJ)
              by_cases hjl : j < sn
              · have hltJ : (j : Int) < (sn : Int) := by omega
                have hjs : j < t.sp.length := by have := unhide HSNN; omega
                obtain ⟨sb, so, hsa, s0, s1, s2, s3, s4⟩ := ((unhide HSP5).keep (unhide HJ)).sp hjs
                subst hsa
                have hstep := unhide HTS j hjs
                have hsv := unhide HSPV _ (List.getElem_mem hjs)
                generalize t.sp[j] = y at *
                obtain ⟨y0, y1, y2, y4, y5⟩ := y
                simp only at s4 hstep hsv
                rw [← (unhide HA).1, imax_eq] at hstep
                have HSTP := hide hstep
                have HSV := hide (And.intro hsv (unhide HA).2)
                have HIX := hide hjl
                clear hstep hsv s0 s1 s2 s3 hjs HA
                by_cases hay : a < y5
                · have HNX : Hid (y5 = topS (t.sp.take (j + 1)) t.busWeekly ∧ 0 ≤ y5 ∧ y5 ≤ 1048576) := hide ⟨by rw [unhide HSTP]; omega, (unhide HSV).1⟩
                  clear HSTP HSV
                  go_wp2
                  exact ⟨⟨j + 1, y5, by have := unhide HIX; omega, rfl, by go_num, HNX, HJ⟩, by have := unhide HIX; simp [intOf]; omega⟩
                · have HNX : Hid (a = topS (t.sp.take (j + 1)) t.busWeekly ∧ 0 ≤ a ∧ a ≤ 1048576) := hide ⟨by rw [unhide HSTP]; omega, (unhide HSV).2⟩
                  clear HSTP HSV
                  go_wp2
                  exact ⟨⟨j + 1, a, by have := unhide HIX; omega, rfl, by go_num, HNX, HJ⟩, by have := unhide HIX; simp [intOf]; omega⟩
              · obtain rfl : j = sn := by omega
                have hltn2 : ¬ (j : Int) < (j : Int) := by omega
                have hav : a = topS t.sp t.busWeekly := by rw [(unhide HA).1, ← unhide HSNN, unhide HEND]
                have hab := (unhide HA).2
                have HTB7 := hide ((unhide HTB5).keep (unhide HJ))
                have HXB7 := hide ((unhide HXB5).keep (unhide HJ))
                have HF7 := hide ((unhide HF5).trans (unhide HJ) (fun _ _ t => t))
                have hbnd : am ≤ a + (rl : Int) * t.most := by rw [hav]; exact unhide HBND
                have hpm : 0 ≤ (rl : Int) * t.most ∧ (rl : Int) * t.most ≤ 2097152000 := by
                  have h1 := (unhide HMOST).1
                  have h2 := (unhide HMOST).2
                  have h3 := unhide HRL
                  refine ⟨Int.mul_nonneg (by omega) h1, ?_⟩
                  have : (rl : Int) * t.most ≤ 2000 * 1048576 := Int.mul_le_mul (by omega) h2 h1 (by omega)
                  omega
                have HBD := hide (And.intro hbnd (And.intro hab hpm))
                have RZ7 := hide (unhide RZ wr (unhide HJ))
                clear hav hab hbnd hpm HA HTS HSPV HBND HD1 HSP5 HTB5 HXB5 HF5 RZ HEND HMOST HRL HSNN HJ
                go_wp2_with (refine wpList_load_tariff rfl (.tmp 4) rfl (g := B) (A := ⟨aS, cS, aP, cP, aB, cB⟩) (t := t) rfl (unhide HTB7) ?_)
                refine (unhide RZ7).mono ?_
                rintro e w8 ⟨gz, cz, rfl, g0, g1, hF⟩
                have HF8 := hide ((unhide HF7).trans hF (fun _ _ t => t))
                have x0 : w8.cell? ⟨X, 0, none⟩ = some (.int .i64 W) := ((unhide HXB7).keep hF).cell 0
                have x1 : w8.cell? ⟨X, 1, none⟩ = some (.int .i64 am) := ((unhide HXB7).keep hF).cell 1
                have d8 : w8.cell? ⟨B, 8, none⟩ = some (.int .i64 t.most) := ((unhide HTB7).keep hF).cell 8
                have q1 := egBl
                have q2 := eqBl
                clear hF HTB7 HXB7 HF7 RZ7
                obtain ⟨hbnd, hab, hpm⟩ := unhide HBD
                obtain ⟨tm, htm⟩ : ∃ tm, t.most = tm := ⟨_, rfl⟩
                rw [htm] at d8 hbnd hpm
                obtain ⟨PM, hPM⟩ : ∃ PM, (rl : Int) * tm = PM := ⟨_, rfl⟩
                rw [hPM] at hbnd hpm
                have v1 : IntKind.i64.wrap ((rl : Int) * tm) = PM := by rw [hPM, IntKind.wrap_i64]; omega
                have v1b : wrap64 ((rl : Int) * tm) = PM := by rw [hPM]; unfold wrap64; omega
                obtain ⟨TT, hTT⟩ : ∃ TT, a + PM = TT := ⟨_, rfl⟩
                have v2 : IntKind.i64.wrap (a + PM) = TT := by rw [IntKind.wrap_i64, ← hTT]; omega
                have v2b : wrap64 (a + PM) = TT := by rw [← hTT]; unfold wrap64; omega
                rw [hTT] at hbnd
                clear hPM HBD htm hTT hab hpm
                go_upto_region 24 with (fail)
                go_quiet (fail)
                go_wp2
                go_ret
                exact ⟨by first | rfl | simp [*], hide ((unhide HF8).drewN _) |> unhide⟩

end Go.Proofs.YtjgbllfppomcmaaGreat

namespace Go.Proofs.YtjgbllfppomcmaaGreat
open Go.ChangeShapes Go.WideShapes Go.ChangeAt Go.RowKit Go.Deep

namespace chargeCaps

set_option maxRecDepth 100000 in
theorem lifted (os : Os) (started : os.Started) (H : Type) (enc : TypeId × Value → H) :
    ReturnsInHanded {} Tryz.checked os 5 .any (Rows.chargeCapsSpec.pre6 enc Tryz.prog Tryz.f5 Rows.chargeCapsRow.domain false) (Rows.chargeCapsSpec.post enc Tryz.prog Tryz.f5 false true false false) := by
  refine returnsInHanded_of_change_sized (C := Tryz.checked) own started (by kernel_rfl) Tryz.func5
    (ChangeSpec.witness6 (enc := enc) (C := Tryz.checked) false ⟨#[], #[.agg #[.slice none 0 0, .slice none 0 0, .slice none 0 0, .float .f64 0, .int .i64 0, .int .i64 0, .int .i64 0, .int .i64 0, .int .i64 0, .int .i64 0, .int .i64 0, .int .i64 0, .int .i64 0, .int .i64 0], .slice none 0 0, .slice none 0 0, .int .i64 0], []⟩ 8 (by kernel_rfl) (by kernel_rfl) (by kernel_rfl) (by kernel_rfl)) ?_
  intro W base args ds gs before hval0 hW hcnd hsz0 _
  have hsz : (DataW.weightsEach Tryz.prog (Tryz.f5.params.toList ++ Rows.chargeCapsSpec.plain.varTypes Tryz.prog) (ds ++ gs)).all (· ≤ reachBytes) = true := hsz0
  have hval : ∀ (j : Nat) t v, Tryz.f5.params[j]? = some t → args[j]? = some v → Value.okWide Tryz.prog W .any base t v := hval0
  have hW' := hW
  obtain ⟨p, q, hA0, hV, rfl, hfz, hnd⟩ := hW
  have hA : DataW.TrodAll enc Tryz.prog W 0 (fun _ => true) true Tryz.f5.params.toList args.toList ds p := hA0
  rw [Tryz.params5] at hA hval hsz
  obtain ⟨v0, vs0, d0, ds0, p0, q0, hargs, rfl, rfl, h0, r0⟩ := trodAll_cons hA
  obtain ⟨v1, vs1, d1, ds1, p1, q1, rfl, rfl, rfl, h1, r1⟩ := trodAll_cons r0
  obtain ⟨v2, vs2, d2, ds2, p2, q2, rfl, rfl, rfl, h2, r2⟩ := trodAll_cons r1
  obtain ⟨v3, vs3, d3, ds3, p3, q3, rfl, rfl, rfl, h3, r3⟩ := trodAll_cons r2
  obtain ⟨rfl, rfl, rfl⟩ := trodAll_nil r3
  obtain rfl : args = #[v0, v1, v2, v3] := by cases args; simp_all
  obtain ⟨rfl, rfl⟩ := trodVars_none hV
  have k0 := h0
  have lt0 : ∀ x ∈ p0, x.block < W.heap.size := by obtain ⟨m, hm⟩ := k0; exact DataW.trod_lt m _ _ _ hm
  obtain ⟨A0, t0, rfl, hT0⟩ := open_arg (j := 0) (okWide_struct Tryz.underlying27 (hval 0 27 v0 rfl rfl)) h0 hsz rfl rfl
  have k1 := h1
  have lt1 : ∀ x ∈ p1, x.block < W.heap.size := by obtain ⟨m, hm⟩ := k1; exact DataW.trod_lt m _ _ _ hm
  obtain ⟨a1, c1, l1, rfl, hb1, hc1, hn1⟩ := arg_ous (j := 1) (okWide_slice Tryz.underlying28 (hval 1 28 v1 rfl rfl)) h1 hsz rfl rfl
  have k2 := h2
  have lt2 : ∀ x ∈ p2, x.block < W.heap.size := by obtain ⟨m, hm⟩ := k2; exact DataW.trod_lt m _ _ _ hm
  obtain ⟨a2, c2, l2, rfl, hb2, hc2, hn2⟩ := arg_taps (j := 2) (okWide_slice Tryz.underlying29 (hval 2 29 v2 rfl rfl)) h2 hsz rfl rfl
  obtain ⟨n3, rfl, rfl, rfl, w3⟩ := open_int Tryz.underlying3 (hval 3 3 v3 rfl rfl) h3
  clear hA0 hval0
  refine (caps_walkE W A0 t0 hT0 a1 c1 l1 hb1 (by omega) a2 c2 l2 hb2 (by omega) hc2 n3 (wf_le w3).2 (wf_le w3).1).mono fun e W' ⟨he, hfr⟩ => ?_
  subst he
  have bel : Below W.heap.size W W' := hfr.below (Nat.le_refl _) (fun k t => t.elim)
  exact ⟨_, rfl, _, _, _, [], _, [], hW', trodAll_mk1 (shut_bool Tryz.underlying4 _), (trodAll_cons_mk (Below.trod laidOut (by kernel_rfl) (of_decide_eq_true (by kernel_rfl)) k0 bel lt0) (trodAll_cons_mk (Below.trod laidOut (by kernel_rfl) (of_decide_eq_true (by kernel_rfl)) k1 bel lt1) (trodAll_cons_mk (Below.trod laidOut (by kernel_rfl) (of_decide_eq_true (by kernel_rfl)) k2 bel lt2) (trodAll_cons_mk (shut_int Tryz.underlying3 w3) trodAll_mk0)))), rfl, bel.frame _, fun h => by cases h⟩

theorem over : Rows.chargeCapsRow.holds Tryz.pinned (OpenSpec.ofChange Rows.chargeCapsSpec) :=
  OpenClaim.holds_of_wide 5 Tryz.f5 rfl rfl rfl rfl rfl rfl rfl ⟨rfl, rfl, rfl, rfl, rfl⟩ rfl rfl rfl rfl rfl (by kernel_rfl) Tryz.func5 (by kernel_rfl)
    (of_decide_eq_true (by kernel_rfl)) (by unfold Func.isWrapper; first | (rw [if_pos (by decide +kernel)]; kernel_rfl) | (rw [if_neg (by decide +kernel)]; exact ⟨rfl, rfl⟩))
    (fun os started H enc _ => lifted os started H enc)

end chargeCaps

/-- THE STATEMENT. -/
theorem chargeCaps_holds : Rows.ChargeCapsSaid := chargeCaps.over
#print axioms chargeCaps_holds
end Go.Proofs.YtjgbllfppomcmaaGreat

