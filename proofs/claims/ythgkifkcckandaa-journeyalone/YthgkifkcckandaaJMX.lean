import Derived.Test.YthgkifkcckandaaJNE
/- Journeys, what the laws ask: they lie within the taps, and a ride is free just soon behind one that is not. -/
namespace Go.Proofs.Ythgkifkcckandaa

theorem WOk.all {T : Tm} (hT : 0 ≤ T.lng) {l : List Tp} (h : RgtOk l) (h0 : 0 < l.length) : WOk T (l[0]'h0).time (l[l.length - 1]'(by omega)).time (walkedW T l).shut := by
  have hlo : ∀ (j : Nat) (hj : j < l.length), (l[0]'h0).time ≤ l[j].time := fun j hj => h.mono 0 j (by omega) hj
  obtain ⟨c, h1, h2⟩ := WOk.at hT h _ hlo (l.length - 1) (by omega)
  have h3 := (h1.take hT (l[l.length - 1]'(by omega)) (hlo _ (by omega)) (h2 _ (by omega) (Nat.le_refl _))).shut
  rw [← wkAt_succ T l (l.length - 1) (by omega), show l.length - 1 + 1 = l.length by omega, wkAt_all] at h3
  exact h3

def soonP (T : Tm) (j p : Jn) : Bool := decide (p.kind = 4) && !p.free && decide (j.st - p.st ≤ T.hop)
def soonB (T : Tm) (j : Jn) (l : List Jn) : Bool := l.any (soonP T j)

theorem soonB_succ (T : Tm) (j : Jn) (l : List Jn) (k : Nat) (h : k < l.length) : soonB T j (l.take (k + 1)) = (soonB T j (l.take k) || soonP T j l[k]) := by
  unfold soonB
  rw [List.take_succ_eq_append_getElem h, List.any_append]
  simp

theorem soonB_iff (T : Tm) (j : Jn) (l : List Jn) (i : Nat) (h : i ≤ l.length) : soonB T j (l.take i) = true ↔ ∃ (k : Nat) (p : Jn), k < i ∧ l[k]? = some p ∧ paidB p = true ∧ j.st - p.st ≤ T.hop := by
  unfold soonB
  rw [List.any_eq_true]
  constructor
  · rintro ⟨p, hp, hs⟩
    obtain ⟨k, hk, e⟩ := List.getElem_of_mem hp
    rw [List.length_take] at hk
    simp only [soonP, Bool.and_eq_true, decide_eq_true_eq] at hs
    refine ⟨k, p, by omega, ?_, ?_, hs.2⟩
    · rw [List.getElem_take] at e
      rw [List.getElem?_eq_getElem (by omega), e]
    · unfold paidB
      rw [Bool.and_eq_true, decide_eq_true_eq]
      exact hs.1
  · rintro ⟨k, p, hk, hp, hb, hs⟩
    have hkl := get_lt hp
    refine ⟨p, ?_, ?_⟩
    · rw [List.getElem?_eq_getElem hkl] at hp
      injection hp with hp
      have : (l.take i)[k]'(by rw [List.length_take]; omega) = p := by rw [List.getElem_take]; exact hp
      rw [← this]
      exact List.getElem_mem _
    · unfold paidB at hb
      simp only [soonP, Bool.and_eq_true, decide_eq_true_eq] at hb ⊢
      exact ⟨hb, hs⟩

/-- What JourneyLies asks of each journey. -/
theorem lies_math {T : Tm} (hT : 0 ≤ T.lng) {l : List Tp} (h : RgtOk l) {i : Nat} (hi : i < (walkedJ T l).length) :
    ∃ h0 : 0 < l.length, JOk T (l[0]'h0).time (l[l.length - 1]'(by omega)).time (walkedJ T l)[i] ∧ ((walkedJ T l)[i].kind = 4 → (walkedJ T l)[i].free = soonB T (walkedJ T l)[i] ((walkedJ T l).take i)) := by
  have h0 : 0 < l.length := by
    cases l with
    | nil => exact absurd hi (by simp [walkedJ, walkedW, wk0, Wk.shut])
    | cons x r => simp
  refine ⟨h0, ?_⟩
  have hW := WOk.all hT h h0
  have hget : (walkedW T l).shut.made[i]? = some (walkedJ T l)[i] := List.getElem?_eq_getElem hi
  refine ⟨hW.made _ (mem_of_get hget), fun hk => ?_⟩
  have h1 := hW.soon i _ hget hk
  have h2 := soonB_iff T (walkedJ T l)[i] (walkedJ T l) i (by omega)
  have h3 : (walkedJ T l)[i].free = true ↔ soonB T (walkedJ T l)[i] ((walkedJ T l).take i) = true := h1.trans h2.symm
  cases hf : (walkedJ T l)[i].free <;> cases hs : soonB T (walkedJ T l)[i] ((walkedJ T l).take i)
  · rfl
  · rw [hf, hs] at h3; simp at h3
  · rw [hf, hs] at h3; simp at h3
  · rfl

theorem walked_le (T : Tm) (l : List Tp) (hl : l.length ≤ 2000) : (walkedJ T l).length ≤ 4001 := by
  have h1 := wkAt_len T l l.length (Nat.le_refl _)
  rw [wkAt_all] at h1
  have h2 := shut_len (walkedW T l)
  show (walkedW T l).shut.made.length ≤ 4001
  omega

end Go.Proofs.Ythgkifkcckandaa

/- Journeys, how many of each kind there are. -/
namespace Go.Proofs.Ythgkifkcckandaa

def isK (k : Int) (j : Jn) : Bool := decide (j.kind = k)
def cntJ (k : Int) (l : List Jn) : Nat := l.countP (isK k)
def isBus (x : Tp) : Bool := decide (x.kind = 3)
def isEnt (T : Tm) (x : Tp) : Bool := !isBus x && (T.known x.place && decide (x.kind = 1))
def isExt (T : Tm) (x : Tp) : Bool := !isBus x && (!(T.known x.place && decide (x.kind = 1)) && T.known x.place)
def opn1 (s : Wk) : Nat := if s.opn.isSome then 1 else 0

theorem cntJ_snoc (k : Int) (l : List Jn) (j : Jn) : cntJ k (l ++ [j]) = cntJ k l + (if j.kind = k then 1 else 0) := by
  unfold cntJ
  rw [List.countP_append]
  by_cases h : j.kind = k <;> simp [isK, h]

theorem countP_set_same {α : Type} (p : α → Bool) (l : List α) (k : Nat) (y z : α) (hz : l[k]? = some z) (hy : p y = p z) : (l.set k y).countP p = l.countP p := by
  induction l generalizing k with
  | nil => simp at hz
  | cons b r ih =>
    cases k with
    | zero =>
      simp at hz
      subst hz
      rw [List.set_cons_zero, List.countP_cons, List.countP_cons, hy]
    | succ k =>
      simp at hz
      rw [List.set_cons_succ, List.countP_cons, List.countP_cons, ih k hz]

/-- What is counted, as taps are gone through. -/
structure CI (R E X : Nat) (s : Wk) : Prop where
  bus : cntJ 4 s.made = R
  sum : E + cntJ 3 s.made = X + cntJ 2 s.made + opn1 s
  ent : cntJ 1 s.made + cntJ 2 s.made + opn1 s ≤ E
  ext : cntJ 1 s.made + cntJ 3 s.made ≤ X

theorem CI.start : CI 0 0 0 wk0 := ⟨rfl, rfl, Nat.le_refl _, Nat.le_refl _⟩

theorem CI.shut {T : Tm} {lo c : Int} {R E X : Nat} {s : Wk} (h : CI R E X s) (hW : WOk T lo c s) : CI R E X s.shut ∧ opn1 s.shut = 0 := by
  obtain ⟨h1, h2, h3, h4⟩ := h
  unfold Wk.shut
  cases ho : s.opn with
  | none =>
    refine ⟨⟨h1, h2, h3, h4⟩, ?_⟩
    simp [opn1, ho]
  | some j =>
    have hk := (hW.opn j ho).2.1
    have ho1 : opn1 s = 1 := by simp [opn1, ho]
    rw [ho1] at h2 h3
    refine ⟨⟨?_, ?_, ?_, ?_⟩, rfl⟩ <;> simp only [cntJ_snoc, hk, opn1] <;> simp <;> omega

theorem CI.late {T : Tm} {lo c : Int} {R E X : Nat} {s : Wk} (h : CI R E X s) (hW : WOk T lo c s) (x : Tp) : CI R E (X + 1) (s.late x) := by
  obtain ⟨⟨h1, h2, h3, h4⟩, h0⟩ := h.shut hW
  rw [h0] at h2 h3
  have e : opn1 (s.late x) = 0 := h0
  refine ⟨?_, ?_, ?_, ?_⟩ <;> (try rw [e]) <;> unfold Wk.late Wk.put <;> simp only [cntJ_snoc, lone] <;> simp <;> omega

theorem CI.leave {T : Tm} {lo c : Int} {R E X : Nat} {s : Wk} (h : CI R E X s) (hW : WOk T lo c s) (x : Tp) : CI R E (X + 1) (s.leave T x) := by
  have hlate := h.late hW x
  obtain ⟨h1, h2, h3, h4⟩ := h
  unfold Wk.leave
  cases hb : s.begun with
  | none => exact hlate
  | some b =>
    simp only
    by_cases hlg : T.lng < x.time - b.st
    · rw [if_pos hlg]; exact hlate
    · rw [if_neg hlg]
      unfold Wk.begun at hb
      cases ho : s.opn with
      | none => rw [ho] at hb; cases hb
      | some j =>
        have ho1 : opn1 s = 1 := by simp [opn1, ho]
        rw [ho1] at h2 h3
        unfold Wk.done
        cases hg : s.again with
        | false =>
          simp only [Bool.false_eq_true, if_false]
          refine ⟨?_, ?_, ?_, ?_⟩ <;> simp only [cntJ_snoc, wholeJ, opn1] <;> simp <;> omega
        | true =>
          simp only [if_true]
          obtain ⟨b', hb', hk, _⟩ := hW.again j ho hg
          obtain ⟨k, hr, hmk⟩ := hW.lastAt hb'
          rw [hr]
          simp only [Option.getD_some]
          have hc : ∀ q, cntJ q (s.made.set k (wholeJ b x)) = cntJ q s.made := fun q => countP_set_same _ _ _ _ _ hmk (by unfold isK; rw [hk]; rfl)
          refine ⟨(hc 4).trans h1, ?_, ?_, ?_⟩
          · show E + cntJ 3 (s.made.set k (wholeJ b x)) = X + 1 + cntJ 2 (s.made.set k (wholeJ b x)) + 0
            rw [hc, hc]; omega
          · show cntJ 1 (s.made.set k (wholeJ b x)) + cntJ 2 (s.made.set k (wholeJ b x)) + 0 ≤ E
            rw [hc, hc]; omega
          · show cntJ 1 (s.made.set k (wholeJ b x)) + cntJ 3 (s.made.set k (wholeJ b x)) ≤ X + 1
            rw [hc, hc]; omega

theorem CI.take {T : Tm} {lo c : Int} {R E X : Nat} {s : Wk} (h : CI R E X s) (hW : WOk T lo c s) (x : Tp) (hx : 1 ≤ x.kind ∧ x.kind ≤ 3) :
    CI (R + (if isBus x then 1 else 0)) (E + (if isEnt T x then 1 else 0)) (X + (if isExt T x then 1 else 0)) (s.take T x) := by
  unfold Wk.take
  by_cases k3 : x.kind = 3
  · rw [if_pos k3]
    have e1 : isBus x = true := by simp [isBus, k3]
    have e2 : isEnt T x = false := by simp [isEnt, e1]
    have e3 : isExt T x = false := by simp [isExt, e1]
    rw [e1, e2, e3]
    obtain ⟨h1, h2, h3, h4⟩ := h
    unfold Wk.ride
    have e : ∀ (p : Option Jn), opn1 ⟨s.made ++ [rideJ T s x], s.rail, p, s.opn, s.again⟩ = opn1 s := fun _ => rfl
    refine ⟨?_, ?_, ?_, ?_⟩ <;> (try rw [e]) <;> simp only [cntJ_snoc, rideJ] <;> simp <;> omega
  · rw [if_neg k3]
    have e1 : isBus x = false := by simp [isBus, k3]
    cases hkn : T.known x.place with
    | false =>
      have e2 : isEnt T x = false := by simp [isEnt, hkn]
      have e3 : isExt T x = false := by simp [isExt, hkn]
      rw [e1, e2, e3]
      exact h
    | true =>
      simp only [if_true]
      by_cases k1 : x.kind = 1
      · rw [if_pos k1]
        have e2 : isEnt T x = true := by simp [isEnt, e1, hkn, k1]
        have e3 : isExt T x = false := by simp [isExt, hkn, k1]
        rw [e1, e2, e3]
        obtain ⟨⟨h1, h2, h3, h4⟩, h0⟩ := h.shut hW
        rw [h0] at h2 h3
        unfold Wk.enter
        refine ⟨?_, ?_, ?_, ?_⟩ <;> simp [opn1] <;> omega
      · rw [if_neg k1]
        have k2 : x.kind = 2 := by omega
        rw [if_pos k2]
        have e2 : isEnt T x = false := by simp [isEnt, k1]
        have e3 : isExt T x = true := by simp [isExt, e1, hkn, k1]
        rw [e1, e2, e3]
        exact h.leave hW x

theorem CI.at {T : Tm} (hT : 0 ≤ T.lng) {l : List Tp} (h : RgtOk l) (lo : Int) (hlo : ∀ (j : Nat) (hj : j < l.length), lo ≤ l[j].time) (i : Nat) (hi : i ≤ l.length) :
    CI ((l.take i).countP isBus) ((l.take i).countP (isEnt T)) ((l.take i).countP (isExt T)) (wkAt T l i) := by
  induction i with
  | zero => exact CI.start
  | succ i ih =>
    obtain ⟨c, hW, _⟩ := WOk.at hT h lo hlo i (by omega)
    have := (ih (by omega)).take hW (l[i]'(by omega)) (tap_kind (h.1 _ (List.getElem_mem _)))
    rw [wkAt_succ T l i (by omega)]
    rw [List.take_succ_eq_append_getElem (by omega), List.countP_append, List.countP_append, List.countP_append]
    simpa only [List.countP_singleton] using this

theorem counts_math {T : Tm} (hT : 0 ≤ T.lng) {l : List Tp} (h : RgtOk l) :
    l.countP isBus = cntJ 4 (walkedJ T l) ∧ l.countP (isEnt T) + cntJ 3 (walkedJ T l) = l.countP (isExt T) + cntJ 2 (walkedJ T l) ∧ cntJ 1 (walkedJ T l) + cntJ 2 (walkedJ T l) ≤ l.countP (isEnt T) ∧ cntJ 1 (walkedJ T l) + cntJ 3 (walkedJ T l) ≤ l.countP (isExt T) := by
  obtain ⟨lo, _, hlo, _⟩ := first_time h
  obtain ⟨c, hW, _⟩ := WOk.at hT h lo hlo l.length (Nat.le_refl _)
  have hC := CI.at hT h lo hlo l.length (Nat.le_refl _)
  rw [List.take_length] at hC
  obtain ⟨⟨h1, h2, h3, h4⟩, h0⟩ := hC.shut hW
  rw [wkAt_all] at h1 h2 h3 h4 h0
  rw [h0] at h2 h3
  exact ⟨h1.symm, h2, h3, h4⟩

theorem jkinds {T : Tm} (hT : 0 ≤ T.lng) {l : List Tp} (h : RgtOk l) {i : Nat} (hi : i < (walkedJ T l).length) : 1 ≤ (walkedJ T l)[i].kind ∧ (walkedJ T l)[i].kind ≤ 4 := by
  obtain ⟨_, h1, _⟩ := lies_math hT h hi
  exact ⟨h1.k1, h1.k4⟩

end Go.Proofs.Ythgkifkcckandaa

/- Journeys hang on time, kind and place of known taps alone; rides and journeys by rail don't see each other. -/
namespace Go.Proofs.Ythgkifkcckandaa

theorem take_like (T : Tm) (s : Wk) (x y : Tp) (h1 : x.kind = y.kind) (h2 : x.place = y.place) (h3 : x.time = y.time) : s.take T x = s.take T y := by
  obtain ⟨d, c, k, q, p, m⟩ := x
  obtain ⟨d', c', k', q', p', m'⟩ := y
  simp only at h1 h2 h3
  subst h1 h2 h3
  rfl

def keepT (T : Tm) (x : Tp) : Bool := T.known x.place || isBus x
def zTok : ByteArray := ⟨#[122, 122, 122, 122, 122, 122, 122, 122]⟩
def modT (k : Nat) (x : Tp) : Tp := ⟨9, 1 + (k : Int), zTok, x.kind, x.place, x.time⟩
/-- The known taps, by another device. -/
def othK (T : Tm) (l : List Tp) : Nat → List Tp
  | 0 => []
  | k + 1 => othK T l k ++ (match l[k]? with | some x => if keepT T x then [modT k x] else [] | none => [])

theorem othK_yes (T : Tm) (l : List Tp) (k : Nat) (h : k < l.length) (hk : keepT T l[k] = true) : othK T l (k + 1) = othK T l k ++ [modT k l[k]] := by
  show othK T l k ++ _ = _
  rw [List.getElem?_eq_getElem h]
  simp [hk]
theorem othK_no (T : Tm) (l : List Tp) (k : Nat) (h : k < l.length) (hk : keepT T l[k] = false) : othK T l (k + 1) = othK T l k := by
  show othK T l k ++ _ = _
  rw [List.getElem?_eq_getElem h]
  simp [hk]

theorem othK_len (T : Tm) (l : List Tp) (k : Nat) (h : k ≤ l.length) : (othK T l k).length ≤ k := by
  induction k with
  | zero => exact Nat.le_refl _
  | succ k ih =>
    have := ih (by omega)
    cases hk : keepT T (l[k]'(by omega)) with
    | true => rw [othK_yes T l k (by omega) hk]; simp; omega
    | false => rw [othK_no T l k (by omega) hk]; omega

theorem take_skip (T : Tm) (s : Wk) (x : Tp) (h : keepT T x = false) : s.take T x = s := by
  simp only [keepT, Bool.or_eq_false_iff, isBus, decide_eq_false_iff_not] at h
  unfold Wk.take
  rw [if_neg h.2, if_neg (by rw [h.1]; decide)]

theorem othK_walk (T : Tm) (l : List Tp) (k : Nat) (h : k ≤ l.length) : (othK T l k).foldl (Wk.take T) wk0 = wkAt T l k := by
  induction k with
  | zero => rfl
  | succ k ih =>
    rw [wkAt_succ T l k (by omega), ← ih (by omega)]
    cases hk : keepT T (l[k]'(by omega)) with
    | true =>
      rw [othK_yes T l k (by omega) hk, List.foldl_append]
      exact take_like T _ _ _ rfl rfl rfl
    | false => rw [othK_no T l k (by omega) hk, take_skip T _ _ hk]

/-- What each of them is. -/
theorem othK_mem (T : Tm) (l : List Tp) (k : Nat) (h : k ≤ l.length) : ∀ y ∈ othK T l k, ∃ (i : Nat) (hi : i < l.length), i < k ∧ y = modT i l[i] := by
  induction k with
  | zero => intro y hy; exact absurd hy (by simp [othK])
  | succ k ih =>
    intro y hy
    cases hk : keepT T (l[k]'(by omega)) with
    | true =>
      rw [othK_yes T l k (by omega) hk] at hy
      rcases List.mem_append.1 hy with hy | hy
      · obtain ⟨i, hi, h1, h2⟩ := ih (by omega) y hy; exact ⟨i, hi, by omega, h2⟩
      · rw [List.mem_singleton] at hy; exact ⟨k, by omega, by omega, hy⟩
    | false =>
      rw [othK_no T l k (by omega) hk] at hy
      obtain ⟨i, hi, h1, h2⟩ := ih (by omega) y hy; exact ⟨i, hi, by omega, h2⟩

theorem mod_ok {x : Tp} (h : tapOk x = true) {k : Nat} (hk : k ≤ 2000) : tapOk (modT k x) = true := by
  simp only [tapOk, Bool.and_eq_true, isIn_iff] at h ⊢
  obtain ⟨⟨⟨_, h2⟩, _⟩, h4⟩ := h
  refine ⟨⟨⟨⟨⟨by simp [modT], by simp [modT]⟩, by simp only [modT]; omega, by simp only [modT]; omega⟩, h2⟩, ?_⟩, h4⟩
  show isTok zTok = true
  decide +kernel

theorem mod_fol {x y : Tp} {i j : Nat} (h : x.time ≤ y.time) (hij : i < j) : folB (modT j y) (modT i x) = true := by
  rw [fol_iff, ord_lt]
  refine ⟨rfl, ?_⟩
  show x.time < y.time ∨ (x.time = y.time ∧ ((9 : Int) < 9 ∨ ((9 : Int) = 9 ∧ 1 + (i : Int) < 1 + (j : Int))))
  omega

theorem othK_ok {T : Tm} {l : List Tp} (h : RgtOk l) (hl : l.length ≤ 2000) (k : Nat) (hk : k ≤ l.length) : RgtOk (othK T l k) := by
  refine ⟨fun y hy => ?_, ?_⟩
  · obtain ⟨i, hi, h1, rfl⟩ := othK_mem T l k hk y hy
    exact mod_ok (h.1 _ (List.getElem_mem hi)) (by omega)
  · induction k with
    | zero => exact List.Pairwise.nil
    | succ k ih =>
      cases hkk : keepT T (l[k]'(by omega)) with
      | true =>
        rw [othK_yes T l k (by omega) hkk]
        refine List.pairwise_append.2 ⟨ih (by omega), List.pairwise_singleton _ _, fun a ha b hb => ?_⟩
        rw [List.mem_singleton] at hb
        subst hb
        obtain ⟨i, hi, h1, rfl⟩ := othK_mem T l k (by omega) a ha
        exact mod_fol (h.mono i k (by omega) (by omega)) h1
      | false => rw [othK_no T l k (by omega) hkk]; exact ih (by omega)

theorem othK_day {T : Tm} {l : List Tp} (h : RgtOk l) (hl : l.length ≤ 2000) (hd : OneDay l) (k : Nat) (hk : k ≤ l.length) : OneDay (othK T l k) := by
  refine (oneDay_iff (othK_ok h hl k hk)).2 fun x hx y hy => ?_
  obtain ⟨i, hi, _, rfl⟩ := othK_mem T l k hk x hx
  obtain ⟨j, hj, _, rfl⟩ := othK_mem T l k hk y hy
  exact (oneDay_iff h).1 hd l[i] (List.getElem_mem hi) l[j] (List.getElem_mem hj)

/-- The same journeys. -/
theorem alone_math {T : Tm} {l : List Tp} (hb : buildE 0 l = 0) : buildE 0 (othK T l l.length) = 0 ∧ buildJ T 0 (othK T l l.length) = walkedJ T l := by
  obtain ⟨_, h2, h3⟩ := (buildE_zero _ _).1 hb
  obtain ⟨hl, hok⟩ := (rightT_zero l).1 h2
  have e : buildE 0 (othK T l l.length) = 0 := (buildE_zero _ _).2 ⟨rfl, (rightT_zero _).2 ⟨by have := othK_len T l l.length (Nat.le_refl _); omega, othK_ok hok hl _ (Nat.le_refl _)⟩, othK_day hok hl h3 _ (Nat.le_refl _)⟩
  refine ⟨e, ?_⟩
  unfold buildJ walkedJ walkedW
  rw [if_pos e, othK_walk T l l.length (Nat.le_refl _), wkAt_all]
  rfl

end Go.Proofs.Ythgkifkcckandaa

