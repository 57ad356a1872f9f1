import Derived.Test.YtjgbllfppomcmaaGreatKNX
import Derived.Test.YtjgbllfppomcmaaGreatJJ0
/- Journeys, the mathematics: what a day's taps come to, as functions, and what stays true as taps are gone through. No program is named here. -/
namespace Go.Proofs.YtjgbllfppomcmaaGreat

/-- What a walk asks of a tariff. -/
structure Tm where
  known : Int → Bool
  group : Int → Int
  hop : Int
  chg : Int
  lng : Int

/-- What a day has come to. -/
structure Wk where
  made : List Jn
  rail : Option Nat
  paid : Option Jn
  opn : Option Jn
  again : Bool

def lone (k : Int) (x : Tp) : Jn := ⟨k, x.place, x.place, x.time, x.time, false⟩
def wk0 : Wk := ⟨[], none, none, none, false⟩
def Wk.put (s : Wk) (j : Jn) : Wk := ⟨s.made ++ [j], some s.made.length, s.paid, s.opn, s.again⟩
def Wk.shut (s : Wk) : Wk :=
  match s.opn with
  | none => s
  | some j => ⟨s.made ++ [j], some s.made.length, s.paid, none, s.again⟩
def freeR (T : Tm) (s : Wk) (x : Tp) : Bool :=
  match s.paid with
  | none => false
  | some p => decide (x.time - p.st ≤ T.hop)
def rideJ (T : Tm) (s : Wk) (x : Tp) : Jn := ⟨4, x.place, x.place, x.time, x.time, freeR T s x⟩
def Wk.ride (T : Tm) (s : Wk) (x : Tp) : Wk := ⟨s.made ++ [rideJ T s x], s.rail, if freeR T s x then s.paid else some (rideJ T s x), s.opn, s.again⟩
def Wk.last (s : Wk) : Option Jn :=
  match s.rail with
  | none => none
  | some k => s.made[k]?
def leadsOn (T : Tm) (j : Jn) (x : Tp) : Bool :=
  decide (j.kind = 1) && decide (T.group j.to = T.group x.place) && (decide (x.time - j.en ≤ T.chg) && decide (x.time - j.st ≤ T.lng))
def mayChange (T : Tm) (s : Wk) (x : Tp) : Bool :=
  match s.last with
  | none => false
  | some j => decide (T.group x.place ≠ 0) && leadsOn T j x
def Wk.enter (T : Tm) (s : Wk) (x : Tp) : Wk := ⟨s.shut.made, s.shut.rail, s.shut.paid, some (lone 2 x), mayChange T s.shut x⟩
def Wk.begun (s : Wk) : Option Jn :=
  match s.opn with
  | none => none
  | some j => if s.again then s.last else some j
def wholeJ (b : Jn) (x : Tp) : Jn := ⟨1, b.fr, x.place, b.st, x.time, false⟩
def Wk.late (s : Wk) (x : Tp) : Wk := s.shut.put (lone 3 x)
def Wk.done (s : Wk) (j : Jn) : Wk :=
  if s.again then ⟨s.made.set (s.rail.getD 0) j, s.rail, s.paid, none, s.again⟩ else ⟨s.made ++ [j], some s.made.length, s.paid, none, s.again⟩
def Wk.leave (T : Tm) (s : Wk) (x : Tp) : Wk :=
  match s.begun with
  | none => s.late x
  | some b => if T.lng < x.time - b.st then s.late x else s.done (wholeJ b x)
def Wk.take (T : Tm) (s : Wk) (x : Tp) : Wk :=
  if x.kind = 3 then s.ride T x else if T.known x.place then (if x.kind = 1 then s.enter T x else if x.kind = 2 then s.leave T x else s) else s
def walkedW (T : Tm) (l : List Tp) : Wk := l.foldl (Wk.take T) wk0
def walkedJ (T : Tm) (l : List Tp) : List Jn := (walkedW T l).shut.made

/-- The place of the last one of a kind. -/
def IsLast (P : Jn → Bool) (l : List Jn) : Option Nat → Prop
  | none => ∀ (i : Nat) (j : Jn), l[i]? = some j → P j = false
  | some k => (∃ j, l[k]? = some j ∧ P j = true) ∧ ∀ (i : Nat) (j : Jn), k < i → l[i]? = some j → P j = false

theorem get_snoc {α : Type} {l : List α} {y j : α} {i : Nat} (h : (l ++ [y])[i]? = some j) : (i < l.length ∧ l[i]? = some j) ∨ (i = l.length ∧ j = y) := by
  rcases Nat.lt_trichotomy i l.length with hi | hi | hi
  · rw [List.getElem?_append_left hi] at h; exact .inl ⟨hi, h⟩
  · subst hi; simp at h; exact .inr ⟨rfl, h.symm⟩
  · rw [List.getElem?_append_right (by omega)] at h
    obtain ⟨n, hn⟩ : ∃ n, i - l.length = n + 1 := ⟨i - l.length - 1, by omega⟩
    rw [hn] at h; simp at h

theorem get_lt {α : Type} {l : List α} {j : α} {i : Nat} (h : l[i]? = some j) : i < l.length := (List.getElem?_eq_some_iff.1 h).1
theorem get_left {α : Type} {l : List α} {j : α} {i : Nat} (h : l[i]? = some j) (y : α) : (l ++ [y])[i]? = some j := by
  rw [List.getElem?_append_left (get_lt h)]; exact h
theorem get_new {α : Type} (l : List α) (y : α) : (l ++ [y])[l.length]? = some y := by simp

theorem get_set {α : Type} {l : List α} {y j : α} {k i : Nat} (h : (l.set k y)[i]? = some j) : (i = k ∧ j = y ∧ k < l.length) ∨ (i ≠ k ∧ l[i]? = some j) := by
  by_cases hk : k = i
  · subst hk
    have hl := get_lt h
    rw [List.length_set] at hl
    rw [List.getElem?_set_self hl] at h
    injection h with h
    exact .inl ⟨rfl, h.symm, hl⟩
  · rw [List.getElem?_set_ne hk] at h
    exact .inr ⟨fun e => hk e.symm, h⟩
theorem set_other {α : Type} {l : List α} {y j : α} {k i : Nat} (hk : i ≠ k) (h : l[i]? = some j) : (l.set k y)[i]? = some j := by
  rw [List.getElem?_set_ne (fun e => hk e.symm)]; exact h
theorem set_there {α : Type} {l : List α} {y : α} {k : Nat} (hk : k < l.length) : (l.set k y)[k]? = some y := List.getElem?_set_self hk

theorem IsLast.nil (P : Jn → Bool) : IsLast P [] none := fun i j h => by simp at h

theorem IsLast.snoc_no {P : Jn → Bool} {l : List Jn} {o : Option Nat} (h : IsLast P l o) {y : Jn} (hy : P y = false) : IsLast P (l ++ [y]) o := by
  cases o with
  | none =>
    intro i j hj
    rcases get_snoc hj with ⟨_, h1⟩ | ⟨_, rfl⟩
    · exact h i j h1
    · exact hy
  | some k =>
    obtain ⟨⟨j, h1, h2⟩, h3⟩ := h
    refine ⟨⟨j, get_left h1 y, h2⟩, fun i j' hi hj => ?_⟩
    rcases get_snoc hj with ⟨_, h4⟩ | ⟨_, rfl⟩
    · exact h3 i j' hi h4
    · exact hy

theorem IsLast.snoc_yes {P : Jn → Bool} {l : List Jn} {y : Jn} (hy : P y = true) : IsLast P (l ++ [y]) (some l.length) :=
  ⟨⟨y, get_new l y, hy⟩, fun i j hi hj => by
    rcases get_snoc hj with ⟨h1, _⟩ | ⟨h1, _⟩ <;> omega⟩

theorem IsLast.set {P : Jn → Bool} {l : List Jn} {o : Option Nat} (h : IsLast P l o) {y z : Jn} {k : Nat} (hz : l[k]? = some z) (hy : P y = P z) : IsLast P (l.set k y) o := by
  cases o with
  | none =>
    intro i j hj
    rcases get_set hj with ⟨_, rfl, _⟩ | ⟨_, h1⟩
    · rw [hy]; exact h k z hz
    · exact h i j h1
  | some m =>
    obtain ⟨⟨j, h1, h2⟩, h3⟩ := h
    refine ⟨?_, fun i j' hi hj => ?_⟩
    · by_cases e : m = k
      · subst e
        rw [hz] at h1
        injection h1 with h1
        subst h1
        exact ⟨y, set_there (get_lt hz), by rw [hy]; exact h2⟩
      · exact ⟨j, set_other e h1, h2⟩
    · rcases get_set hj with ⟨rfl, rfl, _⟩ | ⟨_, h4⟩
      · rw [hy]; exact h3 i z hi hz
      · exact h3 i j' hi h4

/-- There is one last place. -/
theorem IsLast.one {P : Jn → Bool} {l : List Jn} {o p : Option Nat} (h : IsLast P l o) (k : IsLast P l p) : o = p := by
  cases o with
  | none =>
    cases p with
    | none => rfl
    | some m => obtain ⟨⟨j, h1, h2⟩, _⟩ := k; rw [h m j h1] at h2; cases h2
  | some n =>
    obtain ⟨⟨j, h1, h2⟩, h3⟩ := h
    cases p with
    | none => rw [k n j h1] at h2; cases h2
    | some m =>
      obtain ⟨⟨i, k1, k2⟩, k3⟩ := k
      rcases Nat.lt_trichotomy n m with q | q | q
      · rw [h3 m i q k1] at k2; cases k2
      · rw [q]
      · rw [k3 n j q h1] at h2; cases h2

def railB (j : Jn) : Bool := decide (j.kind ≠ 4)
def paidB (j : Jn) : Bool := decide (j.kind = 4) && !j.free
def at? (l : List Jn) : Option Nat → Option Jn
  | none => none
  | some k => l[k]?

/-- A journey that may be, among taps from lo to c. -/
structure JOk (T : Tm) (lo c : Int) (j : Jn) : Prop where
  k1 : 1 ≤ j.kind
  k4 : j.kind ≤ 4
  lo : lo ≤ j.st
  le : j.st ≤ j.en
  hi : j.en ≤ c
  lng : j.en - j.st ≤ T.lng
  one : j.kind ≠ 1 → j.st = j.en ∧ j.fr = j.to
  free : j.free = true → j.kind = 4

theorem JOk.later {T : Tm} {lo c c' : Int} {j : Jn} (h : JOk T lo c j) (hc : c ≤ c') : JOk T lo c' j := ⟨h.k1, h.k4, h.lo, h.le, by have := h.hi; omega, h.lng, h.one, h.free⟩

theorem lone_ok {T : Tm} {lo c : Int} (k : Int) (x : Tp) (hT : 0 ≤ T.lng) (h1 : 1 ≤ k) (h4 : k ≤ 4) (hx : lo ≤ x.time) (hc : x.time ≤ c) : JOk T lo c (lone k x) :=
  ⟨h1, h4, hx, Int.le_refl _, hc, by simp only [lone]; omega, fun _ => ⟨rfl, rfl⟩, fun h => by cases h⟩

/-- What stays true. -/
structure WOk (T : Tm) (lo c : Int) (s : Wk) : Prop where
  made : ∀ j : Jn, j ∈ s.made → JOk T lo c j
  rail : IsLast railB s.made s.rail
  paid : ∃ o, IsLast paidB s.made o ∧ s.paid = at? s.made o
  opn : ∀ j : Jn, s.opn = some j → JOk T lo c j ∧ j.kind = 2 ∧ j.free = false
  again : ∀ j : Jn, s.opn = some j → s.again = true → ∃ b : Jn, s.last = some b ∧ b.kind = 1 ∧ j.st - b.st ≤ T.lng
  most : ∀ (p j : Jn), s.paid = some p → j ∈ s.made → paidB j = true → j.st ≤ p.st
  soon : ∀ (i : Nat) (j : Jn), s.made[i]? = some j → j.kind = 4 → (j.free = true ↔ ∃ (k : Nat) (p : Jn), k < i ∧ s.made[k]? = some p ∧ paidB p = true ∧ j.st - p.st ≤ T.hop)

theorem WOk.start (T : Tm) (lo : Int) : WOk T lo lo wk0 :=
  ⟨(fun j h => absurd h (by simp [wk0])), IsLast.nil _, ⟨none, IsLast.nil _, rfl⟩, (fun j h => nomatch h), (fun j h => nomatch h), (fun p j h => nomatch h), (fun i j h => absurd h (by simp [wk0]))⟩

theorem mem_of_get {α : Type} {l : List α} {j : α} {i : Nat} (h : l[i]? = some j) : j ∈ l := List.mem_of_getElem? h
theorem get_of_mem {α : Type} {l : List α} {j : α} (h : j ∈ l) : ∃ i : Nat, l[i]? = some j := List.getElem?_of_mem h

theorem WOk.later {T : Tm} {lo c c' : Int} {s : Wk} (h : WOk T lo c s) (hc : c ≤ c') : WOk T lo c' s :=
  ⟨fun j hj => (h.made j hj).later hc, h.rail, h.paid, fun j hj => ⟨(h.opn j hj).1.later hc, (h.opn j hj).2⟩, h.again, h.most, h.soon⟩

/-- The last ride that was paid is one of the journeys. -/
theorem WOk.paid_mem {T : Tm} {lo c : Int} {s : Wk} (h : WOk T lo c s) {p : Jn} (hp : s.paid = some p) : ∃ k : Nat, s.made[k]? = some p ∧ paidB p = true := by
  obtain ⟨o, h1, h2⟩ := h.paid
  rw [hp] at h2
  cases o with
  | none => cases h2
  | some k =>
    obtain ⟨⟨j, h3, h4⟩, _⟩ := h1
    have : s.made[k]? = some p := h2.symm
    rw [h3] at this
    injection this with this
    subst this
    exact ⟨k, h3, h4⟩
theorem WOk.paid_none {T : Tm} {lo c : Int} {s : Wk} (h : WOk T lo c s) (hp : s.paid = none) : ∀ (i : Nat) (j : Jn), s.made[i]? = some j → paidB j = false := by
  obtain ⟨o, h1, h2⟩ := h.paid
  rw [hp] at h2
  cases o with
  | none => exact h1
  | some k => obtain ⟨⟨j, h3, _⟩, _⟩ := h1; rw [show at? s.made (some k) = s.made[k]? from rfl, h3] at h2; cases h2

theorem at_snoc {l : List Jn} {o : Option Nat} {P : Jn → Bool} (h : IsLast P l o) (y : Jn) : at? (l ++ [y]) o = at? l o := by
  cases o with
  | none => rfl
  | some k => obtain ⟨⟨j, h3, _⟩, _⟩ := h; show (l ++ [y])[k]? = l[k]?; rw [h3, get_left h3]

/-- A journey by rail is put behind. -/
theorem WOk.snoc {T : Tm} {lo c : Int} {s : Wk} (h : WOk T lo c s) {j : Jn} (hj : JOk T lo c j) (hk : j.kind ≠ 4) (o : Option Jn) (ho : ∀ j : Jn, o = some j → JOk T lo c j ∧ j.kind = 2 ∧ j.free = false) (g : Bool)
    (hg : ∀ i : Jn, o = some i → g = true → j.kind = 1 ∧ i.st - j.st ≤ T.lng) : WOk T lo c ⟨s.made ++ [j], some s.made.length, s.paid, o, g⟩ := by
  have hr : railB j = true := by simp [railB, hk]
  have hp : paidB j = false := by simp [paidB, hk]
  refine ⟨fun i hi => ?_, IsLast.snoc_yes hr, ?_, ho, fun i hi hg' => ⟨j, get_new _ _, hg i hi hg'⟩, fun p i hpp hi hb => ?_, fun i k hi hk4 => ?_⟩
  · rcases List.mem_append.1 hi with h1 | h1
    · exact h.made i h1
    · rw [List.mem_singleton] at h1; subst h1; exact hj
  · obtain ⟨o', h1, h2⟩ := h.paid
    exact ⟨o', h1.snoc_no hp, by rw [at_snoc h1]; exact h2⟩
  · rcases List.mem_append.1 hi with h1 | h1
    · exact h.most p i hpp h1 hb
    · rw [List.mem_singleton] at h1; subst h1; rw [hp] at hb; cases hb
  · rcases get_snoc hi with ⟨h0, h1⟩ | ⟨_, rfl⟩
    · rw [h.soon i k h1 hk4]
      refine ⟨?_, ?_⟩
      · rintro ⟨m, p, m1, m2, m3⟩; exact ⟨m, p, m1, get_left m2 j, m3⟩
      · rintro ⟨m, p, m1, m2, m3⟩
        rcases get_snoc m2 with ⟨_, h3⟩ | ⟨h3, _⟩
        · exact ⟨m, p, m1, h3, m3⟩
        · omega
    · exact absurd hk4 hk

theorem WOk.shut {T : Tm} {lo c : Int} {s : Wk} (h : WOk T lo c s) : WOk T lo c s.shut := by
  unfold Wk.shut
  cases ho : s.opn with
  | none => exact h
  | some j =>
    obtain ⟨h1, h2, h3⟩ := h.opn j ho
    exact h.snoc h1 (by omega) none (fun j h => nomatch h) _ (fun i h => nomatch h)

theorem shut_opn (s : Wk) : s.shut.opn = none := by
  unfold Wk.shut
  cases ho : s.opn with
  | none => exact ho
  | some j => rfl

theorem WOk.late {T : Tm} {lo c : Int} {s : Wk} (h : WOk T lo c s) (hT : 0 ≤ T.lng) (x : Tp) (hl : lo ≤ x.time) (hx : x.time ≤ c) : WOk T lo c (s.late x) := by
  unfold Wk.late Wk.put
  have h1 := h.shut
  rw [shut_opn]
  exact h1.snoc (lone_ok 3 x hT (by omega) (by omega) hl hx) (by simp [lone]) none (fun j h => nomatch h) _ (fun i h => nomatch h)

theorem WOk.enter {T : Tm} {lo c : Int} {s : Wk} (h : WOk T lo c s) (hT : 0 ≤ T.lng) (x : Tp) (hl : lo ≤ x.time) (hx : x.time ≤ c) : WOk T lo c (s.enter T x) := by
  have h1 := h.shut
  unfold Wk.enter
  generalize s.shut = z at h1
  refine ⟨h1.made, h1.rail, h1.paid, fun j hj => ?_, fun j hj hg => ?_, h1.most, h1.soon⟩
  · injection hj with hj; subst hj; exact ⟨lone_ok 2 x hT (by omega) (by omega) hl hx, rfl, rfl⟩
  · injection hj with hj
    subst hj
    have hg' : mayChange T z x = true := hg
    unfold mayChange at hg'
    cases hb : z.last with
    | none => rw [hb] at hg'; cases hg'
    | some b =>
      rw [hb] at hg'
      simp only [leadsOn, Bool.and_eq_true, decide_eq_true_eq] at hg'
      refine ⟨b, ?_, hg'.2.1.1, hg'.2.2.2⟩
      show Wk.last ⟨z.made, z.rail, z.paid, _, _⟩ = some b
      unfold Wk.last at hb ⊢
      exact hb

theorem WOk.ride {T : Tm} {lo c : Int} {s : Wk} (h : WOk T lo c s) (hT : 0 ≤ T.lng) (x : Tp) (hl : lo ≤ x.time) (hx : x.time = c) : WOk T lo c (s.ride T x) := by
  have hr : railB (rideJ T s x) = false := by simp [railB, rideJ]
  have hJ : JOk T lo c (rideJ T s x) := ⟨by simp [rideJ], by simp [rideJ], hl, Int.le_refl _, by simp only [rideJ]; omega, by simp only [rideJ]; omega, fun _ => ⟨rfl, rfl⟩, fun _ => rfl⟩
  have hp : paidB (rideJ T s x) = !freeR T s x := by simp [paidB, rideJ]
  -- a ride is free just if the last paid one is near
  have hf : freeR T s x = true ↔ ∃ (k : Nat) (p : Jn), k < s.made.length ∧ s.made[k]? = some p ∧ paidB p = true ∧ x.time - p.st ≤ T.hop := by
    unfold freeR
    cases hq : s.paid with
    | none =>
      refine ⟨(fun h => nomatch h), ?_⟩
      rintro ⟨k, p, _, h2, h3, _⟩
      rw [h.paid_none hq k p h2] at h3; cases h3
    | some q =>
      obtain ⟨k, h1, h2⟩ := h.paid_mem hq
      simp only [decide_eq_true_eq]
      refine ⟨fun hh => ⟨k, q, get_lt h1, h1, h2, hh⟩, ?_⟩
      rintro ⟨m, p, _, h4, h5, h6⟩
      have := h.most q p hq (mem_of_get h4) h5
      omega
  unfold Wk.ride
  refine ⟨fun i hi => ?_, h.rail.snoc_no hr, ?_, h.opn, fun j hj hg => ?_, fun p i hpp hi hb => ?_, fun i k hi hk4 => ?_⟩
  · rcases List.mem_append.1 hi with h1 | h1
    · exact h.made i h1
    · rw [List.mem_singleton] at h1; subst h1; exact hJ
  · obtain ⟨o', h1, h2⟩ := h.paid
    cases hfr : freeR T s x with
    | true => exact ⟨o', h1.snoc_no (by rw [hp, hfr]; rfl), by rw [at_snoc h1]; exact h2⟩
    | false => exact ⟨some s.made.length, IsLast.snoc_yes (by rw [hp, hfr]; rfl), (get_new _ _).symm⟩
  · obtain ⟨b, h1, h2⟩ := h.again j hj hg
    refine ⟨b, ?_, h2⟩
    unfold Wk.last at h1 ⊢
    cases ho : s.rail with
    | none => rw [ho] at h1; cases h1
    | some k => rw [ho] at h1; exact get_left h1 _
  · rcases List.mem_append.1 hi with h1 | h1
    · cases hfr : freeR T s x with
      | true => rw [hfr] at hpp; exact h.most p i hpp h1 hb
      | false =>
        rw [hfr] at hpp
        simp only [Bool.false_eq_true, if_false, Option.some.injEq] at hpp
        subst hpp
        have := h.made i h1
        have h2 := this.hi
        have h3 := this.le
        show i.st ≤ x.time
        omega
    · rw [List.mem_singleton] at h1
      subst h1
      rw [hp] at hb
      cases hfr : freeR T s x with
      | true => rw [hfr] at hb; cases hb
      | false =>
        rw [hfr] at hpp
        simp only [Bool.false_eq_true, if_false, Option.some.injEq] at hpp
        subst hpp
        exact Int.le_refl _
  · rcases get_snoc hi with ⟨h0, h1⟩ | ⟨h0, rfl⟩
    · rw [h.soon i k h1 hk4]
      refine ⟨?_, ?_⟩
      · rintro ⟨m, p, m1, m2, m3⟩; exact ⟨m, p, m1, get_left m2 _, m3⟩
      · rintro ⟨m, p, m1, m2, m3⟩
        rcases get_snoc m2 with ⟨_, h3⟩ | ⟨h3, _⟩
        · exact ⟨m, p, m1, h3, m3⟩
        · omega
    · subst h0
      refine Iff.trans hf ?_
      refine ⟨?_, ?_⟩
      · rintro ⟨m, p, m1, m2, m3⟩; exact ⟨m, p, m1, get_left m2 _, m3⟩
      · rintro ⟨m, p, m1, m2, m3⟩
        rcases get_snoc m2 with ⟨h4, h3⟩ | ⟨h3, _⟩
        · exact ⟨m, p, h4, h3, m3⟩
        · omega

/-- Where a journey is open again, its place. -/
theorem WOk.lastAt {T : Tm} {lo c : Int} {s : Wk} (_h : WOk T lo c s) {b : Jn} (hb : s.last = some b) : ∃ k : Nat, s.rail = some k ∧ s.made[k]? = some b := by
  unfold Wk.last at hb
  cases ho : s.rail with
  | none => rw [ho] at hb; cases hb
  | some k => rw [ho] at hb; exact ⟨k, rfl, hb⟩

theorem WOk.leave {T : Tm} {lo c : Int} {s : Wk} (h : WOk T lo c s) (hT : 0 ≤ T.lng) (x : Tp) (hl : lo ≤ x.time) (hx : x.time = c) : WOk T lo c (s.leave T x) := by
  have hlate := h.late hT x hl (by omega)
  unfold Wk.leave
  cases hb : s.begun with
  | none => exact hlate
  | some b =>
    simp only
    by_cases hlg : T.lng < x.time - b.st
    · rw [if_pos hlg]; exact hlate
    · rw [if_neg hlg]
      unfold Wk.begun at hb
      cases ho : s.opn with
      | none => rw [ho] at hb; cases hb
      | some j =>
        rw [ho] at hb
        obtain ⟨j1, j2, j3⟩ := h.opn j ho
        unfold Wk.done
        cases hg : s.again with
        | false =>
          simp only [hg, Bool.false_eq_true, if_false, Option.some.injEq] at hb ⊢
          subst hb
          have hJ : JOk T lo c (wholeJ j x) := ⟨by simp [wholeJ], by simp [wholeJ], j1.lo, by simp only [wholeJ]; have := j1.hi; have := j1.le; omega, by simp only [wholeJ]; omega, by simp only [wholeJ]; omega, fun h => absurd rfl h, fun h => by cases h⟩
          exact h.snoc hJ (by simp [wholeJ]) none (fun j h => nomatch h) _ (fun i h => nomatch h)
        | true =>
          simp only [hg, if_true] at hb ⊢
          obtain ⟨b', hb', hk, _⟩ := h.again j ho hg
          rw [hb] at hb'
          injection hb' with hb'
          subst hb'
          obtain ⟨k, hr, hmk⟩ := h.lastAt hb
          have hbm := h.made b (mem_of_get hmk)
          have hJ : JOk T lo c (wholeJ b x) := ⟨by simp [wholeJ], by simp [wholeJ], hbm.lo, by simp only [wholeJ]; have := hbm.hi; have := hbm.le; omega, by simp only [wholeJ]; omega, by simp only [wholeJ]; omega, fun h => absurd rfl h, fun h => by cases h⟩
          have e1 : railB (wholeJ b x) = railB b := by simp [railB, wholeJ, hk]
          have e2 : paidB (wholeJ b x) = paidB b := by simp [paidB, wholeJ, hk]
          have hpb : paidB b = false := by simp [paidB, hk]
          rw [hr]
          simp only [Option.getD_some]
          refine ⟨fun i hi => ?_, ?_, ?_, (fun j h => nomatch h), (fun j h => nomatch h), fun p i hpp hi hb2 => ?_, fun i q hi hk4 => ?_⟩
          · rcases List.mem_or_eq_of_mem_set hi with h1 | h1
            · exact h.made i h1
            · subst h1; exact hJ
          · have := h.rail; rw [hr] at this; exact this.set hmk e1
          · obtain ⟨o', h1, h2⟩ := h.paid
            refine ⟨o', h1.set hmk e2, ?_⟩
            rw [show (Wk.mk (s.made.set k (wholeJ b x)) (some k) s.paid none true).paid = s.paid from rfl, h2]
            cases o' with
            | none => rfl
            | some m =>
              obtain ⟨⟨y, y1, y2⟩, _⟩ := h1
              have hne : m ≠ k := by rintro rfl; rw [hmk] at y1; injection y1 with y1; subst y1; rw [hpb] at y2; cases y2
              show s.made[m]? = (s.made.set k _)[m]?
              rw [y1, set_other hne y1]
          · rcases List.mem_or_eq_of_mem_set hi with h1 | h1
            · exact h.most p i hpp h1 hb2
            · subst h1; rw [e2, hpb] at hb2; cases hb2
          · rcases get_set hi with ⟨_, rfl, _⟩ | ⟨hne, h1⟩
            · simp [wholeJ] at hk4
            · rw [h.soon i q h1 hk4]
              refine ⟨?_, ?_⟩
              · rintro ⟨m, p, m1, m2, m3, m4⟩
                have hne : m ≠ k := by rintro rfl; rw [hmk] at m2; injection m2 with m2; subst m2; rw [hpb] at m3; cases m3
                exact ⟨m, p, m1, set_other hne m2, m3, m4⟩
              · rintro ⟨m, p, m1, m2, m3, m4⟩
                rcases get_set m2 with ⟨_, rfl, _⟩ | ⟨_, h3⟩
                · rw [e2, hpb] at m3; cases m3
                · exact ⟨m, p, m1, h3, m3, m4⟩

theorem WOk.take {T : Tm} {lo c : Int} {s : Wk} (h : WOk T lo c s) (hT : 0 ≤ T.lng) (x : Tp) (hl : lo ≤ x.time) (hc : c ≤ x.time) : WOk T lo x.time (s.take T x) := by
  have h' := h.later hc
  unfold Wk.take
  split
  · exact h'.ride hT x hl rfl
  · split
    · split
      · exact h'.enter hT x hl (Int.le_refl _)
      · split
        · exact h'.leave hT x hl rfl
        · exact h'
    · exact h'

end Go.Proofs.YtjgbllfppomcmaaGreat

