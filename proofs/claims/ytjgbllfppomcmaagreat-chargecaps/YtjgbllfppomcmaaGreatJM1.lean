import Derived.Test.YtjgbllfppomcmaaGreatJNX
/- Taps in order, the mathematics: what Right asks, of the taps and of some of them. -/
namespace Go.Proofs.YtjgbllfppomcmaaGreat

theorem cmpI_cases (a b : Int) : (a < b ∧ cmpI a b = -1) ∨ (a = b ∧ cmpI a b = 0) ∨ (b < a ∧ cmpI a b = 1) := by
  unfold cmpI
  by_cases h1 : a < b
  · exact .inl ⟨h1, by simp [h1]⟩
  · by_cases h2 : b < a
    · exact .inr (.inr ⟨h2, by simp [h1, h2]⟩)
    · exact .inr (.inl ⟨by omega, by simp [h1, h2]⟩)

theorem ord_lt (a b : Tp) : ordI a b < 0 ↔ a.time < b.time ∨ (a.time = b.time ∧ (a.dev < b.dev ∨ (a.dev = b.dev ∧ a.ctr < b.ctr))) := by
  unfold ordI
  rcases cmpI_cases a.time b.time with ⟨h1, e1⟩ | ⟨h1, e1⟩ | ⟨h1, e1⟩ <;> rcases cmpI_cases a.dev b.dev with ⟨h2, e2⟩ | ⟨h2, e2⟩ | ⟨h2, e2⟩ <;> rcases cmpI_cases a.ctr b.ctr with ⟨h3, e3⟩ | ⟨h3, e3⟩ | ⟨h3, e3⟩ <;> simp only [e1, e2, e3] <;> simp <;> omega

theorem fol_iff (x a : Tp) : folB x a = true ↔ x.tok.toList = a.tok.toList ∧ ordI a x < 0 := by
  unfold folB
  rw [Bool.and_eq_true, decide_eq_true_eq, beq_toListBytes, beq_iff_eq]
theorem fol_trans {a b c : Tp} (h1 : folB b a = true) (h2 : folB c b = true) : folB c a = true := by
  rw [fol_iff, ord_lt] at *
  exact ⟨h2.1.trans h1.1, by omega⟩
theorem fol_time {a b : Tp} (h : folB b a = true) : a.time ≤ b.time := by
  rw [fol_iff, ord_lt] at h
  omega

theorem tap_time {t : Tp} (h : tapOk t = true) : 0 ≤ t.time ∧ t.time ≤ 2147483648 := by
  simp only [tapOk, Bool.and_eq_true, isIn_iff] at h
  exact h.2
theorem tap_kind {t : Tp} (h : tapOk t = true) : 1 ≤ t.kind ∧ t.kind ≤ 3 := by
  simp only [tapOk, Bool.and_eq_true, isIn_iff] at h
  exact h.1.1.2.1

/-- Taps of a token, in order. -/
def RgtOk (l : List Tp) : Prop := (∀ x ∈ l, tapOk x = true) ∧ l.Pairwise (fun a x => folB x a = true)

theorem rgt_some (a : Tp) (l : List Tp) : rgt (some a) l = 0 ↔ (∀ x ∈ l, tapOk x = true ∧ folB x a = true) ∧ l.Pairwise (fun a x => folB x a = true) := by
  induction l generalizing a with
  | nil => simp [rgt]
  | cons x r ih =>
    unfold rgt
    by_cases h1 : tapOk x = true
    · by_cases h2 : folB x a = true
      · rw [if_pos h1, if_pos h2, ih x]
        constructor
        · rintro ⟨k1, k2⟩
          refine ⟨fun y hy => ?_, List.pairwise_cons.2 ⟨fun y hy => (k1 y hy).2, k2⟩⟩
          rcases List.mem_cons.1 hy with rfl | hy
          · exact ⟨h1, h2⟩
          · exact ⟨(k1 y hy).1, fol_trans h2 (k1 y hy).2⟩
        · rintro ⟨k1, k2⟩
          obtain ⟨k3, k4⟩ := List.pairwise_cons.1 k2
          exact ⟨fun y hy => ⟨(k1 y (List.mem_cons_of_mem _ hy)).1, k3 y hy⟩, k4⟩
      · rw [if_pos h1, if_neg h2]
        exact ⟨fun h => absurd h (by decide), fun h => absurd (h.1 x (List.mem_cons_self ..)).2 h2⟩
    · rw [if_neg h1]
      exact ⟨fun h => absurd h (by decide), fun h => absurd (h.1 x (List.mem_cons_self ..)).1 h1⟩

theorem rgt_none (l : List Tp) : rgt none l = 0 ↔ RgtOk l := by
  cases l with
  | nil => simp [rgt, RgtOk]
  | cons x r =>
    unfold rgt RgtOk
    by_cases h1 : tapOk x = true
    · rw [if_pos h1, rgt_some]
      constructor
      · rintro ⟨k1, k2⟩
        refine ⟨fun y hy => ?_, List.pairwise_cons.2 ⟨fun y hy => (k1 y hy).2, k2⟩⟩
        rcases List.mem_cons.1 hy with rfl | hy
        · exact h1
        · exact (k1 y hy).1
      · rintro ⟨k1, k2⟩
        obtain ⟨k3, k4⟩ := List.pairwise_cons.1 k2
        exact ⟨fun y hy => ⟨k1 y (List.mem_cons_of_mem _ hy), k3 y hy⟩, k4⟩
    · rw [if_neg h1]
      exact ⟨fun h => absurd h (by decide), fun h => absurd (h.1 x (List.mem_cons_self ..)) h1⟩

theorem rightT_zero (l : List Tp) : rightT l = 0 ↔ l.length ≤ 2000 ∧ RgtOk l := by
  unfold rightT
  by_cases h : 2000 < l.length
  · rw [if_pos h]; exact ⟨fun h => absurd h (by decide), fun k => by omega⟩
  · rw [if_neg h, rgt_none]; exact ⟨fun k => ⟨by omega, k⟩, fun k => k.2⟩

theorem RgtOk.sub {l m : List Tp} (h : RgtOk l) (hs : m.Sublist l) : RgtOk m := ⟨fun x hx => h.1 x (hs.subset hx), h.2.sublist hs⟩

theorem RgtOk.time {l : List Tp} (h : RgtOk l) (j : Nat) (hj : j < l.length) : 0 ≤ l[j].time ∧ l[j].time ≤ 2147483648 := tap_time (h.1 _ (List.getElem_mem hj))
theorem RgtOk.mono {l : List Tp} (h : RgtOk l) (i j : Nat) (hij : i ≤ j) (hj : j < l.length) : (l[i]'(by omega)).time ≤ l[j].time := by
  rcases Nat.lt_or_eq_of_le hij with h1 | rfl
  · exact fol_time (List.pairwise_iff_getElem.1 h.2 i j (by omega) hj h1)
  · exact Int.le_refl _

/-- Times of one travel day. -/
theorem dEnd_eq {t : Tp} (h : 0 ≤ t.time ∧ t.time ≤ 2147483648) : dEnd t = 1440 * ((t.time - 270) / 1440) + 1710 := by
  have h1 : timeB t.time = true := (timeB_iff _).2 h
  have e : dayV t.time = (t.time - 270) / 1440 := by simp [dayV, h1]
  have h2 : told (dayV t.time) = true := (told_iff _).2 (by rw [e]; omega)
  unfold dEnd toV
  rw [if_pos h2, e]

def OneDay (l : List Tp) : Prop := dayLn l = l.length

theorem takeWhile_all {α : Type} (p : α → Bool) (l : List α) : (l.takeWhile p).length = l.length ↔ ∀ x ∈ l, p x = true := by
  induction l with
  | nil => simp
  | cons b r ih =>
    rw [List.takeWhile_cons]
    cases hb : p b with
    | true => simp [hb, ih]
    | false => simp [hb]

theorem oneDay_iff {l : List Tp} (h : RgtOk l) : OneDay l ↔ ∀ x ∈ l, ∀ y ∈ l, (x.time - 270) / 1440 = (y.time - 270) / 1440 := by
  unfold OneDay
  cases l with
  | nil => simp [dayLn]
  | cons a r =>
    unfold dayLn
    rw [takeWhile_all]
    have ha := tap_time (h.1 a (List.mem_cons_self ..))
    have hge : ∀ x ∈ a :: r, a.time ≤ x.time := fun x hx => by
      obtain ⟨i, hi, rfl⟩ := List.getElem_of_mem hx
      exact h.mono 0 i (Nat.zero_le _) hi
    have hd := dEnd_eq ha
    constructor
    · intro k
      have key : ∀ x ∈ a :: r, (x.time - 270) / 1440 = (a.time - 270) / 1440 := fun x hx => by
        have := k x hx
        simp only [isLate, Bool.not_eq_true', decide_eq_false_iff_not, hd] at this
        have := hge x hx
        omega
      exact fun x hx y hy => (key x hx).trans (key y hy).symm
    · intro k x hx
      have := k x hx a (List.mem_cons_self ..)
      simp only [isLate, Bool.not_eq_true', decide_eq_false_iff_not, hd]
      omega

theorem OneDay.sub {l m : List Tp} (h : OneDay l) (hr : RgtOk l) (hs : m.Sublist l) : OneDay m :=
  (oneDay_iff (hr.sub hs)).2 fun x hx y hy => (oneDay_iff hr).1 h x (hs.subset hx) y (hs.subset hy)

/-- What Build answers. -/
def buildE (e : Int) (l : List Tp) : Int := if e ≠ 0 then e else if rightT l ≠ 0 then rightT l else if 0 < l.length ∧ dayLn l < l.length then 170 else 0
def buildJ (T : Tm) (e : Int) (l : List Tp) : List Jn := if buildE e l = 0 then walkedJ T l else []

theorem buildE_zero (e : Int) (l : List Tp) : buildE e l = 0 ↔ e = 0 ∧ rightT l = 0 ∧ OneDay l := by
  unfold buildE OneDay
  have := dayLn_le l
  by_cases h1 : e = 0
  · by_cases h2 : rightT l = 0
    · by_cases h3 : 0 < l.length ∧ dayLn l < l.length
      · simp [h1, h2, h3]; omega
      · simp [h1, h2, h3]; omega
    · simp [h1, h2]
  · simp [h1]

end Go.Proofs.YtjgbllfppomcmaaGreat

