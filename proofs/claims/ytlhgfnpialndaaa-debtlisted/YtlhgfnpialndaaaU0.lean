import Derived.Test.YtlhgfnpialndaaaEX
/- Rising lists of texts: what stands in them says what they are; two gone through at once; one text put in. No program is named here. -/
namespace Go.Proofs.Ytlhgfnpialndaaa
open Go.RowKit

theorem toList_same {a b : ByteArray} (h : a.toList = b.toList) : a = b := by
  rw [ByteArray.toList_eq, ByteArray.toList_eq] at h
  exact ByteArray.ext (Array.toList_inj.mp h)
theorem eqS_iff {a b : ByteArray} : eqS a b = true ↔ a = b := by
  unfold eqS
  rw [beq_iff_eq]
  exact ⟨toList_same, fun h => by rw [h]⟩
theorem lt_irr (a : ByteArray) : ltS a a = false := less_irrefl _
theorem lt_tr {a b c : ByteArray} (h : ltS a b = true) (k : ltS b c = true) : ltS a c = true := less_trans _ _ _ h k
theorem lt_tot (a b : ByteArray) : ltS a b = true ∨ a = b ∨ ltS b a = true := (less_total a.toList b.toList).imp id (Or.imp toList_same id)
theorem lt_ne {a b : ByteArray} (h : ltS a b = true) : a ≠ b := fun e => by
  subst e
  rw [lt_irr] at h
  cases h
theorem lt_asym {a b : ByteArray} (h : ltS a b = true) : ltS b a = false := by
  cases k : ltS b a with
  | false => rfl
  | true => exact absurd rfl (lt_ne (lt_tr h k))
theorem memS_mem {l : List ByteArray} {s : ByteArray} : memS l s = true ↔ s ∈ l := by
  unfold memS
  rw [List.any_eq_true]
  exact ⟨fun ⟨x, hx, e⟩ => by rw [← eqS_iff.1 e]; exact hx, fun h => ⟨s, h, eqS_iff.2 rfl⟩⟩
theorem memS_not {l : List ByteArray} {s : ByteArray} : memS l s = false ↔ ¬ s ∈ l := by
  rw [← memS_mem, Bool.not_eq_true]
theorem memS_same {a b : List ByteArray} (h : ∀ x, x ∈ a ↔ x ∈ b) (s : ByteArray) : memS a s = memS b s := by
  rw [Bool.eq_iff_iff, memS_mem, memS_mem]
  exact h s

/-- Each ahead of all that stand behind it. -/
def Ris (l : List ByteArray) : Prop := l.Pairwise (fun a b => ltS a b = true)

theorem Ris.nil : Ris [] := List.Pairwise.nil
theorem Ris.cons {a : ByteArray} {l : List ByteArray} : Ris (a :: l) ↔ (∀ x ∈ l, ltS a x = true) ∧ Ris l := List.pairwise_cons
theorem Ris.not {a : ByteArray} {l : List ByteArray} (h : Ris (a :: l)) : ¬ a ∈ l := fun k => absurd rfl (lt_ne ((Ris.cons.1 h).1 a k))

/-- Two that rise, and have the same texts, are one. -/
theorem Ris.ext : ∀ {a b : List ByteArray}, Ris a → Ris b → (∀ x, x ∈ a ↔ x ∈ b) → a = b
  | [], [], _, _, _ => rfl
  | [], y :: _, _, _, h => absurd ((h y).2 (List.mem_cons_self ..)) (by simp)
  | x :: _, [], _, _, h => absurd ((h x).1 (List.mem_cons_self ..)) (by simp)
  | x :: a, y :: b, ha, hb, h => by
    have e : x = y := by
      rcases lt_tot x y with k | k | k
      · have h1 := (h x).1 (List.mem_cons_self ..)
        rcases List.mem_cons.1 h1 with e | h2
        · exact e
        · exact absurd rfl (lt_ne (lt_tr k ((Ris.cons.1 hb).1 x h2)))
      · exact k
      · have h1 := (h y).2 (List.mem_cons_self ..)
        rcases List.mem_cons.1 h1 with e | h2
        · exact e.symm
        · exact absurd rfl (lt_ne (lt_tr k ((Ris.cons.1 ha).1 y h2)))
    subst e
    have h2 : ∀ z, z ∈ a ↔ z ∈ b := fun z => by
      constructor
      · intro hz
        rcases List.mem_cons.1 ((h z).1 (List.mem_cons_of_mem _ hz)) with e | k
        · exact absurd (e ▸ hz) ha.not
        · exact k
      · intro hz
        rcases List.mem_cons.1 ((h z).2 (List.mem_cons_of_mem _ hz)) with e | k
        · exact absurd (e ▸ hz) hb.not
        · exact k
    rw [Ris.ext (Ris.cons.1 ha).2 (Ris.cons.1 hb).2 h2]

theorem listOk_iff {l : List ByteArray} : listOk l = true ↔ l.length ≤ 1000 ∧ (∀ x ∈ l, isTok x = true) ∧ Ris l := by
  constructor
  · intro h
    refine ⟨listOk_len h, fun x hx => ?_, List.pairwise_iff_getElem.2 fun i j hi hj hij => ?_⟩
    · obtain ⟨i, hi, rfl⟩ := List.mem_iff_getElem.1 hx
      have h1 := listOk_at h hi
      unfold okAt at h1
      rw [Bool.and_eq_true, getD_eq hi] at h1
      exact h1.1
    · have := rises h hij hj
      rw [getD_eq hi, getD_eq hj] at this
      exact this
  · rintro ⟨h1, h2, h3⟩
    refine listOk_all h1 fun k hk => ?_
    unfold okAt
    rw [getD_eq hk, h2 _ (List.getElem_mem hk), Bool.true_and]
    cases k with
    | zero => rfl
    | succ k =>
      have h4 : ltS l[k] l[k + 1] = true := List.pairwise_iff_getElem.1 h3 k (k + 1) (by omega) hk (by omega)
      rw [Nat.add_sub_cancel, getD_eq (show k < l.length by omega), lt_asym h4]
      have h5 : eqS l[k + 1] l[k] = false := by
        rw [← Bool.not_eq_true, eqS_iff]
        exact fun e => lt_ne h4 e.symm
      rw [h5]
      rfl

/-- Two lists gone through at once: those that are wanted, of which list they ever are. -/
def chF (p : Bool → Bool → Bool) : Nat → List ByteArray → List ByteArray → List ByteArray
  | 0, _, _ => []
  | _ + 1, [], [] => []
  | n + 1, [], b :: bs => (if p false true then [b] else []) ++ chF p n [] bs
  | n + 1, a :: ar, [] => (if p true false then [a] else []) ++ chF p n ar []
  | n + 1, a :: ar, b :: bs =>
    if ltS a b then (if p true false then [a] else []) ++ chF p n ar (b :: bs)
    else if eqS a b then (if p true true then [b] else []) ++ chF p n ar bs
    else (if p false true then [b] else []) ++ chF p n (a :: ar) bs
def chL (p : Bool → Bool → Bool) (a b : List ByteArray) : List ByteArray := chF p (a.length + b.length) a b

/-- Is a text wanted that stands in these of two lists? -/
def Want (p : Bool → Bool → Bool) (a b : List ByteArray) (x : ByteArray) : Prop := (x ∈ a ∨ x ∈ b) ∧ p (memS a x) (memS b x) = true

theorem mem_if {c : Bool} {a x : ByteArray} : x ∈ (if c then [a] else []) ↔ c = true ∧ x = a := by
  cases c <;> simp

theorem memS_cons (a : ByteArray) (l : List ByteArray) (x : ByteArray) : memS (a :: l) x = (eqS a x || memS l x) := rfl
theorem eqS_self (a : ByteArray) : eqS a a = true := eqS_iff.2 rfl
theorem eqS_not {a b : ByteArray} (h : a ≠ b) : eqS a b = false := by rw [← Bool.not_eq_true, eqS_iff]; exact h
theorem not_mem_lt {a : ByteArray} {l : List ByteArray} (h : ∀ x ∈ l, ltS a x = true) : memS l a = false := memS_not.2 (fun k => absurd rfl (lt_ne (h a k)))

theorem chF_mem (p : Bool → Bool → Bool) (x : ByteArray) : ∀ (n : Nat) (a b : List ByteArray), a.length + b.length ≤ n → Ris a → Ris b → (x ∈ chF p n a b ↔ Want p a b x)
  | 0, [], [], _, _, _ => by simp [chF, Want]
  | 0, _ :: _, _, h, _, _ => absurd h (by simp)
  | 0, [], _ :: _, h, _, _ => absurd h (by simp)
  | n + 1, [], [], _, _, _ => by simp [chF, Want]
  | n + 1, [], b :: bs, h, ha, hb => by
    have ih := chF_mem p x n [] bs (by simp only [List.length_cons, List.length_nil] at h ⊢; omega) ha (Ris.cons.1 hb).2
    have hn := not_mem_lt (Ris.cons.1 hb).1
    rw [chF, List.mem_append, mem_if, ih]
    unfold Want
    by_cases e : x = b
    · subst e
      simp only [memS_cons, eqS_self, Bool.true_or, List.mem_cons, or_true, true_and, and_true, List.not_mem_nil, show memS [] x = false from rfl, memS_not.1 hn, false_and, or_false]
    · simp only [memS_cons, eqS_not (fun k => e k.symm), Bool.false_or, List.mem_cons, e, false_or, and_false, List.not_mem_nil]
  | n + 1, a :: ar, [], h, ha, hb => by
    have ih := chF_mem p x n ar [] (by simp only [List.length_cons, List.length_nil] at h ⊢; omega) (Ris.cons.1 ha).2 hb
    have hn := not_mem_lt (Ris.cons.1 ha).1
    rw [chF, List.mem_append, mem_if, ih]
    unfold Want
    by_cases e : x = a
    · subst e
      simp only [memS_cons, eqS_self, Bool.true_or, List.mem_cons, true_and, and_true, List.not_mem_nil, or_false, show memS [] x = false from rfl, memS_not.1 hn, false_and]
    · simp only [memS_cons, eqS_not (fun k => e k.symm), Bool.false_or, List.mem_cons, e, false_or, and_false, List.not_mem_nil, or_false]
  | n + 1, a :: ar, b :: bs, h, ha, hb => by
    have na := not_mem_lt (Ris.cons.1 ha).1
    have nb := not_mem_lt (Ris.cons.1 hb).1
    rw [chF]
    rcases lt_tot a b with k | k | k
    · have nab : memS (b :: bs) a = false := not_mem_lt (fun y hy => by
        rcases List.mem_cons.1 hy with rfl | hy
        · exact k
        · exact lt_tr k ((Ris.cons.1 hb).1 y hy))
      have ih := chF_mem p x n ar (b :: bs) (by simp only [List.length_cons] at h ⊢; omega) (Ris.cons.1 ha).2 hb
      rw [k, if_pos rfl, List.mem_append, mem_if, ih]
      unfold Want
      by_cases e : x = a
      · subst e
        simp only [memS_cons x ar, eqS_self, Bool.true_or, nab, memS_not.1 nab, memS_not.1 na, List.mem_cons (l := ar), true_and, and_true, or_false, false_and]
      · simp only [memS_cons a ar, eqS_not (fun k => e k.symm), Bool.false_or, List.mem_cons (l := ar), e, false_or, and_false]
    · subst k
      have ih := chF_mem p x n ar bs (by simp only [List.length_cons] at h ⊢; omega) (Ris.cons.1 ha).2 (Ris.cons.1 hb).2
      rw [lt_irr, if_neg (by simp), eqS_self, if_pos rfl, List.mem_append, mem_if, ih]
      unfold Want
      by_cases e : x = a
      · subst e
        simp only [memS_cons, eqS_self, Bool.true_or, memS_not.1 nb, memS_not.1 na, List.mem_cons, true_or, true_and, and_true, or_false, false_and]
      · simp only [memS_cons, eqS_not (fun k => e k.symm), Bool.false_or, List.mem_cons, e, false_or, and_false]
    · have nba : memS (a :: ar) b = false := not_mem_lt (fun y hy => by
        rcases List.mem_cons.1 hy with rfl | hy
        · exact k
        · exact lt_tr k ((Ris.cons.1 ha).1 y hy))
      have ih := chF_mem p x n (a :: ar) bs (by simp only [List.length_cons] at h ⊢; omega) ha (Ris.cons.1 hb).2
      rw [lt_asym k, if_neg (by simp), eqS_not (fun e => lt_ne k e.symm), if_neg (by simp), List.mem_append, mem_if, ih]
      unfold Want
      by_cases e : x = b
      · subst e
        simp only [memS_cons x bs, eqS_self, Bool.true_or, nba, memS_not.1 nba, memS_not.1 nb, List.mem_cons (l := bs), or_true, true_and, and_true, or_false, false_and]
      · simp only [memS_cons b bs, eqS_not (fun k => e k.symm), Bool.false_or, List.mem_cons (l := bs), e, false_or, and_false]

theorem Ris.front {c : Bool} {a : ByteArray} {l : List ByteArray} (h : Ris l) (k : ∀ x ∈ l, ltS a x = true) : Ris ((if c then [a] else []) ++ l) := by
  cases c
  · exact h
  · exact Ris.cons.2 ⟨k, h⟩

theorem chF_ris (p : Bool → Bool → Bool) : ∀ (n : Nat) (a b : List ByteArray), a.length + b.length ≤ n → Ris a → Ris b → Ris (chF p n a b)
  | 0, _, _, _, _, _ => by rw [chF]; exact Ris.nil
  | n + 1, [], [], _, _, _ => by rw [chF]; exact Ris.nil
  | n + 1, [], b :: bs, h, ha, hb => by
    have h1 : ([] : List ByteArray).length + bs.length ≤ n := by simp only [List.length_cons, List.length_nil] at h ⊢; omega
    rw [chF]
    refine (chF_ris p n [] bs h1 ha (Ris.cons.1 hb).2).front fun x hx => ?_
    rcases ((chF_mem p x n [] bs h1 ha (Ris.cons.1 hb).2).1 hx).1 with k | k
    · cases k
    · exact (Ris.cons.1 hb).1 x k
  | n + 1, a :: ar, [], h, ha, hb => by
    have h1 : ar.length + ([] : List ByteArray).length ≤ n := by simp only [List.length_cons, List.length_nil] at h ⊢; omega
    rw [chF]
    refine (chF_ris p n ar [] h1 (Ris.cons.1 ha).2 hb).front fun x hx => ?_
    rcases ((chF_mem p x n ar [] h1 (Ris.cons.1 ha).2 hb).1 hx).1 with k | k
    · exact (Ris.cons.1 ha).1 x k
    · cases k
  | n + 1, a :: ar, b :: bs, h, ha, hb => by
    rw [chF]
    rcases lt_tot a b with k | k | k
    · have h1 : ar.length + (b :: bs).length ≤ n := by simp only [List.length_cons] at h ⊢; omega
      rw [k, if_pos rfl]
      refine (chF_ris p n ar (b :: bs) h1 (Ris.cons.1 ha).2 hb).front fun x hx => ?_
      rcases ((chF_mem p x n ar (b :: bs) h1 (Ris.cons.1 ha).2 hb).1 hx).1 with m | m
      · exact (Ris.cons.1 ha).1 x m
      · rcases List.mem_cons.1 m with rfl | m
        · exact k
        · exact lt_tr k ((Ris.cons.1 hb).1 x m)
    · subst k
      have h1 : ar.length + bs.length ≤ n := by simp only [List.length_cons] at h ⊢; omega
      rw [lt_irr, if_neg (by simp), eqS_self, if_pos rfl]
      refine (chF_ris p n ar bs h1 (Ris.cons.1 ha).2 (Ris.cons.1 hb).2).front fun x hx => ?_
      rcases ((chF_mem p x n ar bs h1 (Ris.cons.1 ha).2 (Ris.cons.1 hb).2).1 hx).1 with m | m
      · exact (Ris.cons.1 ha).1 x m
      · exact (Ris.cons.1 hb).1 x m
    · have h1 : (a :: ar).length + bs.length ≤ n := by simp only [List.length_cons] at h ⊢; omega
      rw [lt_asym k, if_neg (by simp), eqS_not (fun e => lt_ne k e.symm), if_neg (by simp)]
      refine (chF_ris p n (a :: ar) bs h1 ha (Ris.cons.1 hb).2).front fun x hx => ?_
      rcases ((chF_mem p x n (a :: ar) bs h1 ha (Ris.cons.1 hb).2).1 hx).1 with m | m
      · rcases List.mem_cons.1 m with rfl | m
        · exact k
        · exact lt_tr k ((Ris.cons.1 ha).1 x m)
      · exact (Ris.cons.1 hb).1 x m

theorem chF_len (p : Bool → Bool → Bool) : ∀ (n : Nat) (a b : List ByteArray), (chF p n a b).length ≤ n
  | 0, _, _ => by simp [chF]
  | n + 1, [], [] => by simp [chF]
  | n + 1, [], b :: bs => by
    have := chF_len p n [] bs
    rw [chF, List.length_append]
    split <;> simp <;> omega
  | n + 1, a :: ar, [] => by
    have := chF_len p n ar []
    rw [chF, List.length_append]
    split <;> simp <;> omega
  | n + 1, a :: ar, b :: bs => by
    have h1 := chF_len p n ar (b :: bs)
    have h2 := chF_len p n ar bs
    have h3 := chF_len p n (a :: ar) bs
    rw [chF]
    repeat' split
    all_goals (rw [List.length_append]; simp; omega)

def eiL := chL (fun _ _ => true)
def coL := chL (fun a b => a && b)
def woL := chL (fun _ b => !b)

theorem eiL_mem {a b : List ByteArray} (ha : Ris a) (hb : Ris b) (x : ByteArray) : x ∈ eiL a b ↔ x ∈ a ∨ x ∈ b := by
  unfold eiL chL
  rw [chF_mem _ _ _ _ _ (Nat.le_refl _) ha hb]
  exact ⟨fun h => h.1, fun h => ⟨h, rfl⟩⟩
theorem coL_mem {a b : List ByteArray} (ha : Ris a) (hb : Ris b) (x : ByteArray) : x ∈ coL a b ↔ x ∈ a ∧ x ∈ b := by
  unfold coL chL
  rw [chF_mem _ _ _ _ _ (Nat.le_refl _) ha hb]
  unfold Want
  simp only [Bool.and_eq_true, memS_mem]
  exact ⟨fun h => h.2, fun h => ⟨Or.inl h.1, h⟩⟩
theorem woL_mem {a b : List ByteArray} (ha : Ris a) (hb : Ris b) (x : ByteArray) : x ∈ woL a b ↔ x ∈ a ∧ ¬ x ∈ b := by
  unfold woL chL
  rw [chF_mem _ _ _ _ _ (Nat.le_refl _) ha hb]
  unfold Want
  simp only [Bool.not_eq_true', memS_not]
  exact ⟨fun h => ⟨h.1.elim id (fun k => absurd k h.2), h.2⟩, fun h => ⟨Or.inl h.1, h.2⟩⟩
theorem eiL_ris {a b : List ByteArray} (ha : Ris a) (hb : Ris b) : Ris (eiL a b) := chF_ris _ _ _ _ (Nat.le_refl _) ha hb
theorem coL_ris {a b : List ByteArray} (ha : Ris a) (hb : Ris b) : Ris (coL a b) := chF_ris _ _ _ _ (Nat.le_refl _) ha hb
theorem woL_ris {a b : List ByteArray} (ha : Ris a) (hb : Ris b) : Ris (woL a b) := chF_ris _ _ _ _ (Nat.le_refl _) ha hb
theorem eiL_len (a b : List ByteArray) : (eiL a b).length ≤ a.length + b.length := chF_len _ _ _ _
theorem coL_len (a b : List ByteArray) : (coL a b).length ≤ a.length + b.length := chF_len _ _ _ _
theorem woL_len (a b : List ByteArray) : (woL a b).length ≤ a.length + b.length := chF_len _ _ _ _

/-- A text put into a list, once: ahead of the first that is not ahead of it. -/
def putL : List ByteArray → ByteArray → List ByteArray
  | [], s => [s]
  | a :: l, s => if ltS a s then a :: putL l s else if eqS a s then a :: l else s :: a :: l
/-- All of them, one behind the other. -/
def putsL (l ts : List ByteArray) : List ByteArray := ts.foldl putL l

theorem putL_mem (x s : ByteArray) : ∀ (l : List ByteArray), x ∈ putL l s ↔ x = s ∨ x ∈ l
  | [] => by simp [putL]
  | a :: l => by
    rw [putL]
    cases h1 : ltS a s
    · rw [if_neg (by simp)]
      cases h2 : eqS a s
      · rw [if_neg (by simp), List.mem_cons]
      · rw [if_pos rfl]
        have := eqS_iff.1 h2
        subst this
        simp
    · rw [if_pos rfl, List.mem_cons, List.mem_cons, putL_mem x s l]
      constructor
      · rintro (h | h | h)
        · exact Or.inr (Or.inl h)
        · exact Or.inl h
        · exact Or.inr (Or.inr h)
      · rintro (h | h | h)
        · exact Or.inr (Or.inl h)
        · exact Or.inl h
        · exact Or.inr (Or.inr h)
theorem putL_ris (s : ByteArray) : ∀ (l : List ByteArray), Ris l → Ris (putL l s)
  | [], _ => by rw [putL]; exact Ris.cons.2 ⟨by simp, Ris.nil⟩
  | a :: l, h => by
    rw [putL]
    cases h1 : ltS a s
    · rw [if_neg (by simp)]
      cases h2 : eqS a s
      · rw [if_neg (by simp)]
        have h3 : ltS s a = true := by
          rcases lt_tot a s with k | k | k
          · rw [h1] at k; cases k
          · rw [k, eqS_self] at h2; cases h2
          · exact k
        exact Ris.cons.2 ⟨fun x hx => (List.mem_cons.1 hx).elim (fun e => e ▸ h3) (fun k => lt_tr h3 ((Ris.cons.1 h).1 x k)), h⟩
      · rw [if_pos rfl]; exact h
    · rw [if_pos rfl]
      exact Ris.cons.2 ⟨fun x hx => ((putL_mem x s l).1 hx).elim (fun e => e ▸ h1) ((Ris.cons.1 h).1 x), putL_ris s l (Ris.cons.1 h).2⟩
theorem putL_len (s : ByteArray) : ∀ (l : List ByteArray), l.length ≤ (putL l s).length ∧ (putL l s).length ≤ l.length + 1
  | [] => by simp [putL]
  | a :: l => by
    have := putL_len s l
    rw [putL]
    repeat' split
    all_goals (simp only [List.length_cons]; omega)
theorem putsL_mem (x : ByteArray) : ∀ (ts l : List ByteArray), x ∈ putsL l ts ↔ x ∈ l ∨ x ∈ ts
  | [], l => by simp [putsL]
  | t :: ts, l => by
    have := putsL_mem x ts (putL l t)
    unfold putsL at this ⊢
    rw [List.foldl_cons, this, putL_mem, List.mem_cons]
    constructor
    · rintro ((h | h) | h)
      · exact Or.inr (Or.inl h)
      · exact Or.inl h
      · exact Or.inr (Or.inr h)
    · rintro (h | h | h)
      · exact Or.inl (Or.inr h)
      · exact Or.inl (Or.inl h)
      · exact Or.inr h
theorem putsL_ris : ∀ (ts l : List ByteArray), Ris l → Ris (putsL l ts)
  | [], _, h => h
  | t :: ts, l, h => putsL_ris ts (putL l t) (putL_ris t l h)
theorem putsL_len : ∀ (ts l : List ByteArray), l.length ≤ (putsL l ts).length ∧ (putsL l ts).length ≤ l.length + ts.length
  | [], _ => by simp [putsL]
  | t :: ts, l => by
    have h1 := putsL_len ts (putL l t)
    have h2 := putL_len t l
    unfold putsL at h1 ⊢
    rw [List.foldl_cons, List.length_cons]
    omega
theorem putsL_snoc (l ts : List ByteArray) (t : ByteArray) : putsL l (ts ++ [t]) = putL (putsL l ts) t := by unfold putsL; rw [List.foldl_append]; rfl

/-- What of the one is not in the other one, put one by one. -/
def outL (a b : List ByteArray) : List ByteArray := putsL [] (a.filter (fun x => !memS b x))
theorem outL_mem (a b : List ByteArray) (x : ByteArray) : x ∈ outL a b ↔ x ∈ a ∧ ¬ x ∈ b := by
  unfold outL
  rw [putsL_mem, List.mem_filter, Bool.not_eq_true', memS_not]
  simp
theorem outL_ris (a b : List ByteArray) : Ris (outL a b) := putsL_ris _ _ Ris.nil
theorem outL_eq {a b : List ByteArray} (ha : Ris a) (hb : Ris b) : outL a b = woL a b := (outL_ris a b).ext (woL_ris ha hb) (fun x => by rw [outL_mem, woL_mem ha hb])
theorem puts_eq {a b : List ByteArray} (ha : Ris a) (hb : Ris b) : putsL a b = eiL a b := (putsL_ris b a ha).ext (eiL_ris ha hb) (fun x => by rw [putsL_mem, eiL_mem ha hb])

end Go.Proofs.Ytlhgfnpialndaaa

