import Derived.Test.YtlhgfnpialndaaaE2
import Derived.Test.YtlhgfnpialndaaaU0
import Derived.Maps.Own
import Derived.Maps.Views
import Derived.Sort.KeysCollected
import Derived.Sort.Walk0
/- Accounts in order: what a book answers; the map's datum. No program is named here. -/
namespace Go.Proofs.Ytlhgfnpialndaaa
open Go.RowKit Go.Maps

abbrev bsT (s : ByteArray) : List UInt8 := s.data.toList
theorem toList_bs (s : ByteArray) : s.toList = bsT s := ByteArray.toList_eq s
theorem before_less : ∀ (a b : List UInt8), bytesBefore a b = Op.bytesLess a b
  | [], [] => rfl
  | [], _ :: _ => rfl
  | _ :: _, [] => rfl
  | a :: r, b :: s => by simp [bytesBefore, Op.bytesLess, before_less r s]
theorem before_lt (a b : ByteArray) : (Lit.string (bsT a)).before (.string (bsT b)) = ltS a b := by
  show bytesBefore _ _ = _
  rw [before_less]
  unfold ltS
  rw [toList_bs, toList_bs]
theorem bs_inj {a b : ByteArray} (h : bsT a = bsT b) : a = b := toList_same (by rw [toList_bs, toList_bs, h])

/-- An account of nothing; what one owes. -/
def zA : Ac := ⟨⟨#[]⟩, 0, 0⟩
def owedA (a : Ac) : Int := a.charged - a.paid

/-- Accounts in order, each token once. -/
def Rk (l : List Ac) : Prop := l.Pairwise (fun a b => ltS a.tok b.tok = true)
theorem Rk.nil : Rk [] := List.Pairwise.nil
theorem Rk.cons {a : Ac} {l : List Ac} : Rk (a :: l) ↔ (∀ x ∈ l, ltS a.tok x.tok = true) ∧ Rk l := List.pairwise_cons
theorem Rk.ris {l : List Ac} (h : Rk l) : Ris (l.map (·.tok)) := by unfold Ris; rw [List.pairwise_map]; exact h

def atK : List Ac → ByteArray → Option Ac
  | [], _ => none
  | a :: r, t => if eqS a.tok t then some a else atK r t
def putK : List Ac → Ac → List Ac
  | [], x => [x]
  | a :: r, x => if ltS a.tok x.tok then a :: putK r x else if ltS x.tok a.tok then x :: a :: r else x :: r

theorem atK_mem {l : List Ac} {t : ByteArray} {a : Ac} (h : atK l t = some a) : a ∈ l ∧ a.tok = t := by
  induction l with
  | nil => cases h
  | cons b r ih =>
    unfold atK at h
    by_cases c : eqS b.tok t = true
    · rw [if_pos c] at h
      cases h
      exact ⟨by simp, eqS_iff.1 c⟩
    · rw [if_neg c] at h
      exact ⟨List.mem_cons_of_mem _ (ih h).1, (ih h).2⟩
theorem atK_none {l : List Ac} {t : ByteArray} : atK l t = none ↔ ∀ a ∈ l, a.tok ≠ t := by
  induction l with
  | nil => simp [atK]
  | cons b r ih =>
    unfold atK
    by_cases c : eqS b.tok t = true
    · rw [if_pos c]
      simp only [reduceCtorEq, false_iff]
      exact fun h => h b (by simp) (eqS_iff.1 c)
    · rw [if_neg c, ih]
      constructor
      · intro h a ha
        rcases List.mem_cons.1 ha with rfl | ha
        · exact fun e => c (eqS_iff.2 e)
        · exact h a ha
      · exact fun h a ha => h a (List.mem_cons_of_mem _ ha)
theorem atK_of {l : List Ac} (h : Rk l) {a : Ac} (ha : a ∈ l) : atK l a.tok = some a := by
  induction l with
  | nil => cases ha
  | cons b r ih =>
    unfold atK
    rcases List.mem_cons.1 ha with rfl | ha
    · rw [if_pos (eqS_self _)]
    · have := (Rk.cons.1 h).1 a ha
      rw [if_neg (by rw [eqS_iff]; exact lt_ne this), ih (Rk.cons.1 h).2 ha]

theorem putK_mem {l : List Ac} {x y : Ac} (h : y ∈ putK l x) : y = x ∨ y ∈ l := by
  induction l with
  | nil => simp [putK] at h; exact Or.inl h
  | cons b r ih =>
    unfold putK at h
    split at h
    · rcases List.mem_cons.1 h with rfl | h
      · exact Or.inr (by simp)
      · exact (ih h).imp id (List.mem_cons_of_mem _)
    · split at h
      · rcases List.mem_cons.1 h with rfl | h
        · exact Or.inl rfl
        · exact Or.inr h
      · rcases List.mem_cons.1 h with rfl | h
        · exact Or.inl rfl
        · exact Or.inr (List.mem_cons_of_mem _ h)
theorem putK_rk {l : List Ac} (h : Rk l) (x : Ac) : Rk (putK l x) := by
  induction l with
  | nil => exact List.pairwise_singleton _ _
  | cons b r ih =>
    obtain ⟨h1, h2⟩ := Rk.cons.1 h
    unfold putK
    split
    · rename_i c
      refine Rk.cons.2 ⟨fun y hy => ?_, ih h2⟩
      rcases putK_mem hy with rfl | hy
      · exact c
      · exact h1 y hy
    · rename_i c
      split
      · rename_i c2
        refine Rk.cons.2 ⟨fun y hy => ?_, h⟩
        rcases List.mem_cons.1 hy with rfl | hy
        · exact c2
        · exact lt_tr c2 (h1 y hy)
      · rename_i c2
        refine Rk.cons.2 ⟨fun y hy => ?_, h2⟩
        rcases lt_tot b.tok x.tok with k | k | k
        · exact absurd k c
        · rw [← k]; exact h1 y hy
        · exact absurd k c2
theorem putK_at {l : List Ac} (h : Rk l) (x : Ac) (t : ByteArray) : atK (putK l x) t = if eqS x.tok t then some x else atK l t := by
  induction l with
  | nil => rfl
  | cons b r ih =>
    obtain ⟨h1, h2⟩ := Rk.cons.1 h
    unfold putK
    split
    · rename_i c
      show (if eqS b.tok t then some b else atK (putK r x) t) = _
      rw [ih h2]
      show _ = if eqS x.tok t then some x else if eqS b.tok t then some b else atK r t
      by_cases e : eqS b.tok t = true
      · rw [if_pos e, if_pos e, if_neg]
        rw [eqS_iff] at e ⊢
        rw [← e]
        exact fun k => lt_ne c k.symm
      · rw [if_neg e, if_neg e]
    · split
      · rfl
      · rename_i c c2
        have e : b.tok = x.tok := by
          rcases lt_tot b.tok x.tok with k | k | k
          · exact absurd k c
          · exact k
          · exact absurd k c2
        show (if eqS x.tok t then some x else atK r t) = if eqS x.tok t then some x else if eqS b.tok t then some b else atK r t
        by_cases e2 : eqS x.tok t = true
        · rw [if_pos e2, if_pos e2]
        · rw [if_neg e2, if_neg e2, e, if_neg e2]
theorem putK_len {l : List Ac} (h : Rk l) (x : Ac) : (putK l x).length = if (atK l x.tok).isSome then l.length else l.length + 1 := by
  induction l with
  | nil => rfl
  | cons b r ih =>
    obtain ⟨h1, h2⟩ := Rk.cons.1 h
    have ea : atK (b :: r) x.tok = if eqS b.tok x.tok then some b else atK r x.tok := rfl
    unfold putK
    split
    · rename_i c
      have e : eqS b.tok x.tok = false := eqS_not (lt_ne c)
      rw [ea, e, List.length_cons, ih h2]
      simp only [Bool.false_eq_true, if_false]
      split <;> simp
    · split
      · rename_i c c2
        have hn : atK r x.tok = none := atK_none.2 fun a ha e => by
          have := lt_tr c2 (h1 a ha)
          exact lt_ne this e.symm
        have e : eqS b.tok x.tok = false := eqS_not (fun e => lt_ne c2 e.symm)
        rw [ea, e, hn]
        simp
      · rename_i c c2
        have e : b.tok = x.tok := by
          rcases lt_tot b.tok x.tok with k | k | k
          · exact absurd k c
          · exact k
          · exact absurd k c2
        rw [ea, e, eqS_self]
        simp
/-- Two lists in order that tell the same of each token are one. -/
theorem Rk.ext {l m : List Ac} (hl : Rk l) (hm : Rk m) (h : ∀ t, atK l t = atK m t) : l = m := by
  have hr : l.map (·.tok) = m.map (·.tok) := hl.ris.ext hm.ris (fun t => by
    have key : ∀ {l m : List Ac}, Rk l → (∀ t, atK l t = atK m t) → ∀ t, t ∈ l.map (·.tok) → t ∈ m.map (·.tok) := by
      intro l m hl h t ht
      obtain ⟨a, ha, rfl⟩ := List.mem_map.1 ht
      have := atK_of hl ha
      rw [h] at this
      exact List.mem_map.2 ⟨a, (atK_mem this).1, rfl⟩
    exact ⟨key hl h t, key hm (fun t => (h t).symm) t⟩)
  have hlen : l.length = m.length := by simpa using congrArg List.length hr
  refine List.ext_getElem hlen fun i h1 h2 => ?_
  have e : l[i].tok = m[i].tok := by
    have h3 := List.getElem_of_eq hr (i := i) (by simpa using h1)
    simpa using h3
  have a1 := atK_of hl (List.getElem_mem h1)
  have a2 := atK_of hm (List.getElem_mem h2)
  rw [e, h, a2] at a1
  injection a1 with a1
  exact a1.symm

/-- A book: accounts in order that may be, not too many. -/
structure Bk (l : List Ac) : Prop where
  rk : Rk l
  ok : ∀ a ∈ l, accountOk a = true
  few : l.length ≤ 1000
theorem Bk.nil : Bk [] := ⟨Rk.nil, fun a h => (by cases h), by simp⟩
def getK (l : List Ac) (t : ByteArray) : Ac := (atK l t).getD zA
theorem acc_in {a : Ac} (h : accountOk a = true) : isTok a.tok = true ∧ 0 ≤ a.charged ∧ a.charged ≤ 9007199254740992 ∧ 0 ≤ a.paid ∧ a.paid ≤ a.charged := by
  simp only [accountOk, Bool.and_eq_true, isIn_iff] at h
  exact ⟨h.1.1, h.1.2.1, h.1.2.2, h.2.1, h.2.2⟩
theorem Bk.get {l : List Ac} (h : Bk l) (t : ByteArray) : 0 ≤ (getK l t).charged ∧ (getK l t).charged ≤ 9007199254740992 ∧ 0 ≤ (getK l t).paid ∧ (getK l t).paid ≤ (getK l t).charged := by
  unfold getK
  cases e : atK l t with
  | none => simp [zA]
  | some a => exact (acc_in (h.ok a (atK_mem e).1)).2

/-- Set: the accounts behind it, by how much more, how much was given back, the error. -/
def setK (l : List Ac) (t : ByteArray) (n : Int) : List Ac × Int × Int × Int :=
  if accountOk ⟨t, n, 0⟩ = false then (l, 0, 0, 220)
  else if (atK l t).isNone && decide (1000 ≤ l.length) then (l, 0, 0, 2)
  else (putK l ⟨t, n, min (getK l t).paid n⟩, n - (getK l t).charged, (getK l t).paid - min (getK l t).paid n, 0)
/-- Pay. -/
def payK (l : List Ac) (t : ByteArray) (n : Int) : List Ac × Int :=
  if n < 1 ∨ owedA (getK l t) < n then (l, 220) else (putK l ⟨t, (getK l t).charged, (getK l t).paid + n⟩, 0)
def debtK (l : List Ac) (t : ByteArray) : Int := owedA (getK l t)
def listK (l : List Ac) (n : Int) : List ByteArray := (l.map (·.tok)).filter (fun t => !decide (debtK l t ≤ n))

theorem Bk.put {l : List Ac} (h : Bk l) {x : Ac} (hx : accountOk x = true) (hf : (atK l x.tok).isSome = true ∨ l.length < 1000) : Bk (putK l x) := by
  refine ⟨putK_rk h.rk x, fun a ha => ?_, ?_⟩
  · rcases putK_mem ha with rfl | ha
    · exact hx
    · exact h.ok a ha
  · rw [putK_len h.rk]
    have := h.few
    rcases hf with hf | hf
    · rw [if_pos hf]; exact this
    · split <;> omega
theorem setK_bk {l : List Ac} (h : Bk l) (t : ByteArray) (n : Int) : Bk (setK l t n).1 := by
  unfold setK
  split
  · exact h
  · rename_i c
    have hx := acc_in (show accountOk ⟨t, n, 0⟩ = true by simpa using c)
    split
    · exact h
    · rename_i c2
      have := h.get t
      refine h.put ?_ ?_
      · simp only [accountOk, Bool.and_eq_true, isIn_iff]
        simp only at hx
        refine ⟨⟨hx.1, by omega⟩, by omega⟩
      · show (atK l t).isSome = true ∨ _
        cases e : atK l t with
        | none => rw [e] at c2; simp at c2; right; omega
        | some a => left; rfl
theorem pay_in {l : List Ac} (h : Bk l) {t : ByteArray} {n : Int} (hc : ¬ (n < 1 ∨ owedA (getK l t) < n)) : ∃ a, atK l t = some a ∧ a.tok = t ∧ accountOk ⟨t, a.charged, a.paid + n⟩ = true ∧ getK l t = a := by
  cases e : atK l t with
  | none =>
    exfalso
    have e1 : getK l t = zA := by unfold getK; rw [e]; rfl
    rw [e1] at hc
    unfold owedA zA at hc
    simp only at hc
    omega
  | some a =>
    have e1 : getK l t = a := by unfold getK; rw [e]; rfl
    obtain ⟨h1, h2⟩ := atK_mem e
    have h3 := acc_in (h.ok a h1)
    rw [e1] at hc
    unfold owedA at hc
    refine ⟨a, rfl, h2, ?_, e1⟩
    simp only [accountOk, Bool.and_eq_true, isIn_iff]
    rw [h2] at h3
    exact ⟨⟨h3.1, by omega⟩, by omega⟩
theorem payK_bk {l : List Ac} (h : Bk l) (t : ByteArray) (n : Int) : Bk (payK l t n).1 := by
  unfold payK
  split
  · exact h
  · rename_i c
    obtain ⟨a, h1, h2, h3, h4⟩ := pay_in h c
    rw [h4]
    exact h.put h3 (Or.inl (by show (atK l t).isSome = true; rw [h1]; rfl))

/-- The map's datum. -/
def acD (a : Ac) : DataW Unit := .agg [.lit (.string (bsT a.tok)), .lit (.int .i64 a.charged), .lit (.int .i64 a.paid)]
def dlK (l : List Ac) : List (Lit × DataW Unit) := l.map (fun a => (.string (bsT a.tok), acD a))
/-- How an account reads as a map's element. -/
def acR (v : Value) : Option (DataW Unit × List MemPlace) :=
  match v with
  | .agg cs => match cs.toList with
    | [.string s, .int .i64 a, .int .i64 b] => some (acD ⟨s, a, b⟩, [])
    | _ => none
  | _ => none
theorem acR_ac (a : Ac) : acR (.agg (acC a)) = some (acD a, []) := rfl
theorem acR_inv {v : Value} {z : DataW Unit × List MemPlace} (h : acR v = some z) : ∃ a, v = .agg (acC a) ∧ z = (acD a, []) := by
  unfold acR at h
  split at h
  · rename_i cs
    split at h
    · rename_i s a b e
      injection h with h
      subst h
      refine ⟨⟨s, a, b⟩, ?_, rfl⟩
      have : cs = #[.string s, .int .i64 a, .int .i64 b] := Array.toList_inj.1 e
      rw [this]
      rfl
    · cases h
  · cases h
theorem acD_inj {a b : Ac} (h : acD a = acD b) : a = b := by
  unfold acD at h
  injection h with h
  injection h with h1 h
  injection h with h2 h
  injection h with h3 h
  injection h1 with h1
  injection h2 with h2
  injection h3 with h3
  injection h1 with h1
  injection h2 with _ h2
  injection h3 with _ h3
  obtain ⟨s, a1, a2⟩ := a
  obtain ⟨s2, b1, b2⟩ := b
  rw [Ac.mk.injEq]
  exact ⟨bs_inj h1, h2, h3⟩

theorem dlK_at (l : List Ac) (t : ByteArray) (z : DataW Unit) : (DataW.map (dlK l)).atKey (.string (bsT t)) z = ((atK l t).map acD).getD z := by
  simp only [DataW.atKey]
  induction l with
  | nil => rfl
  | cons a r ih =>
    have e : (Lit.string (bsT a.tok)).sameKey (.string (bsT t)) = eqS a.tok t := by
      show (bsT a.tok == bsT t) = eqS a.tok t
      unfold eqS
      rw [toList_bs, toList_bs]
    have e1 : dlK (a :: r) = (.string (bsT a.tok), acD a) :: dlK r := rfl
    have e2 : atK (a :: r) t = if eqS a.tok t then some a else atK r t := rfl
    rw [e1, e2, List.find?_cons, e]
    cases eqS a.tok t with
    | true => rfl
    | false => exact ih
theorem filter_all {x : Ac} {l : List Ac} (h : ∀ y ∈ l, x.tok ≠ y.tok) : (dlK l).filter (fun p => !p.1.sameKey (.string (bsT x.tok))) = dlK l := by
  refine List.filter_eq_self.2 fun p hp => ?_
  obtain ⟨y, hy, rfl⟩ := List.mem_map.1 hp
  show (!(bsT y.tok == bsT x.tok)) = true
  rw [Bool.not_eq_true', ← Bool.not_eq_true, beq_iff_eq]
  exact fun e => h y hy (bs_inj e).symm
theorem insert_first {x : Ac} {l : List Ac} (h : ∀ y ∈ l, ltS x.tok y.tok = true) : DataW.insert (.string (bsT x.tok), acD x) (dlK l) = dlK (x :: l) := by
  cases l with
  | nil => rfl
  | cons b r =>
    show (if (Lit.string (bsT x.tok)).before (.string (bsT b.tok)) then _ else _) = _
    rw [before_lt, h b (by simp)]
    rfl
theorem dlK_put {l : List Ac} (h : Rk l) (x : Ac) : (DataW.map (dlK l)).put (.string (bsT x.tok)) (acD x) = .map (dlK (putK l x)) := by
  show DataW.map (DataW.insert (.string (bsT x.tok), acD x) ((dlK l).filter fun p => !p.1.sameKey (.string (bsT x.tok)))) = _
  congr 1
  induction l with
  | nil => rfl
  | cons a r ih =>
    obtain ⟨h1, h2⟩ := Rk.cons.1 h
    unfold putK
    split
    · rename_i c
      have e : (!(Lit.string (bsT a.tok)).sameKey (.string (bsT x.tok))) = true := by
        show (!(bsT a.tok == bsT x.tok)) = true
        rw [Bool.not_eq_true', ← Bool.not_eq_true, beq_iff_eq]
        exact fun e => lt_ne c (bs_inj e)
      show DataW.insert _ (List.filter _ ((Lit.string (bsT a.tok), acD a) :: dlK r)) = _
      rw [List.filter_cons_of_pos (p := fun p : Lit × DataW Unit => !p.1.sameKey (.string (bsT x.tok))) e]
      show (if (Lit.string (bsT x.tok)).before (.string (bsT a.tok)) then _ else _) = _
      rw [before_lt, lt_asym c, if_neg (by simp), ih h2]
      rfl
    · split
      · rename_i c c2
        have hall : ∀ y ∈ a :: r, ltS x.tok y.tok = true := fun y hy => by
          rcases List.mem_cons.1 hy with rfl | hy
          · exact c2
          · exact lt_tr c2 (h1 y hy)
        rw [filter_all (fun y hy => lt_ne (hall y hy)), insert_first hall]
      · rename_i c c2
        have e : a.tok = x.tok := by
          rcases lt_tot a.tok x.tok with k | k | k
          · exact absurd k c
          · exact k
          · exact absurd k c2
        have hall : ∀ y ∈ r, ltS x.tok y.tok = true := fun y hy => by rw [← e]; exact h1 y hy
        show DataW.insert _ (List.filter _ ((Lit.string (bsT a.tok), acD a) :: dlK r)) = _
        rw [List.filter_cons_of_neg (p := fun p : Lit × DataW Unit => !p.1.sameKey (.string (bsT x.tok))) (by
          show ¬ (!(bsT a.tok == bsT x.tok)) = true
          rw [e]
          simp), filter_all (fun y hy => lt_ne (hall y hy)), insert_first hall]
theorem dlK_size (l : List Ac) : Maps.size (DataW.map (dlK l)) = l.length := by
  show (dlK l).length = _
  unfold dlK
  rw [List.length_map]
theorem dlK_keys (l : List Ac) : strKeys (DataW.map (dlK l)) = l.map (fun a => bsT a.tok) := by
  show (dlK l).map (fun p => strOf p.1) = _
  unfold dlK
  rw [List.map_map]
  rfl
/-- Texts sorted that rise already. -/
theorem keys_sorted {l : List Ac} (h : Rk l) {ss : List (List UInt8)} (hp : ss.Perm (l.map (fun a => bsT a.tok))) : ss.mergeSort (fun x y => decide (x ≤ y)) = l.map (fun a => bsT a.tok) := by
  have hle : ∀ x y : List UInt8, decide (x ≤ y) = !Op.bytesLess y x := fun x y => by
    rw [bytesLess_eq]
    by_cases h : y < x
    · rw [decide_eq_true h, decide_eq_false (fun k => k h)]; rfl
    · rw [decide_eq_false h, decide_eq_true (show x ≤ y from h)]; rfl
  have htr : ∀ a b c : List UInt8, decide (a ≤ b) = true → decide (b ≤ c) = true → decide (a ≤ c) = true := fun a b c h1 h2 => by
    rw [hle] at h1 h2 ⊢
    rw [Bool.not_eq_true'] at h1 h2 ⊢
    cases k : Op.bytesLess c a with
    | false => rfl
    | true =>
      rcases less_total b c with m | m | m
      · rw [less_trans _ _ _ m k] at h1; cases h1
      · subst m; rw [k] at h1; cases h1
      · rw [m] at h2; cases h2
  have hto : ∀ a b : List UInt8, (decide (a ≤ b) || decide (b ≤ a)) = true := fun a b => by
    rw [hle, hle]
    cases k : Op.bytesLess b a with
    | false => rfl
    | true =>
      cases k2 : Op.bytesLess a b with
      | false => rfl
      | true => exact absurd (less_trans _ _ _ k k2) (by rw [less_irrefl]; simp)
  have hso := List.pairwise_mergeSort htr hto ss
  have hpp : (ss.mergeSort (fun x y => decide (x ≤ y))).Perm (l.map (fun a => bsT a.tok)) := (List.mergeSort_perm _ _).trans hp
  refine hpp.eq_of_pairwise (fun a b _ _ h1 h2 => ?_) hso ?_
  · rw [hle, Bool.not_eq_true'] at h1 h2
    rcases less_total a b with m | m | m
    · rw [m] at h2; cases h2
    · exact m
    · rw [m] at h1; cases h1
  · rw [List.pairwise_map]
    refine h.imp fun {a b} k => ?_
    rw [hle, Bool.not_eq_true']
    have := lt_asym k
    unfold ltS at this
    rw [toList_bs, toList_bs] at this
    exact this
end Go.Proofs.Ytlhgfnpialndaaa

