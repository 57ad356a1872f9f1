import Derived.Test.YtlhgfnpialndaaaDC0
/- Who is listed: what a book's list says of each account. -/
namespace Go.Proofs.Ytlhgfnpialndaaa
open Go.RowKit Go.Maps

theorem debtK_of {l : List Ac} (h : Rk l) {a : Ac} (ha : a ∈ l) : debtK l a.tok = owedA a := by unfold debtK getK; rw [atK_of h ha]; rfl
theorem listK_eq {l : List Ac} (h : Rk l) (n : Int) : listK l n = (l.filter (fun a => decide (n < owedA a))).map (·.tok) := by
  unfold listK
  rw [List.filter_map]
  congr 1
  refine List.filter_congr fun a ha => ?_
  show (!decide (debtK l a.tok ≤ n)) = _
  rw [debtK_of h ha]
  by_cases c : n < owedA a
  · rw [decide_eq_true c, decide_eq_false (by omega)]; rfl
  · rw [decide_eq_false c, decide_eq_true (by omega)]; rfl
/-- How many of the first i accounts are listed. -/
def cntK (l : List Ac) (n : Int) (i : Nat) : Nat := ((l.take i).filter (fun a => decide (n < owedA a))).length
theorem cntK_yes {l : List Ac} (h : Rk l) {n : Int} {i : Nat} (hi : i < l.length) (hp : n < owedA l[i]) : cntK l n (i + 1) = cntK l n i + 1 ∧ (listK l n)[cntK l n i]? = some l[i].tok := by
  unfold cntK
  constructor
  · rw [List.take_succ_eq_append_getElem hi, List.filter_append, List.length_append, List.filter_cons_of_pos (by simpa using hp)]
    rfl
  · rw [listK_eq h, List.getElem?_map]
    have e : l = l.take i ++ l[i] :: l.drop (i + 1) := by rw [← List.drop_eq_getElem_cons hi, List.take_append_drop]
    have e2 : (l.filter (fun a => decide (n < owedA a)))[((l.take i).filter (fun a => decide (n < owedA a))).length]? = some l[i] := by
      conv => lhs; arg 1; rw [e]
      rw [List.filter_append, List.getElem?_append_right (Nat.le_refl _), Nat.sub_self, List.filter_cons_of_pos (by simpa using hp)]
      rfl
    rw [e2]
    rfl
theorem cntK_no {l : List Ac} {n : Int} {i : Nat} (hi : i < l.length) (hp : ¬ n < owedA l[i]) : cntK l n (i + 1) = cntK l n i := by
  unfold cntK
  rw [List.take_succ_eq_append_getElem hi, List.filter_append, List.length_append, List.filter_cons_of_neg (by simpa using hp)]
  rfl
theorem cntK_all {l : List Ac} (h : Rk l) (n : Int) : cntK l n l.length = (listK l n).length := by
  unfold cntK
  rw [List.take_length, listK_eq h, List.length_map]
theorem cntK_le (l : List Ac) (n : Int) (i : Nat) : cntK l n i ≤ l.length := by
  unfold cntK
  exact Nat.le_trans (List.length_filter_le _ _) (by rw [List.length_take]; omega)

theorem set_same {l : List Ac} (h : Bk l) {t : ByteArray} {a : Ac} (ha : atK l t = some a) : setK l t a.charged = (l, 0, 0, 0) := by
  obtain ⟨h1, rfl⟩ := atK_mem ha
  have hg : getK l a.tok = a := by unfold getK; rw [ha]; rfl
  have hk := acc_in (h.ok a h1)
  have e : min a.paid a.charged = a.paid := by omega
  have hp : putK l ⟨a.tok, a.charged, a.paid⟩ = l := (putK_rk h.rk _).ext h.rk fun s => by
    rw [putK_at h.rk]
    by_cases c : eqS a.tok s = true
    · rw [if_pos c, ← eqS_iff.1 c, ha]
    · rw [if_neg c]
  unfold setK
  rw [ha, hg, e, hp]
  have hok : accountOk ⟨a.tok, a.charged, 0⟩ = true := by
    simp only [accountOk, Bool.and_eq_true, isIn_iff]
    exact ⟨⟨hk.1, by omega⟩, by omega⟩
  rw [hok]
  simp
theorem pay_all {l : List Ac} (h : Bk l) {t : ByteArray} (ho : debtK l t ≠ 0) : ∃ l', payK l t (debtK l t) = (l', 0) ∧ debtK l' t = 0 := by
  have hg := h.get t
  have e : debtK l t = (getK l t).charged - (getK l t).paid := rfl
  unfold payK
  rw [if_neg (by unfold owedA; omega)]
  refine ⟨_, rfl, ?_⟩
  unfold debtK
  rw [getK_put h.rk, eqS_self]
  unfold owedA
  simp
  omega
theorem not_listed {l : List Ac} {t : ByteArray} {m : Int} (h0 : debtK l t = 0) (hm : 0 ≤ m) : ∀ s ∈ listK l m, (s.toList == t.toList) = false := by
  intro s hs
  rw [← Bool.not_eq_true, beq_iff_eq]
  intro e
  have e2 : s = t := toList_same e
  subst e2
  unfold listK at hs
  have h1 := (List.mem_filter.1 hs).2
  rw [h0, decide_eq_true hm] at h1
  cases h1
theorem owed_none {l : List Ac} {t : ByteArray} (h : (atK l t).isSome = false) : debtK l t = 0 := by unfold debtK; rw [getK_none h]; rfl
theorem run_maxB (ts : Array TypeId) (t : TypeId) (x y : Int) (w : World) : (Builtin.max_ ts t #[.int .i64 x, .int .i64 y]).run Try.prog w = .ok (.int .i64 (max x y)) w := by
  rw [run_max_int2 w ts t .i64 .i64 x y]
  congr 2
  split <;> omega
end Go.Proofs.Ytlhgfnpialndaaa

