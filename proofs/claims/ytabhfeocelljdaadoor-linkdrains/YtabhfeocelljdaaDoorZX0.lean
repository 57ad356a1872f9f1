import Derived.Test.YtabhfeocelljdaaDoorZG0
/- The document's sender: mathematics; its ticks and the program's send the same frames. -/
namespace Go.Proofs.YtabhfeocelljdaaDoor
open Go.RowKit

/-- Is an item to be sent now? -/
def dueD (s : Snd) (n : Int) : Bool := match sAt s.sent n with | none => true | some t => decide (s.clk ≥ t + s.evy)
/-- An item is sent now. -/
def markD (s : Snd) (n first : Int) : Snd := { s with sent := s.sent.filter (fun e => decide (e.1 ≠ n ∧ first ≤ e.1)) ++ [(n, s.clk)] }
/-- The frames behind an item that is sent: the last number goes along. -/
def openD (bat first n : Int) (st : List Fm × Int) : List Fm := match st.1.getLast? with | none => st.1 ++ [⟨1, first, n, [], []⟩] | some f => if st.2 = n - 1 ∧ ¬ (f.items.length : Int) = bat then st.1 else st.1 ++ [⟨1, first, n, [], []⟩]
def stepD (first : Int) (st : Snd × List Fm × Int) (x : Itm) : Snd × List Fm × Int :=
  if dueD st.1 x.seq then (markD st.1 x.seq first, addF x.bytes (openD st.1.bat first x.seq st.2), x.seq) else st
/-- The document's tick. -/
def tickD (s : Snd) (its : List Itm) : Snd × List Fm :=
  if isQ its then
    match its with
    | [] => ({ s with clk := s.clk + 1, sent := [] }, [])
    | x :: _ =>
      let r := (its.take s.win.toNat).foldl (stepD x.seq) ({ s with clk := s.clk + 1, sent := s.sent.filter (fun e => decide (x.seq ≤ e.1)) }, [], 0)
      (r.1, r.2.1)
  else ({ s with clk := s.clk + 1 }, [])

/-- No item is noted twice. -/
def Uni (l : List (Int × Int)) : Prop := l.Pairwise (fun a b => a.1 ≠ b.1)
/-- What still holds an item back. -/
def liveX (t evy : Int) (o : Option Int) : Option Int := o.filter (fun a => decide (t - a < evy))

theorem sAt_filterX {l : List (Int × Int)} (h : Uni l) (P : Int × Int → Bool) (q : Int) : sAt (l.filter P) q = (sAt l q).filter (fun a => P (q, a)) := by
  unfold sAt
  induction l with
  | nil => rfl
  | cons e r ih =>
    have hr : Uni r := (List.pairwise_cons.1 h).2
    have hne := (List.pairwise_cons.1 h).1
    have ih := ih hr
    obtain ⟨k, a⟩ := e
    by_cases hk : k = q
    · subst hk
      rw [List.find?_cons_of_pos (by simp)]
      by_cases hp : P (k, a) = true
      · rw [List.filter_cons_of_pos hp, List.find?_cons_of_pos (by simp)]
        simp [Option.filter, hp]
      · rw [List.filter_cons_of_neg hp]
        have hnone : (r.filter P).find? (fun p => p.1 == k) = none := by
          rw [List.find?_eq_none]
          intro x hx
          have := hne x (List.mem_filter.1 hx).1
          simp at this ⊢
          exact fun t => this t.symm
        rw [hnone]
        simp [Option.filter, hp]
    · rw [List.find?_cons_of_neg (by simp [hk])]
      by_cases hp : P (k, a) = true
      · rw [List.filter_cons_of_pos hp, List.find?_cons_of_neg (by simp [hk])]
        exact ih
      · rw [List.filter_cons_of_neg hp]
        exact ih

theorem Uni.filter {l : List (Int × Int)} (h : Uni l) (P : Int × Int → Bool) : Uni (l.filter P) := List.Pairwise.filter P h
theorem Uni.snoc {l : List (Int × Int)} (h : Uni l) (q t : Int) (hq : ∀ e ∈ l, e.1 ≠ q) : Uni (l ++ [(q, t)]) := by
  unfold Uni
  rw [List.pairwise_append]
  exact ⟨h, List.pairwise_singleton _ _, fun a ha b hb => by rw [List.mem_singleton] at hb; subst hb; exact hq a ha⟩
theorem sAt_noneX {l : List (Int × Int)} {q : Int} (h : (sAt l q).isSome = false) : ∀ e ∈ l, e.1 ≠ q := by
  intro e he t
  unfold sAt at h
  cases hf : l.find? (fun p => p.1 == q) with
  | none =>
    have := (List.find?_eq_none.1 hf) e he
    simp [t] at this
  | some p => rw [hf] at h; simp at h

/-- The program's sender and the document's: alike but for what is over. -/
structure Alike (s d : Snd) : Prop where
  win : d.win = s.win
  bat : d.bat = s.bat
  evy : d.evy = s.evy
  clk : d.clk = s.clk
  us : Uni s.sent
  ud : Uni d.sent
  eq : ∀ q, liveX s.clk s.evy (sAt s.sent q) = liveX s.clk s.evy (sAt d.sent q)

theorem live_later {t t' evy : Int} {a b : Option Int} (h : liveX t evy a = liveX t evy b) (ht : t ≤ t') : liveX t' evy a = liveX t' evy b := by
  unfold liveX at *
  cases a with
  | none =>
    cases b with
    | none => rfl
    | some y =>
      simp [Option.filter] at h ⊢
      omega
  | some x =>
    cases b with
    | none =>
      simp [Option.filter] at h ⊢
      omega
    | some y =>
      simp only [Option.filter] at h ⊢
      by_cases hx : t - x < evy <;> by_cases hy : t - y < evy <;> simp [hx, hy] at h ⊢
      · subst h
        rfl
      · rw [if_neg (by omega), if_neg (by omega)]

theorem live_idem (t evy : Int) (a : Option Int) : liveX t evy (liveX t evy a) = liveX t evy a := by
  unfold liveX
  cases a with
  | none => rfl
  | some x =>
    simp only [Option.filter]
    by_cases hx : t - x < evy <;> simp [hx]

/-- Frames under way, with the last number. -/
structure LastD (bat : Int) (fs : List Fm) (last : Int) : Prop where
  lst : ∀ f, fs.getLast? = some f → last = f.seq + (f.items.length : Int) - 1 ∧ (f.items.length : Int) ≤ bat

theorem openD_eq {bat first n : Int} {fs : List Fm} {last : Int} (h : LastD bat fs last) : openD bat first n (fs, last) = openF bat first n fs := by
  unfold openD openF joinsF
  cases hl : fs.getLast? with
  | none => simp
  | some f =>
    obtain ⟨h1, h2⟩ := h.lst f hl
    simp only
    by_cases hj : (f.items.length : Int) < bat ∧ f.seq + (f.items.length : Int) = n
    · rw [if_pos ⟨by omega, by omega⟩, if_pos (by simpa using hj)]
    · rw [if_neg (by omega), if_neg (by simpa using hj)]

theorem LastD.next {bat first n : Int} {fs : List Fm} {last : Int} (h : LastD bat fs last) (hb : 1 ≤ bat) (b : List UInt8) : LastD bat (addF b (openF bat first n fs)) n := by
  refine ⟨fun f hf => ?_⟩
  unfold openF at hf
  by_cases hj : joinsF bat fs n = true
  · rw [if_pos hj] at hf
    unfold joinsF at hj
    rcases List.eq_nil_or_concat fs with rfl | ⟨pre, g, rfl⟩
    · simp at hj
    · rw [List.concat_eq_append] at *
      rw [List.getLast?_concat] at hj
      simp only [decide_eq_true_eq] at hj
      rw [addF_snoc, List.getLast?_concat] at hf
      injection hf with hf
      subst hf
      simp only [List.length_append, List.length_singleton]
      omega
  · rw [if_neg hj, addF_snoc, List.getLast?_concat] at hf
    injection hf with hf
    subst hf
    simp
    omega

theorem sAt_memX {l : List (Int × Int)} {q a : Int} (h : sAt l q = some a) : (q, a) ∈ l := by
  unfold sAt at h
  cases hf : l.find? (fun p => p.1 == q) with
  | none => rw [hf] at h; cases h
  | some p =>
    rw [hf] at h
    simp at h
    have h1 := List.find?_some hf
    have h2 := List.mem_of_find?_eq_some hf
    simp at h1
    obtain ⟨k, b⟩ := p
    simp at h h1
    subst h h1
    exact h2

theorem isQgo_up : ∀ (its : List Itm) (p : Int), isQgo (some p) its = true → ∀ x ∈ its, p ≤ x.seq
  | [], _, _ => fun x hx => by cases hx
  | y :: r, p, h => by
    simp only [isQgo, Bool.and_eq_true, nextI, decide_eq_true_eq] at h
    intro x hx
    rcases List.mem_cons.1 hx with rfl | hx
    · omega
    · have := isQgo_up r y.seq h.2 x hx
      omega
theorem isQ_up {y : Itm} {r : List Itm} (h : isQ (y :: r) = true) : ∀ x ∈ y :: r, y.seq ≤ x.seq := by
  unfold isQ at h
  simp only [isQgo, Bool.and_eq_true] at h
  intro x hx
  rcases List.mem_cons.1 hx with rfl | hx
  · exact Int.le_refl _
  · exact isQgo_up r y.seq h.2 x hx

/-- What the folds of both ticks hold. -/
structure FoldD (s : Snd) (first : Int) (st : List (Int × Int) × List Fm) (sd : Snd × List Fm × Int) : Prop where
  win : sd.1.win = s.win
  bat : sd.1.bat = s.bat
  evy : sd.1.evy = s.evy
  clk : sd.1.clk = s.clk
  us : Uni st.1
  ud : Uni sd.1.sent
  al : ∀ e ∈ st.1, s.clk - e.2 < s.evy
  lo : ∀ e ∈ sd.1.sent, first ≤ e.1
  eq : ∀ q, sAt st.1 q = liveX s.clk s.evy (sAt sd.1.sent q)
  fs : sd.2.1 = st.2
  ls : LastD s.bat st.2 sd.2.2

theorem FoldD.step {s : Snd} {first : Int} {st : List (Int × Int) × List Fm} {sd : Snd × List Fm × Int} (h : FoldD s first st sd) (hb : 1 ≤ s.bat) (he : 1 ≤ s.evy) (x : Itm) (hx : first ≤ x.seq) : FoldD s first (stepT s first st x) (stepD first sd x) := by
  have hdue : dueD sd.1 x.seq = !(sAt st.1 x.seq).isSome := by
    rw [h.eq]
    unfold dueD liveX
    rw [h.clk, h.evy]
    cases sAt sd.1.sent x.seq with
    | none => rfl
    | some t =>
      simp only [Option.filter]
      by_cases ht : s.clk - t < s.evy
      · simp [ht]; omega
      · simp [ht]; omega
  unfold stepT stepD
  rw [hdue]
  cases hs : (sAt st.1 x.seq).isSome with
  | true => simpa using h
  | false =>
    simp only [Bool.not_false, if_true, Bool.false_eq_true, if_false]
    have hF : Uni (sd.1.sent.filter (fun e => decide (e.1 ≠ x.seq ∧ first ≤ e.1))) := h.ud.filter _
    have hne : ∀ e ∈ sd.1.sent.filter (fun e => decide (e.1 ≠ x.seq ∧ first ≤ e.1)), e.1 ≠ x.seq := fun e hm => by
      have := (List.mem_filter.1 hm).2
      simp at this
      exact this.1
    refine ⟨h.win, h.bat, h.evy, h.clk, h.us.snoc _ _ (sAt_noneX hs), hF.snoc _ _ hne, fun e hm => ?_, fun e hm => ?_, fun q => ?_, ?_, ?_⟩
    · rcases List.mem_append.1 hm with hm | hm
      · exact h.al e hm
      · rw [List.mem_singleton] at hm
        subst hm
        show s.clk - s.clk < s.evy
        omega
    · have hm : e ∈ sd.1.sent.filter (fun e => decide (e.1 ≠ x.seq ∧ first ≤ e.1)) ++ [(x.seq, sd.1.clk)] := hm
      rcases List.mem_append.1 hm with hm | hm
      · exact h.lo e (List.mem_filter.1 hm).1
      · rw [List.mem_singleton] at hm
        subst hm
        exact hx
    · show sAt (st.1 ++ [(x.seq, s.clk)]) q = liveX s.clk s.evy (sAt (sd.1.sent.filter (fun e => decide (e.1 ≠ x.seq ∧ first ≤ e.1)) ++ [(x.seq, sd.1.clk)]) q)
      have hnone : (sAt (sd.1.sent.filter (fun e => decide (e.1 ≠ x.seq ∧ first ≤ e.1))) x.seq).isSome = false := by
        rw [sAt_filterX h.ud]
        cases sAt sd.1.sent x.seq <;> simp [Option.filter]
      rw [sAt_snoc _ _ _ _ hs, sAt_snoc _ _ _ _ hnone]
      by_cases hq : x.seq = q
      · rw [if_pos hq, if_pos hq, h.clk]
        unfold liveX
        simp [Option.filter]
        omega
      · rw [if_neg hq, if_neg hq, h.eq q, sAt_filterX h.ud]
        congr 1
        cases ha : sAt sd.1.sent q with
        | none => rfl
        | some a =>
          have := h.lo _ (sAt_memX ha)
          have h1 : first ≤ q := this
          have h2 : q ≠ x.seq := fun t => hq t.symm
          simp [Option.filter, h1, h2]
    · show addF x.bytes (openD sd.1.bat first x.seq sd.2) = addF x.bytes (openF s.bat first x.seq st.2)
      have hp : sd.2 = (st.2, sd.2.2) := by rw [← h.fs]
      rw [hp, h.bat, openD_eq h.ls]
    · exact h.ls.next hb _

theorem FoldD.all {s : Snd} {first : Int} (hb : 1 ≤ s.bat) (he : 1 ≤ s.evy) : ∀ (its : List Itm) (st : List (Int × Int) × List Fm) (sd : Snd × List Fm × Int), (∀ x ∈ its, first ≤ x.seq) → FoldD s first st sd → FoldD s first (its.foldl (stepT s first) st) (its.foldl (stepD first) sd)
  | [], _, _, _, h => h
  | x :: r, st, sd, hx, h => by
    rw [List.foldl_cons, List.foldl_cons]
    exact FoldD.all hb he r _ _ (fun y hy => hx y (List.mem_cons_of_mem _ hy)) (h.step hb he x (hx x (List.mem_cons_self ..)))

/-- Both ticks do the same. -/
theorem tick_alike {s d : Snd} (h : Alike s d) (hb : 1 ≤ s.bat) (he : 1 ≤ s.evy) (its : List Itm) : Alike (tickF s its).1 (tickD d its).1 ∧ (tickF s its).2 = (tickD d its).2 := by
  unfold tickF tickD
  cases hq : isQ its with
  | false =>
    simp only [Bool.false_eq_true, if_false]
    exact ⟨⟨h.win, h.bat, h.evy, by show d.clk + 1 = s.clk + 1; rw [h.clk], h.us, h.ud, fun q => live_later (h.eq q) (by show s.clk ≤ s.clk + 1; omega)⟩, trivial⟩
  | true =>
    simp only [if_true]
    cases its with
    | nil =>
      have hf : s.sent.filter (keepS [] (s.clk + 1) s.evy) = [] := by
        rw [List.filter_eq_nil_iff]
        intro e _
        simp [keepS]
      simp only [List.take_nil, List.foldl_nil, hf]
      exact ⟨⟨h.win, h.bat, h.evy, by show d.clk + 1 = s.clk + 1; rw [h.clk], List.Pairwise.nil, List.Pairwise.nil, fun q => rfl⟩, trivial⟩
    | cons y r =>
      have hstart : FoldD { s with clk := s.clk + 1 } y.seq (s.sent.filter (keepS (y :: r) (s.clk + 1) s.evy), []) ({ d with clk := d.clk + 1, sent := d.sent.filter (fun e => decide (y.seq ≤ e.1)) }, [], 0) := by
        refine ⟨h.win, h.bat, h.evy, by show d.clk + 1 = s.clk + 1; rw [h.clk], h.us.filter _, h.ud.filter _, fun e hm => ?_, fun e hm => ?_, fun q => ?_, rfl, ⟨fun f hf => by simp at hf⟩⟩
        · have := (List.mem_filter.1 hm).2
          simp [keepS] at this
          exact this.2
        · have hm : e ∈ d.sent.filter (fun e => decide (y.seq ≤ e.1)) := hm
          have := (List.mem_filter.1 hm).2
          simpa using this
        · show sAt (s.sent.filter (keepS (y :: r) (s.clk + 1) s.evy)) q = liveX (s.clk + 1) s.evy (sAt (d.sent.filter (fun e => decide (y.seq ≤ e.1))) q)
          rw [sAt_filterX h.us, sAt_filterX h.ud]
          have h1 := live_later (h.eq q) (show s.clk ≤ s.clk + 1 by omega)
          by_cases hy : y.seq ≤ q
          · have e1 : (sAt s.sent q).filter (fun a => keepS (y :: r) (s.clk + 1) s.evy (q, a)) = liveX (s.clk + 1) s.evy (sAt s.sent q) := by
              unfold liveX keepS
              simp [hy]
            have e2 : (sAt d.sent q).filter (fun a => decide (y.seq ≤ ((q, a) : Int × Int).1)) = sAt d.sent q := by
              cases sAt d.sent q <;> simp [Option.filter, hy]
            rw [e1, e2, h1]
          · have e1 : (sAt s.sent q).filter (fun a => keepS (y :: r) (s.clk + 1) s.evy (q, a)) = none := by
              cases sAt s.sent q <;> simp [Option.filter, keepS, hy]
            have e2 : (sAt d.sent q).filter (fun a => decide (y.seq ≤ ((q, a) : Int × Int).1)) = none := by
              cases sAt d.sent q <;> simp [Option.filter, hy]
            rw [e1, e2]
            rfl
      have hall := FoldD.all (s := { s with clk := s.clk + 1 }) hb he ((y :: r).take s.win.toNat) _ _ (fun x hx => isQ_up hq x (List.mem_of_mem_take hx)) hstart
      rw [show d.win.toNat = s.win.toNat by rw [h.win]]
      simp only [baseOf]
      generalize List.foldl (stepT { s with clk := s.clk + 1 } y.seq) (s.sent.filter (keepS (y :: r) (s.clk + 1) s.evy), []) ((y :: r).take s.win.toNat) = FS at hall ⊢
      generalize List.foldl (stepD y.seq) ({ d with clk := d.clk + 1, sent := d.sent.filter (fun e => decide (y.seq ≤ e.1)) }, [], 0) ((y :: r).take s.win.toNat) = FD at hall ⊢
      refine ⟨⟨hall.win, hall.bat, hall.evy, hall.clk, hall.us, hall.ud, fun q => ?_⟩, hall.fs.symm⟩
      have he := hall.eq q
      show liveX (s.clk + 1) s.evy (sAt FS.1 q) = liveX (s.clk + 1) s.evy (sAt FD.1.sent q)
      rw [he]
      exact live_idem _ _ _

end Go.Proofs.YtabhfeocelljdaaDoor

