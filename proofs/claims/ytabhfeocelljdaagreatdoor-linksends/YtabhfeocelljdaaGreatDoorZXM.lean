import Derived.Test.YtabhfeocelljdaaGreatDoorZG0
import Derived.Test.YtabhfeocelljdaaGreatDoorZG4
import Derived.Test.YtabhfeocelljdaaGreatDoorZF6
import Derived.Test.YtabhfeocelljdaaGreatDoorZG7
import Derived.Test.YtabhfeocelljdaaGreatDoorZTC
/- The document's sender: mathematics; its ticks and the program's send the same frames. -/
namespace Go.Proofs.YtabhfeocelljdaaGreatDoor
open Go.RowKit

/-- Is an item to be sent now? -/
def dueD (s : Snd) (n : Int) : Bool := match sAt s.sent n with | none => true | some t => decide (s.clk ≥ t + s.evy)
/-- An item is sent now. -/
def markD (s : Snd) (n first : Int) : Snd := { s with sent := s.sent.filter (fun e => decide (e.1 ≠ n ∧ first ≤ e.1)) ++ [(n, s.clk)] }
/-- The frames behind an item that is sent: the last number goes along. -/
def openD (bat first n : Int) (st : List Fm × Int) : List Fm := match st.1.getLast? with | none => st.1 ++ [⟨1, first, n, [], []⟩] | some f => if st.2 = n - 1 ∧ ¬ (f.items.length : Int) = bat then st.1 else st.1 ++ [⟨1, first, n, [], []⟩]
def stepD (first : Int) (st : Snd × List Fm × Int) (x : Itm) : Snd × List Fm × Int :=
  if dueD st.1 x.seq then (markD st.1 x.seq first, addF x.bytes (openD st.1.bat first x.seq st.2), x.seq) else st
/-- The document's tick. -/
def tickD (s : Snd) (its : List Itm) : Snd × List Fm :=
  if isQ its then
    match its with
    | [] => ({ s with clk := s.clk + 1, sent := [] }, [])
    | x :: _ =>
      let r := (its.take s.win.toNat).foldl (stepD x.seq) ({ s with clk := s.clk + 1, sent := s.sent.filter (fun e => decide (x.seq ≤ e.1)) }, [], 0)
      (r.1, r.2.1)
  else ({ s with clk := s.clk + 1 }, [])

/-- No item is noted twice. -/
def Uni (l : List (Int × Int)) : Prop := l.Pairwise (fun a b => a.1 ≠ b.1)
/-- What still holds an item back. -/
def liveX (t evy : Int) (o : Option Int) : Option Int := o.filter (fun a => decide (t - a < evy))

theorem sAt_filterX {l : List (Int × Int)} (h : Uni l) (P : Int × Int → Bool) (q : Int) : sAt (l.filter P) q = (sAt l q).filter (fun a => P (q, a)) := by
  unfold sAt
  induction l with
  | nil => rfl
  | cons e r ih =>
    have hr : Uni r := (List.pairwise_cons.1 h).2
    have hne := (List.pairwise_cons.1 h).1
    have ih := ih hr
    obtain ⟨k, a⟩ := e
    by_cases hk : k = q
    · subst hk
      rw [List.find?_cons_of_pos (by simp)]
      by_cases hp : P (k, a) = true
      · rw [List.filter_cons_of_pos hp, List.find?_cons_of_pos (by simp)]
        simp [Option.filter, hp]
      · rw [List.filter_cons_of_neg hp]
        have hnone : (r.filter P).find? (fun p => p.1 == k) = none := by
          rw [List.find?_eq_none]
          intro x hx
          have := hne x (List.mem_filter.1 hx).1
          simp at this ⊢
          exact fun t => this t.symm
        rw [hnone]
        simp [Option.filter, hp]
    · rw [List.find?_cons_of_neg (by simp [hk])]
      by_cases hp : P (k, a) = true
      · rw [List.filter_cons_of_pos hp, List.find?_cons_of_neg (by simp [hk])]
        exact ih
      · rw [List.filter_cons_of_neg hp]
        exact ih

theorem Uni.filter {l : List (Int × Int)} (h : Uni l) (P : Int × Int → Bool) : Uni (l.filter P) := List.Pairwise.filter P h
theorem Uni.snoc {l : List (Int × Int)} (h : Uni l) (q t : Int) (hq : ∀ e ∈ l, e.1 ≠ q) : Uni (l ++ [(q, t)]) := by
  unfold Uni
  rw [List.pairwise_append]
  exact ⟨h, List.pairwise_singleton _ _, fun a ha b hb => by rw [List.mem_singleton] at hb; subst hb; exact hq a ha⟩
theorem sAt_noneX {l : List (Int × Int)} {q : Int} (h : (sAt l q).isSome = false) : ∀ e ∈ l, e.1 ≠ q := by
  intro e he t
  unfold sAt at h
  cases hf : l.find? (fun p => p.1 == q) with
  | none =>
    have := (List.find?_eq_none.1 hf) e he
    simp [t] at this
  | some p => rw [hf] at h; simp at h

/-- The program's sender and the document's: alike but for what is over. -/
structure Alike (s d : Snd) : Prop where
  win : d.win = s.win
  bat : d.bat = s.bat
  evy : d.evy = s.evy
  clk : d.clk = s.clk
  us : Uni s.sent
  ud : Uni d.sent
  eq : ∀ q, liveX s.clk s.evy (sAt s.sent q) = liveX s.clk s.evy (sAt d.sent q)

theorem live_later {t t' evy : Int} {a b : Option Int} (h : liveX t evy a = liveX t evy b) (ht : t ≤ t') : liveX t' evy a = liveX t' evy b := by
  unfold liveX at *
  cases a with
  | none =>
    cases b with
    | none => rfl
    | some y =>
      simp [Option.filter] at h ⊢
      omega
  | some x =>
    cases b with
    | none =>
      simp [Option.filter] at h ⊢
      omega
    | some y =>
      simp only [Option.filter] at h ⊢
      by_cases hx : t - x < evy <;> by_cases hy : t - y < evy <;> simp [hx, hy] at h ⊢
      · subst h
        rfl
      · rw [if_neg (by omega), if_neg (by omega)]

theorem live_idem (t evy : Int) (a : Option Int) : liveX t evy (liveX t evy a) = liveX t evy a := by
  unfold liveX
  cases a with
  | none => rfl
  | some x =>
    simp only [Option.filter]
    by_cases hx : t - x < evy <;> simp [hx]

/-- Frames under way, with the last number. -/
structure LastD (bat : Int) (fs : List Fm) (last : Int) : Prop where
  lst : ∀ f, fs.getLast? = some f → last = f.seq + (f.items.length : Int) - 1 ∧ (f.items.length : Int) ≤ bat

theorem openD_eq {bat first n : Int} {fs : List Fm} {last : Int} (h : LastD bat fs last) : openD bat first n (fs, last) = openF bat first n fs := by
  unfold openD openF joinsF
  cases hl : fs.getLast? with
  | none => simp
  | some f =>
    obtain ⟨h1, h2⟩ := h.lst f hl
    simp only
    by_cases hj : (f.items.length : Int) < bat ∧ f.seq + (f.items.length : Int) = n
    · rw [if_pos ⟨by omega, by omega⟩, if_pos (by simpa using hj)]
    · rw [if_neg (by omega), if_neg (by simpa using hj)]

theorem LastD.next {bat first n : Int} {fs : List Fm} {last : Int} (h : LastD bat fs last) (hb : 1 ≤ bat) (b : List UInt8) : LastD bat (addF b (openF bat first n fs)) n := by
  refine ⟨fun f hf => ?_⟩
  unfold openF at hf
  by_cases hj : joinsF bat fs n = true
  · rw [if_pos hj] at hf
    unfold joinsF at hj
    rcases List.eq_nil_or_concat fs with rfl | ⟨pre, g, rfl⟩
    · simp at hj
    · rw [List.concat_eq_append] at *
      rw [List.getLast?_concat] at hj
      simp only [decide_eq_true_eq] at hj
      rw [addF_snoc, List.getLast?_concat] at hf
      injection hf with hf
      subst hf
      simp only [List.length_append, List.length_singleton]
      omega
  · rw [if_neg hj, addF_snoc, List.getLast?_concat] at hf
    injection hf with hf
    subst hf
    simp
    omega

theorem sAt_memX {l : List (Int × Int)} {q a : Int} (h : sAt l q = some a) : (q, a) ∈ l := by
  unfold sAt at h
  cases hf : l.find? (fun p => p.1 == q) with
  | none => rw [hf] at h; cases h
  | some p =>
    rw [hf] at h
    simp at h
    have h1 := List.find?_some hf
    have h2 := List.mem_of_find?_eq_some hf
    simp at h1
    obtain ⟨k, b⟩ := p
    simp at h h1
    subst h h1
    exact h2

theorem isQgo_up : ∀ (its : List Itm) (p : Int), isQgo (some p) its = true → ∀ x ∈ its, p ≤ x.seq
  | [], _, _ => fun x hx => by cases hx
  | y :: r, p, h => by
    simp only [isQgo, Bool.and_eq_true, nextI, decide_eq_true_eq] at h
    intro x hx
    rcases List.mem_cons.1 hx with rfl | hx
    · omega
    · have := isQgo_up r y.seq h.2 x hx
      omega
theorem isQ_up {y : Itm} {r : List Itm} (h : isQ (y :: r) = true) : ∀ x ∈ y :: r, y.seq ≤ x.seq := by
  unfold isQ at h
  simp only [isQgo, Bool.and_eq_true] at h
  intro x hx
  rcases List.mem_cons.1 hx with rfl | hx
  · exact Int.le_refl _
  · exact isQgo_up r y.seq h.2 x hx

/-- What the folds of both ticks hold. -/
structure FoldD (s : Snd) (first : Int) (st : List (Int × Int) × List Fm) (sd : Snd × List Fm × Int) : Prop where
  win : sd.1.win = s.win
  bat : sd.1.bat = s.bat
  evy : sd.1.evy = s.evy
  clk : sd.1.clk = s.clk
  us : Uni st.1
  ud : Uni sd.1.sent
  al : ∀ e ∈ st.1, s.clk - e.2 < s.evy
  lo : ∀ e ∈ sd.1.sent, first ≤ e.1
  eq : ∀ q, sAt st.1 q = liveX s.clk s.evy (sAt sd.1.sent q)
  fs : sd.2.1 = st.2
  ls : LastD s.bat st.2 sd.2.2

theorem FoldD.step {s : Snd} {first : Int} {st : List (Int × Int) × List Fm} {sd : Snd × List Fm × Int} (h : FoldD s first st sd) (hb : 1 ≤ s.bat) (he : 1 ≤ s.evy) (x : Itm) (hx : first ≤ x.seq) : FoldD s first (stepT s first st x) (stepD first sd x) := by
  have hdue : dueD sd.1 x.seq = !(sAt st.1 x.seq).isSome := by
    rw [h.eq]
    unfold dueD liveX
    rw [h.clk, h.evy]
    cases sAt sd.1.sent x.seq with
    | none => rfl
    | some t =>
      simp only [Option.filter]
      by_cases ht : s.clk - t < s.evy
      · simp [ht]; omega
      · simp [ht]; omega
  unfold stepT stepD
  rw [hdue]
  cases hs : (sAt st.1 x.seq).isSome with
  | true => simpa using h
  | false =>
    simp only [Bool.not_false, if_true, Bool.false_eq_true, if_false]
    have hF : Uni (sd.1.sent.filter (fun e => decide (e.1 ≠ x.seq ∧ first ≤ e.1))) := h.ud.filter _
    have hne : ∀ e ∈ sd.1.sent.filter (fun e => decide (e.1 ≠ x.seq ∧ first ≤ e.1)), e.1 ≠ x.seq := fun e hm => by
      have := (List.mem_filter.1 hm).2
      simp at this
      exact this.1
    refine ⟨h.win, h.bat, h.evy, h.clk, h.us.snoc _ _ (sAt_noneX hs), hF.snoc _ _ hne, fun e hm => ?_, fun e hm => ?_, fun q => ?_, ?_, ?_⟩
    · rcases List.mem_append.1 hm with hm | hm
      · exact h.al e hm
      · rw [List.mem_singleton] at hm
        subst hm
        show s.clk - s.clk < s.evy
        omega
    · have hm : e ∈ sd.1.sent.filter (fun e => decide (e.1 ≠ x.seq ∧ first ≤ e.1)) ++ [(x.seq, sd.1.clk)] := hm
      rcases List.mem_append.1 hm with hm | hm
      · exact h.lo e (List.mem_filter.1 hm).1
      · rw [List.mem_singleton] at hm
        subst hm
        exact hx
    · show sAt (st.1 ++ [(x.seq, s.clk)]) q = liveX s.clk s.evy (sAt (sd.1.sent.filter (fun e => decide (e.1 ≠ x.seq ∧ first ≤ e.1)) ++ [(x.seq, sd.1.clk)]) q)
      have hnone : (sAt (sd.1.sent.filter (fun e => decide (e.1 ≠ x.seq ∧ first ≤ e.1))) x.seq).isSome = false := by
        rw [sAt_filterX h.ud]
        cases sAt sd.1.sent x.seq <;> simp [Option.filter]
      rw [sAt_snoc _ _ _ _ hs, sAt_snoc _ _ _ _ hnone]
      by_cases hq : x.seq = q
      · rw [if_pos hq, if_pos hq, h.clk]
        unfold liveX
        simp [Option.filter]
        omega
      · rw [if_neg hq, if_neg hq, h.eq q, sAt_filterX h.ud]
        congr 1
        cases ha : sAt sd.1.sent q with
        | none => rfl
        | some a =>
          have := h.lo _ (sAt_memX ha)
          have h1 : first ≤ q := this
          have h2 : q ≠ x.seq := fun t => hq t.symm
          simp [Option.filter, h1, h2]
    · show addF x.bytes (openD sd.1.bat first x.seq sd.2) = addF x.bytes (openF s.bat first x.seq st.2)
      have hp : sd.2 = (st.2, sd.2.2) := by rw [← h.fs]
      rw [hp, h.bat, openD_eq h.ls]
    · exact h.ls.next hb _

theorem FoldD.all {s : Snd} {first : Int} (hb : 1 ≤ s.bat) (he : 1 ≤ s.evy) : ∀ (its : List Itm) (st : List (Int × Int) × List Fm) (sd : Snd × List Fm × Int), (∀ x ∈ its, first ≤ x.seq) → FoldD s first st sd → FoldD s first (its.foldl (stepT s first) st) (its.foldl (stepD first) sd)
  | [], _, _, _, h => h
  | x :: r, st, sd, hx, h => by
    rw [List.foldl_cons, List.foldl_cons]
    exact FoldD.all hb he r _ _ (fun y hy => hx y (List.mem_cons_of_mem _ hy)) (h.step hb he x (hx x (List.mem_cons_self ..)))

/-- Both ticks do the same. -/
theorem tick_alike {s d : Snd} (h : Alike s d) (hb : 1 ≤ s.bat) (he : 1 ≤ s.evy) (its : List Itm) : Alike (tickF s its).1 (tickD d its).1 ∧ (tickF s its).2 = (tickD d its).2 := by
  unfold tickF tickD
  cases hq : isQ its with
  | false =>
    simp only [Bool.false_eq_true, if_false]
    exact ⟨⟨h.win, h.bat, h.evy, by show d.clk + 1 = s.clk + 1; rw [h.clk], h.us, h.ud, fun q => live_later (h.eq q) (by show s.clk ≤ s.clk + 1; omega)⟩, trivial⟩
  | true =>
    simp only [if_true]
    cases its with
    | nil =>
      have hf : s.sent.filter (keepS [] (s.clk + 1) s.evy) = [] := by
        rw [List.filter_eq_nil_iff]
        intro e _
        simp [keepS]
      simp only [List.take_nil, List.foldl_nil, hf]
      exact ⟨⟨h.win, h.bat, h.evy, by show d.clk + 1 = s.clk + 1; rw [h.clk], List.Pairwise.nil, List.Pairwise.nil, fun q => rfl⟩, trivial⟩
    | cons y r =>
      have hstart : FoldD { s with clk := s.clk + 1 } y.seq (s.sent.filter (keepS (y :: r) (s.clk + 1) s.evy), []) ({ d with clk := d.clk + 1, sent := d.sent.filter (fun e => decide (y.seq ≤ e.1)) }, [], 0) := by
        refine ⟨h.win, h.bat, h.evy, by show d.clk + 1 = s.clk + 1; rw [h.clk], h.us.filter _, h.ud.filter _, fun e hm => ?_, fun e hm => ?_, fun q => ?_, rfl, ⟨fun f hf => by simp at hf⟩⟩
        · have := (List.mem_filter.1 hm).2
          simp [keepS] at this
          exact this.2
        · have hm : e ∈ d.sent.filter (fun e => decide (y.seq ≤ e.1)) := hm
          have := (List.mem_filter.1 hm).2
          simpa using this
        · show sAt (s.sent.filter (keepS (y :: r) (s.clk + 1) s.evy)) q = liveX (s.clk + 1) s.evy (sAt (d.sent.filter (fun e => decide (y.seq ≤ e.1))) q)
          rw [sAt_filterX h.us, sAt_filterX h.ud]
          have h1 := live_later (h.eq q) (show s.clk ≤ s.clk + 1 by omega)
          by_cases hy : y.seq ≤ q
          · have e1 : (sAt s.sent q).filter (fun a => keepS (y :: r) (s.clk + 1) s.evy (q, a)) = liveX (s.clk + 1) s.evy (sAt s.sent q) := by
              unfold liveX keepS
              simp [hy]
            have e2 : (sAt d.sent q).filter (fun a => decide (y.seq ≤ ((q, a) : Int × Int).1)) = sAt d.sent q := by
              cases sAt d.sent q <;> simp [Option.filter, hy]
            rw [e1, e2, h1]
          · have e1 : (sAt s.sent q).filter (fun a => keepS (y :: r) (s.clk + 1) s.evy (q, a)) = none := by
              cases sAt s.sent q <;> simp [Option.filter, keepS, hy]
            have e2 : (sAt d.sent q).filter (fun a => decide (y.seq ≤ ((q, a) : Int × Int).1)) = none := by
              cases sAt d.sent q <;> simp [Option.filter, hy]
            rw [e1, e2]
            rfl
      have hall := FoldD.all (s := { s with clk := s.clk + 1 }) hb he ((y :: r).take s.win.toNat) _ _ (fun x hx => isQ_up hq x (List.mem_of_mem_take hx)) hstart
      rw [show d.win.toNat = s.win.toNat by rw [h.win]]
      simp only [baseOf]
      generalize List.foldl (stepT { s with clk := s.clk + 1 } y.seq) (s.sent.filter (keepS (y :: r) (s.clk + 1) s.evy), []) ((y :: r).take s.win.toNat) = FS at hall ⊢
      generalize List.foldl (stepD y.seq) ({ d with clk := d.clk + 1, sent := d.sent.filter (fun e => decide (y.seq ≤ e.1)) }, [], 0) ((y :: r).take s.win.toNat) = FD at hall ⊢
      refine ⟨⟨hall.win, hall.bat, hall.evy, hall.clk, hall.us, hall.ud, fun q => ?_⟩, hall.fs.symm⟩
      have he := hall.eq q
      show liveX (s.clk + 1) s.evy (sAt FS.1 q) = liveX (s.clk + 1) s.evy (sAt FD.1.sent q)
      rw [he]
      exact live_idem _ _ _

end Go.Proofs.YtabhfeocelljdaaGreatDoor

/- The document's sender in memory: NewSender, row. -/
namespace Go.Proofs.YtabhfeocelljdaaGreatDoor
open Go.RowKit Go.Maps

/-- What was sent, as it lies in memory. -/
def wasC (l : List (Int × Int)) : List Value := l.flatMap fun e => [.int .i64 e.1, .int .i64 e.2]
theorem wasC_length (l : List (Int × Int)) : (wasC l).length = l.length * 2 := by
  induction l with
  | nil => rfl
  | cons x r ih => simp only [wasC, List.flatMap_cons, List.length_append] at *; rw [ih]; simp; omega
theorem wasC_get (l : List (Int × Int)) : ∀ (i j : Nat) (e : Int × Int), l[i]? = some e → j < 2 → (wasC l)[i * 2 + j]? = [Value.int .i64 e.1, .int .i64 e.2][j]? := by
  induction l with
  | nil => intro i j x h; simp at h
  | cons y r ih =>
    intro i j x h hj
    simp only [wasC, List.flatMap_cons]
    cases i with
    | zero =>
      have : y = x := by simpa using h
      subst this
      rw [List.getElem?_append_left (by simp; omega)]
      congr 1; omega
    | succ i =>
      rw [List.getElem?_append_right (by simp; omega)]
      rw [show (i + 1) * 2 + j - [Value.int .i64 y.1, .int .i64 y.2].length = i * 2 + j by simp; omega]
      exact ih i j x (by simpa using h) hj
theorem wasC_snoc (l : List (Int × Int)) (e : Int × Int) : wasC (l ++ [e]) = wasC l ++ [.int .i64 e.1, .int .i64 e.2] := by
  simp [wasC]

/-- The document's sender in memory. -/
structure DS (w : World) (p : Nat) (s : Snd) (so : Option Addr) (sc sb : Nat) : Prop where
  bx : Bx w p #[.int .i64 s.win, .int .i64 s.bat, .int .i64 s.evy, .int .i64 s.clk, .slice so s.sent.length sc] 76
  row : KRow w so sc sb 2 (wasC s.sent)
  ne : 0 < sc → p ≠ sb
theorem DS.frame {S : Nat → Prop} {w w' : World} {p : Nat} {s : Snd} {so : Option Addr} {sc sb : Nat} (h : DS w p s so sc sb) (k : Fr S w w') (hp : ¬ S p) (hb : 0 < sc → ¬ S sb) : DS w' p s so sc sb :=
  ⟨h.bx.frame k hp, h.row.stay (fun hc => k.block sb (h.row.lt (by omega) hc) (hb hc)), h.ne⟩
theorem DS.keep {w w' : World} {p : Nat} {s : Snd} {so : Option Addr} {sc sb : Nat} (h : DS w p s so sc sb) (k : Fr (fun _ => False) w w') : DS w' p s so sc sb := h.frame k (fun t => t) (fun _ t => t)
/-- An entry. -/
theorem DS.at_ {w : World} {p : Nat} {s : Snd} {so : Option Addr} {sc sb : Nat} (h : DS w p s so sc sb) (i : Nat) (hi : i < s.sent.length) : so = some ⟨sb, 0, none⟩ ∧ w.cell? ⟨sb, i * 2, none⟩ = some (.int .i64 s.sent[i].1) ∧ w.cell? ⟨sb, i * 2 + 1, none⟩ = some (.int .i64 s.sent[i].2) := by
  have hle := h.row.le
  rw [wasC_length] at hle
  have hg : ∀ j, j < 2 → w.cell? ⟨sb, i * 2 + j, none⟩ = [Value.int .i64 s.sent[i].1, .int .i64 s.sent[i].2][j]? := fun j hj => by
    have hlt : i * 2 + j < (wasC s.sent).length := by rw [wasC_length]; omega
    rw [h.row.cells _ hlt, ← List.getElem?_eq_getElem hlt]
    exact wasC_get s.sent i j _ (List.getElem?_eq_getElem hi) hj
  exact ⟨h.row.ad (by omega), hg 0 (by omega), hg 1 (by omega)⟩

set_option maxHeartbeats 1000000 in
theorem dnew_ok (w : World) {a b c : Int} (h : sndOk a b c) :
    Calls Tryz.prog 16 #[.int .i64 a, .int .i64 b, .int .i64 c] w fun e w' => ∃ p, e = .returned (.tuple #[.pointer (some ⟨p, 0, none⟩), .int .i64 0]) ∧ DS w' p ⟨a, b, c, 0, []⟩ none 0 0 ∧ Fr (fun _ => False) w w' ∧ w.heap.size ≤ p := by
  obtain ⟨⟨h1, h2⟩, ⟨h3, h4⟩, h5, h6⟩ := h
  have e1 : decide (a < 1) = false := decide_eq_false (by omega)
  have e2 : decide (a > 64) = false := decide_eq_false (by omega)
  have e2b : decide (64 < a) = false := e2
  have e3 : decide (b < 1) = false := decide_eq_false (by omega)
  have e4 : decide (b > 8) = false := decide_eq_false (by omega)
  have e4b : decide (8 < b) = false := e4
  have e5 : decide (c < 1) = false := decide_eq_false (by omega)
  have e6 : decide (c > 1000) = false := decide_eq_false (by omega)
  have e6b : decide (1000 < c) = false := e6
  clear h1 h2 h3 h4 h5 h6
  go_enter Tryz.func16, Tryz.ntmps16
  go_wp2
  go_ret2
  exact ⟨_, rfl, ⟨Bx.new _ _ _, KRow.nil _ _ _, fun h => absurd h (by omega)⟩, (Fr.refl _ _).alloc _, Nat.le_refl _⟩

set_option maxHeartbeats 1000000 in
theorem dnew_bad (w : World) {a b c : Int} (h : ¬ sndOk a b c) :
    Calls Tryz.prog 16 #[.int .i64 a, .int .i64 b, .int .i64 c] w fun e w' => e = .returned (.tuple #[.pointer none, .int .i64 1]) ∧ w' = w := by
  unfold sndOk at h
  by_cases t0 : a < 1
  · have x0 : decide (a < 1) = true := decide_eq_true (by omega)
    clear h t0
    go_enter Tryz.func16, Tryz.ntmps16
    go_wp2
    go_ret2
    exact ⟨rfl, rfl⟩
  have x1 : decide (a < 1) = false := decide_eq_false (by omega)
  by_cases t1 : 64 < a
  · have x2 : decide (a > 64) = true := decide_eq_true (by omega)
    have x3 : decide (64 < a) = true := decide_eq_true (by omega)
    clear h t0 t1
    go_enter Tryz.func16, Tryz.ntmps16
    go_wp2
    go_ret2
    exact ⟨rfl, rfl⟩
  have x4 : decide (a > 64) = false := decide_eq_false (by omega)
  have x5 : decide (64 < a) = false := decide_eq_false (by omega)
  by_cases t2 : b < 1
  · have x6 : decide (b < 1) = true := decide_eq_true (by omega)
    clear h t0 t1 t2
    go_enter Tryz.func16, Tryz.ntmps16
    go_wp2
    go_ret2
    exact ⟨rfl, rfl⟩
  have x7 : decide (b < 1) = false := decide_eq_false (by omega)
  by_cases t3 : 8 < b
  · have x8 : decide (b > 8) = true := decide_eq_true (by omega)
    have x9 : decide (8 < b) = true := decide_eq_true (by omega)
    clear h t0 t1 t2 t3
    go_enter Tryz.func16, Tryz.ntmps16
    go_wp2
    go_ret2
    exact ⟨rfl, rfl⟩
  have x10 : decide (b > 8) = false := decide_eq_false (by omega)
  have x11 : decide (8 < b) = false := decide_eq_false (by omega)
  by_cases t4 : c < 1
  · have x12 : decide (c < 1) = true := decide_eq_true (by omega)
    clear h t0 t1 t2 t3 t4
    go_enter Tryz.func16, Tryz.ntmps16
    go_wp2
    go_ret2
    exact ⟨rfl, rfl⟩
  have x13 : decide (c < 1) = false := decide_eq_false (by omega)
  by_cases t5 : 1000 < c
  · have x14 : decide (c > 1000) = true := decide_eq_true (by omega)
    have x15 : decide (1000 < c) = true := decide_eq_true (by omega)
    clear h t0 t1 t2 t3 t4 t5
    go_enter Tryz.func16, Tryz.ntmps16
    go_wp2
    go_ret2
    exact ⟨rfl, rfl⟩
  have x16 : decide (c > 1000) = false := decide_eq_false (by omega)
  have x17 : decide (1000 < c) = false := decide_eq_false (by omega)
  exact absurd ⟨⟨by omega, by omega⟩, ⟨by omega, by omega⟩, by omega, by omega⟩ h

end Go.Proofs.YtabhfeocelljdaaGreatDoor

/- The document's sender: row, due, mark. -/
namespace Go.Proofs.YtabhfeocelljdaaGreatDoor
open Go.RowKit Go.Maps

def prevX (its : List Itm) : Nat → Option Int
  | 0 => none
  | i + 1 => its[i]?.map Itm.seq

set_option maxHeartbeats 4000000 in
set_option maxRecDepth 20000 in
theorem drow_any (w : World) (its : List Itm) (io : Option Addr) (ic : Nat) (hI : ItsAt w io its) :
    Calls Tryz.prog 42 #[.slice io its.length ic] w fun e w' => e = .returned (.bool (isQ its)) ∧ w' = w := by
  have hsI : (its.length : Int) ≤ 140737488355328 := by have := hI.small; omega
  have HI := hide hI
  obtain ⟨r, hr⟩ : ∃ r, isQ its = r := ⟨_, rfl⟩
  rw [hr]
  have HR := hide hr
  clear hI hr
  go_enter Tryz.func42, Tryz.ntmps42
  go_wp2
  go_loopw [3, 4] (fun iv _ wr => ∃ (i : Nat), i ≤ its.length ∧ iv = .int .i64 i ∧ Hid (wr = w ∧ isQgo (prevX its i) (its.drop i) = r ∧ ∀ v, prevX its i = some v → 0 ≤ v ∧ v ≤ 4294967295)) (fun iv _ _ => its.length - (intOf iv).toNat)
  case atStart => exact ⟨0, Nat.zero_le _, rfl, hide ⟨rfl, unhide HR, fun v hv => by cases hv⟩⟩
  case round =>
    obtain ⟨i, hi, rfl, HK⟩ := hrel
    obtain rfl := (unhide HK).1
    by_cases hil : i < its.length
    · have hiI : (i : Int) < (its.length : Int) := by omega
      have hi4 : (i : Int) ≤ 140737488355328 := by omega
      obtain ⟨b, off, e, hc⟩ := (unhide HI).cells (by omega)
      subst e
      obtain ⟨c0, ao, cap, c1, c2⟩ := hc i hil
      have ht := (unhide HK).2.1
      have HPV := hide (unhide HK).2.2
      rw [List.drop_eq_getElem_cons hil] at ht
      have hxl : (its[i].bytes.length : Int) ≤ 140737488355328 := by have := c2.2.2; omega
      have HP : Hid (prevX its (i + 1) = some its[i].seq) := hide (by simp [prevX, List.getElem?_eq_getElem hil])
      have HPC : Hid (∀ k, i = k + 1 → wr.cell? ⟨b, off + k * 2, none⟩ = some (.int .i64 (its[k]?.map Itm.seq).get!) ∧ prevX its i = some (its[k]?.map Itm.seq).get!) := by
        refine hide (fun k hk => ?_)
        subst hk
        have hkl : k < its.length := by omega
        rw [List.getElem?_eq_getElem hkl]
        exact ⟨(hc k hkl).1, by simp [prevX, List.getElem?_eq_getElem hkl]⟩
      clear hc c2
      generalize its[i] = x at *
      obtain ⟨n, xb⟩ := x
      simp only at c0 c1 ht hxl HP
      have HT : Hid ((okI ⟨n, xb⟩ && nextI (prevX its i) ⟨n, xb⟩ && isQgo (some n) (its.drop (i + 1))) = r) := hide ht
      clear ht HK
      by_cases a1 : n < 1
      · have y1 : decide (n < 1) = true := decide_eq_true (by omega)
        have HRR : Hid (r = false) := by
          refine hide ?_
          rw [← unhide HT]
          have h : okI ⟨n, xb⟩ = false := by (unfold okI; rw [decide_eq_false (by simp only; omega)]; rfl)
          rw [h]
          rfl
        clear HT HP HPC HPV a1
        go_wp2
        go_ret
        exact ⟨by (rw [unhide HRR]; try rfl), rfl⟩
      have y2 : decide (n < 1) = false := decide_eq_false (by omega)
      by_cases a2 : 4294967295 < n
      · have y3 : decide (n > 4294967295) = true := decide_eq_true (by omega)
        have y4 : decide (4294967295 < n) = true := decide_eq_true (by omega)
        have HRR : Hid (r = false) := by
          refine hide ?_
          rw [← unhide HT]
          have h : okI ⟨n, xb⟩ = false := by (unfold okI; rw [decide_eq_false (by simp only; omega)]; rfl)
          rw [h]
          rfl
        clear HT HP HPC HPV a1 a2
        go_wp2
        go_ret
        exact ⟨by (rw [unhide HRR]; try rfl), rfl⟩
      have y5 : decide (n > 4294967295) = false := decide_eq_false (by omega)
      have y6 : decide (4294967295 < n) = false := decide_eq_false (by omega)
      rcases Nat.eq_zero_or_pos i with hi0 | hi0
      · have y800 : decide ((i : Int) > 0) = false := decide_eq_false (by omega)
        have y801 : decide (0 < (i : Int)) = false := y800
        have y802 : decide (0 < i) = false := decide_eq_false (by omega)
        have HZ0 : Hid (prevX its i = none) := hide (by rw [hi0]; rfl)
        clear hi0
        by_cases a4 : 256 < xb.length
        · have y7 : decide ((xb.length : Int) > 256) = true := decide_eq_true (by omega)
          have y8 : decide (256 < (xb.length : Int)) = true := decide_eq_true (by omega)
          have y9 : decide (256 < xb.length) = true := decide_eq_true (by omega)
          have HRR : Hid (r = false) := by
            refine hide ?_
            rw [← unhide HT]
            have h : okI ⟨n, xb⟩ = false := by (unfold okI longB; rw [decide_eq_true a4]; simp)
            rw [h]
            rfl
          clear HT HP HPC HPV a1 a2 a4
          go_wp2
          go_ret
          exact ⟨by (rw [unhide HRR]; try rfl), rfl⟩
        · have y10 : decide ((xb.length : Int) > 256) = false := decide_eq_false (by omega)
          have y11 : decide (256 < (xb.length : Int)) = false := decide_eq_false (by omega)
          have y12 : decide (256 < xb.length) = false := decide_eq_false (by omega)
          have HN : Hid (isQgo (prevX its (i + 1)) (its.drop (i + 1)) = r) := by
            have h1 : okI ⟨n, xb⟩ = true := by (unfold okI longB; rw [decide_eq_true (by simp only; omega), decide_eq_false a4]; rfl)
            have h2 : nextI (prevX its i) ⟨n, xb⟩ = true := by (rw [unhide HZ0]; rfl)
            have h3 := unhide HT
            rw [h1, h2] at h3
            rw [unhide HP]
            exact hide h3
          have HPN : Hid (∀ v, prevX its (i + 1) = some v → 0 ≤ v ∧ v ≤ 4294967295) := hide (fun v hv => by rw [unhide HP] at hv; injection hv with hv; omega)
          clear HT HP HPC HPV a1 a2 a4
          go_wp2
          exact ⟨⟨i + 1, by omega, by go_num, hide ⟨trivial, unhide HN, unhide HPN⟩⟩, by simp [intOf]; omega⟩
      · obtain ⟨k, hk⟩ : ∃ k, i = k + 1 := ⟨i - 1, by omega⟩
        obtain ⟨p0, p1⟩ := unhide HPC k hk
        generalize (its[k]?.map Itm.seq).get! = pv at *
        have hpv := unhide HPV pv p1
        have hkI : (k : Int) < (its.length : Int) := by omega
        have hk0 : (0 : Int) ≤ (k : Int) := by omega
        have y900 : decide ((i : Int) > 0) = true := decide_eq_true (by omega)
        have y903 : decide (0 < (i : Int)) = true := y900
        have y904 : decide (0 < i) = true := decide_eq_true (by omega)
        have hwr1 : IntKind.i64.wrap ((i : Int) - 1) = (k : Int) := by rw [IntKind.wrap_i64]; omega
        have hpv1 : 0 ≤ pv := hpv.1
        have hpv2 : pv ≤ 4294967295 := hpv.2
        have HP1 := hide p1
        clear p1 hk hpv hi0 hi4
        by_cases a3 : n = pv + 1
        · have y901 : (n != pv + 1) = false := by rw [bne_eq_false_iff_eq]; exact a3
          by_cases a4 : 256 < xb.length
          · have y13 : decide ((xb.length : Int) > 256) = true := decide_eq_true (by omega)
            have y14 : decide (256 < (xb.length : Int)) = true := decide_eq_true (by omega)
            have y15 : decide (256 < xb.length) = true := decide_eq_true (by omega)
            have HRR : Hid (r = false) := by
              refine hide ?_
              rw [← unhide HT]
              have h : okI ⟨n, xb⟩ = false := by (unfold okI longB; rw [decide_eq_true a4]; simp)
              rw [h]
              rfl
            clear HT HP HPC HPV a1 a2 a4 a3
            go_wp2
            go_ret
            exact ⟨by (rw [unhide HRR]; try rfl), rfl⟩
          · have y16 : decide ((xb.length : Int) > 256) = false := decide_eq_false (by omega)
            have y17 : decide (256 < (xb.length : Int)) = false := decide_eq_false (by omega)
            have y18 : decide (256 < xb.length) = false := decide_eq_false (by omega)
            have HN : Hid (isQgo (prevX its (i + 1)) (its.drop (i + 1)) = r) := by
              have h1 : okI ⟨n, xb⟩ = true := by (unfold okI longB; rw [decide_eq_true (by simp only; omega), decide_eq_false a4]; rfl)
              have h2 : nextI (prevX its i) ⟨n, xb⟩ = true := by (rw [unhide HP1]; unfold nextI; simpa using a3)
              have h3 := unhide HT
              rw [h1, h2] at h3
              rw [unhide HP]
              exact hide h3
            have HPN : Hid (∀ v, prevX its (i + 1) = some v → 0 ≤ v ∧ v ≤ 4294967295) := hide (fun v hv => by rw [unhide HP] at hv; injection hv with hv; omega)
            clear HT HP HPC HPV a1 a2 a4 a3
            go_wp2
            exact ⟨⟨i + 1, by omega, by go_num, hide ⟨trivial, unhide HN, unhide HPN⟩⟩, by simp [intOf]; omega⟩
        · have y902 : (n != pv + 1) = true := by rw [bne_iff_ne]; exact a3
          have HRR : Hid (r = false) := by
            refine hide ?_
            rw [← unhide HT]
            have h : nextI (prevX its i) ⟨n, xb⟩ = false := by (rw [unhide HP1]; unfold nextI; simpa using a3)
            rw [h]
            simp
          clear HT HP HPC HPV a1 a2 a3
          go_wp2
          go_ret
          exact ⟨by (rw [unhide HRR]; try rfl), rfl⟩
    · obtain rfl : i = its.length := by omega
      have HRR : Hid (r = true) := hide (by have := (unhide HK).2.1; rw [List.drop_length] at this; rw [← this]; rfl)
      clear HK
      go_wp2
      go_ret
      exact ⟨by (rw [unhide HRR]; try rfl), rfl⟩

/-- Which entry is an item's. -/
theorem sAt_ofX {l : List (Int × Int)} {n : Int} {i : Nat} (hi : i < l.length) (hb : ∀ j (hj : j < i), (l[j]'(by omega)).1 ≠ n) (he : l[i].1 = n) : sAt l n = some l[i].2 := by
  induction l generalizing i with
  | nil => simp at hi
  | cons e r ih =>
    cases i with
    | zero =>
      simp only [List.getElem_cons_zero] at he ⊢
      unfold sAt
      rw [List.find?_cons_of_pos (by simp [he])]
      rfl
    | succ i =>
      have h0 := hb 0 (by omega)
      simp only [List.getElem_cons_zero] at h0
      simp only [List.getElem_cons_succ] at he ⊢
      have := ih (i := i) (by simpa using hi) (fun j hj => by have := hb (j + 1) (by omega); simpa using this) he
      unfold sAt at this ⊢
      rw [List.find?_cons_of_neg (by simp [h0])]
      exact this
theorem sAt_noX {l : List (Int × Int)} {n : Int} (hb : ∀ j (hj : j < l.length), l[j].1 ≠ n) : sAt l n = none := by
  unfold sAt
  rw [List.find?_eq_none.2]
  · rfl
  · intro x hx
    obtain ⟨j, hj, rfl⟩ := List.mem_iff_getElem.1 hx
    simp [hb j hj]

set_option maxHeartbeats 4000000 in
set_option maxRecDepth 20000 in
theorem ddue_any {w : World} {p : Nat} {s : Snd} {so : Option Addr} {sc sb : Nat} (h : DS w p s so sc sb) (n : Int) (he : 1 ≤ s.evy ∧ s.evy ≤ 1000) (hk : s.clk ≤ 1152921504606846976) (ha : ∀ e ∈ s.sent, 0 ≤ e.2 ∧ e.2 ≤ s.clk) (hl : s.sent.length ≤ 140737488355328) :
    Calls Tryz.prog 43 #[.pointer (some ⟨p, 0, none⟩), .int .i64 n] w fun e w' => e = .returned (.bool (dueD s n)) ∧ Hid (Fr (fun _ => False) w w') := by
  have c4 : w.cell? ⟨p, 4, none⟩ = some (.slice so s.sent.length sc) := h.bx.cell 4
  have c3 : w.cell? ⟨p, 3, none⟩ = some (.int .i64 s.clk) := h.bx.cell 3
  have c2 : w.cell? ⟨p, 2, none⟩ = some (.int .i64 s.evy) := h.bx.cell 2
  have HD := hide (And.intro h ha)
  have hlI : (s.sent.length : Int) ≤ 140737488355328 := by omega
  obtain ⟨r, hr⟩ : ∃ r, dueD s n = r := ⟨_, rfl⟩
  rw [hr]
  have HR := hide hr
  have HE := hide (And.intro he hk)
  clear h ha hl hr he hk
  go_enter Tryz.func43, Tryz.ntmps43
  go_wp2
  go_loopw [5] (fun iv wr => ∃ (i : Nat), i ≤ s.sent.length ∧ iv = .int .i64 i ∧ Hid (wr = w ∧ ∀ j (hj : j < i) (hl : j < s.sent.length), s.sent[j].1 ≠ n)) (fun iv _ => s.sent.length - (intOf iv).toNat)
  case atStart => exact ⟨0, Nat.zero_le _, rfl, hide ⟨rfl, fun j hj => absurd hj (by omega)⟩⟩
  case round =>
    obtain ⟨i, hi, rfl, HK⟩ := hrel
    obtain rfl := (unhide HK).1
    by_cases hil : i < s.sent.length
    · have hiI : (i : Int) < (s.sent.length : Int) := by omega
      obtain ⟨e, a0, a1⟩ := (unhide HD).1.at_ i hil
      have HB := hide ((unhide HD).2 _ (List.getElem_mem hil))
      by_cases hn : s.sent[i].1 = n
      · have HRR : Hid (r = decide (s.clk ≥ s.sent[i].2 + s.evy)) := by
          rw [← unhide HR]
          unfold dueD
          rw [sAt_ofX hil (fun j hj => (unhide HK).2 j hj (by omega)) hn]
          exact hide rfl
        rw [hn] at a0
        generalize s.sent[i].2 = t at *
        have hq : (n == n) = true := by simp
        have hb0 : 0 ≤ t := (unhide HB).1
        have hb1 : t ≤ 1152921504606846976 := by have := (unhide HB).2; have := (unhide HE).2; omega
        have hb2 : s.evy ≤ 1000 := (unhide HE).1.2
        have hb3 : 1 ≤ s.evy := (unhide HE).1.1
        have hwrp : IntKind.i64.wrap (t + s.evy) = t + s.evy := by rw [IntKind.wrap_i64]; omega
        obtain ⟨d, hd⟩ : ∃ d, decide (s.clk ≥ t + s.evy) = d := ⟨_, rfl⟩
        have hd2 : decide (t + s.evy ≤ s.clk) = d := hd
        rw [hd] at HRR
        clear HK hn HB
        subst e
        go_upto_region 5 with (fail)
        go_quiet (fail)
        go_wp2
        go_ret
        exact ⟨by (rw [unhide HRR]; try rfl), hide ((Fr.refl _ _).drewN _)⟩
      · have hq : (s.sent[i].1 == n) = false := by simp [hn]
        have HK2 : Hid (∀ j (hj : j < i + 1) (hl : j < s.sent.length), s.sent[j].1 ≠ n) := hide (fun j hj hl => by
          by_cases hji : j = i
          · subst hji; exact hn
          · exact (unhide HK).2 j (by omega) hl)
        generalize s.sent[i].1 = sq at *
        clear HK hn HB
        subst e
        go_wp2
        exact ⟨⟨i + 1, by omega, by go_num, hide ⟨trivial, unhide HK2⟩⟩, by simp [intOf]; omega⟩
    · obtain rfl : i = s.sent.length := by omega
      have HRR : Hid (r = true) := by
        rw [← unhide HR]
        unfold dueD
        rw [sAt_noX (fun j hj => (unhide HK).2 j hj hj)]
        exact hide rfl
      clear HK
      go_wp2
      go_ret
      exact ⟨by (rw [unhide HRR]; try rfl), hide (Fr.refl _ _)⟩

end Go.Proofs.YtabhfeocelljdaaGreatDoor

/- The document's sender: mark. -/
namespace Go.Proofs.YtabhfeocelljdaaGreatDoor
open Go.RowKit Go.Maps

theorem infoS : (Tryz.prog.info? 83).map (fun i => (i.zero, i.size, i.bytes)) = some (some (.agg #[.int .i64 0, .int .i64 0]), 2, 16) := by kernel_rfl

def keepM (n first : Int) (e : Int × Int) : Bool := decide (e.1 ≠ n ∧ first ≤ e.1)
theorem filter_takeX (P : Int × Int → Bool) (l : List (Int × Int)) (i : Nat) (hi : i < l.length) : (l.take (i + 1)).filter P = (l.take i).filter P ++ (if P l[i] then [l[i]] else []) := by
  rw [List.take_succ_eq_append_getElem hi, List.filter_append]
  congr 1
  by_cases h : P l[i] = true
  · simp [h]
  · simp [h]

/-- mark under way: what is kept so far. -/
structure MK (w : World) (p : Nat) (s : Snd) (so : Option Addr) (sc sb : Nat) (acc : List (Int × Int)) (oo : Option Addr) (oc ob : Nat) (wr : World) : Prop where
  fr : Fr (fun _ => False) w wr
  ds : DS wr p s so sc sb
  row : KRow wr oo oc ob 2 (wasC acc)
  nw : 0 < oc → w.heap.size ≤ ob
theorem MK.keep {w : World} {p : Nat} {s : Snd} {so : Option Addr} {sc sb : Nat} {acc : List (Int × Int)} {oo : Option Addr} {oc ob : Nat} {wr w' : World} (h : MK w p s so sc sb acc oo oc ob wr) (k : Fr (fun _ => False) wr w') : MK w p s so sc sb acc oo oc ob w' :=
  ⟨h.fr.trans k (fun _ _ t => t), h.ds.keep k, h.row.stay (fun hc => k.block ob (h.row.lt (by omega) hc) (fun t => t)), h.nw⟩
theorem MK.next {w : World} {p : Nat} {s : Snd} {so : Option Addr} {sc sb : Nat} {acc : List (Int × Int)} {oo oo' : Option Addr} {oc ob oc' ob' : Nat} {wr w' : World} (h : MK w p s so sc sb acc oo oc ob wr) (hl : p < w.heap.size ∧ (0 < sc → sb < w.heap.size)) (e : Int × Int) (k1 : KRow w' oo' oc' ob' 2 (wasC acc ++ [.int .i64 e.1, .int .i64 e.2])) (k2 : Grew wr ob oc w' ob' oc') : MK w p s so sc sb (acc ++ [e]) oo' oc' ob' w' := by
  have hf := k2.frZ
  have hz := h.fr.size
  refine ⟨h.fr.trans hf (fun i hi t => by have := h.nw t.2; omega), h.ds.frame hf (fun t => by have := h.nw t.2; omega) (fun hc t => by have := h.nw t.2; have := hl.2 hc; omega), by rw [wasC_snoc]; exact k1, fun hc => ?_⟩
  rcases k2 with ⟨e1, e2, _⟩ | ⟨e1, _, _⟩
  · subst e1 e2; exact h.nw hc
  · omega

set_option maxHeartbeats 4000000 in
set_option maxRecDepth 20000 in
theorem dmark_any {w : World} {p : Nat} {s : Snd} {so : Option Addr} {sc sb : Nat} (h : DS w p s so sc sb) (n first : Int) (hl : (s.sent.length + 1) * 16 ≤ 140737488355328) :
    Calls Tryz.prog 44 #[.pointer (some ⟨p, 0, none⟩), .int .i64 n, .int .i64 first] w fun e w' => e = .returned (.tuple #[]) ∧ ∃ so' sc' sb', Hid (DS w' p (markD s n first) so' sc' sb' ∧ Fr (· = p) w w' ∧ (0 < sc' → w.heap.size ≤ sb')) := by
  have HLO : Hid (p < w.heap.size ∧ (0 < sc → sb < w.heap.size)) := hide ⟨h.bx.lt, fun hc => h.row.lt (by omega) hc⟩
  have hlI : (s.sent.length : Int) ≤ 140737488355328 := by omega
  have HD := hide h
  have HL := hide hl
  obtain ⟨info, hinf, hzz⟩ := Option.map_eq_some_iff.1 infoS
  simp only [Prod.mk.injEq] at hzz
  have HINF := hide (And.intro hinf hzz)
  clear h hl hinf hzz
  go_enter Tryz.func44, Tryz.ntmps44
  go_wp2
  go_loopw [6, 7] (fun ov iv wr => ∃ (i : Nat) (oo : Option Addr) (oc ob : Nat), i ≤ s.sent.length ∧ ov = .slice oo ((s.sent.take i).filter (keepM n first)).length oc ∧ iv = .int .i64 i ∧ Hid (MK w p s so sc sb ((s.sent.take i).filter (keepM n first)) oo oc ob wr)) (fun _ iv _ => s.sent.length - (intOf iv).toNat)
  case atStart => exact ⟨0, none, 0, 0, Nat.zero_le _, rfl, rfl, hide ⟨Fr.refl _ _, unhide HD, KRow.nil _ _ _, fun h => absurd h (by omega)⟩⟩
  case round =>
    obtain ⟨i, oo, oc, ob, hi, rfl, rfl, HK⟩ := hrel
    have c4 : wr.cell? ⟨p, 4, none⟩ = some (.slice so s.sent.length sc) := (unhide HK).ds.bx.cell 4
    by_cases hil : i < s.sent.length
    · have hiI : (i : Int) < (s.sent.length : Int) := by omega
      obtain ⟨e, a0, a1⟩ := (unhide HK).ds.at_ i hil
      have HT := hide (filter_takeX (keepM n first) s.sent i hil)
      have HAL : Hid (((s.sent.take i).filter (keepM n first)).length ≤ i) := hide (by have := List.length_filter_le (keepM n first) (s.sent.take i); rw [List.length_take] at this; omega)
      generalize (s.sent.take i).filter (keepM n first) = acc at *
      generalize s.sent[i] = ent at *
      obtain ⟨q, t⟩ := ent
      simp only at a0 a1
      subst e
      by_cases h1 : q = n
      · have y1 : (q != n) = false := by rw [bne_eq_false_iff_eq]; exact h1
        have HTT : Hid ((s.sent.take (i + 1)).filter (keepM n first) = acc) := hide (by rw [unhide HT]; simp [keepM, h1])
        clear h1 HT
        go_wp2
        exact ⟨⟨i + 1, oo, oc, ob, by omega, by rw [unhide HTT], by go_num, hide (by rw [unhide HTT]; exact unhide HK)⟩, by simp [intOf]; omega⟩
      · have y1 : (q != n) = true := by rw [bne_iff_ne]; exact h1
        by_cases h2 : first ≤ q
        · have y2 : decide (q ≥ first) = true := decide_eq_true h2
          have y3 : decide (first ≤ q) = true := y2
          have HTT : Hid ((s.sent.take (i + 1)).filter (keepM n first) = acc ++ [(q, t)]) := hide (by rw [unhide HT]; simp [keepM, h1, h2])
          have HKA := hide ((unhide HK).keep ((Fr.refl (fun _ => False) wr).alloc (.cells #[.int .i64 q, .int .i64 t] 83)))
          have HSR := hide (src_one (P := Tryz.prog) wr [.int .i64 q, .int .i64 t] 74 83 2 Tryz.underlying74 rfl (fun u hu => by simp only [List.mem_cons, List.not_mem_nil, or_false] at hu; rcases hu with rfl | rfl <;> rfl) (W := wr.alloc (.cells #[.int .i64 q, .int .i64 t] 83)) (fun j => by rw [World.cell?_alloc_new]; simp))
          clear h1 h2 HT
          go_wp2_with (at_builtin; refine wpList_append_krow _ rfl (.tmp 39) (.tmp 47) 74 74 rfl 83 info _ 2 (by omega) Tryz.underlying74 (unhide HINF).1 (unhide HINF).2.1 rfl (unhide HINF).2.2.1 rfl (unhide HKA).row (wasC_length acc) _ _ 1 rfl (unhide HSR) (by rw [(unhide HINF).2.2.2]; have := unhide HAL; have := unhide HL; omega) (by have := unhide HAL; have := unhide HL; omega) ?_)
          intro oo9 oc9 w9 ob9 hkr hgr
          have HK9 := hide ((unhide HKA).next (unhide HLO) (q, t) hkr hgr)
          clear hkr hgr HSR HKA
          go_wp2
          exact ⟨⟨i + 1, oo9, oc9, ob9, by omega, by rw [unhide HTT, List.length_append]; rfl, by go_num, hide (by rw [unhide HTT]; exact unhide HK9)⟩, by simp [intOf]; omega⟩
        · have y2 : decide (q ≥ first) = false := decide_eq_false h2
          have y3 : decide (first ≤ q) = false := y2
          have HTT : Hid ((s.sent.take (i + 1)).filter (keepM n first) = acc) := hide (by rw [unhide HT]; simp [keepM, h2])
          clear h1 h2 HT
          go_wp2
          exact ⟨⟨i + 1, oo, oc, ob, by omega, by rw [unhide HTT], by go_num, hide (by rw [unhide HTT]; exact unhide HK)⟩, by simp [intOf]; omega⟩
    · obtain rfl : i = s.sent.length := by omega
      have HAL : Hid ((s.sent.filter (keepM n first)).length ≤ s.sent.length) := hide (List.length_filter_le _ _)
      have hK := unhide HK
      rw [List.take_length] at hK
      rw [List.take_length]
      have HK2 := hide hK
      have HMD : Hid (markD s n first = { s with sent := s.sent.filter (keepM n first) ++ [(n, s.clk)] }) := hide rfl
      generalize s.sent.filter (keepM n first) = acc at *
      have c3 : wr.cell? ⟨p, 3, none⟩ = some (.int .i64 s.clk) := hK.ds.bx.cell 3
      have hKA := hK.keep ((Fr.refl (fun _ => False) wr).alloc (.cells #[.int .i64 n, .int .i64 s.clk] 83))
      have HKA := hide hKA
      have HSR := hide (src_one (P := Tryz.prog) wr [.int .i64 n, .int .i64 s.clk] 74 83 2 Tryz.underlying74 rfl (fun u hu => by simp only [List.mem_cons, List.not_mem_nil, or_false] at hu; rcases hu with rfl | rfl <;> rfl) (W := wr.alloc (.cells #[.int .i64 n, .int .i64 s.clk] 83)) (fun j => by rw [World.cell?_alloc_new]; simp))
      clear hK hKA HK
      go_wp2_with (at_builtin; refine wpList_append_krow _ rfl (.tmp 50) (.tmp 57) 74 74 rfl 83 info _ 2 (by omega) Tryz.underlying74 (unhide HINF).1 (unhide HINF).2.1 rfl (unhide HINF).2.2.1 rfl (unhide HKA).row (wasC_length acc) _ _ 1 rfl (unhide HSR) (by rw [(unhide HINF).2.2.2]; have := unhide HAL; have := unhide HL; omega) (by have := unhide HAL; have := unhide HL; omega) ?_)
      intro oo9 oc9 w9 ob9 hkr hgr
      have hk9 := (unhide HKA).next (unhide HLO) (n, s.clk) hkr hgr
      have d4 : w9.cell? ⟨p, 4, none⟩ = some (.slice so s.sent.length sc) := hk9.ds.bx.cell 4
      have f4 : w9.frozen? ⟨p, 4, none⟩ = false := hk9.ds.bx.frozen 4
      have HFIN : Hid (DS (w9.setCell ⟨p, 4, none⟩ (.slice oo9 (acc.length + 1) oc9)) p (markD s n first) oo9 oc9 ob9 ∧ Fr (· = p) w (w9.setCell ⟨p, 4, none⟩ (.slice oo9 (acc.length + 1) oc9)) ∧ (0 < oc9 → w.heap.size ≤ ob9)) := by
        have hset : Fr (· = p) w9 (w9.setCell ⟨p, 4, none⟩ (.slice oo9 (acc.length + 1) oc9)) := Fr.setCell (S := fun k => k = p) (Fr.refl _ _) (p := ⟨p, 4, none⟩) (fun _ => rfl) _
        have hpl := (unhide HLO).1
        rw [unhide HMD]
        refine hide ⟨⟨?_, hk9.row.stay (fun hc => hset.block ob9 (hk9.row.lt (by omega) hc) (fun t => by have t : ob9 = p := t; have := hk9.nw hc; omega)), fun hc => by have := hk9.nw hc; omega⟩, (hk9.fr.mono (fun _ _ t => t.elim)).trans hset (fun _ _ t => t), hk9.nw⟩
        have := hk9.ds.bx.setCell 4 (.slice oo9 (acc.length + 1) oc9)
        show Bx _ p #[.int .i64 s.win, .int .i64 s.bat, .int .i64 s.evy, .int .i64 s.clk, .slice oo9 (acc ++ [(n, s.clk)]).length oc9] _
        rw [List.length_append]
        exact this
      clear hkr hgr hk9 HSR HKA HK2
      go_wp2
      go_end0
      exact ⟨rfl, oo9, oc9, ob9, HFIN⟩

end Go.Proofs.YtabhfeocelljdaaGreatDoor

/- The document's sender: Tick. -/
namespace Go.Proofs.YtabhfeocelljdaaGreatDoor
open Go.RowKit Go.Maps

/-- Tick under way, its loop. -/
structure TD (w : World) (p : Nat) (sd : Snd × List Fm × Int) (so : Option Addr) (sc sb : Nat) (fo : Option Addr) (fc fb : Nat) (xs : List FrM) (wr : World) : Prop where
  fr : Fr (fun k => k = p) w wr
  ds : DS wr p sd.1 so sc sb
  fl : FL w.heap.size wr fo fc fb xs
  fs : xs.map FrM.f = sd.2.1
  pl : p < w.heap.size
  nw : 0 < sc → w.heap.size ≤ sb
  ap : 0 < sc → (0 < fc → sb ≠ fb) ∧ ∀ x, xs.getLast? = some x → 0 < x.ic → sb ≠ x.ib
theorem TD.keep {w : World} {p : Nat} {sd : Snd × List Fm × Int} {so : Option Addr} {sc sb : Nat} {fo : Option Addr} {fc fb : Nat} {xs : List FrM} {wr w' : World} (h : TD w p sd so sc sb fo fc fb xs wr) (k : Fr (fun _ => False) wr w') : TD w p sd so sc sb fo fc fb xs w' :=
  ⟨h.fr.trans k (fun _ _ t => t.elim), h.ds.keep k, h.fl.frame k (fun _ t => t.elim), h.fs, h.pl, h.nw, h.ap⟩
/-- Something was marked. -/
theorem TD.mark {w : World} {p : Nat} {sd : Snd × List Fm × Int} {so : Option Addr} {sc sb : Nat} {fo : Option Addr} {fc fb : Nat} {xs : List FrM} {wr w' : World} (h : TD w p sd so sc sb fo fc fb xs wr) {s' : Snd} {so' : Option Addr} {sc' sb' : Nat} (hd : DS w' p s' so' sc' sb') (k : Fr (· = p) wr w') (hn : 0 < sc' → wr.heap.size ≤ sb') : TD w p (s', sd.2) so' sc' sb' fo fc fb xs w' := by
  have hz := h.fr.size
  have hp := h.pl
  refine ⟨h.fr.trans k (fun _ _ t => t), hd, h.fl.frame k (fun i t => by have t : i = p := t; omega), h.fs, hp, fun hc => by have := hn hc; omega, fun hc => ⟨fun hf => ?_, fun x hx hi => ?_⟩⟩
  · have := h.fl.row.lt (by omega) hf
    have := hn hc
    omega
  · have hm : x ∈ xs := List.mem_of_getLast? hx
    have h1 := (h.fl.ok x hm).b1 hi
    have h2 := (h.fl.ok x hm).hs
    have := hn hc
    omega
/-- A frame more. -/
theorem TD.opens {w : World} {p : Nat} {sd : Snd × List Fm × Int} {so : Option Addr} {sc sb : Nat} {fo fo' : Option Addr} {fc fb fc' fb' : Nat} {xs : List FrM} {wr w' : World} (h : TD w p sd so sc sb fo fc fb xs wr) (ba sq : Int)
    (k1 : KRow w' fo' fc' fb' 5 (xs.flatMap FrM.cells ++ [.int .i64 1, .int .i64 ba, .int .i64 sq, .slice none 0 0, .slice none 0 0])) (k2 : Grew wr fb fc w' fb' fc') :
    TD w p (sd.1, sd.2.1 ++ [⟨1, ba, sq, [], []⟩], sd.2.2) so sc sb fo' fc' fb' (xs ++ [⟨⟨1, ba, sq, [], []⟩, none, 0, 0, [], w'.heap.size, w'.heap.size⟩]) w' := by
  have hz := h.fr.size
  have hf := k2.frZ
  have hp := h.pl
  refine ⟨h.fr.trans hf (fun i hi t => by have := (h.fl.bk t.2).1; omega), h.ds.frame hf (fun t => by have := (h.fl.bk t.2).1; omega) (fun hc t => (h.ap hc).1 t.2 t.1), h.fl.openw (by omega) 1 ba sq k1 k2, by rw [List.map_append, h.fs]; rfl, hp, h.nw, fun hc => ⟨fun hc2 => ?_, fun x hx hi => ?_⟩⟩
  · rcases k2 with ⟨e1, e2, _⟩ | ⟨e1, _, _⟩
    · subst e1 e2; exact (h.ap hc).1 hc2
    · have := h.ds.row.lt (by omega) hc
      omega
  · rw [List.getLast?_concat] at hx
    injection hx with hx
    subst hx
    exact absurd hi (Nat.lt_irrefl 0)
/-- The last frame gets an item. -/
theorem TD.adds {w : World} {p : Nat} {s : Snd} {last : Int} {so : Option Addr} {sc sb : Nat} {fo : Option Addr} {fc fb : Nat} {pre : List FrM} {x : FrM} {wr w1 w2 : World} {fs : List Fm} (h : TD w p (s, fs, last) so sc sb fo fc fb (pre ++ [x]) wr) (f1 : Fr (fun _ => False) wr w1) {d : RD} {b : List UInt8} (hb : b.length ≤ 140737488355328) (hr : Row w1 d.val d.g b) (hn : d.n = b.length) (hd : 0 < d.cap → wr.heap.size ≤ d.g)
    {io' : Option Addr} {ic' ib' : Nat} (k1 : KRow w2 io' ic' ib' 1 (x.ds.map RD.val ++ [d.val])) (k2 : Grew w1 x.ib x.ic w2 ib' ic') (last' : Int) :
    TD w p (s, addF b fs, last') so sc sb fo fc fb (pre ++ [⟨{ x.f with items := x.f.items ++ [b] }, io', ic', ib', x.ds ++ [d], x.lo, w2.heap.size⟩]) (w2.setCell ⟨fb, pre.length * 5 + 3, none⟩ (.slice io' (x.f.items.length + 1) ic')) := by
  have hfl := h.fl.add f1 hb hr hn hd k1 k2
  have hz := h.fr.size
  have hz1 := f1.size
  have hle := h.fl.row.le
  rw [flat5, List.length_append, List.length_singleton] at hle
  have hfc : 0 < fc := by omega
  have hx := h.fl.ok x (by simp)
  have hM := h.fl.lw x (by simp)
  have hf : Fr (fun k => k = x.ib ∧ 0 < x.ic) wr w2 := (f1.mono (fun _ _ t => t.elim)).trans k2.frZ (fun _ _ t => t)
  have hset : Fr (fun k => k = fb) w2 (w2.setCell ⟨fb, pre.length * 5 + 3, none⟩ (.slice io' (x.f.items.length + 1) ic')) := Fr.setCell (S := fun k => k = fb) (Fr.refl _ _) (p := ⟨fb, pre.length * 5 + 3, none⟩) (fun _ => rfl) _
  have hbk := (h.fl.bk hfc).1
  have hp := h.pl
  refine ⟨(h.fr.trans hf (fun i hi t => by have := hx.il.ib t.2; omega)).trans hset (fun i hi t => by have t : i = fb := t; omega), (h.ds.frame hf (fun t => by have := hx.il.ib t.2; omega) (fun hc t => (h.ap hc).2 x (by rw [List.getLast?_concat]) t.2 t.1)).frame hset (fun t => by have t : p = fb := t; omega) (fun hc t => (h.ap hc).1 hfc t), hfl, ?_, hp, h.nw, fun hc => ⟨fun _ => (h.ap hc).1 hfc, fun y hy hi => ?_⟩⟩
  · have := h.fs
    simp only at this ⊢
    rw [← this, List.map_append, List.map_append, List.map_singleton, List.map_singleton, addF_snoc]
  · rw [List.getLast?_concat] at hy
    injection hy with hy
    subst hy
    rcases k2 with ⟨e1, e2, _⟩ | ⟨e1, _, _⟩
    · show sb ≠ ib'
      rw [e1]
      have hi : 0 < ic' := hi
      exact (h.ap hc).2 x (by rw [List.getLast?_concat]) (by omega)
    · show sb ≠ ib'
      have := h.ds.row.lt (by omega) hc
      omega

end Go.Proofs.YtabhfeocelljdaaGreatDoor

/- Numbers that are each there once are few. -/
namespace Go.Proofs.YtabhfeocelljdaaGreatDoor

theorem nodup_few : ∀ (n : Nat) (l : List Int), l.Nodup → (∀ x ∈ l, 1 ≤ x ∧ x ≤ (n : Int)) → l.length ≤ n
  | 0, l, _, h => by
    cases l with
    | nil => simp
    | cons x r => have := h x List.mem_cons_self; omega
  | n + 1, l, hn, h => by
    by_cases hm : ((n + 1 : Nat) : Int) ∈ l
    · have h1 := nodup_few n (l.erase ((n + 1 : Nat) : Int)) (hn.erase _) (fun x hx => by
        have h2 := (List.Nodup.mem_erase_iff hn).1 hx
        have h3 := h x h2.2
        have h4 := h2.1
        omega)
      rw [List.length_erase_of_mem hm] at h1
      omega
    · have h1 := nodup_few n l hn (fun x hx => by
        have h3 := h x hx
        have h4 : x ≠ ((n + 1 : Nat) : Int) := fun e => hm (e ▸ hx)
        omega)
      omega

/-- What is kept of numbers up to 4294967295, each once, is few. -/
theorem sent_few {l : List (Int × Int)} (hn : (l.map Prod.fst).Nodup) (h : ∀ e ∈ l, 1 ≤ e.1 ∧ e.1 ≤ 4294967295) : l.length ≤ 4294967295 := by
  have := nodup_few 4294967295 (l.map Prod.fst) hn (fun x hx => by
    obtain ⟨e, he, rfl⟩ := List.mem_map.1 hx
    exact h e he)
  rwa [List.length_map] at this

theorem Uni.few {l : List (Int × Int)} (hu : Uni l) (h : ∀ e ∈ l, 1 ≤ e.1 ∧ e.1 ≤ 4294967295) : l.length ≤ 4294967295 :=
  sent_few (List.pairwise_map.2 hu) h

theorem foldl_inv {α β : Type} (P : β → Prop) (f : β → α → β) : ∀ (l : List α) (b : β), P b → (∀ b x, x ∈ l → P b → P (f b x)) → P (l.foldl f b)
  | [], _, h, _ => h
  | x :: r, b, h, hs => foldl_inv P f r (f b x) (hs b x List.mem_cons_self h) (fun b y hy hb => hs b y (List.mem_cons_of_mem _ hy) hb)

/-- What was sent has numbers that may be, at ticks that were. -/
def SentOk (l : List (Int × Int)) (clk : Int) : Prop := ∀ e ∈ l, (1 ≤ e.1 ∧ e.1 ≤ 4294967295) ∧ 0 ≤ e.2 ∧ e.2 ≤ clk
theorem SentOk.filter {l : List (Int × Int)} {c : Int} (h : SentOk l c) (P : Int × Int → Bool) : SentOk (l.filter P) c := fun e he => h e (List.mem_filter.1 he).1
theorem SentOk.tick {l : List (Int × Int)} {c : Int} (h : SentOk l c) : SentOk l (c + 1) := fun e he => by have := h e he; omega
theorem SentOk.snoc {l : List (Int × Int)} {c : Int} (h : SentOk l c) (hc : 0 ≤ c) {q : Int} (hq : 1 ≤ q ∧ q ≤ 4294967295) : SentOk (l ++ [(q, c)]) c := fun e he => by
  rcases List.mem_append.1 he with he | he
  · exact h e he
  · rw [List.mem_singleton] at he
    subst he
    exact ⟨hq, hc, Int.le_refl _⟩

theorem tickD_sent {s : Snd} (h : SentOk s.sent s.clk) (hc : 0 ≤ s.clk) (its : List Itm) : SentOk (tickD s its).1.sent (tickD s its).1.clk ∧ (tickD s its).1.clk = s.clk + 1 ∧ (tickD s its).1.win = s.win ∧ (tickD s its).1.bat = s.bat ∧ (tickD s its).1.evy = s.evy := by
  unfold tickD
  cases hq : isQ its with
  | false => exact ⟨h.tick, rfl, rfl, rfl, rfl⟩
  | true =>
    cases its with
    | nil => exact ⟨fun e he => by (cases he), rfl, rfl, rfl, rfl⟩
    | cons x r =>
      have hall := fun y hy => okI_iff (isQgo_all (x :: r) none hq y hy)
      exact foldl_inv (fun st : Snd × List Fm × Int => SentOk st.1.sent st.1.clk ∧ st.1.clk = s.clk + 1 ∧ st.1.win = s.win ∧ st.1.bat = s.bat ∧ st.1.evy = s.evy) (stepD x.seq) ((x :: r).take s.win.toNat) _ ⟨(h.tick).filter _, rfl, rfl, rfl, rfl⟩ (fun st y hy hs => by
        unfold stepD
        split
        · exact ⟨(hs.1.filter _).snoc (by rw [hs.2.1]; omega) (hall y (List.mem_of_mem_take hy)).1, hs.2⟩
        · exact hs)

theorem tickF_sent {s : Snd} (h : SentOk s.sent s.clk) (hc : 0 ≤ s.clk) (its : List Itm) : SentOk (tickF s its).1.sent (tickF s its).1.clk ∧ (tickF s its).1.clk = s.clk + 1 ∧ (tickF s its).1.win = s.win ∧ (tickF s its).1.bat = s.bat ∧ (tickF s its).1.evy = s.evy := by
  unfold tickF
  cases hq : isQ its with
  | false => exact ⟨h.tick, rfl, rfl, rfl, rfl⟩
  | true =>
    have hall := fun y hy => okI_iff (isQgo_all its none hq y hy)
    refine ⟨?_, rfl, rfl, rfl, rfl⟩
    exact foldl_inv (fun st : List (Int × Int) × List Fm => SentOk st.1 (s.clk + 1)) (stepT { s with clk := s.clk + 1 } (baseOf its)) (its.take s.win.toNat) _ ((h.tick).filter _) (fun st y hy hs => by
      unfold stepT
      split
      · exact hs
      · exact hs.snoc (by omega) (hall y (List.mem_of_mem_take hy)).1)

end Go.Proofs.YtabhfeocelljdaaGreatDoor

