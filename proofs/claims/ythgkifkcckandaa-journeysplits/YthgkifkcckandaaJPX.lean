/- Proved: the law JourneySplits answers true for every tariff and every slice of taps, and its arguments read afterwards as they read before. No condition but the form's own reach. -/
import Derived.Test.YthgkifkcckandaaJMX
import Derived.Test.YthgkifkcckandaaJN8
import Derived.Test.YthgkifkcckandaaJNH
import Derived.Test.YthgkifkcckandaaO1
import Derived.Test.YthgkifkcckandaaQO1
import Derived.Test.YthgkifkcckandaaJO1
/- Rides and journeys by rail don't see each other. -/
namespace Go.Proofs.Ythgkifkcckandaa

def nb (j : Jn) : Bool := !isK 4 j
theorem nb_rail (j : Jn) : nb j = railB j := by unfold nb isK railB; by_cases h : j.kind = 4 <;> simp [h]

theorem isBus_iff (x : Tp) : isBus x = true ↔ x.kind = 3 := by simp [isBus]

theorem filter_set_no {α : Type} (p : α → Bool) (l : List α) (k : Nat) (y z : α) (hz : l[k]? = some z) (h1 : p z = false) (h2 : p y = false) : (l.set k y).filter p = l.filter p := by
  induction l generalizing k with
  | nil => simp at hz
  | cons b r ih =>
    cases k with
    | zero => simp at hz; subst hz; rw [List.set_cons_zero, List.filter_cons_of_neg (by simp [h2]), List.filter_cons_of_neg (by simp [h1])]
    | succ k =>
      simp at hz
      rw [List.set_cons_succ, List.filter_cons, List.filter_cons, ih k hz]

/-- The last one of a kind, among those of the kind. -/
theorem filter_last {P : Jn → Bool} : ∀ (l : List Jn) (k : Nat) (z : Jn), l[k]? = some z → P z = true → (∀ (i : Nat) (j : Jn), k < i → l[i]? = some j → P j = false) →
    ∃ m, l.filter P = m ++ [z] ∧ ∀ y, P y = true → (l.set k y).filter P = m ++ [y]
  | [], k, z, hz, _, _ => by simp at hz
  | b :: r, 0, z, hz, hp, hn => by
    simp at hz
    subst hz
    have hr : r.filter P = [] := List.filter_eq_nil_iff.2 (fun a ha => by
      obtain ⟨i, hi⟩ := get_of_mem ha
      have := hn (i + 1) a (by omega) (by simpa using hi)
      simp [this])
    refine ⟨[], by rw [List.filter_cons_of_pos hp, hr]; rfl, fun y hy => ?_⟩
    rw [List.set_cons_zero, List.filter_cons_of_pos hy, hr]; rfl
  | b :: r, k + 1, z, hz, hp, hn => by
    obtain ⟨m, h1, h2⟩ := filter_last r k z (by simpa using hz) hp (fun i j hi hj => hn (i + 1) j (by omega) (by simpa using hj))
    cases hb : P b with
    | true =>
      refine ⟨b :: m, by rw [List.filter_cons_of_pos hb, h1]; rfl, fun y hy => ?_⟩
      rw [List.set_cons_succ, List.filter_cons_of_pos hb, h2 y hy]; rfl
    | false =>
      refine ⟨m, by rw [List.filter_cons_of_neg (by simp [hb]), h1], fun y hy => ?_⟩
      rw [List.set_cons_succ, List.filter_cons_of_neg (by simp [hb]), h2 y hy]

theorem filter_snoc (P : Jn → Bool) (l : List Jn) (j : Jn) : (l ++ [j]).filter P = l.filter P ++ (if P j then [j] else []) := by
  rw [List.filter_append]
  by_cases h : P j = true <;> simp [h]

/-- Rides alone. -/
structure SB (s r : Wk) : Prop where
  made : r.made = s.made.filter (isK 4)
  paid : r.paid = s.paid
  opn : r.opn = none

theorem SB.shut {s r : Wk} {T : Tm} {lo c : Int} (h : SB s r) (hW : WOk T lo c s) : SB s.shut r := by
  obtain ⟨h1, h2, h3⟩ := h
  unfold Wk.shut
  cases ho : s.opn with
  | none => exact ⟨h1, h2, h3⟩
  | some j =>
    have hk := (hW.opn j ho).2.1
    refine ⟨?_, h2, h3⟩
    show r.made = (s.made ++ [j]).filter (isK 4)
    rw [filter_snoc]
    have : isK 4 j = false := by simp [isK, hk]
    rw [this, h1]
    simp

theorem SB.skip {s r : Wk} {T : Tm} {lo c : Int} (h : SB s r) (hW : WOk T lo c s) (x : Tp) (hx : isBus x = false) : SB (s.take T x) r := by
  have hs := h.shut hW
  have hlate : SB (s.late x) r := ⟨by
    show r.made = (s.shut.made ++ [lone 3 x]).filter (isK 4)
    rw [filter_snoc]
    have : isK 4 (lone 3 x) = false := by simp [isK, lone]
    rw [this, hs.made]; simp, hs.paid, hs.opn⟩
  have hx' : x.kind ≠ 3 := fun e => by rw [(isBus_iff x).2 e] at hx; cases hx
  unfold Wk.take
  rw [if_neg hx']
  split
  · split
    · exact ⟨hs.made, hs.paid, hs.opn⟩
    · split
      · unfold Wk.leave
        cases hb : s.begun with
        | none => exact hlate
        | some b =>
          simp only
          split
          · exact hlate
          · unfold Wk.begun at hb
            cases ho : s.opn with
            | none => rw [ho] at hb; cases hb
            | some j =>
              have hwk : isK 4 (wholeJ b x) = false := by simp [isK, wholeJ]
              unfold Wk.done
              cases hg : s.again with
              | false =>
                simp only [Bool.false_eq_true, if_false]
                refine ⟨?_, h.paid, h.opn⟩
                show r.made = (s.made ++ [wholeJ b x]).filter (isK 4)
                rw [filter_snoc, hwk, h.made]; simp
              | true =>
                simp only [if_true]
                obtain ⟨b', hb', hk, _⟩ := hW.again j ho hg
                obtain ⟨k, hr, hmk⟩ := hW.lastAt hb'
                refine ⟨?_, h.paid, h.opn⟩
                rw [hr]
                show r.made = (s.made.set k (wholeJ b x)).filter (isK 4)
                rw [filter_set_no _ _ _ _ _ hmk (by simp [isK, hk]) hwk]
                exact h.made
      · exact h
  · exact h

theorem SB.ride {s r : Wk} {T : Tm} (h : SB s r) (x : Tp) : SB (s.ride T x) (r.ride T x) := by
  have hf : freeR T r x = freeR T s x := by unfold freeR; rw [h.paid]
  have hj : rideJ T r x = rideJ T s x := by unfold rideJ; rw [hf]
  unfold Wk.ride
  rw [hf, hj]
  refine ⟨?_, ?_, h.opn⟩
  · show r.made ++ [rideJ T s x] = (s.made ++ [rideJ T s x]).filter (isK 4)
    rw [filter_snoc]
    have : isK 4 (rideJ T s x) = true := by simp [isK, rideJ]
    rw [this, h.made]; simp
  · show (if freeR T s x then r.paid else some (rideJ T s x)) = (if freeR T s x then s.paid else some (rideJ T s x))
    rw [h.paid]

theorem take_bus (T : Tm) (s : Wk) (x : Tp) (hx : isBus x = true) : s.take T x = s.ride T x := by
  unfold Wk.take
  rw [if_pos ((isBus_iff x).1 hx)]

/-- Journeys by rail alone. -/
structure SR (s r : Wk) : Prop where
  made : r.made = s.made.filter nb
  opn : r.opn = s.opn
  again : s.opn ≠ none → r.again = s.again

theorem SR.last {s r : Wk} {T : Tm} {lo c lo' c' : Int} (h : SR s r) (hW : WOk T lo c s) (hV : WOk T lo' c' r) : r.last = s.last ∧ ∀ k z, s.rail = some k → s.made[k]? = some z → ∃ m, r.made = m ++ [z] ∧ r.rail = some m.length ∧ ∀ y, nb y = true → (s.made.set k y).filter nb = m ++ [y] := by
  have hI := hW.rail
  have hJ := hV.rail
  have key : ∀ k z, s.rail = some k → s.made[k]? = some z → ∃ m, r.made = m ++ [z] ∧ r.rail = some m.length ∧ ∀ y, nb y = true → (s.made.set k y).filter nb = m ++ [y] := fun k z hr hz => by
    rw [hr] at hI
    obtain ⟨⟨z', h1, h2⟩, h3⟩ := hI
    rw [hz] at h1
    injection h1 with h1
    subst h1
    obtain ⟨m, e1, e2⟩ := filter_last (P := nb) s.made k z hz (by rw [nb_rail]; exact h2) (fun i j hi hj => by rw [nb_rail]; exact h3 i j hi hj)
    refine ⟨m, h.made.trans e1, ?_, e2⟩
    have h4 : IsLast railB r.made (some m.length) := by
      rw [h.made, e1]
      exact IsLast.snoc_yes h2
    exact hJ.one h4
  refine ⟨?_, key⟩
  cases hr : s.rail with
  | none =>
    rw [hr] at hI
    have hm : r.made = [] := by
      rw [h.made]
      exact List.filter_eq_nil_iff.2 (fun a ha => by
        obtain ⟨i, hi⟩ := get_of_mem ha
        have := hI i a hi
        rw [nb_rail, this]; decide)
    have h4 : IsLast railB r.made none := by rw [hm]; exact IsLast.nil _
    have h5 := hJ.one h4
    unfold Wk.last
    rw [h5, hr]
  | some k =>
    obtain ⟨z, hz, hl⟩ := hW.railAt hr
    obtain ⟨m, h1, h2, _⟩ := key k z hr hz
    rw [hl]
    unfold Wk.last
    rw [h2, h1]
    exact get_new m z

theorem SR.shut {s r : Wk} {T : Tm} {lo c : Int} (h : SR s r) (hW : WOk T lo c s) : SR s.shut r.shut := by
  unfold Wk.shut
  rw [h.opn]
  cases ho : s.opn with
  | none => exact ⟨h.made, h.opn, h.again⟩
  | some j =>
    have hk := (hW.opn j ho).2.1
    refine ⟨?_, rfl, fun e => absurd rfl e⟩
    show r.made ++ [j] = (s.made ++ [j]).filter nb
    rw [filter_snoc]
    have : nb j = true := by simp [nb, isK, hk]
    rw [this, h.made]; simp

theorem SR.bus {s r : Wk} {T : Tm} (h : SR s r) (x : Tp) : SR (s.ride T x) r := by
  refine ⟨?_, h.opn, h.again⟩
  show r.made = (s.made ++ [rideJ T s x]).filter nb
  rw [filter_snoc]
  have : nb (rideJ T s x) = false := by simp [nb, isK, rideJ]
  rw [this, h.made]; simp

theorem SR.take {s r : Wk} {T : Tm} {lo c lo' c' : Int} (h : SR s r) (hW : WOk T lo c s) (hV : WOk T lo' c' r) (x : Tp) (hx : isBus x = false) : SR (s.take T x) (r.take T x) := by
  have hs := h.shut hW
  have hx' : x.kind ≠ 3 := fun e => by rw [(isBus_iff x).2 e] at hx; cases hx
  obtain ⟨hlast, hkey⟩ := h.last hW hV
  have hlate : SR (s.late x) (r.late x) := ⟨by
    show r.shut.made ++ [lone 3 x] = (s.shut.made ++ [lone 3 x]).filter nb
    rw [filter_snoc]
    have : nb (lone 3 x) = true := by simp [nb, isK, lone]
    rw [this, hs.made]; simp, hs.opn, hs.again⟩
  have hbg : r.begun = s.begun := by
    unfold Wk.begun
    rw [h.opn]
    cases ho : s.opn with
    | none => rfl
    | some j => simp only; rw [h.again (by rw [ho]; exact fun e => nomatch e), hlast]
  unfold Wk.take
  rw [if_neg hx', if_neg hx']
  split
  · split
    · obtain ⟨hl2, _⟩ := hs.last hW.shut hV.shut
      refine ⟨hs.made, rfl, fun _ => ?_⟩
      show mayChange T r.shut x = mayChange T s.shut x
      unfold mayChange
      rw [hl2]
    · split
      · unfold Wk.leave
        rw [hbg]
        cases hb : s.begun with
        | none => exact hlate
        | some b =>
          simp only
          split
          · exact hlate
          · unfold Wk.begun at hb
            cases ho : s.opn with
            | none => rw [ho] at hb; cases hb
            | some j =>
              have hag := h.again (by rw [ho]; exact fun e => nomatch e)
              have hwk : nb (wholeJ b x) = true := by simp [nb, isK, wholeJ]
              unfold Wk.done
              rw [hag]
              cases hg : s.again with
              | false =>
                simp only [Bool.false_eq_true, if_false]
                refine ⟨?_, rfl, fun e => absurd rfl e⟩
                show r.made ++ [wholeJ b x] = (s.made ++ [wholeJ b x]).filter nb
                rw [filter_snoc, hwk, h.made]; simp
              | true =>
                simp only [if_true]
                obtain ⟨b', hb', hk, _⟩ := hW.again j ho hg
                obtain ⟨k, hr, hmk⟩ := hW.lastAt hb'
                obtain ⟨m, e1, e2, e3⟩ := hkey k b' hr hmk
                refine ⟨?_, rfl, fun e => absurd rfl e⟩
                rw [hr, e2]
                show r.made.set m.length (wholeJ b x) = (s.made.set k (wholeJ b x)).filter nb
                rw [e3 _ hwk, e1]
                simp
      · exact h
  · exact h

theorem takeF (l : List Tp) (p : Tp → Bool) (i : Nat) (h : i < l.length) : (l.take (i + 1)).filter p = (l.take i).filter p ++ (if p l[i] then [l[i]] else []) := by
  rw [List.take_succ_eq_append_getElem h, List.filter_append]
  by_cases hp : p l[i] = true <;> simp [hp]

theorem splits_math {T : Tm} (hT : 0 ≤ T.lng) {l : List Tp} (h : RgtOk l) :
    walkedJ T (l.filter isBus) = (walkedJ T l).filter (isK 4) ∧ walkedJ T (l.filter (fun x => !isBus x)) = (walkedJ T l).filter nb := by
  obtain ⟨lo, _, hlo, _⟩ := first_time h
  have key : ∀ i, i ≤ l.length → SB (wkAt T l i) (((l.take i).filter isBus).foldl (Wk.take T) wk0) ∧ SR (wkAt T l i) (((l.take i).filter (fun x => !isBus x)).foldl (Wk.take T) wk0) := by
    intro i hi
    induction i with
    | zero => exact ⟨⟨rfl, rfl, rfl⟩, ⟨rfl, rfl, fun _ => rfl⟩⟩
    | succ i ih =>
      obtain ⟨k1, k2⟩ := ih (by omega)
      obtain ⟨c, hW, _⟩ := WOk.at hT h lo hlo i (by omega)
      rw [wkAt_succ T l i (by omega), takeF l isBus i (by omega), takeF l (fun x => !isBus x) i (by omega)]
      cases hb : isBus (l[i]'(by omega)) with
      | true =>
        simp only [Bool.not_true, Bool.false_eq_true, if_true, if_false, List.append_nil, List.foldl_append]
        refine ⟨?_, ?_⟩
        · show SB _ (Wk.take T _ _)
          rw [take_bus T _ _ hb, take_bus T _ _ hb]
          exact k1.ride _
        · rw [take_bus T _ _ hb]
          exact k2.bus _
      | false =>
        simp only [Bool.not_false, Bool.false_eq_true, if_true, if_false, List.append_nil, List.foldl_append]
        refine ⟨k1.skip hW _ hb, ?_⟩
        have hs : ((l.take i).filter (fun x => !isBus x)).Sublist l := (List.filter_sublist).trans (List.take_sublist ..)
        have hok := h.sub hs
        obtain ⟨lo', _, hlo', _⟩ := first_time hok
        obtain ⟨c', hV, _⟩ := WOk.at hT hok lo' hlo' _ (Nat.le_refl _)
        rw [wkAt_all] at hV
        exact k2.take hW hV _ hb
  obtain ⟨k1, k2⟩ := key l.length (Nat.le_refl _)
  rw [List.take_length, wkAt_all] at k1 k2
  obtain ⟨c, hW, _⟩ := WOk.at hT h lo hlo l.length (Nat.le_refl _)
  rw [wkAt_all] at hW
  refine ⟨?_, (k2.shut hW).made⟩
  have h1 := k1.shut hW
  have h2 : (walkedW T (l.filter isBus)).shut = walkedW T (l.filter isBus) := by
    have h3 : (walkedW T (l.filter isBus)).opn = none := h1.opn
    unfold Wk.shut
    rw [h3]
  show (walkedW T (l.filter isBus)).shut.made = _
  rw [h2]
  exact h1.made

end Go.Proofs.Ythgkifkcckandaa

/- Rows of journeys compared: the same. -/
namespace Go.Proofs.Ythgkifkcckandaa
open Go.RowKit

/-- The document's Same of two rows that hold the same journeys. -/
theorem same_any (w : World) (ao bo : Option Addr) (ac bc ga gb : Nat) (l : List Jn) (ha : KRow w ao ac ga 6 (jV l)) (hb : KRow w bo bc gb 6 (jV l)) (hl : l.length ≤ 100000) :
    Calls Try.prog 10 #[.slice ao l.length ac, .slice bo l.length bc] w fun e w' => e = .returned (.bool true) ∧ Fr (fun _ => False) w w' := by
  have q1 := egJ
  have q2 := eqJ
  have HA := hide ha
  have HB := hide hb
  have hself : ((l.length : Int) != (l.length : Int)) = false := by simp
  clear ha hb
  go_enter Try.func10, Try.ntmps10
  go_wp2
  go_loopw [5] (fun iv wr => ∃ i : Nat, i ≤ l.length ∧ iv = .int .i64 i ∧ Hid (Fr (fun _ => False) w wr)) (fun iv _ => l.length - (intOf iv).toNat)
  case atStart => exact ⟨0, Nat.zero_le _, rfl, hide (Fr.refl _ _)⟩
  case round =>
    obtain ⟨i, hi, rfl, HI⟩ := hrel
    by_cases hil : i < l.length
    · obtain ⟨j, hj⟩ : ∃ j, l[i] = j := ⟨_, rfl⟩
      have hgj : l[i]? = some j := by rw [List.getElem?_eq_getElem hil, hj]
      obtain ⟨hao, _, ha⟩ := jV_cell ((unhide HA).keep (by omega) (unhide HI)) hgj
      obtain ⟨hbo, _, hb⟩ := jV_cell ((unhide HB).keep (by omega) (unhide HI)) hgj
      subst hao hbo
      obtain ⟨k, f, o, s, e, r⟩ := j
      have a0 : wr.cell? ⟨ga, i * 6, none⟩ = some (.int .i64 k) := ha 0 (by omega) _ rfl
      have a1 : wr.cell? ⟨ga, i * 6 + 1, none⟩ = some (.int .i64 f) := ha 1 (by omega) _ rfl
      have a2 : wr.cell? ⟨ga, i * 6 + 2, none⟩ = some (.int .i64 o) := ha 2 (by omega) _ rfl
      have a3 : wr.cell? ⟨ga, i * 6 + 3, none⟩ = some (.int .i64 s) := ha 3 (by omega) _ rfl
      have a4 : wr.cell? ⟨ga, i * 6 + 4, none⟩ = some (.int .i64 e) := ha 4 (by omega) _ rfl
      have a5 : wr.cell? ⟨ga, i * 6 + 5, none⟩ = some (.bool r) := ha 5 (by omega) _ rfl
      have b0 : wr.cell? ⟨gb, i * 6, none⟩ = some (.int .i64 k) := hb 0 (by omega) _ rfl
      have b1 : wr.cell? ⟨gb, i * 6 + 1, none⟩ = some (.int .i64 f) := hb 1 (by omega) _ rfl
      have b2 : wr.cell? ⟨gb, i * 6 + 2, none⟩ = some (.int .i64 o) := hb 2 (by omega) _ rfl
      have b3 : wr.cell? ⟨gb, i * 6 + 3, none⟩ = some (.int .i64 s) := hb 3 (by omega) _ rfl
      have b4 : wr.cell? ⟨gb, i * 6 + 4, none⟩ = some (.int .i64 e) := hb 4 (by omega) _ rfl
      have b5 : wr.cell? ⟨gb, i * 6 + 5, none⟩ = some (.bool r) := hb 5 (by omega) _ rfl
      have hlt : (i : Int) < (l.length : Int) := by omega
      clear ha hb hj hgj hself
      go_wp2_with fail
      go_region_held3 (fun u => u.cell? ⟨ga, i * 6, none⟩ = some (.int .i64 k) ∧ u.cell? ⟨ga, i * 6 + 1, none⟩ = some (.int .i64 f) ∧ u.cell? ⟨ga, i * 6 + 2, none⟩ = some (.int .i64 o) ∧ u.cell? ⟨ga, i * 6 + 3, none⟩ = some (.int .i64 s) ∧ u.cell? ⟨ga, i * 6 + 4, none⟩ = some (.int .i64 e) ∧ u.cell? ⟨ga, i * 6 + 5, none⟩ = some (.bool r) ∧ u.cell? ⟨gb, i * 6, none⟩ = some (.int .i64 k) ∧ u.cell? ⟨gb, i * 6 + 1, none⟩ = some (.int .i64 f) ∧ u.cell? ⟨gb, i * 6 + 2, none⟩ = some (.int .i64 o) ∧ u.cell? ⟨gb, i * 6 + 3, none⟩ = some (.int .i64 s) ∧ u.cell? ⟨gb, i * 6 + 4, none⟩ = some (.int .i64 e) ∧ u.cell? ⟨gb, i * 6 + 5, none⟩ = some (.bool r)) (go_keep) (fail)
      go_wp2
      exact ⟨⟨i + 1, by omega, by go_num, hide (by with_reducible (first | exact unhide HI | exact (unhide HI).drew | exact (unhide HI).drewN _))⟩, by simp [intOf]; omega⟩
    · obtain rfl : i = l.length := by omega
      clear hself
      go_wp2
      go_ret
      exact ⟨rfl, unhide HI⟩

end Go.Proofs.Ythgkifkcckandaa

/- The walk of JourneySplits. -/
namespace Go.Proofs.Ythgkifkcckandaa
open Go.RowKit

theorem tpV_snocS (l : List Tp) (x : Tp) : tpV (l ++ [x]) = tpV l ++ tpL x := by simp [tpV]

/-- Two rows of one's own, as they grow. -/
structure R2 (M : Nat) (w0 w : World) (a1 : Option Addr) (k1 g1 : Nat) (v1 : List Value) (a2 : Option Addr) (k2 g2 : Nat) (v2 : List Value) : Prop where
  r1 : KRow w a1 k1 g1 6 v1
  r2 : KRow w a2 k2 g2 6 v2
  n1 : 0 < k1 → M ≤ g1
  n2 : 0 < k2 → M ≤ g2
  ne : 0 < k1 → 0 < k2 → g1 ≠ g2
  fr : Fr (fun _ => False) w0 w

theorem R2.swap {M : Nat} {w0 w : World} {a1 a2 : Option Addr} {k1 g1 k2 g2 : Nat} {v1 v2 : List Value} (h : R2 M w0 w a1 k1 g1 v1 a2 k2 g2 v2) : R2 M w0 w a2 k2 g2 v2 a1 k1 g1 v1 := ⟨h.r2, h.r1, h.n2, h.n1, fun x y e => h.ne y x e.symm, h.fr⟩

theorem R2.app1 {M : Nat} {w0 w w2 w3 : World} {a1 a2 a' : Option Addr} {k1 g1 k2 g2 k' g' : Nat} {v1 v2 v' : List Value} (h : R2 M w0 w a1 k1 g1 v1 a2 k2 g2 v2) (h0 : w0.heap.size = M) (hf : Fr (fun _ => False) w w2) (hr : KRow w3 a' k' g' 6 v') (hg : Grew w2 g1 k1 w3 g' k') : R2 M w0 w3 a' k' g' v' a2 k2 g2 v2 := by
  have hfs : Fr (fun k => k = g1 ∧ 0 < k1) w2 w3 := by
    rcases hg with ⟨_, _, f⟩ | ⟨_, _, f⟩
    · exact f
    · exact f.mono (fun _ _ t => t.elim)
  have hs1 := h.fr.size
  have hs2 := hf.size
  have hl2 : 0 < k2 → g2 < w2.heap.size := fun hc => Nat.lt_of_lt_of_le (h.r2.lt (by omega) hc) hs2
  have hn : 0 < k' → (g' = g1 ∧ 0 < k1) ∨ w2.heap.size ≤ g' := fun hc => by
    rcases hg with ⟨e, e2, _⟩ | ⟨e, _, _⟩
    · exact .inl ⟨e, by omega⟩
    · exact .inr e
  refine ⟨hr, (h.r2.keep (by omega) hf).stay (fun hc => hfs.block g2 (hl2 hc) (fun t => h.ne t.2 hc t.1.symm)), fun hc => ?_, h.n2, fun hc hc2 => ?_, (h.fr.trans hf (fun _ _ t => t)).trans hfs (fun i hi t => by have := h.n1 t.2; omega)⟩
  · rcases hn hc with ⟨e, e2⟩ | e
    · rw [e]; exact h.n1 e2
    · omega
  · rcases hn hc with ⟨e, e2⟩ | e
    · rw [e]; exact h.ne e2 hc2
    · have := hl2 hc2; omega

theorem R2.app2 {M : Nat} {w0 w w2 w3 : World} {a1 a2 a' : Option Addr} {k1 g1 k2 g2 k' g' : Nat} {v1 v2 v' : List Value} (h : R2 M w0 w a1 k1 g1 v1 a2 k2 g2 v2) (h0 : w0.heap.size = M) (hf : Fr (fun _ => False) w w2) (hr : KRow w3 a' k' g' 6 v') (hg : Grew w2 g2 k2 w3 g' k') : R2 M w0 w3 a1 k1 g1 v1 a' k' g' v' := (h.swap.app1 h0 hf hr hg).swap

theorem R2.nil (w : World) : R2 w.heap.size w w none 0 0 [] none 0 0 [] := ⟨KRow.nil _ _ _, KRow.nil _ _ _, fun h => absurd h (by omega), fun h => absurd h (by omega), fun h => absurd h (by omega), Fr.refl _ _⟩

theorem takeJ (J : List Jn) (p : Jn → Bool) (i : Nat) (h : i < J.length) : (J.take (i + 1)).filter p = (J.take i).filter p ++ (if p J[i] then [J[i]] else []) := by
  rw [List.take_succ_eq_append_getElem h, List.filter_append]
  by_cases hp : p J[i] = true <;> simp [hp]
theorem filt_le {α : Type} (l : List α) (p : α → Bool) (i : Nat) : ((l.take i).filter p).length ≤ i := by
  have h1 := List.length_filter_le p (l.take i)
  rw [List.length_take] at h1
  omega
theorem busS_iff (x : Tp) : (x.kind == 3) = isBus x := by unfold isBus; by_cases h : x.kind = 3 <;> simp [h]
theorem is4_iff (x : Jn) : (x.kind == 4) = isK 4 x := by unfold isK; by_cases h : x.kind = 4 <;> simp [h]

set_option maxRecDepth 100000 in
set_option maxHeartbeats 2000000 in
theorem splits_walk (w : World) (A : Ad) (t : Tf) (hT : TAt w A t) (ao0 : Option Addr) (cap0 : Nat) (l : List Tp) (h : CAt w ao0 (tpV l)) (hl : l.length ≤ 4398046511104) :
    Calls Try.prog 6 #[tv A t, .slice ao0 l.length cap0] w fun e w' => e = .returned (.bool true) ∧ Fr (fun _ => False) w w' := by
  have RB := hide (fun (u : World) (hu : Fr (fun _ => False) w u) => build_any u A t (hT.keep hu) ao0 cap0 l (h.keep hu) hl)
  have RB2 := hide (fun (u : World) (hu : Fr (fun _ => False) w u) (bo : Option Addr) (bc : Nat) (m : List Tp) (hm : CAt u bo (tpV m)) (hml : m.length ≤ 4398046511104) => build_any u A t (hT.keep hu) bo bc m hm hml)
  have H := hide h
  have HTB := hide (TB.new w A t)
  obtain ⟨v, hv⟩ : ∃ v, v = w.alloc (.cells (tc A t) 27) := ⟨_, rfl⟩
  have hFv : Fr (fun _ => False) w v := by rw [hv]; exact (Fr.refl _ _).alloc _
  have HFV := hide hFv
  have HV := hide hv
  rw [← hv] at HTB
  obtain ⟨B, hB⟩ : ∃ B, B = w.heap.size := ⟨_, rfl⟩
  rw [← hB] at HTB
  have HBB := hide hB
  clear hFv hv hT h hB
  unfold tv at RB2 ⊢
  unfold tc at HV RB2 ⊢
  go_enter Try.func6, Try.ntmps6
  go_upto_region 1 with (fail)
  rw [← unhide HBB, ← unhide HV]
  clear HV HBB
  go_wp2_with fail
  refine (awake_anyJ v).mono ?_
  rintro e w1 ⟨rfl, hF1⟩
  have HF1 := hide ((unhide HFV).trans hF1 (fun _ _ t => t))
  have HTB1 := hide ((unhide HTB).keep hF1)
  clear hF1 HFV HTB
  have RB1 := hide (unhide RB w1 (unhide HF1))
  clear RB
  go_wp2_with (refine wpList_load_tariff rfl (.tmp 2) rfl (g := B) (A := A) (t := t) rfl (unhide HTB1) ?_)
  refine (unhide RB1).mono ?_
  rintro e w2 ⟨aj, cj, gj, rfl, hK, hg, hF2⟩
  have HF2 := hide ((unhide HF1).trans hF2 (fun _ _ t => t))
  have HTB2 := hide ((unhide HTB1).keep hF2)
  have HK := hide hK
  clear hF2 HF1 HTB1 RB1 hK hg
  by_cases he : buildE (rightE t) l = 0
  · have hjj : buildJ (tmOf t) (rightE t) l = walkedJ (tmOf t) l := by unfold buildJ; rw [if_pos he]
    rw [he, hjj]
    rw [hjj] at HK
    obtain ⟨e1, e2, hday⟩ := (buildE_zero _ _).1 he
    obtain ⟨hl2, hok⟩ := (rightT_zero l).1 e2
    have hlg : 0 ≤ (tmOf t).lng := (small_of e1).longest.1
    have HSM := hide (splits_math hlg hok)
    have hsub : ∀ p : Tp → Bool, buildE (rightE t) (l.filter p) = 0 := fun p => (buildE_zero _ _).2 ⟨e1, (rightT_zero _).2 ⟨Nat.le_trans (List.length_filter_le _ _) hl2, hok.sub (List.filter_sublist)⟩, OneDay.sub hday hok (List.filter_sublist)⟩
    have HSE := hide hsub
    clear hsub
    have HLE := hide (walked_le (tmOf t) l hl2)
    have HL2 := hide hl2
    clear he hjj e1 e2 hok hlg hday
    obtain ⟨J, hJ⟩ : ∃ J, walkedJ (tmOf t) l = J := ⟨_, rfl⟩
    rw [hJ] at HK HLE HSM ⊢
    clear hJ
    go_wp2_with fail
    obtain ⟨iz, hiz⟩ := info_of3 tInfo
    have HIZ := hide hiz
    have hjz : ∃ i, Try.prog.info? 42 = some i ∧ i.zero = some (.agg #[.int .i64 0, .int .i64 0, .int .i64 0, .int .i64 0, .int .i64 0, .bool false]) ∧ i.size = 6 ∧ i.bytes = 48 := info_of3 jInfo
    obtain ⟨jz2, hjz⟩ := hjz
    have HJZ := hide hjz
    clear hiz hjz
    go_loopw [8, 9, 10] (fun ov rv iv wr => ∃ (i : Nat) (a1 : Option Addr) (k1 g1 : Nat) (a2 : Option Addr) (k2 g2 : Nat), i ≤ l.length ∧ ov = .slice a1 ((l.take i).filter isBus).length k1 ∧ rv = .slice a2 ((l.take i).filter (fun x => !isBus x)).length k2 ∧ iv = .int .i64 i ∧ Hid (R2 w2.heap.size w2 wr a1 k1 g1 (tpV ((l.take i).filter isBus)) a2 k2 g2 (tpV ((l.take i).filter (fun x => !isBus x))))) (fun _ _ iv _ => l.length - (intOf iv).toNat)
    case atStart => exact ⟨0, none, 0, 0, none, 0, 0, Nat.zero_le _, rfl, rfl, rfl, hide (R2.nil _)⟩
    case round =>
      obtain ⟨i, a1, k1, g1, a2, k2, g2, hi, rfl, rfl, rfl, HI⟩ := hrel
      have hL1 := filt_le l isBus i
      have hL2 := filt_le l (fun x => !isBus x) i
      by_cases hil : i < l.length
      · have HY := hide (takeF l isBus i hil)
        have HN := hide (takeF l (fun x => !isBus x) i hil)
        have hFI := (unhide HI).fr
        obtain ⟨b, off, rfl, c0, c1, c2, c3, c4, c5⟩ := (((unhide H).keep (unhide HF2)).keep hFI).tp hil
        obtain ⟨x, hx⟩ : ∃ x, l[i] = x := ⟨_, rfl⟩
        rw [hx] at HY HN c0 c1 c2 c3 c4 c5
        obtain ⟨P1, hP1⟩ : ∃ P1, (l.take i).filter isBus = P1 := ⟨_, rfl⟩
        obtain ⟨P2, hP2⟩ : ∃ P2, (l.take i).filter (fun x => !isBus x) = P2 := ⟨_, rfl⟩
        rw [hP1] at HI HY hL1 ⊢
        rw [hP2] at HI HN hL2 ⊢
        have hl2 := unhide HL2
        have hiI : (i : Int) < (l.length : Int) := by omega
        have hL1I : (P1.length : Int) ≤ 2000 := by omega
        have hL2I : (P2.length : Int) ≤ 2000 := by omega
        have HIL := hide hil
        clear hx hP1 hP2 HK HSM HSE HLE HL2 H HTB2 hl hi hil RB2 hFI
        cases hbx : isBus x with
        | true =>
          have HY1 : Hid ((l.take (i + 1)).filter isBus = P1 ++ [x]) := hide (by rw [unhide HY]; simp [hbx])
          have HN1 : Hid ((l.take (i + 1)).filter (fun x => !isBus x) = P2) := hide (by rw [unhide HN]; simp [hbx])
          have k3b : (x.kind == 3) = true := by rw [busS_iff]; exact hbx
          clear HY HN hbx
          have HSR : Hid (Src Try.prog 6 28 (.slice (some ⟨wr.heap.size, 0, none⟩) 1 1) 1 [.int .i64 x.dev, .int .i64 x.ctr, .string x.tok, .int .i64 x.kind, .int .i64 x.place, .int .i64 x.time] (wr.alloc (.cells #[.int .i64 x.dev, .int .i64 x.ctr, .string x.tok, .int .i64 x.kind, .int .i64 x.place, .int .i64 x.time] 39))) := hide (src_one wr [.int .i64 x.dev, .int .i64 x.ctr, .string x.tok, .int .i64 x.kind, .int .i64 x.place, .int .i64 x.time] 28 39 6 Try.underlying28 rfl (fun v hv => by simp only [List.mem_cons, List.not_mem_nil, or_false] at hv; rcases hv with rfl | rfl | rfl | rfl | rfl | rfl <;> rfl) (fun j => ((Bx.new wr #[.int .i64 x.dev, .int .i64 x.ctr, .string x.tok, .int .i64 x.kind, .int .i64 x.place, .int .i64 x.time] 39).cell j).trans (by simp)))
          have HRW : Hid (KRow (wr.alloc (.cells #[.int .i64 x.dev, .int .i64 x.ctr, .string x.tok, .int .i64 x.kind, .int .i64 x.place, .int .i64 x.time] 39)) a1 k1 g1 6 (tpV P1)) := hide ((unhide HI).r1.keep (by omega) ((Fr.refl _ _).alloc _))
          go_wp2_with (at_builtin; refine wpList_append_krow _ rfl (.tmp 46) (.tmp 51) 28 28 rfl 39 iz _ 6 (by omega) Try.underlying28 (unhide HIZ).1 (unhide HIZ).2.1 rfl (unhide HIZ).2.2.1 rfl (unhide HRW) (tpV_length _) _ [.int .i64 x.dev, .int .i64 x.ctr, .string x.tok, .int .i64 x.kind, .int .i64 x.place, .int .i64 x.time] 1 rfl (unhide HSR) (by rw [(unhide HIZ).2.2.2]; omega) (by omega) ?_)
          intro ao2 cap2 w4 gg2 hrow hgr
          have HN2 := hide ((unhide HI).app1 rfl ((Fr.refl _ _).alloc _) hrow hgr)
          clear hrow hgr HRW HSR c0 c1 c2 c3 c4 c5
          go_wp2
          exact ⟨⟨i + 1, ao2, cap2, gg2, a2, k2, g2, by have := unhide HIL; omega, by rw [unhide HY1]; simp, by rw [unhide HN1], by go_num, hide (by rw [unhide HY1, unhide HN1, tpV_snocS]; exact unhide HN2)⟩, by have := unhide HIL; simp [intOf]; omega⟩
        | false =>
          have HY1 : Hid ((l.take (i + 1)).filter isBus = P1) := hide (by rw [unhide HY]; simp [hbx])
          have HN1 : Hid ((l.take (i + 1)).filter (fun x => !isBus x) = P2 ++ [x]) := hide (by rw [unhide HN]; simp [hbx])
          have k3b : (x.kind == 3) = false := by rw [busS_iff]; exact hbx
          clear HY HN hbx
          have HSR : Hid (Src Try.prog 6 28 (.slice (some ⟨wr.heap.size, 0, none⟩) 1 1) 1 [.int .i64 x.dev, .int .i64 x.ctr, .string x.tok, .int .i64 x.kind, .int .i64 x.place, .int .i64 x.time] (wr.alloc (.cells #[.int .i64 x.dev, .int .i64 x.ctr, .string x.tok, .int .i64 x.kind, .int .i64 x.place, .int .i64 x.time] 39))) := hide (src_one wr [.int .i64 x.dev, .int .i64 x.ctr, .string x.tok, .int .i64 x.kind, .int .i64 x.place, .int .i64 x.time] 28 39 6 Try.underlying28 rfl (fun v hv => by simp only [List.mem_cons, List.not_mem_nil, or_false] at hv; rcases hv with rfl | rfl | rfl | rfl | rfl | rfl <;> rfl) (fun j => ((Bx.new wr #[.int .i64 x.dev, .int .i64 x.ctr, .string x.tok, .int .i64 x.kind, .int .i64 x.place, .int .i64 x.time] 39).cell j).trans (by simp)))
          have HRW : Hid (KRow (wr.alloc (.cells #[.int .i64 x.dev, .int .i64 x.ctr, .string x.tok, .int .i64 x.kind, .int .i64 x.place, .int .i64 x.time] 39)) a2 k2 g2 6 (tpV P2)) := hide ((unhide HI).r2.keep (by omega) ((Fr.refl _ _).alloc _))
          go_wp2_with (at_builtin; refine wpList_append_krow _ rfl (.tmp 53) (.tmp 58) 28 28 rfl 39 iz _ 6 (by omega) Try.underlying28 (unhide HIZ).1 (unhide HIZ).2.1 rfl (unhide HIZ).2.2.1 rfl (unhide HRW) (tpV_length _) _ [.int .i64 x.dev, .int .i64 x.ctr, .string x.tok, .int .i64 x.kind, .int .i64 x.place, .int .i64 x.time] 1 rfl (unhide HSR) (by rw [(unhide HIZ).2.2.2]; omega) (by omega) ?_)
          intro ao2 cap2 w4 gg2 hrow hgr
          have HN2 := hide ((unhide HI).app2 rfl ((Fr.refl _ _).alloc _) hrow hgr)
          clear hrow hgr HRW HSR c0 c1 c2 c3 c4 c5
          go_wp2
          exact ⟨⟨i + 1, a1, k1, g1, ao2, cap2, gg2, by have := unhide HIL; omega, by rw [unhide HY1], by rw [unhide HN1]; simp, by go_num, hide (by rw [unhide HY1, unhide HN1, tpV_snocS]; exact unhide HN2)⟩, by have := unhide HIL; simp [intOf]; omega⟩
      · obtain rfl : i = l.length := by omega
        obtain ⟨hr1, hr2, _, _, _, hfr⟩ := unhide HI
        rw [List.take_length] at hr1 hr2 hL1 hL2
        rw [List.take_length]
        obtain ⟨m1, m2⟩ := unhide HSM
        have s1 := unhide HSE isBus
        have s2 := unhide HSE (fun x => !isBus x)
        have hb1 : buildJ (tmOf t) (rightE t) (l.filter isBus) = J.filter (isK 4) := by unfold buildJ; rw [if_pos s1]; exact m1
        have hb2 : buildJ (tmOf t) (rightE t) (l.filter (fun x => !isBus x)) = J.filter nb := by unfold buildJ; rw [if_pos s2]; exact m2
        have hfw := (unhide HF2).trans hfr (fun _ _ t => t)
        have RBA := hide (unhide RB2 wr hfw a1 k1 (l.filter isBus) hr1.cat (by omega))
        have RBB := hide (fun (u : World) (hu : Fr (fun _ => False) wr u) => unhide RB2 u (hfw.trans hu (fun _ _ t => t)) a2 k2 (l.filter (fun x => !isBus x)) (hr2.keep (by omega) hu).cat (by omega))
        have HTB4 := hide ((unhide HTB2).keep hfr)
        have HFR := hide hfr
        obtain ⟨P1, hP1⟩ : ∃ P1, l.filter isBus = P1 := ⟨_, rfl⟩
        obtain ⟨P2, hP2⟩ : ∃ P2, l.filter (fun x => !isBus x) = P2 := ⟨_, rfl⟩
        rw [hP1] at RBA hb1 s1 ⊢
        rw [hP2] at RBB hb2 s2 ⊢
        have HS1 := hide (And.intro s1 hb1)
        have HS2 := hide (And.intro s2 hb2)
        clear HI hr1 hr2 hfr m1 m2 s1 s2 hb1 hb2 hfw HSM HSE hP1 hP2 H HTB2 RB2 hL1 hL2 hl
        go_wp2_with (refine wpList_load_tariff rfl (.tmp 2) rfl (g := B) (A := A) (t := t) rfl (unhide HTB4) ?_)
        refine (unhide RBA).mono ?_
        rintro e w5 ⟨aq, cq, gq, rfl, hK5, _, hF5⟩
        rw [(unhide HS1).1, (unhide HS1).2]
        rw [(unhide HS1).2] at hK5
        have RBC := hide (unhide RBB w5 hF5)
        have HTB5 := hide ((unhide HTB4).keep hF5)
        have HF5 := hide hF5
        have HK5 := hide hK5
        clear hF5 hK5 RBA RBB HTB4 HS1
        go_wp2_with (refine wpList_load_tariff rfl (.tmp 2) rfl (g := B) (A := A) (t := t) rfl (unhide HTB5) ?_)
        refine (unhide RBC).mono ?_
        rintro e w6 ⟨ar, cr, gr, rfl, hK6, _, hF6⟩
        rw [(unhide HS2).1, (unhide HS2).2]
        rw [(unhide HS2).2] at hK6
        have hF26 := ((unhide HFR).trans (unhide HF5) (fun _ _ t => t)).trans hF6 (fun _ _ t => t)
        have HF26 := hide hF26
        have HKJ := hide ((unhide HK).keep (by omega) hF26)
        have HKA := hide ((unhide HK5).keep (by omega) hF6)
        have HKB := hide hK6
        clear hF26 hF6 hK6 RBC HTB5 HS2 HF5 HK5 HFR HK
        obtain ⟨n1, hn1⟩ : ∃ n1, (J.filter (isK 4)).length = n1 := ⟨_, rfl⟩
        obtain ⟨n2, hn2⟩ : ∃ n2, (J.filter nb).length = n2 := ⟨_, rfl⟩
        have HNN := hide (And.intro hn1 hn2)
        rw [hn1, hn2]
        clear hn1 hn2
        go_wp2_with fail
        go_loopw [15, 16, 17] (fun ov rv iv wr => ∃ (i : Nat) (a1 : Option Addr) (k1 g1 : Nat) (a2 : Option Addr) (k2 g2 : Nat), i ≤ J.length ∧ ov = .slice a1 ((J.take i).filter (isK 4)).length k1 ∧ rv = .slice a2 ((J.take i).filter nb).length k2 ∧ iv = .int .i64 i ∧ Hid (R2 w6.heap.size w6 wr a1 k1 g1 (jV ((J.take i).filter (isK 4))) a2 k2 g2 (jV ((J.take i).filter nb)))) (fun _ _ iv _ => J.length - (intOf iv).toNat)
        case atStart => exact ⟨0, none, 0, 0, none, 0, 0, Nat.zero_le _, rfl, rfl, rfl, hide (R2.nil _)⟩
        case round =>
          obtain ⟨i, a1, k1, g1, a2, k2, g2, hi, rfl, rfl, rfl, HI⟩ := hrel
          have hL1 := filt_le J (isK 4) i
          have hL2 := filt_le J nb i
          have hle := unhide HLE
          by_cases hil : i < J.length
          · have HY := hide (takeJ J (isK 4) i hil)
            have HN := hide (takeJ J nb i hil)
            obtain ⟨x, hx⟩ : ∃ x, J[i] = x := ⟨_, rfl⟩
            have hgj : J[i]? = some x := by rw [List.getElem?_eq_getElem hil, hx]
            obtain ⟨haj, _, hcell⟩ := jV_cell ((unhide HKJ).keep (by omega) (unhide HI).fr) hgj
            subst haj
            have c0 : wr.cell? ⟨gj, i * 6, none⟩ = some (.int .i64 x.kind) := hcell 0 (by omega) _ rfl
            have c1 : wr.cell? ⟨gj, i * 6 + 1, none⟩ = some (.int .i64 x.fr) := hcell 1 (by omega) _ rfl
            have c2 : wr.cell? ⟨gj, i * 6 + 2, none⟩ = some (.int .i64 x.to) := hcell 2 (by omega) _ rfl
            have c3 : wr.cell? ⟨gj, i * 6 + 3, none⟩ = some (.int .i64 x.st) := hcell 3 (by omega) _ rfl
            have c4 : wr.cell? ⟨gj, i * 6 + 4, none⟩ = some (.int .i64 x.en) := hcell 4 (by omega) _ rfl
            have c5 : wr.cell? ⟨gj, i * 6 + 5, none⟩ = some (.bool x.free) := hcell 5 (by omega) _ rfl
            rw [hx] at HY HN
            obtain ⟨P1, hP1⟩ : ∃ P1, (J.take i).filter (isK 4) = P1 := ⟨_, rfl⟩
            obtain ⟨P2, hP2⟩ : ∃ P2, (J.take i).filter nb = P2 := ⟨_, rfl⟩
            rw [hP1] at HI HY hL1 ⊢
            rw [hP2] at HI HN hL2 ⊢
            have hiI : (i : Int) < (J.length : Int) := by omega
            have hL1I : (P1.length : Int) ≤ 4001 := by omega
            have hL2I : (P2.length : Int) ≤ 4001 := by omega
            have HIL := hide hil
            clear hx hgj hcell hP1 hP2 HKJ HKA HKB HLE HF26 hi hil HNN
            cases hbx : isK 4 x with
            | true =>
              have hnx : nb x = false := by unfold nb; rw [hbx]; rfl
              have HY1 : Hid ((J.take (i + 1)).filter (isK 4) = P1 ++ [x]) := hide (by rw [unhide HY]; simp [hbx])
              have HN1 : Hid ((J.take (i + 1)).filter nb = P2) := hide (by rw [unhide HN]; simp [hnx])
              have k3b : (x.kind == 4) = true := by rw [is4_iff]; exact hbx
              clear HY HN hbx hnx
              have HSR : Hid (Src Try.prog 6 30 (.slice (some ⟨wr.heap.size, 0, none⟩) 1 1) 1 [.int .i64 x.kind, .int .i64 x.fr, .int .i64 x.to, .int .i64 x.st, .int .i64 x.en, .bool x.free] (wr.alloc (.cells #[.int .i64 x.kind, .int .i64 x.fr, .int .i64 x.to, .int .i64 x.st, .int .i64 x.en, .bool x.free] 42))) := hide (src_one wr [.int .i64 x.kind, .int .i64 x.fr, .int .i64 x.to, .int .i64 x.st, .int .i64 x.en, .bool x.free] 30 42 6 Try.underlying30 rfl (fun v hv => by simp only [List.mem_cons, List.not_mem_nil, or_false] at hv; rcases hv with rfl | rfl | rfl | rfl | rfl | rfl <;> rfl) (fun j => ((Bx.new wr #[.int .i64 x.kind, .int .i64 x.fr, .int .i64 x.to, .int .i64 x.st, .int .i64 x.en, .bool x.free] 42).cell j).trans (by simp)))
              have HRW : Hid (KRow (wr.alloc (.cells #[.int .i64 x.kind, .int .i64 x.fr, .int .i64 x.to, .int .i64 x.st, .int .i64 x.en, .bool x.free] 42)) a1 k1 g1 6 (jV P1)) := hide ((unhide HI).r1.keep (by omega) ((Fr.refl _ _).alloc _))
              go_wp2_with (at_builtin; refine wpList_append_krow _ rfl (.tmp 84) (.tmp 89) 30 30 rfl 42 jz2 _ 6 (by omega) Try.underlying30 (unhide HJZ).1 (unhide HJZ).2.1 rfl (unhide HJZ).2.2.1 rfl (unhide HRW) (jV_length _) _ [.int .i64 x.kind, .int .i64 x.fr, .int .i64 x.to, .int .i64 x.st, .int .i64 x.en, .bool x.free] 1 rfl (unhide HSR) (by rw [(unhide HJZ).2.2.2]; omega) (by omega) ?_)
              intro ao2 cap2 w4 gg2 hrow hgr
              have HN2 := hide ((unhide HI).app1 rfl ((Fr.refl _ _).alloc _) hrow hgr)
              clear hrow hgr HRW HSR c0 c1 c2 c3 c4 c5
              go_wp2
              exact ⟨⟨i + 1, ao2, cap2, gg2, a2, k2, g2, by have := unhide HIL; omega, by rw [unhide HY1]; simp, by rw [unhide HN1], by go_num, hide (by rw [unhide HY1, unhide HN1, jV_snoc]; exact unhide HN2)⟩, by have := unhide HIL; simp [intOf]; omega⟩
            | false =>
              have hnx : nb x = true := by unfold nb; rw [hbx]; rfl
              have HY1 : Hid ((J.take (i + 1)).filter (isK 4) = P1) := hide (by rw [unhide HY]; simp [hbx])
              have HN1 : Hid ((J.take (i + 1)).filter nb = P2 ++ [x]) := hide (by rw [unhide HN]; simp [hnx])
              have k3b : (x.kind == 4) = false := by rw [is4_iff]; exact hbx
              clear HY HN hbx hnx
              have HSR : Hid (Src Try.prog 6 30 (.slice (some ⟨wr.heap.size, 0, none⟩) 1 1) 1 [.int .i64 x.kind, .int .i64 x.fr, .int .i64 x.to, .int .i64 x.st, .int .i64 x.en, .bool x.free] (wr.alloc (.cells #[.int .i64 x.kind, .int .i64 x.fr, .int .i64 x.to, .int .i64 x.st, .int .i64 x.en, .bool x.free] 42))) := hide (src_one wr [.int .i64 x.kind, .int .i64 x.fr, .int .i64 x.to, .int .i64 x.st, .int .i64 x.en, .bool x.free] 30 42 6 Try.underlying30 rfl (fun v hv => by simp only [List.mem_cons, List.not_mem_nil, or_false] at hv; rcases hv with rfl | rfl | rfl | rfl | rfl | rfl <;> rfl) (fun j => ((Bx.new wr #[.int .i64 x.kind, .int .i64 x.fr, .int .i64 x.to, .int .i64 x.st, .int .i64 x.en, .bool x.free] 42).cell j).trans (by simp)))
              have HRW : Hid (KRow (wr.alloc (.cells #[.int .i64 x.kind, .int .i64 x.fr, .int .i64 x.to, .int .i64 x.st, .int .i64 x.en, .bool x.free] 42)) a2 k2 g2 6 (jV P2)) := hide ((unhide HI).r2.keep (by omega) ((Fr.refl _ _).alloc _))
              go_wp2_with (at_builtin; refine wpList_append_krow _ rfl (.tmp 91) (.tmp 96) 30 30 rfl 42 jz2 _ 6 (by omega) Try.underlying30 (unhide HJZ).1 (unhide HJZ).2.1 rfl (unhide HJZ).2.2.1 rfl (unhide HRW) (jV_length _) _ [.int .i64 x.kind, .int .i64 x.fr, .int .i64 x.to, .int .i64 x.st, .int .i64 x.en, .bool x.free] 1 rfl (unhide HSR) (by rw [(unhide HJZ).2.2.2]; omega) (by omega) ?_)
              intro ao2 cap2 w4 gg2 hrow hgr
              have HN2 := hide ((unhide HI).app2 rfl ((Fr.refl _ _).alloc _) hrow hgr)
              clear hrow hgr HRW HSR c0 c1 c2 c3 c4 c5
              go_wp2
              exact ⟨⟨i + 1, a1, k1, g1, ao2, cap2, gg2, by have := unhide HIL; omega, by rw [unhide HY1], by rw [unhide HN1]; simp, by go_num, hide (by rw [unhide HY1, unhide HN1, jV_snoc]; exact unhide HN2)⟩, by have := unhide HIL; simp [intOf]; omega⟩
          · obtain rfl : i = J.length := by omega
            obtain ⟨hr1, hr2, _, _, _, hfr⟩ := unhide HI
            rw [List.take_length] at hr1 hr2 hL1 hL2
            rw [List.take_length]
            obtain ⟨q1, q2⟩ := unhide HNN
            have RS1 := same_any wr aq a1 cq k1 gq g1 (J.filter (isK 4)) ((unhide HKA).keep (by omega) hfr) hr1 (by omega)
            have RS2 := fun (u : World) (hu : Fr (fun _ => False) wr u) => same_any u ar a2 cr k2 gr g2 (J.filter nb) (((unhide HKB).keep (by omega) hfr).keep (by omega) hu) (hr2.keep (by omega) hu) (by omega)
            rw [q1] at RS1
            simp only [q2] at RS2
            rw [q1, q2]
            have HFF := hide (((unhide HF2).trans (unhide HF26) (fun _ _ t => t)).trans hfr (fun _ _ t => t))
            have RS1 := hide RS1
            have RS2 := hide RS2
            clear hr1 hr2 hfr q1 q2 HNN HI HKJ HKA HKB HLE HF26 HF2 hL1 hL2
            go_wp2_with fail
            refine (unhide RS1).mono ?_
            rintro e w7 ⟨rfl, hF7⟩
            have RS3 := hide (unhide RS2 w7 hF7)
            have HF7 := hide ((unhide HFF).trans hF7 (fun _ _ t => t))
            clear hF7 RS1 RS2 HFF
            go_wp2_with fail
            refine (unhide RS3).mono ?_
            rintro e w8 ⟨rfl, hF8⟩
            have HFZ := hide ((unhide HF7).trans hF8 (fun _ _ t => t))
            clear hF8 RS3 HF7
            go_wp2
            go_ret
            exact ⟨rfl, unhide HFZ⟩
  · have hb2 : (buildE (rightE t) l == 0) = false := by simp [he]
    have hb3 : (buildE (rightE t) l != 0) = true := by simp [he]
    generalize buildE (rightE t) l = ee at *
    clear HK HTB2 H RB2
    go_wp2
    go_ret
    exact ⟨rfl, unhide HF2⟩

end Go.Proofs.Ythgkifkcckandaa

namespace Go.Proofs.Ythgkifkcckandaa
open Go.ChangeShapes Go.WideShapes Go.ChangeAt Go.RowKit Go.Deep

namespace journeySplits

set_option maxRecDepth 100000 in
theorem lifted (os : Os) (started : os.Started) (H : Type) (enc : TypeId × Value → H) :
    ReturnsInHanded {} Try.checked os 6 .any (Rows.journeySplitsSpec.pre6 enc Try.prog Try.f6 Rows.journeySplitsRow.domain false) (Rows.journeySplitsSpec.post enc Try.prog Try.f6 false true false false) := by
  refine returnsInHanded_of_change_sized (C := Try.checked) own started (by kernel_rfl) Try.func6
    (ChangeSpec.witness6 (enc := enc) (C := Try.checked) false ⟨#[], #[.agg #[.slice none 0 0, .slice none 0 0, .slice none 0 0, .float .f64 0, .int .i64 0, .int .i64 0, .int .i64 0, .int .i64 0, .int .i64 0, .int .i64 0, .int .i64 0, .int .i64 0, .int .i64 0, .int .i64 0], .slice none 0 0], []⟩ 8 (by kernel_rfl) (by kernel_rfl) (by kernel_rfl) (by kernel_rfl)) ?_
  intro W base args ds gs before hval0 hW hcnd hsz0 _
  have hsz : (DataW.weightsEach Try.prog (Try.f6.params.toList ++ Rows.journeySplitsSpec.plain.varTypes Try.prog) (ds ++ gs)).all (· ≤ reachBytes) = true := hsz0
  have hval : ∀ (j : Nat) t v, Try.f6.params[j]? = some t → args[j]? = some v → Value.okWide Try.prog W .any base t v := hval0
  have hW' := hW
  obtain ⟨p, q, hA0, hV, rfl, hfz, hnd⟩ := hW
  have hA : DataW.TrodAll enc Try.prog W 0 (fun _ => true) true Try.f6.params.toList args.toList ds p := hA0
  rw [Try.params6] at hA hval hsz
  obtain ⟨v0, vs0, d0, ds0, p0, q0, hargs, rfl, rfl, h0, r0⟩ := trodAll_cons hA
  obtain ⟨v1, vs1, d1, ds1, p1, q1, rfl, rfl, rfl, h1, r1⟩ := trodAll_cons r0
  obtain ⟨rfl, rfl, rfl⟩ := trodAll_nil r1
  obtain rfl : args = #[v0, v1] := by cases args; simp_all
  obtain ⟨rfl, rfl⟩ := trodVars_none hV
  have k0 := h0
  have lt0 : ∀ x ∈ p0, x.block < W.heap.size := by obtain ⟨m, hm⟩ := k0; exact DataW.trod_lt m _ _ _ hm
  obtain ⟨A0, t0, rfl, hT0⟩ := open_arg (j := 0) (okWide_struct Try.underlying27 (hval 0 27 v0 rfl rfl)) h0 hsz rfl rfl
  have k1 := h1
  have lt1 : ∀ x ∈ p1, x.block < W.heap.size := by obtain ⟨m, hm⟩ := k1; exact DataW.trod_lt m _ _ _ hm
  obtain ⟨a1, c1, l1, rfl, hb1, hc1, hn1⟩ := arg_taps (j := 1) (okWide_slice Try.underlying28 (hval 1 28 v1 rfl rfl)) h1 hsz rfl rfl
  clear hA0 hval0
  refine (splits_walk W A0 t0 hT0 a1 c1 l1 hb1 (by omega)).mono fun e W' ⟨he, hfr⟩ => ?_
  subst he
  have bel : Below W.heap.size W W' := hfr.below (Nat.le_refl _) (fun k t => t.elim)
  exact ⟨_, rfl, _, _, _, [], _, [], hW', trodAll_mk1 (shut_bool Try.underlying4 _), (trodAll_cons_mk (Below.trod laidOut (by kernel_rfl) (of_decide_eq_true (by kernel_rfl)) k0 bel lt0) (trodAll_cons_mk (Below.trod laidOut (by kernel_rfl) (of_decide_eq_true (by kernel_rfl)) k1 bel lt1) trodAll_mk0)), rfl, bel.frame _, fun h => by cases h⟩

theorem over : Rows.journeySplitsRow.holds Try.pinned (OpenSpec.ofChange Rows.journeySplitsSpec) :=
  OpenClaim.holds_of_wide 6 Try.f6 rfl rfl rfl rfl rfl rfl rfl ⟨rfl, rfl, rfl, rfl, rfl⟩ rfl rfl rfl rfl rfl (by kernel_rfl) Try.func6 (by kernel_rfl)
    (of_decide_eq_true (by kernel_rfl)) (by unfold Func.isWrapper; first | (rw [if_pos (by decide +kernel)]; kernel_rfl) | (rw [if_neg (by decide +kernel)]; exact ⟨rfl, rfl⟩))
    (fun os started H enc _ => lifted os started H enc)

end journeySplits

/-- THE STATEMENT. -/
theorem journeySplits_holds : Rows.JourneySplitsSaid := journeySplits.over
#print axioms journeySplits_holds
end Go.Proofs.Ythgkifkcckandaa

