import Derived.Test.YtjgbllfppomcmaaGreatJNV
/- A walk's enter. -/
namespace Go.Proofs.YtjgbllfppomcmaaGreat
open Go.RowKit

theorem WOk.railAt {T : Tm} {lo c : Int} {s : Wk} (h : WOk T lo c s) {k : Nat} (hk : s.rail = some k) : ∃ b : Jn, s.made[k]? = some b ∧ s.last = some b := by
  have := h.rail
  rw [hk] at this
  obtain ⟨⟨b, h1, _⟩, _⟩ := this
  exact ⟨b, h1, by unfold Wk.last; rw [hk]; exact h1⟩

theorem changes_any (w0 w : World) (p : Nat) (A : Ad) (t : Tf) (s : Wk) (ao : Option Addr) (cap g : Nat) (h : WM w0 w p A t s ao cap g) (hT : TAt w A t) (hn : s.made.length ≤ 100000) (x : Tp) (lo c : Int) (hW : WOk (tmOf t) lo c s) (h0 : 0 ≤ lo) (hl : lo ≤ x.time) (hc : c ≤ x.time) (hx : x.time ≤ 2147483648) :
    Calls Tryz.prog 189 #[.pointer (some ⟨p, 0, none⟩), .agg (tpC x), .int .i64 ((tmOf t).group x.place)] w fun e w' => e = .returned (.bool (mayChange (tmOf t) s x)) ∧ Fr (fun _ => False) w w' := by
  cases hr : s.rail with
  | none =>
    have : mayChange (tmOf t) s x = false := by unfold mayChange Wk.last; rw [hr]
    rw [this]
    exact changes_none w0 w p A t s ao cap g h x _ (.inl hr)
  | some k =>
    obtain ⟨b, hb, hlst⟩ := hW.railAt hr
    by_cases hg : (tmOf t).group x.place = 0
    · have : mayChange (tmOf t) s x = false := by unfold mayChange; rw [hlst]; simp [hg]
      rw [this]
      exact changes_none w0 w p A t s ao cap g h x _ (.inr hg)
    · have : mayChange (tmOf t) s x = (decide (b.kind = 1) && decide (((stationOf t b.to).getD ⟨0, 0, 0⟩).group = (tmOf t).group x.place) && (decide (x.time - b.en ≤ t.change) && decide (x.time - b.st ≤ t.longest))) := by
        unfold mayChange
        rw [hlst]
        simp only [ne_eq, hg, not_false_eq_true, decide_true, Bool.true_and]
        rfl
      rw [this]
      have hj := hW.made b (mem_of_get hb)
      have := hj.lo; have := hj.le; have := hj.hi
      exact changes_some w0 w p A t s ao cap g h hT hn x _ k b hr hb hg ⟨by omega, by omega, by omega, by omega⟩ ⟨by omega, hx⟩

theorem wkC_again (A : Ad) (t : Tf) (s : Wk) (ao : Option Addr) (cap : Nat) (m : Bool) : (wkC A t s ao cap).setIfInBounds 28 (.bool m) = wkC A t ⟨s.made, s.rail, s.paid, s.opn, m⟩ ao cap := by simp [wkC]
theorem wkC_opn (A : Ad) (t : Tf) (s : Wk) (ao : Option Addr) (cap : Nat) (j : Jn) :
    ((((((wkC A t s ao cap).setIfInBounds 22 (.int .i64 j.kind)).setIfInBounds 23 (.int .i64 j.fr)).setIfInBounds 24 (.int .i64 j.to)).setIfInBounds 25 (.int .i64 j.st)).setIfInBounds 26 (.int .i64 j.en)).setIfInBounds 27 (.bool j.free) = wkC A t ⟨s.made, s.rail, s.paid, some j, s.again⟩ ao cap := by
  simp [wkC]

theorem shut_len (s : Wk) : s.shut.made.length ≤ s.made.length + 1 := by
  unfold Wk.shut
  split <;> simp

set_option maxHeartbeats 1000000 in
theorem enter_any (w0 w : World) (p : Nat) (A : Ad) (t : Tf) (s : Wk) (ao : Option Addr) (cap g : Nat) (h : WM w0 w p A t s ao cap g) (hT : TAt w0 A t) (hn : s.made.length ≤ 99000) (x : Tp) (lo c : Int) (hW : WOk (tmOf t) lo c s) (h0 : 0 ≤ lo) (hl : lo ≤ x.time) (hc : c ≤ x.time) (hx : x.time ≤ 2147483648) :
    Calls Tryz.prog 165 #[.pointer (some ⟨p, 0, none⟩), .agg (tpC x), .int .i64 ((tmOf t).group x.place)] w fun e w' => e = .returned (.tuple #[]) ∧ WStep w0 p A t (s.enter (tmOf t) x) w g cap w' := by
  have hsl := shut_len s
  have RC := hide (fun (u : World) (hu : Fr (fun _ => False) w u) => closeOpen_any w0 u p A t s ao cap g (h.keep hu) (by omega) (fun j hj => by have := (hW.opn j hj).2.1; omega))
  have RH := hide (fun (u : World) (ao1 : Option Addr) (cap1 g1 : Nat) (hu : WM w0 u p A t s.shut ao1 cap1 g1) => changes_any w0 u p A t s.shut ao1 cap1 g1 hu (hT.keep hu.fr) (by omega) x lo c hW.shut h0 hl hc hx)
  have RL := hide (fun u => lone_any u 2 x)
  have HE : Hid (s.enter (tmOf t) x = ⟨s.shut.made, s.shut.rail, s.shut.paid, some (lone 2 x), mayChange (tmOf t) s.shut x⟩) := hide rfl
  rw [unhide HE]
  generalize mayChange (tmOf t) s.shut x = m at *
  generalize (tmOf t).group x.place = gr at *
  have H := hide h
  have HX0 : Hid (∀ u, Fr (fun k => k = p ∨ (k = g ∧ 0 < cap)) (w.alloc (.cells (tpC x) 47)) u → Bx u w.heap.size (tpC x) 47) := hide (fun u hu => (Bx.new w (tpC x) 47).frame hu (fun t => by rcases t with t | ⟨t, t2⟩; (· have := h.lt; omega); (· have := h.glt t2; omega)))
  have HXP : Hid (w.heap.size ≠ p) := hide (by have := h.lt; omega)
  obtain ⟨L, hL⟩ : ∃ L, lone 2 x = L := ⟨_, rfl⟩
  have hLe : L = ⟨2, x.place, x.place, x.time, x.time, false⟩ := hL.symm
  rw [hL] at RL ⊢
  clear hL HE hsl h hW hc hx hl h0 hT
  subst hLe
  obtain ⟨dev, ctr, tok, kind, place, time⟩ := x
  simp only [tpC, jC] at *
  go_enter Tryz.func165, Tryz.ntmps165
  go_wp2_with fail
  refine (unhide RC _ ((Fr.refl _ _).alloc _)).mono ?_
  rintro e w1 ⟨rfl, ao1, cap1, g1, hM, hF, hG⟩
  have hX := unhide HX0 _ hF
  have HM := hide hM
  have HF := hide (Fr.trans (((Fr.refl (fun k => k = p ∨ (k = g ∧ 0 < cap)) w).alloc _)) hF (fun _ _ t => t))
  have HG : Hid (0 < cap1 → (g1 = g ∧ 0 < cap) ∨ w.heap.size ≤ g1) := hide (fun hc => (hG hc).imp id (fun t => by rw [heap_alloc] at t; omega))
  have RH1 := hide (unhide RH w1 ao1 cap1 g1 hM)
  have d0 : w1.cell? ⟨w.heap.size, 0, none⟩ = some (.int .i64 dev) := hX.cell 0
  have d1 : w1.cell? ⟨w.heap.size, 1, none⟩ = some (.int .i64 ctr) := hX.cell 1
  have d2 : w1.cell? ⟨w.heap.size, 2, none⟩ = some (.string tok) := hX.cell 2
  have d3 : w1.cell? ⟨w.heap.size, 3, none⟩ = some (.int .i64 kind) := hX.cell 3
  have d4 : w1.cell? ⟨w.heap.size, 4, none⟩ = some (.int .i64 place) := hX.cell 4
  have d5 : w1.cell? ⟨w.heap.size, 5, none⟩ = some (.int .i64 time) := hX.cell 5
  have HX := hide hX
  have HT : Hid (∀ s2 w', WStep w0 p A t s2 w1 g1 cap1 w' → WStep w0 p A t s2 w g cap w') := hide (fun s2 w' h2 => WStep.trans (unhide HM) (unhide HF) (unhide HG) h2)
  clear HF HG
  generalize w.heap.size = X at *
  clear hM hF hG hX RC RH HX0 H
  go_wp2_with fail
  refine (unhide RH1).mono ?_
  rintro e w2 ⟨rfl, hF2⟩
  have hM2 := (unhide HM).keep hF2
  have hX2 := (unhide HX).keep hF2
  have a28 : w2.cell? ⟨p, 28, none⟩ = some (.bool s.shut.again) := hM2.box.cell 28
  have f28 : w2.frozen? ⟨p, 28, none⟩ = false := hM2.box.frozen 28
  obtain ⟨v, hv⟩ : ∃ v, v = w2.setCell ⟨p, 28, none⟩ (.bool m) := ⟨_, rfl⟩
  have hFv : Fr (fun k => k = p) w2 v := by rw [hv]; exact Fr.setB (Fr.refl _ _) _ _
  have hMv : WM w0 v p A t ⟨s.shut.made, s.shut.rail, s.shut.paid, s.shut.opn, m⟩ ao1 cap1 g1 := hM2.write (by rw [hv, ← wkC_again]; exact hM2.box.setCell 28 _) hFv rfl
  have hXv := hX2.frame hFv (unhide HXP)
  have HFv : Hid (Fr (fun k => k = p ∨ (k = g1 ∧ 0 < cap1)) w1 v) := hide ((hF2.mono (fun _ _ t => t.elim)).trans hFv (fun _ _ t => .inl t))
  have HMv := hide hMv
  have HXv := hide hXv
  have HV := hide hv
  clear d0 d1 d2 d3 d4 d5 RH1 hM2 hX2 hFv hMv hXv hv hF2
  go_upto_region 3 with (fail)
  rw [← unhide HV]
  clear HV a28 f28
  have d0 : v.cell? ⟨X, 0, none⟩ = some (.int .i64 dev) := (unhide HXv).cell 0
  have d1 : v.cell? ⟨X, 1, none⟩ = some (.int .i64 ctr) := (unhide HXv).cell 1
  have d2 : v.cell? ⟨X, 2, none⟩ = some (.string tok) := (unhide HXv).cell 2
  have d3 : v.cell? ⟨X, 3, none⟩ = some (.int .i64 kind) := (unhide HXv).cell 3
  have d4 : v.cell? ⟨X, 4, none⟩ = some (.int .i64 place) := (unhide HXv).cell 4
  have d5 : v.cell? ⟨X, 5, none⟩ = some (.int .i64 time) := (unhide HXv).cell 5
  go_wp2_with fail
  refine (unhide RL _).mono ?_
  rintro e w4 ⟨rfl, hF4⟩
  have hM4 := (unhide HMv).keep hF4
  have e22 : w4.cell? ⟨p, 22, none⟩ = some (.int .i64 (s.shut.opn.getD jz).kind) := hM4.box.cell 22
  have e23 : w4.cell? ⟨p, 23, none⟩ = some (.int .i64 (s.shut.opn.getD jz).fr) := hM4.box.cell 23
  have e24 : w4.cell? ⟨p, 24, none⟩ = some (.int .i64 (s.shut.opn.getD jz).to) := hM4.box.cell 24
  have e25 : w4.cell? ⟨p, 25, none⟩ = some (.int .i64 (s.shut.opn.getD jz).st) := hM4.box.cell 25
  have e26 : w4.cell? ⟨p, 26, none⟩ = some (.int .i64 (s.shut.opn.getD jz).en) := hM4.box.cell 26
  have e27 : w4.cell? ⟨p, 27, none⟩ = some (.bool (s.shut.opn.getD jz).free) := hM4.box.cell 27
  have zf : ∀ k, w4.frozen? ⟨p, k, none⟩ = false := fun k => hM4.box.frozen k
  have HM4 := hide hM4
  have HF4 : Hid (Fr (fun k => k = p ∨ (k = g1 ∧ 0 < cap1)) w1 w4) := hide ((unhide HFv).trans hF4 (fun _ _ t => t.elim))
  clear d0 d1 d2 d3 d4 d5 hM4 hF4 RL
  go_wp2
  go_end0
  refine ⟨rfl, unhide HT _ _ ⟨ao1, cap1, g1, WM.write (unhide HM4) ?_ (?_ : Fr (fun k => k = p) w4 _) rfl, Fr.trans (unhide HF4) (?_ : Fr (fun k => k = p) w4 _) (fun _ _ t => .inl t), fun hc => .inl ⟨rfl, hc⟩⟩⟩
  · have e := wkC_opn A t ⟨s.shut.made, s.shut.rail, s.shut.paid, s.shut.opn, m⟩ ao1 cap1 ⟨2, place, place, time, time, false⟩
    simp only at e
    rw [← e]
    exact ((((((unhide HM4).box.setCell 22 _).setCell 23 _).setCell 24 _).setCell 25 _).setCell 26 _).setCell 27 _
  · repeat (with_reducible (first | exact Fr.refl _ _ | refine Fr.setB ?_ _ _))
  · repeat (with_reducible (first | exact Fr.refl _ _ | refine Fr.setB ?_ _ _))

end Go.Proofs.YtjgbllfppomcmaaGreat

/- A walk's leave. -/
namespace Go.Proofs.YtjgbllfppomcmaaGreat
open Go.RowKit

theorem jV_set (j : Jn) : ∀ (l : List Jn) (k : Nat), k < l.length →
    jV (l.set k j) = ((((((jV l).set (k * 6) (.int .i64 j.kind)).set (k * 6 + 1) (.int .i64 j.fr)).set (k * 6 + 2) (.int .i64 j.to)).set (k * 6 + 3) (.int .i64 j.st)).set (k * 6 + 4) (.int .i64 j.en)).set (k * 6 + 5) (.bool j.free)
  | [], k, h => absurd h (by simp)
  | b :: r, 0, _ => by simp [jV, jL]
  | b :: r, k + 1, h => by
    have ih := jV_set j r k (by simpa using h)
    have e : ∀ l : List Jn, jV (b :: l) = .int .i64 b.kind :: .int .i64 b.fr :: .int .i64 b.to :: .int .i64 b.st :: .int .i64 b.en :: .bool b.free :: jV l := fun l => by simp [jV, jL]
    rw [List.set_cons_succ, e, e, ih]
    have a0 : (k + 1) * 6 = k * 6 + 1 + 1 + 1 + 1 + 1 + 1 := by omega
    rw [a0]
    simp only [List.set_cons_succ, show k * 6 + 1 + 1 + 1 + 1 + 1 + 1 + 1 = (k * 6 + 1) + 1 + 1 + 1 + 1 + 1 + 1 from rfl, show k * 6 + 1 + 1 + 1 + 1 + 1 + 1 + 2 = (k * 6 + 2) + 1 + 1 + 1 + 1 + 1 + 1 from rfl, show k * 6 + 1 + 1 + 1 + 1 + 1 + 1 + 3 = (k * 6 + 3) + 1 + 1 + 1 + 1 + 1 + 1 from rfl, show k * 6 + 1 + 1 + 1 + 1 + 1 + 1 + 4 = (k * 6 + 4) + 1 + 1 + 1 + 1 + 1 + 1 from rfl, show k * 6 + 1 + 1 + 1 + 1 + 1 + 1 + 5 = (k * 6 + 5) + 1 + 1 + 1 + 1 + 1 + 1 from rfl]

theorem KRow.set1 {w : World} {ao : Option Addr} {cap g k : Nat} {vs : List Value} (h : KRow w ao cap g k vs) (j : Nat) (hj : j < vs.length) (v : Value) (hv : v.oneCell' = true) : KRow (w.setCell ⟨g, j, none⟩ v) ao cap g k (vs.set j v) := by
  refine ⟨by rw [List.length_set]; exact h.le, h.max, h.ad, fun i hi => ⟨?_, by rw [World.frozen?_setCell]; exact (h.room i hi).2⟩, fun i hi => ?_, fun u hu => ?_⟩
  · by_cases e : i = j
    · subst e
      rw [World.cell?_setCell_same _ _ _ (h.cells i hj)]; rfl
    · rw [World.cell?_setCell_other _ _ _ _ (by intro t; injection t with t1 t2; exact e t2.symm)]
      exact (h.room i hi).1
  · rw [List.length_set] at hi
    by_cases e : i = j
    · subst e
      rw [World.cell?_setCell_same _ _ _ (h.cells i hj), List.getElem_set_self]
    · rw [World.cell?_setCell_other _ _ _ _ (by intro t; injection t with t1 t2; exact e t2.symm), h.cells i hi, List.getElem_set_ne (fun t => e t.symm)]
  · rcases List.mem_or_eq_of_mem_set hu with h1 | h1
    · exact h.one u h1
    · rw [h1]; exact hv

theorem KRow.setJ {w : World} {ao : Option Addr} {cap g : Nat} {l : List Jn} (h : KRow w ao cap g 6 (jV l)) {k : Nat} (hk : k < l.length) (j : Jn) :
    KRow ((((((w.setCell ⟨g, k * 6, none⟩ (.int .i64 j.kind)).setCell ⟨g, k * 6 + 1, none⟩ (.int .i64 j.fr)).setCell ⟨g, k * 6 + 2, none⟩ (.int .i64 j.to)).setCell ⟨g, k * 6 + 3, none⟩ (.int .i64 j.st)).setCell ⟨g, k * 6 + 4, none⟩ (.int .i64 j.en)).setCell ⟨g, k * 6 + 5, none⟩ (.bool j.free)) ao cap g 6 (jV (l.set k j)) := by
  have hl := jV_length l
  rw [jV_set j l k hk]
  exact (((((h.set1 (k * 6) (by omega) _ rfl).set1 (k * 6 + 1) (by simp; omega) _ rfl).set1 (k * 6 + 2) (by simp; omega) _ rfl).set1 (k * 6 + 3) (by simp; omega) _ rfl).set1 (k * 6 + 4) (by simp; omega) _ rfl).set1 (k * 6 + 5) (by simp; omega) _ rfl

theorem WM.setJ {w0 w : World} {p : Nat} {A : Ad} {t : Tf} {s : Wk} {ao : Option Addr} {cap g : Nat} (h : WM w0 w p A t s ao cap g) {k : Nat} (hk : k < s.made.length) (j : Jn) :
    WM w0 ((((((w.setCell ⟨g, k * 6, none⟩ (.int .i64 j.kind)).setCell ⟨g, k * 6 + 1, none⟩ (.int .i64 j.fr)).setCell ⟨g, k * 6 + 2, none⟩ (.int .i64 j.to)).setCell ⟨g, k * 6 + 3, none⟩ (.int .i64 j.st)).setCell ⟨g, k * 6 + 4, none⟩ (.int .i64 j.en)).setCell ⟨g, k * 6 + 5, none⟩ (.bool j.free)) p A t ⟨s.made.set k j, s.rail, s.paid, s.opn, s.again⟩ ao cap g := by
  have hl := jV_length s.made
  have hle := h.row.le
  have hcap : 0 < cap := by
    rcases Nat.eq_zero_or_pos cap with rfl | h0
    · omega
    · exact h0
  have hf : Fr (fun k => k = g) w ((((((w.setCell ⟨g, k * 6, none⟩ (.int .i64 j.kind)).setCell ⟨g, k * 6 + 1, none⟩ (.int .i64 j.fr)).setCell ⟨g, k * 6 + 2, none⟩ (.int .i64 j.to)).setCell ⟨g, k * 6 + 3, none⟩ (.int .i64 j.st)).setCell ⟨g, k * 6 + 4, none⟩ (.int .i64 j.en)).setCell ⟨g, k * 6 + 5, none⟩ (.bool j.free)) := by
    repeat (with_reducible (first | exact Fr.refl _ _ | refine Fr.setB ?_ _ _))
  refine ⟨?_, h.row.setJ hk j, h.ne, h.p0, h.g0, h.fr.trans hf (fun i hi t => by have := h.g0 hcap; omega)⟩
  have e : wkC A t ⟨s.made.set k j, s.rail, s.paid, s.opn, s.again⟩ ao cap = wkC A t s ao cap := by simp [wkC]
  rw [e]
  exact h.box.frame hf (fun t => h.ne hcap t.symm)

theorem WM.drew {w0 w : World} {p : Nat} {A : Ad} {t : Tf} {s : Wk} {ao : Option Addr} {cap g : Nat} (h : WM w0 w p A t s ao cap g) : WM w0 w.drew p A t s ao cap g := h.keep ((Fr.refl _ _).drew)

def isLateB (T : Tm) (s : Wk) (x : Tp) : Bool :=
  match s.begun with
  | none => true
  | some b => decide (T.lng < x.time - b.st)
theorem leave_eq (T : Tm) (s : Wk) (x : Tp) : s.leave T x = if isLateB T s x then s.late x else s.done (wholeJ (s.begun.getD jz) x) := by
  unfold Wk.leave isLateB
  cases s.begun with
  | none => rfl
  | some b => simp

set_option maxHeartbeats 1000000 in
theorem leave_any (w0 w : World) (p : Nat) (A : Ad) (t : Tf) (s : Wk) (ao : Option Addr) (cap g : Nat) (h : WM w0 w p A t s ao cap g) (hn : s.made.length ≤ 99000) (x : Tp) (lo c : Int) (hW : WOk (tmOf t) lo c s) (h0 : 0 ≤ lo) (hl : lo ≤ x.time) (hc : c ≤ x.time) (hx : x.time ≤ 2147483648) :
    Calls Tryz.prog 166 #[.pointer (some ⟨p, 0, none⟩), .agg (tpC x)] w fun e w' => e = .returned (.tuple #[]) ∧ WStep w0 p A t (s.leave (tmOf t) x) w g cap w' := by
  have q1 := egJ
  have q2 := eqJ
  have hok : ∀ j : Jn, s.opn = some j → j.kind ≠ 0 := fun j hj => by have := (hW.opn j hj).2.1; omega
  have hag : ∀ j : Jn, s.opn = some j → s.again = true → ∃ (k : Nat) (b : Jn), s.rail = some k ∧ s.made[k]? = some b := fun j hj hg => by
    obtain ⟨b, hb, _⟩ := hW.again j hj hg
    obtain ⟨k, h1, h2⟩ := hW.lastAt hb
    exact ⟨k, b, h1, h2⟩
  have HB0 : Hid (s.begun = none → isLateB (tmOf t) s x = true) := hide (fun e => by unfold isLateB; rw [e])
  have HB1 : Hid (∀ b, s.begun = some b → decide (t.longest < x.time - b.st) = isLateB (tmOf t) s x ∧ b.kind ≠ 0 ∧ 0 ≤ b.st ∧ b.st ≤ 2147483648) := hide (fun b e => by
    refine ⟨by unfold isLateB; rw [e]; rfl, ?_⟩
    unfold Wk.begun at e
    cases ho : s.opn with
    | none => rw [ho] at e; cases e
    | some j =>
      rw [ho] at e
      simp only at e
      by_cases hg : s.again = true
      · rw [if_pos hg] at e
        obtain ⟨k, _, h2⟩ := hW.lastAt e
        have hj := hW.made b (mem_of_get h2)
        have := hj.k1; have := hj.lo; have := hj.le; have := hj.hi
        exact ⟨by omega, by omega, by omega⟩
      · rw [if_neg hg] at e
        injection e with e
        subst e
        have hj := (hW.opn j ho).1
        have := hj.k1; have := hj.lo; have := hj.le; have := hj.hi
        exact ⟨by omega, by omega, by omega⟩)
  have HEQ : Hid (s.leave (tmOf t) x = if isLateB (tmOf t) s x then s.late x else s.done (wholeJ (s.begun.getD jz) x)) := hide (leave_eq _ _ _)
  have HAG : Hid (isLateB (tmOf t) s x = false → s.again = true → ∃ k : Nat, s.rail = some k ∧ k < s.made.length) := hide (fun e hg => by
    cases ho : s.opn with
    | none =>
      have : s.begun = none := by unfold Wk.begun; rw [ho]
      rw [unhide HB0 this] at e; cases e
    | some j => obtain ⟨k, b, h1, h2⟩ := hag j ho hg; exact ⟨k, h1, get_lt h2⟩)
  have hsl := shut_len s
  have RB := hide (fun (u : World) (hu : Fr (fun _ => False) w u) => begun_any w0 u p A t s ao cap g (h.keep hu) (by omega) hok hag)
  have RC := hide (fun (u : World) (hu : WM w0 u p A t s ao cap g) => closeOpen_any w0 u p A t s ao cap g hu (by omega) hok)
  have RP := hide (fun (u : World) (s1 : Wk) (ao1 : Option Addr) (cap1 g1 : Nat) (hu : WM w0 u p A t s1 ao1 cap1 g1) (hs : s1.made.length ≤ 100000) (j : Jn) => putRail_any w0 u p A t s1 ao1 cap1 g1 hu hs j)
  have RL := hide (fun u => lone_any u 3 x)
  have HLATE : Hid (s.late x = s.shut.put (lone 3 x)) := hide rfl
  have HLJ : Hid (lone 3 x = ⟨3, x.place, x.place, x.time, x.time, false⟩) := hide rfl
  have HWJ : Hid (wholeJ (s.begun.getD jz) x = ⟨1, (s.begun.getD jz).fr, x.place, (s.begun.getD jz).st, x.time, false⟩) := hide rfl
  rw [unhide HLJ] at RL
  have HSL := hide hsl
  have HN := hide hn
  have HX01 := hide (And.intro h0 (And.intro hl (And.intro hc hx)))
  have H := hide h
  clear hok hag hsl hW h0 hl hc hx h hn
  rw [unhide HEQ]
  clear HEQ
  obtain ⟨LT, hLT⟩ : ∃ LT, isLateB (tmOf t) s x = LT := ⟨_, rfl⟩
  rw [hLT] at HB0 HAG ⊢
  simp only [hLT] at HB1
  clear hLT
  rw [unhide HLATE, unhide HLJ, unhide HWJ]
  clear HLATE HLJ HWJ
  obtain ⟨Z, hZ⟩ : ∃ Z, (if LT then s.shut.put ⟨3, x.place, x.place, x.time, x.time, false⟩ else s.done ⟨1, (s.begun.getD jz).fr, x.place, (s.begun.getD jz).st, x.time, false⟩) = Z := ⟨_, rfl⟩
  rw [hZ]
  have HZ := hide hZ
  clear hZ
  obtain ⟨dev, ctr, tok, kind, place, time⟩ := x
  simp only [tpC, jC] at *
  go_enter Tryz.func166, Tryz.ntmps166
  go_wp2_with fail
  refine (unhide RB _ ((Fr.refl _ _).alloc _)).mono ?_
  rintro e w1 ⟨rfl, hF1⟩
  obtain ⟨bg, hbg⟩ : ∃ bg, s.begun.getD jz = bg := ⟨_, rfl⟩
  have HBG := hide hbg
  rw [hbg]
  clear hbg RB
  have hX : Bx w1 w.heap.size #[.int .i64 dev, .int .i64 ctr, .string tok, .int .i64 kind, .int .i64 place, .int .i64 time] 47 := (Bx.new _ _ _).keep hF1
  have hFw : Fr (fun _ => False) w w1 := Fr.trans ((Fr.refl (fun _ => False) w).alloc _) hF1 (fun _ _ t => t)
  obtain ⟨v, hv⟩ : ∃ v, v = w1.alloc (.cells #[.int .i64 bg.kind, .int .i64 bg.fr, .int .i64 bg.to, .int .i64 bg.st, .int .i64 bg.en, .bool bg.free] 124) := ⟨_, rfl⟩
  have hFv : Fr (fun _ => False) w1 v := by rw [hv]; exact (Fr.refl _ _).alloc _
  have hJX : Bx v w1.heap.size #[.int .i64 bg.kind, .int .i64 bg.fr, .int .i64 bg.to, .int .i64 bg.st, .int .i64 bg.en, .bool bg.free] 124 := by rw [hv]; exact Bx.new _ _ _
  have HM : Hid (WM w0 v p A t s ao cap g) := hide (((unhide H).keep hFw).keep hFv)
  have hJ0 : w.heap.size < w1.heap.size := hX.lt
  have HFV : Hid (Fr (fun _ => False) w v) := hide (hFw.trans hFv (fun _ _ t => t))
  have HX := hide (hX.keep hFv)
  have HJX := hide hJX
  have HPJ : Hid (p < w.heap.size ∧ (0 < cap → g < w.heap.size)) := hide ⟨(unhide H).lt, fun hc => (unhide H).glt hc⟩
  have HV := hide hv
  have HTS : Hid (∀ s2 u w', Fr (fun _ => False) w u → WStep w0 p A t s2 u g cap w' → WStep w0 p A t s2 w g cap w') := hide (fun s2 u w' h1 h2 => WStep.of h1 h2)
  clear hF1 hX hFw hFv hJX hv H
  go_upto_region 2 with (fail)
  obtain ⟨J, hJ⟩ : ∃ J, J = w1.heap.size := ⟨_, rfl⟩
  obtain ⟨X, hXX⟩ : ∃ X, X = w.heap.size := ⟨_, rfl⟩
  rw [← unhide HV, ← hJ, ← hXX]
  rw [← hJ] at HJX hJ0
  rw [← hXX] at HX HPJ hJ0
  have HJ0 := hide hJ0
  have HXX := hide hXX
  clear HV hJ hXX hJ0
  go_cut [23] from 8 to 22 (fun v23 wc => v23 = .bool LT ∧ Hid (Fr (fun _ => False) v wc))
  case first =>
    have j0 : v.cell? ⟨J, 0, none⟩ = some (.int .i64 bg.kind) := (unhide HJX).cell 0
    have j1 : v.cell? ⟨J, 1, none⟩ = some (.int .i64 bg.fr) := (unhide HJX).cell 1
    have j2 : v.cell? ⟨J, 2, none⟩ = some (.int .i64 bg.to) := (unhide HJX).cell 2
    have j3 : v.cell? ⟨J, 3, none⟩ = some (.int .i64 bg.st) := (unhide HJX).cell 3
    have j4 : v.cell? ⟨J, 4, none⟩ = some (.int .i64 bg.en) := (unhide HJX).cell 4
    have j5 : v.cell? ⟨J, 5, none⟩ = some (.bool bg.free) := (unhide HJX).cell 5
    have x5 : v.cell? ⟨X, 5, none⟩ = some (.int .i64 time) := (unhide HX).cell 5
    have c9 : v.cell? ⟨p, 9, none⟩ = some (.int .i64 t.longest) := (unhide HM).box.cell 9
    cases hb : s.begun with
    | none =>
      obtain rfl := unhide HB0 hb
      have e : bg = jz := by rw [← unhide HBG, hb]; rfl
      subst e
      simp only [jz] at j0 j1 j2 j3 j4 j5
      clear hb HB1 HBG RC RP RL HAG HX01
      go_quiet (fail)
      go_wp2_with fail
      go_meet
      exact ⟨rfl, by first | exact hide ((Fr.refl _ _).drewN _) | exact hide (Fr.refl _ _)⟩
    | some b =>
      obtain ⟨hlt, hk, hs0, hs1⟩ := unhide HB1 b hb
      have e : bg = b := by rw [← unhide HBG, hb]; rfl
      subst e
      have hkb : (bg.kind == 0) = false := by simp [hk]
      obtain ⟨bk, bf, bt, bs, be, bfr⟩ := bg
      simp only at j0 j1 j2 j3 j4 j5 hlt hkb hs0 hs1
      have ht0 := (unhide HX01).1
      have ht1 := (unhide HX01).2.1
      have ht2 := (unhide HX01).2.2.2
      have wr : IntKind.i64.wrap (time - bs) = time - bs := by rw [IntKind.wrap_i64]; omega
      clear hb HB1 HB0 HBG RC RP RL HAG HX01 hk ht0 ht1 ht2
      cases LT
      all_goals
        go_quiet (fail)
        go_wp2_with fail
        go_meet
        exact ⟨rfl, by first | exact hide ((Fr.refl _ _).drewN _) | exact hide (Fr.refl _ _)⟩
  case rest =>
    obtain ⟨rfl, hG⟩ := hcut
    have hGv := unhide hG
    have HMW := hide ((unhide HM).keep hGv)
    have HXW := hide ((unhide HX).keep hGv)
    have HJW := hide ((unhide HJX).keep hGv)
    have HFW : Hid (Fr (fun _ => False) w wc) := hide ((unhide HFV).trans hGv (fun _ _ t => t))
    clear hG hGv HM HX HJX HFV HB0 HB1 HX01
    cases LT with
    | true =>
      have HZD : Hid (Z = s.shut.put ⟨3, place, place, time, time, false⟩) := hide (unhide HZ).symm
      have RC1 := hide (unhide RC wc (unhide HMW))
      clear RC HAG HBG HJW
      go_wp2_with fail
      refine (unhide RC1).mono ?_
      rintro e w2 ⟨rfl, ao1, cap1, g1, hM1, hF1, hG1⟩
      have hX2 := (unhide HXW).frame hF1 (fun t => by rcases t with t | ⟨t, t2⟩; (· have := (unhide HPJ).1; omega); (· have := (unhide HPJ).2 t2; omega))
      have HT : Hid (∀ s2 w', WStep w0 p A t s2 w2 g1 cap1 w' → WStep w0 p A t s2 w g cap w') := hide (fun s2 w' h2 => unhide HTS _ _ _ (unhide HFW) (WStep.trans hM1 hF1 hG1 h2))
      have RP1 := hide (fun (u : World) (hu : Fr (fun _ => False) w2 u) => unhide RP u s.shut ao1 cap1 g1 (hM1.keep hu) (by have := unhide HSL; have := unhide HN; omega) ⟨3, place, place, time, time, false⟩)
      simp only at RP1
      have d0 : w2.cell? ⟨X, 0, none⟩ = some (.int .i64 dev) := hX2.cell 0
      have d1 : w2.cell? ⟨X, 1, none⟩ = some (.int .i64 ctr) := hX2.cell 1
      have d2 : w2.cell? ⟨X, 2, none⟩ = some (.string tok) := hX2.cell 2
      have d3 : w2.cell? ⟨X, 3, none⟩ = some (.int .i64 kind) := hX2.cell 3
      have d4 : w2.cell? ⟨X, 4, none⟩ = some (.int .i64 place) := hX2.cell 4
      have d5 : w2.cell? ⟨X, 5, none⟩ = some (.int .i64 time) := hX2.cell 5
      clear hX2 hM1 hF1 hG1 RC1 RP HTS HFW HXW HMW HPJ HJ0 HSL HN
      go_wp2_with fail
      refine (unhide RL _).mono ?_
      rintro e w3 ⟨rfl, hF3⟩
      have RP2 := hide (unhide RP1 w3 hF3)
      have HF3 := hide hF3
      clear hF3 RP1 RL
      go_wp2_with fail
      refine (unhide RP2).mono ?_
      rintro e w4 ⟨rfl, hS⟩
      have HS := hide (unhide HT _ _ (WStep.of (unhide HF3) hS))
      clear hS RP2 HT HF3 d0 d1 d2 d3 d4 d5
      go_wp2
      refine bodyPost_ret (results_none rfl _ _ _) rfl ⟨rfl, ?_⟩
      rw [unhide HZD]
      exact unhide HS
    | false =>
      have HZE : Hid (Z = s.done ⟨1, bg.fr, place, bg.st, time, false⟩) := hide (by rw [← unhide HBG]; exact (unhide HZ).symm)
      clear HZ
      have d4 : wc.cell? ⟨X, 4, none⟩ = some (.int .i64 place) := (unhide HXW).cell 4
      have d5 : wc.cell? ⟨X, 5, none⟩ = some (.int .i64 time) := (unhide HXW).cell 5
      have y1 : wc.cell? ⟨J, 1, none⟩ = some (.int .i64 bg.fr) := (unhide HJW).cell 1
      have y3 : wc.cell? ⟨J, 3, none⟩ = some (.int .i64 bg.st) := (unhide HJW).cell 3
      obtain ⟨v, hv⟩ : ∃ v, v = wc.alloc (.cells #[.int .i64 1, .int .i64 bg.fr, .int .i64 place, .int .i64 bg.st, .int .i64 time, .bool false] 124) := ⟨_, rfl⟩
      have hFv : Fr (fun _ => False) wc v := by rw [hv]; exact (Fr.refl _ _).alloc _
      have HWX : Hid (Bx v wc.heap.size #[.int .i64 1, .int .i64 bg.fr, .int .i64 place, .int .i64 bg.st, .int .i64 time, .bool false] 124) := hide (by rw [hv]; exact Bx.new _ _ _)
      have HMV := hide ((unhide HMW).keep hFv)
      have HFV : Hid (Fr (fun _ => False) w v) := hide ((unhide HFW).trans hFv (fun _ _ t => t))
      have HWL : Hid (p < wc.heap.size ∧ (0 < cap → g < wc.heap.size)) := hide ⟨(unhide HMW).lt, fun hc => (unhide HMW).glt hc⟩
      have HV := hide hv
      clear hFv hv RC RL HMW HXW HJW HFW HJ0 HPJ HSL
      go_upto_region 6 with (fail)
      obtain ⟨Wn, hWn⟩ : ∃ Wn, Wn = wc.heap.size := ⟨_, rfl⟩
      rw [← unhide HV, ← hWn]
      rw [← hWn] at HWX HWL
      clear HV hWn d4 d5 y1 y3
      have c28 : v.cell? ⟨p, 28, none⟩ = some (.bool s.again) := (unhide HMV).box.cell 28
      have j0 : v.cell? ⟨Wn, 0, none⟩ = some (.int .i64 1) := (unhide HWX).cell 0
      have j1 : v.cell? ⟨Wn, 1, none⟩ = some (.int .i64 bg.fr) := (unhide HWX).cell 1
      have j2 : v.cell? ⟨Wn, 2, none⟩ = some (.int .i64 place) := (unhide HWX).cell 2
      have j3 : v.cell? ⟨Wn, 3, none⟩ = some (.int .i64 bg.st) := (unhide HWX).cell 3
      have j4 : v.cell? ⟨Wn, 4, none⟩ = some (.int .i64 time) := (unhide HWX).cell 4
      have j5 : v.cell? ⟨Wn, 5, none⟩ = some (.bool false) := (unhide HWX).cell 5
      clear HBG
      cases hag : s.again with
      | true =>
        obtain ⟨k, hr, hk⟩ := unhide HAG rfl hag
        have HD : Hid (s.done ⟨1, bg.fr, place, bg.st, time, false⟩ = ⟨s.made.set k ⟨1, bg.fr, place, bg.st, time, false⟩, s.rail, s.paid, none, s.again⟩) := hide (by unfold Wk.done; rw [if_pos hag, hr]; rfl)
        have HZD := hide ((unhide HZE).trans (unhide HD))
        clear HZE
        rw [hag] at c28
        have hle := (unhide HMV).row.le
        have hjl := jV_length s.made
        have hcap : 0 < cap := by
          rcases Nat.eq_zero_or_pos cap with e | e
          · rw [e] at hle; omega
          · exact e
        have hao := (unhide HMV).row.ad hcap
        subst hao
        have c14 : v.cell? ⟨p, 14, none⟩ = some (.slice (some ⟨g, 0, none⟩) s.made.length cap) := (unhide HMV).box.cell 14
        have c15 : v.cell? ⟨p, 15, none⟩ = some (.int .i64 (k : Int)) := by
          have := (unhide HMV).box.cell 15
          rw [this]
          show some (Value.int .i64 (railV s.rail)) = _
          rw [hr]; rfl
        have hrc : ∀ i, i < 6 → (v.cell? ⟨g, k * 6 + i, none⟩).isSome = true ∧ v.frozen? ⟨g, k * 6 + i, none⟩ = false := fun i hi => (unhide HMV).row.room (k * 6 + i) (by omega)
        obtain ⟨m0, hm0⟩ := Option.isSome_iff_exists.1 (hrc 0 (by omega)).1
        obtain ⟨m1, hm1⟩ := Option.isSome_iff_exists.1 (hrc 1 (by omega)).1
        obtain ⟨m2, hm2⟩ := Option.isSome_iff_exists.1 (hrc 2 (by omega)).1
        obtain ⟨m3, hm3⟩ := Option.isSome_iff_exists.1 (hrc 3 (by omega)).1
        obtain ⟨m4, hm4⟩ := Option.isSome_iff_exists.1 (hrc 4 (by omega)).1
        obtain ⟨m5, hm5⟩ := Option.isSome_iff_exists.1 (hrc 5 (by omega)).1
        have mf0 := (hrc 0 (by omega)).2
        have mf1 := (hrc 1 (by omega)).2
        have mf2 := (hrc 2 (by omega)).2
        have mf3 := (hrc 3 (by omega)).2
        have mf4 := (hrc 4 (by omega)).2
        have mf5 := (hrc 5 (by omega)).2
        simp only [Nat.add_zero] at hm0 mf0
        have i1 : (k : Int) < (s.made.length : Int) := by omega
        have i2 : (s.made.length : Int) ≤ 99000 := by have := unhide HN; omega
        have hpg : p ≠ g := fun e => (unhide HMV).ne hcap e.symm
        have hWg : Wn ≠ g := by have := (unhide HWL).2 hcap; omega
        have HSJ := hide ((unhide HMV).setJ hk ⟨1, bg.fr, place, bg.st, time, false⟩)
        simp only at HSJ
        have HKP : Hid (∀ u, Fr (fun k => k = g) v u → u.cell? ⟨p, 14, none⟩ = some (.slice (some ⟨g, 0, none⟩) s.made.length cap) ∧ u.cell? ⟨p, 15, none⟩ = some (.int .i64 (k : Int)) ∧ u.cell? ⟨Wn, 0, none⟩ = some (.int .i64 1) ∧ u.cell? ⟨Wn, 1, none⟩ = some (.int .i64 bg.fr) ∧ u.cell? ⟨Wn, 2, none⟩ = some (.int .i64 place) ∧ u.cell? ⟨Wn, 3, none⟩ = some (.int .i64 bg.st) ∧ u.cell? ⟨Wn, 4, none⟩ = some (.int .i64 time) ∧ u.cell? ⟨Wn, 5, none⟩ = some (.bool false)) := hide (fun u hf => by
          have f : ∀ {i : Nat} {x : Value} {q : Nat}, q ≠ g → v.cell? ⟨q, i, none⟩ = some x → u.cell? ⟨q, i, none⟩ = some x := fun {i x q} hq e => (hf.cell (World.block_lt_of_cell? _ _ e) hq).trans e
          exact ⟨f hpg c14, f hpg c15, f hWg j0, f hWg j1, f hWg j2, f hWg j3, f hWg j4, f hWg j5⟩)
        clear HD hle hjl hrc hag HAG RP HN HWL HWX
        generalize hnl : s.made.length = n at *
        have HK := hide hk
        clear hk hnl
        go_upto_region 7 with (fail)
        go_cut [] from 43 to 52 (fun wd => Hid (WM w0 wd p A t ⟨s.made.set k ⟨1, bg.fr, place, bg.st, time, false⟩, s.rail, s.paid, s.opn, s.again⟩ (some ⟨g, 0, none⟩) cap g ∧ Fr (fun k => k = g) v wd))
        case first =>
          go_region_held3 (fun u => u.cell? ⟨p, 14, none⟩ = some (.slice (some ⟨g, 0, none⟩) n cap) ∧ u.cell? ⟨p, 15, none⟩ = some (.int .i64 (k : Int)) ∧ u.cell? ⟨Wn, 0, none⟩ = some (.int .i64 1) ∧ u.cell? ⟨Wn, 1, none⟩ = some (.int .i64 bg.fr) ∧ u.cell? ⟨Wn, 2, none⟩ = some (.int .i64 place) ∧ u.cell? ⟨Wn, 3, none⟩ = some (.int .i64 bg.st) ∧ u.cell? ⟨Wn, 4, none⟩ = some (.int .i64 time) ∧ u.cell? ⟨Wn, 5, none⟩ = some (.bool false)) ((refine unhide HKP _ ?_; repeat (with_reducible (first | exact Fr.refl _ _ | refine Fr.drew ?_ | refine Fr.setB ?_ _ _)))) (fail)
          all_goals
            go_wp2_with fail
            go_meet
            exact hide ⟨by with_reducible (first | exact unhide HSJ | exact WM.drew (unhide HSJ)), by repeat (with_reducible (first | exact Fr.refl _ _ | refine Fr.drew ?_ | refine Fr.setB ?_ _ _))⟩
        case rest =>
          obtain ⟨hM5, hF5⟩ := unhide hcut
          have e22 : wc.cell? ⟨p, 22, none⟩ = some (.int .i64 (s.opn.getD jz).kind) := hM5.box.cell 22
          have e23 : wc.cell? ⟨p, 23, none⟩ = some (.int .i64 (s.opn.getD jz).fr) := hM5.box.cell 23
          have e24 : wc.cell? ⟨p, 24, none⟩ = some (.int .i64 (s.opn.getD jz).to) := hM5.box.cell 24
          have e25 : wc.cell? ⟨p, 25, none⟩ = some (.int .i64 (s.opn.getD jz).st) := hM5.box.cell 25
          have e26 : wc.cell? ⟨p, 26, none⟩ = some (.int .i64 (s.opn.getD jz).en) := hM5.box.cell 26
          have e27 : wc.cell? ⟨p, 27, none⟩ = some (.bool (s.opn.getD jz).free) := hM5.box.cell 27
          have zf : ∀ k, wc.frozen? ⟨p, k, none⟩ = false := fun k => hM5.box.frozen k
          have HM5 := hide hM5
          have HF5 := hide hF5
          have HC := hide hcap
          clear hM5 hF5 hcut c14 c15 c28 j0 j1 j2 j3 j4 j5 m0 m1 m2 m3 m4 m5 hm0 hm1 hm2 hm3 hm4 hm5 mf0 mf1 mf2 mf3 mf4 mf5 HKP HSJ HMV i1 i2 hpg hWg hcap
          go_wp2
          go_end0
          rw [unhide HZD]
          refine ⟨rfl, unhide HTS _ _ _ (unhide HFV) ⟨some ⟨g, 0, none⟩, cap, g, WM.write (unhide HM5) ?_ (?_ : Fr (fun k => k = p) wc _) rfl, Fr.trans ((unhide HF5).mono (fun _ _ t => .inr ⟨t, unhide HC⟩)) (?_ : Fr (fun k => k = p) wc _) (fun _ _ t => .inl t), fun hc => .inl ⟨rfl, hc⟩⟩⟩
          · have e := wkC_shut A t ⟨s.made.set k ⟨1, bg.fr, place, bg.st, time, false⟩, s.rail, s.paid, s.opn, s.again⟩ (some ⟨g, 0, none⟩) cap
            simp only at e
            rw [← e]
            exact ((((((unhide HM5).box.setCell 22 _).setCell 23 _).setCell 24 _).setCell 25 _).setCell 26 _).setCell 27 _
          · repeat (with_reducible (first | exact Fr.refl _ _ | refine Fr.setB ?_ _ _))
          · repeat (with_reducible (first | exact Fr.refl _ _ | refine Fr.setB ?_ _ _))
      | false =>
        have HD : Hid (s.done ⟨1, bg.fr, place, bg.st, time, false⟩ = ⟨(s.put ⟨1, bg.fr, place, bg.st, time, false⟩).made, (s.put ⟨1, bg.fr, place, bg.st, time, false⟩).rail, s.paid, none, s.again⟩) := hide (by unfold Wk.done; rw [if_neg (by simp [hag])]; rfl)
        have HZD := hide ((unhide HZE).trans (unhide HD))
        clear HZE
        rw [hag] at c28
        have RP1 := hide (unhide RP v s ao cap g (unhide HMV) (by have := unhide HN; omega) ⟨1, bg.fr, place, bg.st, time, false⟩)
        simp only at RP1
        clear HD hag HAG RP HN HWL HWX HMV
        go_wp2_with fail
        refine (unhide RP1).mono ?_
        rintro e w3 ⟨rfl, ao1, cap1, g1, hM5, hF5, hG5⟩
        have e22 : w3.cell? ⟨p, 22, none⟩ = some (.int .i64 (s.opn.getD jz).kind) := hM5.box.cell 22
        have e23 : w3.cell? ⟨p, 23, none⟩ = some (.int .i64 (s.opn.getD jz).fr) := hM5.box.cell 23
        have e24 : w3.cell? ⟨p, 24, none⟩ = some (.int .i64 (s.opn.getD jz).to) := hM5.box.cell 24
        have e25 : w3.cell? ⟨p, 25, none⟩ = some (.int .i64 (s.opn.getD jz).st) := hM5.box.cell 25
        have e26 : w3.cell? ⟨p, 26, none⟩ = some (.int .i64 (s.opn.getD jz).en) := hM5.box.cell 26
        have e27 : w3.cell? ⟨p, 27, none⟩ = some (.bool (s.opn.getD jz).free) := hM5.box.cell 27
        have zf : ∀ k, w3.frozen? ⟨p, k, none⟩ = false := fun k => hM5.box.frozen k
        have HM5 := hide hM5
        have HT : Hid (∀ s2 w', WStep w0 p A t s2 w3 g1 cap1 w' → WStep w0 p A t s2 w g cap w') := hide (fun s2 w' h2 => unhide HTS _ _ _ (unhide HFV) (WStep.trans hM5 hF5 hG5 h2))
        clear hM5 hF5 hG5 HFV HTS RP1 c28 j0 j1 j2 j3 j4 j5
        go_wp2
        go_end0
        rw [unhide HZD]
        refine ⟨rfl, unhide HT _ _ ⟨ao1, cap1, g1, WM.write (unhide HM5) ?_ (?_ : Fr (fun k => k = p) w3 _) rfl, Fr.mono (?_ : Fr (fun k => k = p) w3 _) (fun _ _ t => .inl t), fun hc => .inl ⟨rfl, hc⟩⟩⟩
        · have e := wkC_shut A t (s.put ⟨1, bg.fr, place, bg.st, time, false⟩) ao1 cap1
          rw [← (show (Wk.mk (s.put ⟨1, bg.fr, place, bg.st, time, false⟩).made (s.put ⟨1, bg.fr, place, bg.st, time, false⟩).rail (s.put ⟨1, bg.fr, place, bg.st, time, false⟩).paid none (s.put ⟨1, bg.fr, place, bg.st, time, false⟩).again) = ⟨(s.put ⟨1, bg.fr, place, bg.st, time, false⟩).made, (s.put ⟨1, bg.fr, place, bg.st, time, false⟩).rail, s.paid, none, s.again⟩ from rfl), ← e]
          exact ((((((unhide HM5).box.setCell 22 _).setCell 23 _).setCell 24 _).setCell 25 _).setCell 26 _).setCell 27 _
        · repeat (with_reducible (first | exact Fr.refl _ _ | refine Fr.setB ?_ _ _))
        · repeat (with_reducible (first | exact Fr.refl _ _ | refine Fr.setB ?_ _ _))

end Go.Proofs.YtjgbllfppomcmaaGreat

/- A walk's take. -/
namespace Go.Proofs.YtjgbllfppomcmaaGreat
open Go.RowKit

theorem take_len (T : Tm) (s : Wk) (x : Tp) : (s.take T x).made.length ≤ s.made.length + 2 := by
  have hs := shut_len s
  have hlate : (s.late x).made.length ≤ s.made.length + 2 := by unfold Wk.late Wk.put; simp; omega
  unfold Wk.take
  split
  · unfold Wk.ride; simp
  · split
    · split
      · show s.shut.made.length ≤ _; omega
      · split
        · unfold Wk.leave
          split
          · exact hlate
          · split
            · exact hlate
            · unfold Wk.done; split <;> simp
        · omega
    · omega

set_option maxHeartbeats 1000000 in
theorem take_any (w0 w : World) (p : Nat) (A : Ad) (t : Tf) (s : Wk) (ao : Option Addr) (cap g : Nat) (h : WM w0 w p A t s ao cap g) (hT : TAt w0 A t) (hn : s.made.length ≤ 99000) (x : Tp) (lo c : Int) (hW : WOk (tmOf t) lo c s) (h0 : 0 ≤ lo) (hl : lo ≤ x.time) (hc : c ≤ x.time) (hx : x.time ≤ 2147483648) :
    Calls Tryz.prog 139 #[.pointer (some ⟨p, 0, none⟩), .agg (tpC x)] w fun e w' => e = .returned (.tuple #[]) ∧ WStep w0 p A t (s.take (tmOf t) x) w g cap w' := by
  have HST : Hid (∀ u, Fr (fun _ => False) w u → Calls Tryz.prog 145 #[tv A t, .int .i64 x.place] u fun e w' => e = .returned (.tuple #[stA ((stationOf t x.place).getD ⟨0, 0, 0⟩), .bool (stationOf t x.place).isSome]) ∧ Fr (fun _ => False) u w') := hide (fun u hf => station_any u A t ((hT.keep h.fr).keep hf) x.place)
  have RR := hide (fun (u : World) (hu : Fr (fun _ => False) w u) => ride_any w0 u p A t s ao cap g (h.keep hu) (by omega) x (fun q hq => by
    obtain ⟨k, h1, h2⟩ := hW.paid_mem hq
    have hj := hW.made q (mem_of_get h1)
    have := hj.k1; have := hj.lo; have := hj.le; have := hj.hi
    exact ⟨by omega, by omega, by omega⟩) ⟨by omega, hx⟩)
  have RE := hide (fun (u : World) (hu : Fr (fun _ => False) w u) => enter_any w0 u p A t s ao cap g (h.keep hu) hT hn x lo c hW h0 hl hc hx)
  have RV := hide (fun (u : World) (hu : Fr (fun _ => False) w u) => leave_any w0 u p A t s ao cap g (h.keep hu) hn x lo c hW h0 hl hc hx)
  have RS := hide (fun (u : World) (hu : Fr (fun _ => False) w u) => WStep.of hu (WStep.refl (h.keep hu)))
  have HG1 : Hid ((tmOf t).group x.place = ((stationOf t x.place).getD ⟨0, 0, 0⟩).group) := hide rfl
  have HK1 : Hid ((tmOf t).known x.place = (stationOf t x.place).isSome) := hide rfl
  rw [unhide HG1] at RE
  have HZ : Hid (s.take (tmOf t) x = if x.kind = 3 then s.ride (tmOf t) x else if (stationOf t x.place).isSome then (if x.kind = 1 then s.enter (tmOf t) x else if x.kind = 2 then s.leave (tmOf t) x else s) else s) := hide (by unfold Wk.take; rw [unhide HK1])
  obtain ⟨Z, hZ⟩ : ∃ Z, s.take (tmOf t) x = Z := ⟨_, rfl⟩
  rw [hZ] at HZ ⊢
  clear hZ HG1 HK1
  have H := hide h
  clear h hT hW h0 hl hc hx
  obtain ⟨z, hz⟩ : ∃ z, (stationOf t x.place).getD ⟨0, 0, 0⟩ = z := ⟨_, rfl⟩
  rw [hz] at HST RE
  clear hz
  generalize (stationOf t x.place).isSome = zs at *
  obtain ⟨dev, ctr, tok, kind, place, time⟩ := x
  simp only [tpC] at *
  obtain ⟨v, hv⟩ : ∃ v, v = w.alloc (.cells #[.int .i64 dev, .int .i64 ctr, .string tok, .int .i64 kind, .int .i64 place, .int .i64 time] 47) := ⟨_, rfl⟩
  have hFv : Fr (fun _ => False) w v := by rw [hv]; exact (Fr.refl _ w).alloc _
  have hX : Bx v w.heap.size #[.int .i64 dev, .int .i64 ctr, .string tok, .int .i64 kind, .int .i64 place, .int .i64 time] 47 := by rw [hv]; exact Bx.new _ _ _
  have hb := ((unhide H).keep hFv).box
  have hcb : ∀ u, Fr (fun _ => False) v u → u.cell? ⟨p, 0, none⟩ = some (.slice A.aS t.st.length A.cS) ∧ u.cell? ⟨p, 1, none⟩ = some (.slice A.aP t.sp.length A.cP) ∧ u.cell? ⟨p, 2, none⟩ = some (.slice A.aB t.bd.length A.cB) ∧ u.cell? ⟨p, 3, none⟩ = some (.float .f64 t.off) ∧ u.cell? ⟨p, 4, none⟩ = some (.int .i64 t.bus) ∧ u.cell? ⟨p, 5, none⟩ = some (.int .i64 t.busDaily) ∧ u.cell? ⟨p, 6, none⟩ = some (.int .i64 t.busWeekly) ∧ u.cell? ⟨p, 7, none⟩ = some (.int .i64 t.hopper) ∧ u.cell? ⟨p, 8, none⟩ = some (.int .i64 t.most) ∧ u.cell? ⟨p, 9, none⟩ = some (.int .i64 t.longest) ∧ u.cell? ⟨p, 10, none⟩ = some (.int .i64 t.change) ∧ u.cell? ⟨p, 11, none⟩ = some (.int .i64 t.passback) ∧ u.cell? ⟨p, 12, none⟩ = some (.int .i64 t.delay) ∧ u.cell? ⟨p, 13, none⟩ = some (.int .i64 t.threshold) ∧ u.cell? ⟨w.heap.size, 4, none⟩ = some (.int .i64 place) := fun u hf => by
    have h1 := hb.keep hf
    exact ⟨h1.cell 0, h1.cell 1, h1.cell 2, h1.cell 3, h1.cell 4, h1.cell 5, h1.cell 6, h1.cell 7, h1.cell 8, h1.cell 9, h1.cell 10, h1.cell 11, h1.cell 12, h1.cell 13, (hX.keep hf).cell 4⟩
  have HCB := hide hcb
  have HX := hide hX
  have HFV := hide hFv
  have HV := hide hv
  obtain ⟨X, hXX⟩ : ∃ X, X = w.heap.size := ⟨_, rfl⟩
  have HXX := hide hXX
  rw [← hXX] at HCB HX
  obtain ⟨d0, d1, d2, d3, d4, d5, d6, d7, d8, d9, d10, d11, d12, d13, j2⟩ := unhide HCB v (Fr.refl _ _)
  clear hcb hb hX hFv hv H hXX
  go_enter Tryz.func139, Tryz.ntmps139
  go_upto_region 1 with (fail)
  rw [← unhide HXX, ← unhide HV]
  clear HXX HV
  go_cut [4, 5] from 6 to 15 (fun v4 v5 wd => ∃ K : Nat, v4 = .pointer (some ⟨K, 0, none⟩) ∧ v5 = .bool zs ∧ Hid (Fr (fun _ => False) v wd ∧ wd.cell? ⟨K, 2, none⟩ = some (.int .i64 z.group)))
  case first =>
    go_region_held3 (fun u => u.cell? ⟨p, 0, none⟩ = some (.slice A.aS t.st.length A.cS) ∧ u.cell? ⟨p, 1, none⟩ = some (.slice A.aP t.sp.length A.cP) ∧ u.cell? ⟨p, 2, none⟩ = some (.slice A.aB t.bd.length A.cB) ∧ u.cell? ⟨p, 3, none⟩ = some (.float .f64 t.off) ∧ u.cell? ⟨p, 4, none⟩ = some (.int .i64 t.bus) ∧ u.cell? ⟨p, 5, none⟩ = some (.int .i64 t.busDaily) ∧ u.cell? ⟨p, 6, none⟩ = some (.int .i64 t.busWeekly) ∧ u.cell? ⟨p, 7, none⟩ = some (.int .i64 t.hopper) ∧ u.cell? ⟨p, 8, none⟩ = some (.int .i64 t.most) ∧ u.cell? ⟨p, 9, none⟩ = some (.int .i64 t.longest) ∧ u.cell? ⟨p, 10, none⟩ = some (.int .i64 t.change) ∧ u.cell? ⟨p, 11, none⟩ = some (.int .i64 t.passback) ∧ u.cell? ⟨p, 12, none⟩ = some (.int .i64 t.delay) ∧ u.cell? ⟨p, 13, none⟩ = some (.int .i64 t.threshold) ∧ u.cell? ⟨X, 4, none⟩ = some (.int .i64 place))
      ((refine unhide HCB _ ?_; repeat (first | (with_reducible exact Fr.refl _ _) | (with_reducible refine Fr.drew ?_) | (with_reducible refine Fr.alloc ?_ _) | (with_reducible refine Fr.trans ?_ (unhide HF2) (fun _ _ t => t)) | (with_reducible refine Fr.setN (Nat.lt_irrefl _) ?_ _ _) | refine Fr.setN (Nat.not_lt.2 (unhide HF2).size) ?_ _ _)))
      (first | (go_at_call 145; refine (unhide HST _ ((unhide HFV).trans (b := v) (by repeat (with_reducible (first | exact Fr.refl _ _ | refine Fr.drew ?_ | refine Fr.alloc ?_ _))) (fun _ _ t => t))).mono ?_; rintro e w2 ⟨rfl, hF2⟩; first | (have hN := new_cells (wc := v) (cs := #[.int .i64 0, .int .i64 0, .int .i64 0]) (T := 59) hF2; have z0 : w2.cell? ⟨v.heap.size, 0, none⟩ = some (.int .i64 0) := hN.cell 0; have z1 : w2.cell? ⟨v.heap.size, 1, none⟩ = some (.int .i64 0) := hN.cell 1; have z2 : w2.cell? ⟨v.heap.size, 2, none⟩ = some (.int .i64 0) := hN.cell 2; have zf : ∀ j, w2.frozen? ⟨v.heap.size, j, none⟩ = false := fun j => hN.frozen j; clear hN; have HF2 := hide hF2; clear hF2) | (have hN := new_cellsD (wc := v) (cs := #[.int .i64 0, .int .i64 0, .int .i64 0]) (T := 59) hF2; have z0 : w2.cell? ⟨v.heap.size, 0, none⟩ = some (.int .i64 0) := hN.cell 0; have z1 : w2.cell? ⟨v.heap.size, 1, none⟩ = some (.int .i64 0) := hN.cell 1; have z2 : w2.cell? ⟨v.heap.size, 2, none⟩ = some (.int .i64 0) := hN.cell 2; have zf : ∀ j, w2.frozen? ⟨v.heap.size, j, none⟩ = false := fun j => hN.frozen j; clear hN; have HF2 := hide hF2; clear hF2) | (have HF2 := hide hF2; clear hF2)))
    all_goals
      go_wp2_with fail
      go_meet
      first
        | exact ⟨w2.heap.size, by rfl, by rfl, hide ⟨(Fr.trans ((Fr.refl (fun _ => False) v).drew) (unhide HF2) (fun _ _ t => t)).alloc _, by simp [go_sem]⟩⟩
        | exact ⟨v.heap.size, by rfl, by rfl, hide ⟨Fr.setN (Nat.lt_irrefl _) (Fr.setN (Nat.lt_irrefl _) (Fr.setN (Nat.lt_irrefl _) (Fr.trans (((Fr.refl (fun _ => False) v).alloc _).drew) (unhide HF2) (fun _ _ t => t)) _ _) _ _) _ _, by simp [go_sem, z2]⟩⟩
  case rest =>
    obtain ⟨K, rfl, rfl, HC2⟩ := hcut
    obtain ⟨hG2, k2⟩ := unhide HC2
    have hX2 := (unhide HX).keep hG2
    have x0 : wc.cell? ⟨X, 0, none⟩ = some (.int .i64 dev) := hX2.cell 0
    have x1 : wc.cell? ⟨X, 1, none⟩ = some (.int .i64 ctr) := hX2.cell 1
    have x2 : wc.cell? ⟨X, 2, none⟩ = some (.string tok) := hX2.cell 2
    have x3 : wc.cell? ⟨X, 3, none⟩ = some (.int .i64 kind) := hX2.cell 3
    have x4 : wc.cell? ⟨X, 4, none⟩ = some (.int .i64 place) := hX2.cell 4
    have x5 : wc.cell? ⟨X, 5, none⟩ = some (.int .i64 time) := hX2.cell 5
    have HFW : Hid (Fr (fun _ => False) w wc) := hide ((unhide HFV).trans hG2 (fun _ _ t => t))
    clear HC2 hG2 hX2 HX HFV HCB HST d0 d1 d2 d3 d4 d5 d6 d7 d8 d9 d10 d11 d12 d13 j2
    by_cases k3 : kind = 3
    · subst k3
      have HZZ : Hid (Z = s.ride (tmOf t) ⟨dev, ctr, tok, 3, place, time⟩) := hide ((unhide HZ).trans (if_pos rfl))
      have RR1 := hide (unhide RR _ (unhide HFW))
      clear HZ RR RE RV RS
      go_wp2_with fail
      refine (unhide RR1).mono ?_
      rintro e w2 ⟨rfl, hS⟩
      have HS := hide (WStep.of (unhide HFW) hS)
      clear hS RR1 HFW x0 x1 x2 x3 x4 x5 k2
      go_wp2
      first | go_end0 | refine bodyPost_ret (results_none rfl _ _ _) rfl ?_
      exact ⟨rfl, by rw [unhide HZZ]; exact unhide HS⟩
    · have k3b : (kind == 3) = false := by simp [k3]
      have HZ2 := hide ((unhide HZ).trans (if_neg k3))
      clear HZ k3 RR
      cases zs with
      | false =>
        have HZZ : Hid (Z = s) := hide (unhide HZ2)
        have HS := hide (unhide RS _ (unhide HFW))
        clear HZ2 RE RV RS
        go_wp2
        first | go_end0 | refine bodyPost_ret (results_none rfl _ _ _) rfl ?_
        exact ⟨rfl, by rw [unhide HZZ]; exact unhide HS⟩
      | true =>
        have HZ3 := hide ((unhide HZ2).trans (if_pos rfl))
        clear HZ2
        by_cases k1 : kind = 1
        · subst k1
          have HZZ : Hid (Z = s.enter (tmOf t) ⟨dev, ctr, tok, 1, place, time⟩) := hide ((unhide HZ3).trans (if_pos rfl))
          have RR1 := hide (unhide RE _ (unhide HFW))
          clear HZ3 RE RV RS
          go_wp2_with fail
          refine (unhide RR1).mono ?_
          rintro e w2 ⟨rfl, hS⟩
          have HS := hide (WStep.of (unhide HFW) hS)
          clear hS RR1 HFW x0 x1 x2 x3 x4 x5 k2
          go_wp2
          first | go_end0 | refine bodyPost_ret (results_none rfl _ _ _) rfl ?_
          exact ⟨rfl, by rw [unhide HZZ]; exact unhide HS⟩
        · have k1b : (kind == 1) = false := by simp [k1]
          have HZ4 := hide ((unhide HZ3).trans (if_neg k1))
          clear HZ3 k1 RE
          by_cases k22 : kind = 2
          · subst k22
            have HZZ : Hid (Z = s.leave (tmOf t) ⟨dev, ctr, tok, 2, place, time⟩) := hide ((unhide HZ4).trans (if_pos rfl))
            have RR1 := hide (unhide RV _ (unhide HFW))
            clear HZ4 RV RS
            go_wp2_with fail
            refine (unhide RR1).mono ?_
            rintro e w2 ⟨rfl, hS⟩
            have HS := hide (WStep.of (unhide HFW) hS)
            clear hS RR1 HFW x0 x1 x2 x3 x4 x5 k2
            go_wp2
            first | go_end0 | refine bodyPost_ret (results_none rfl _ _ _) rfl ?_
            exact ⟨rfl, by rw [unhide HZZ]; exact unhide HS⟩
          · have k2b : (kind == 2) = false := by simp [k22]
            have HZZ : Hid (Z = s) := hide ((unhide HZ4).trans (if_neg k22))
            have HS := hide (unhide RS _ (unhide HFW))
            clear HZ4 RV RS k22
            go_wp2
            first | go_end0 | refine bodyPost_ret (results_none rfl _ _ _) rfl ?_
            exact ⟨rfl, by rw [unhide HZZ]; exact unhide HS⟩

end Go.Proofs.YtjgbllfppomcmaaGreat

