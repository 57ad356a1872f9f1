import Derived.Test.YthgkifkcckandaaJNA
/- A walk's enter. -/
namespace Go.Proofs.Ythgkifkcckandaa
open Go.RowKit

theorem WOk.railAt {T : Tm} {lo c : Int} {s : Wk} (h : WOk T lo c s) {k : Nat} (hk : s.rail = some k) : ∃ b : Jn, s.made[k]? = some b ∧ s.last = some b := by
  have := h.rail
  rw [hk] at this
  obtain ⟨⟨b, h1, _⟩, _⟩ := this
  exact ⟨b, h1, by unfold Wk.last; rw [hk]; exact h1⟩

theorem changes_any (w0 w : World) (p : Nat) (A : Ad) (t : Tf) (s : Wk) (ao : Option Addr) (cap g : Nat) (h : WM w0 w p A t s ao cap g) (hT : TAt w A t) (hn : s.made.length ≤ 100000) (x : Tp) (lo c : Int) (hW : WOk (tmOf t) lo c s) (h0 : 0 ≤ lo) (hl : lo ≤ x.time) (hc : c ≤ x.time) (hx : x.time ≤ 2147483648) :
    Calls Try.prog 63 #[.pointer (some ⟨p, 0, none⟩), .agg (tpC x), .int .i64 ((tmOf t).group x.place)] w fun e w' => e = .returned (.bool (mayChange (tmOf t) s x)) ∧ Fr (fun _ => False) w w' := by
  cases hr : s.rail with
  | none =>
    have : mayChange (tmOf t) s x = false := by unfold mayChange Wk.last; rw [hr]
    rw [this]
    exact changes_none w0 w p A t s ao cap g h x _ (.inl hr)
  | some k =>
    obtain ⟨b, hb, hlst⟩ := hW.railAt hr
    by_cases hg : (tmOf t).group x.place = 0
    · have : mayChange (tmOf t) s x = false := by unfold mayChange; rw [hlst]; simp [hg]
      rw [this]
      exact changes_none w0 w p A t s ao cap g h x _ (.inr hg)
    · have : mayChange (tmOf t) s x = (decide (b.kind = 1) && decide (((stationOf t b.to).getD ⟨0, 0, 0⟩).group = (tmOf t).group x.place) && (decide (x.time - b.en ≤ t.change) && decide (x.time - b.st ≤ t.longest))) := by
        unfold mayChange
        rw [hlst]
        simp only [ne_eq, hg, not_false_eq_true, decide_true, Bool.true_and]
        rfl
      rw [this]
      have hj := hW.made b (mem_of_get hb)
      have := hj.lo; have := hj.le; have := hj.hi
      exact changes_some w0 w p A t s ao cap g h hT hn x _ k b hr hb hg ⟨by omega, by omega, by omega, by omega⟩ ⟨by omega, hx⟩

theorem wkC_again (A : Ad) (t : Tf) (s : Wk) (ao : Option Addr) (cap : Nat) (m : Bool) : (wkC A t s ao cap).setIfInBounds 28 (.bool m) = wkC A t ⟨s.made, s.rail, s.paid, s.opn, m⟩ ao cap := by simp [wkC]
theorem wkC_opn (A : Ad) (t : Tf) (s : Wk) (ao : Option Addr) (cap : Nat) (j : Jn) :
    ((((((wkC A t s ao cap).setIfInBounds 22 (.int .i64 j.kind)).setIfInBounds 23 (.int .i64 j.fr)).setIfInBounds 24 (.int .i64 j.to)).setIfInBounds 25 (.int .i64 j.st)).setIfInBounds 26 (.int .i64 j.en)).setIfInBounds 27 (.bool j.free) = wkC A t ⟨s.made, s.rail, s.paid, some j, s.again⟩ ao cap := by
  simp [wkC]

theorem shut_len (s : Wk) : s.shut.made.length ≤ s.made.length + 1 := by
  unfold Wk.shut
  split <;> simp

set_option maxHeartbeats 1000000 in
theorem enter_any (w0 w : World) (p : Nat) (A : Ad) (t : Tf) (s : Wk) (ao : Option Addr) (cap g : Nat) (h : WM w0 w p A t s ao cap g) (hT : TAt w0 A t) (hn : s.made.length ≤ 99000) (x : Tp) (lo c : Int) (hW : WOk (tmOf t) lo c s) (h0 : 0 ≤ lo) (hl : lo ≤ x.time) (hc : c ≤ x.time) (hx : x.time ≤ 2147483648) :
    Calls Try.prog 53 #[.pointer (some ⟨p, 0, none⟩), .agg (tpC x), .int .i64 ((tmOf t).group x.place)] w fun e w' => e = .returned (.tuple #[]) ∧ WStep w0 p A t (s.enter (tmOf t) x) w g cap w' := by
  have hsl := shut_len s
  have RC := hide (fun (u : World) (hu : Fr (fun _ => False) w u) => closeOpen_any w0 u p A t s ao cap g (h.keep hu) (by omega) (fun j hj => by have := (hW.opn j hj).2.1; omega))
  have RH := hide (fun (u : World) (ao1 : Option Addr) (cap1 g1 : Nat) (hu : WM w0 u p A t s.shut ao1 cap1 g1) => changes_any w0 u p A t s.shut ao1 cap1 g1 hu (hT.keep hu.fr) (by omega) x lo c hW.shut h0 hl hc hx)
  have RL := hide (fun u => lone_any u 2 x)
  have HE : Hid (s.enter (tmOf t) x = ⟨s.shut.made, s.shut.rail, s.shut.paid, some (lone 2 x), mayChange (tmOf t) s.shut x⟩) := hide rfl
  rw [unhide HE]
  generalize mayChange (tmOf t) s.shut x = m at *
  generalize (tmOf t).group x.place = gr at *
  have H := hide h
  have HX0 : Hid (∀ u, Fr (fun k => k = p ∨ (k = g ∧ 0 < cap)) (w.alloc (.cells (tpC x) 39)) u → Bx u w.heap.size (tpC x) 39) := hide (fun u hu => (Bx.new w (tpC x) 39).frame hu (fun t => by rcases t with t | ⟨t, t2⟩; (· have := h.lt; omega); (· have := h.glt t2; omega)))
  have HXP : Hid (w.heap.size ≠ p) := hide (by have := h.lt; omega)
  obtain ⟨L, hL⟩ : ∃ L, lone 2 x = L := ⟨_, rfl⟩
  have hLe : L = ⟨2, x.place, x.place, x.time, x.time, false⟩ := hL.symm
  rw [hL] at RL ⊢
  clear hL HE hsl h hW hc hx hl h0 hT
  subst hLe
  obtain ⟨dev, ctr, tok, kind, place, time⟩ := x
  simp only [tpC, jC] at *
  go_enter Try.func53, Try.ntmps53
  go_wp2_with fail
  refine (unhide RC _ ((Fr.refl _ _).alloc _)).mono ?_
  rintro e w1 ⟨rfl, ao1, cap1, g1, hM, hF, hG⟩
  have hX := unhide HX0 _ hF
  have HM := hide hM
  have HF := hide (Fr.trans (((Fr.refl (fun k => k = p ∨ (k = g ∧ 0 < cap)) w).alloc _)) hF (fun _ _ t => t))
  have HG : Hid (0 < cap1 → (g1 = g ∧ 0 < cap) ∨ w.heap.size ≤ g1) := hide (fun hc => (hG hc).imp id (fun t => by rw [heap_alloc] at t; omega))
  have RH1 := hide (unhide RH w1 ao1 cap1 g1 hM)
  have d0 : w1.cell? ⟨w.heap.size, 0, none⟩ = some (.int .i64 dev) := hX.cell 0
  have d1 : w1.cell? ⟨w.heap.size, 1, none⟩ = some (.int .i64 ctr) := hX.cell 1
  have d2 : w1.cell? ⟨w.heap.size, 2, none⟩ = some (.string tok) := hX.cell 2
  have d3 : w1.cell? ⟨w.heap.size, 3, none⟩ = some (.int .i64 kind) := hX.cell 3
  have d4 : w1.cell? ⟨w.heap.size, 4, none⟩ = some (.int .i64 place) := hX.cell 4
  have d5 : w1.cell? ⟨w.heap.size, 5, none⟩ = some (.int .i64 time) := hX.cell 5
  have HX := hide hX
  have HT : Hid (∀ s2 w', WStep w0 p A t s2 w1 g1 cap1 w' → WStep w0 p A t s2 w g cap w') := hide (fun s2 w' h2 => WStep.trans (unhide HM) (unhide HF) (unhide HG) h2)
  clear HF HG
  generalize w.heap.size = X at *
  clear hM hF hG hX RC RH HX0 H
  go_wp2_with fail
  refine (unhide RH1).mono ?_
  rintro e w2 ⟨rfl, hF2⟩
  have hM2 := (unhide HM).keep hF2
  have hX2 := (unhide HX).keep hF2
  have a28 : w2.cell? ⟨p, 28, none⟩ = some (.bool s.shut.again) := hM2.box.cell 28
  have f28 : w2.frozen? ⟨p, 28, none⟩ = false := hM2.box.frozen 28
  obtain ⟨v, hv⟩ : ∃ v, v = w2.setCell ⟨p, 28, none⟩ (.bool m) := ⟨_, rfl⟩
  have hFv : Fr (fun k => k = p) w2 v := by rw [hv]; exact Fr.setB (Fr.refl _ _) _ _
  have hMv : WM w0 v p A t ⟨s.shut.made, s.shut.rail, s.shut.paid, s.shut.opn, m⟩ ao1 cap1 g1 := hM2.write (by rw [hv, ← wkC_again]; exact hM2.box.setCell 28 _) hFv rfl
  have hXv := hX2.frame hFv (unhide HXP)
  have HFv : Hid (Fr (fun k => k = p ∨ (k = g1 ∧ 0 < cap1)) w1 v) := hide ((hF2.mono (fun _ _ t => t.elim)).trans hFv (fun _ _ t => .inl t))
  have HMv := hide hMv
  have HXv := hide hXv
  have HV := hide hv
  clear d0 d1 d2 d3 d4 d5 RH1 hM2 hX2 hFv hMv hXv hv hF2
  go_upto_region 3 with (fail)
  rw [← unhide HV]
  clear HV a28 f28
  have d0 : v.cell? ⟨X, 0, none⟩ = some (.int .i64 dev) := (unhide HXv).cell 0
  have d1 : v.cell? ⟨X, 1, none⟩ = some (.int .i64 ctr) := (unhide HXv).cell 1
  have d2 : v.cell? ⟨X, 2, none⟩ = some (.string tok) := (unhide HXv).cell 2
  have d3 : v.cell? ⟨X, 3, none⟩ = some (.int .i64 kind) := (unhide HXv).cell 3
  have d4 : v.cell? ⟨X, 4, none⟩ = some (.int .i64 place) := (unhide HXv).cell 4
  have d5 : v.cell? ⟨X, 5, none⟩ = some (.int .i64 time) := (unhide HXv).cell 5
  go_wp2_with fail
  refine (unhide RL _).mono ?_
  rintro e w4 ⟨rfl, hF4⟩
  have hM4 := (unhide HMv).keep hF4
  have e22 : w4.cell? ⟨p, 22, none⟩ = some (.int .i64 (s.shut.opn.getD jz).kind) := hM4.box.cell 22
  have e23 : w4.cell? ⟨p, 23, none⟩ = some (.int .i64 (s.shut.opn.getD jz).fr) := hM4.box.cell 23
  have e24 : w4.cell? ⟨p, 24, none⟩ = some (.int .i64 (s.shut.opn.getD jz).to) := hM4.box.cell 24
  have e25 : w4.cell? ⟨p, 25, none⟩ = some (.int .i64 (s.shut.opn.getD jz).st) := hM4.box.cell 25
  have e26 : w4.cell? ⟨p, 26, none⟩ = some (.int .i64 (s.shut.opn.getD jz).en) := hM4.box.cell 26
  have e27 : w4.cell? ⟨p, 27, none⟩ = some (.bool (s.shut.opn.getD jz).free) := hM4.box.cell 27
  have zf : ∀ k, w4.frozen? ⟨p, k, none⟩ = false := fun k => hM4.box.frozen k
  have HM4 := hide hM4
  have HF4 : Hid (Fr (fun k => k = p ∨ (k = g1 ∧ 0 < cap1)) w1 w4) := hide ((unhide HFv).trans hF4 (fun _ _ t => t.elim))
  clear d0 d1 d2 d3 d4 d5 hM4 hF4 RL
  go_wp2
  go_end0
  refine ⟨rfl, unhide HT _ _ ⟨ao1, cap1, g1, WM.write (unhide HM4) ?_ (?_ : Fr (fun k => k = p) w4 _) rfl, Fr.trans (unhide HF4) (?_ : Fr (fun k => k = p) w4 _) (fun _ _ t => .inl t), fun hc => .inl ⟨rfl, hc⟩⟩⟩
  · have e := wkC_opn A t ⟨s.shut.made, s.shut.rail, s.shut.paid, s.shut.opn, m⟩ ao1 cap1 ⟨2, place, place, time, time, false⟩
    simp only at e
    rw [← e]
    exact ((((((unhide HM4).box.setCell 22 _).setCell 23 _).setCell 24 _).setCell 25 _).setCell 26 _).setCell 27 _
  · repeat (with_reducible (first | exact Fr.refl _ _ | refine Fr.setB ?_ _ _))
  · repeat (with_reducible (first | exact Fr.refl _ _ | refine Fr.setB ?_ _ _))

end Go.Proofs.Ythgkifkcckandaa

