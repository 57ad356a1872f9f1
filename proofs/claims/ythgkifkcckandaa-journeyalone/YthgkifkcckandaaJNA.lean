import Derived.Test.YthgkifkcckandaaJN9
/- A walk's ride. -/
namespace Go.Proofs.Ythgkifkcckandaa
open Go.RowKit

/-- One more journey is put behind the others. -/
theorem put_run {w0 u : World} {p : Nat} {A : Ad} {t : Tf} {s : Wk} {ao : Option Addr} {cap g : Nat} (h : WM w0 u p A t s ao cap g) (hn : s.made.length ≤ 100000) (j : Jn) :
    ∃ ao' cap' w2, (Builtin.append_ #[30, 30] 30 #[.slice ao s.made.length cap, .slice (some ⟨u.heap.size, 0, none⟩) 1 1]).run Try.prog (u.alloc (.cells (jC j) 42)) = .ok (.slice ao' (s.made.length + 1) cap') w2 ∧
      w2.cell? ⟨p, 14, none⟩ = some (.slice ao s.made.length cap) ∧ w2.frozen? ⟨p, 14, none⟩ = false ∧
      WStep w0 p A t ⟨s.made ++ [j], s.rail, s.paid, s.opn, s.again⟩ u g cap (w2.setCell ⟨p, 14, none⟩ (.slice ao' (s.made.length + 1) cap')) := by
  have hlt := h.lt
  obtain ⟨ao', cap', w2, g', hrun, hrow2, hF2, hg2⟩ := append_jn h.row hn j 30
  have hbx2 := h.box.frame hF2 (fun t => h.ne t.2 t.1.symm)
  have hg3 : 0 < cap' → g' ≠ p := fun hc => by
    rcases hg2 hc with ⟨e, e2⟩ | e
    · rw [e]; exact h.ne e2
    · omega
  have hFs : Fr (fun k => k = p) w2 (w2.setCell ⟨p, 14, none⟩ (.slice ao' (s.made.length + 1) cap')) := (Fr.refl (fun k => k = p) _).setCell (fun _ => rfl) _
  have hFall : Fr (fun k => k = p ∨ (k = g ∧ 0 < cap)) u (w2.setCell ⟨p, 14, none⟩ (.slice ao' (s.made.length + 1) cap')) :=
    Fr.trans (hF2.mono (fun _ _ t => .inr t)) hFs (fun _ _ t => .inl t)
  refine ⟨ao', cap', w2, hrun, hbx2.cell 14, hbx2.frozen 14, ao', cap', g', ⟨?_, ?_, hg3, h.p0, fun hc => ?_, ?_⟩, hFall, fun hc => ?_⟩
  · have : (wkC A t s ao cap).setIfInBounds 14 (.slice ao' (s.made.length + 1) cap') = wkC A t ⟨s.made ++ [j], s.rail, s.paid, s.opn, s.again⟩ ao' cap' := by simp [wkC]
    rw [← this]
    exact hbx2.setCell 14 _
  · exact hrow2.stay (fun hc => hFs.block g' (hrow2.lt (by omega) hc) (hg3 hc))
  · rcases hg2 hc with ⟨e, e2⟩ | e
    · rw [e]; exact h.g0 e2
    · have := h.fr.size; omega
  · refine h.fr.trans hFall (fun i hi t => ?_)
    rcases t with t | ⟨t, t2⟩
    · have := h.p0; omega
    · have := h.g0 t2; omega
  · rcases hg2 hc with e | e
    · exact .inl e
    · exact .inr (by omega)

theorem WM.elsewhere {w0 w w' : World} {p : Nat} {A : Ad} {t : Tf} {s : Wk} {ao : Option Addr} {cap g : Nat} {S : Nat → Prop} (h : WM w0 w p A t s ao cap g) (hf : Fr S w w') (hp : ¬ S p) (hg : 0 < cap → ¬ S g) (h0 : ∀ k, S k → w0.heap.size ≤ k) : WM w0 w' p A t s ao cap g :=
  ⟨h.box.frame hf hp, h.row.stay (fun hc => hf.block g (h.glt hc) (hg hc)), h.ne, h.p0, h.g0, h.fr.trans hf (fun i hi t => absurd (h0 i t) (by omega))⟩

theorem wkC_paid (A : Ad) (t : Tf) (s : Wk) (ao : Option Addr) (cap : Nat) (j : Jn) :
    ((((((wkC A t s ao cap).setIfInBounds 16 (.int .i64 j.kind)).setIfInBounds 17 (.int .i64 j.fr)).setIfInBounds 18 (.int .i64 j.to)).setIfInBounds 19 (.int .i64 j.st)).setIfInBounds 20 (.int .i64 j.en)).setIfInBounds 21 (.bool j.free) = wkC A t ⟨s.made, s.rail, some j, s.opn, s.again⟩ ao cap := by
  simp [wkC]

set_option maxHeartbeats 1000000 in
theorem ride_any (w0 w : World) (p : Nat) (A : Ad) (t : Tf) (s : Wk) (ao : Option Addr) (cap g : Nat) (h : WM w0 w p A t s ao cap g) (hn : s.made.length ≤ 100000) (x : Tp)
    (hp : ∀ q : Jn, s.paid = some q → q.kind ≠ 0 ∧ 0 ≤ q.st ∧ q.st ≤ 2147483648) (hx : 0 ≤ x.time ∧ x.time ≤ 2147483648) :
    Calls Try.prog 52 #[.pointer (some ⟨p, 0, none⟩), .agg (tpC x)] w fun e w' => e = .returned (.tuple #[]) ∧ WStep w0 p A t (s.ride (tmOf t) x) w g cap w' := by
  have q1 := egJ
  have q2 := eqJ
  have RL := hide (fun u => lone_any u 4 x)
  obtain ⟨fr, hfr⟩ : ∃ fr, freeR (tmOf t) s x = fr := ⟨_, rfl⟩
  have HRJ : Hid (s.ride (tmOf t) x = ⟨s.made ++ [⟨4, x.place, x.place, x.time, x.time, fr⟩], s.rail, if fr then s.paid else some ⟨4, x.place, x.place, x.time, x.time, fr⟩, s.opn, s.again⟩) := hide (by unfold Wk.ride rideJ; rw [hfr])
  have HFR : Hid (s.paid = none → fr = false) := hide (fun e => by rw [← hfr]; unfold freeR; rw [e])
  have HFS : Hid (∀ q, s.paid = some q → decide (x.time - q.st ≤ t.hopper) = fr) := hide (fun q e => by rw [← hfr]; unfold freeR; rw [e]; rfl)
  clear hfr
  obtain ⟨dev, ctr, tok, kind, place, time⟩ := x
  simp only [jC, lone] at RL
  simp only at hx HRJ HFS
  simp only [tpC] at RL ⊢
  have H := hide h
  have HP := hide hp
  clear h hp
  go_enter Try.func52, Try.ntmps52
  go_wp2_with fail
  refine (unhide RL _).mono ?_
  rintro e w1 ⟨rfl, hF1⟩
  have hX : Bx w1 w.heap.size #[.int .i64 dev, .int .i64 ctr, .string tok, .int .i64 kind, .int .i64 place, .int .i64 time] 39 := (Bx.new _ _ _).keep hF1
  have hFw : Fr (fun _ => False) w w1 := Fr.trans ((Fr.refl (fun _ => False) w).alloc _) hF1 (fun _ _ t => t)
  obtain ⟨v, hv⟩ : ∃ v, v = w1.alloc (.cells #[.int .i64 4, .int .i64 place, .int .i64 place, .int .i64 time, .int .i64 time, .bool false] 42) := ⟨_, rfl⟩
  have hFv : Fr (fun _ => False) w1 v := by rw [hv]; exact (Fr.refl _ _).alloc _
  have hJX : Bx v w1.heap.size #[.int .i64 4, .int .i64 place, .int .i64 place, .int .i64 time, .int .i64 time, .bool false] 42 := by rw [hv]; exact Bx.new _ _ _
  have HM : Hid (WM w0 v p A t s ao cap g) := hide (((unhide H).keep hFw).keep hFv)
  have hJ0 : w.heap.size < w1.heap.size := hX.lt
  have HFV : Hid (Fr (fun _ => False) w v) := hide (hFw.trans hFv (fun _ _ t => t))
  have HX := hide (hX.keep hFv)
  have HJX := hide hJX
  have HPJ : Hid (p < w.heap.size ∧ (0 < cap → g < w.heap.size)) := hide ⟨(unhide H).lt, fun hc => (unhide H).glt hc⟩
  have HV := hide hv
  clear hF1 hX hFw hFv hJX hv RL H
  go_upto_region 2 with (fail)
  obtain ⟨J, hJ⟩ : ∃ J, J = w1.heap.size := ⟨_, rfl⟩
  obtain ⟨X, hXX⟩ : ∃ X, X = w.heap.size := ⟨_, rfl⟩
  rw [← unhide HV, ← hJ, ← hXX]
  rw [← hJ] at HJX hJ0
  rw [← hXX] at HX HPJ hJ0
  have HJ0 := hide hJ0
  have HSZ : Hid (v.heap.size = J + 1) := hide (by rw [unhide HV, hJ]; simp)
  have HXX := hide hXX
  clear HV hJ hXX hJ0
  go_cut [] from 7 to 28 (fun wc => Hid (Fr (fun k => k = J) v wc ∧ Bx wc J #[.int .i64 4, .int .i64 place, .int .i64 place, .int .i64 time, .int .i64 time, .bool fr] 42))
  case first =>
    have c16 : v.cell? ⟨p, 16, none⟩ = some (.int .i64 (s.paid.getD jz).kind) := (unhide HM).box.cell 16
    have c17 : v.cell? ⟨p, 17, none⟩ = some (.int .i64 (s.paid.getD jz).fr) := (unhide HM).box.cell 17
    have c18 : v.cell? ⟨p, 18, none⟩ = some (.int .i64 (s.paid.getD jz).to) := (unhide HM).box.cell 18
    have c19 : v.cell? ⟨p, 19, none⟩ = some (.int .i64 (s.paid.getD jz).st) := (unhide HM).box.cell 19
    have c20 : v.cell? ⟨p, 20, none⟩ = some (.int .i64 (s.paid.getD jz).en) := (unhide HM).box.cell 20
    have c21 : v.cell? ⟨p, 21, none⟩ = some (.bool (s.paid.getD jz).free) := (unhide HM).box.cell 21
    have c7 : v.cell? ⟨p, 7, none⟩ = some (.int .i64 t.hopper) := (unhide HM).box.cell 7
    have x5 : v.cell? ⟨X, 5, none⟩ = some (.int .i64 time) := (unhide HX).cell 5
    have j5 : v.cell? ⟨J, 5, none⟩ = some (.bool false) := (unhide HJX).cell 5
    have jf5 : v.frozen? ⟨J, 5, none⟩ = false := (unhide HJX).frozen 5
    have hBJ : ∀ b, Bx (v.setCell ⟨J, 5, none⟩ (.bool b)) J #[.int .i64 4, .int .i64 place, .int .i64 place, .int .i64 time, .int .i64 time, .bool b] 42 := fun b => (unhide HJX).setCell 5 _
    have HBJ := hide hBJ
    clear hBJ
    cases hpd : s.paid with
    | none =>
      obtain rfl := unhide HFR hpd
      simp only [hpd, Option.getD_none, jz] at c16 c17 c18 c19 c20 c21
      clear hpd HFS HP
      go_region
      all_goals
        go_wp2_with fail
        go_meet
        exact hide ⟨by repeat (with_reducible (first | exact Fr.refl _ _ | refine Fr.drew ?_ | refine Fr.setB ?_ _ _)), by first | exact unhide HBJ _ | exact (unhide HBJ _).drew⟩
    | some q =>
      obtain ⟨hq, hq0, hq1⟩ := unhide HP q hpd
      have hfr := unhide HFS q hpd
      have hkb : (q.kind == 0) = false := by simp [hq]
      simp only [hpd, Option.getD_some] at c16 c17 c18 c19 c20 c21
      obtain ⟨qk, qf, qt, qs, qe, qr⟩ := q
      simp only at c16 c17 c18 c19 c20 c21 hfr hkb hq0 hq1
      have wr : IntKind.i64.wrap (time - qs) = time - qs := by rw [IntKind.wrap_i64]; omega
      clear hpd HFS HP hq HFR
      go_region
      all_goals
        go_wp2_with fail
        go_meet
        exact hide ⟨by repeat (with_reducible (first | exact Fr.refl _ _ | refine Fr.drew ?_ | refine Fr.setB ?_ _ _)), by first | exact unhide HBJ _ | exact (unhide HBJ _).drew⟩
  case rest =>
    obtain ⟨hG, hJW⟩ := unhide hcut
    have hpJ : p ≠ J := by have := (unhide HPJ).1; have := unhide HJ0; omega
    have hgJ : 0 < cap → g ≠ J := fun hc => by have := (unhide HPJ).2 hc; have := unhide HJ0; omega
    have hMW : WM w0 wc p A t s ao cap g := (unhide HM).elsewhere hG hpJ hgJ (fun k hk => by have := (unhide HM).p0; have := (unhide HPJ).1; have := unhide HJ0; omega)
    have hFW : Fr (fun _ => False) w wc := (unhide HFV).trans hG (fun i hi t => by have := unhide HJ0; have := unhide HXX; omega)
    have j5 : wc.cell? ⟨J, 5, none⟩ = some (.bool fr) := hJW.cell 5
    cases fr with
    | true =>
      have HMU := hMW
      have HJU := hJW
      have HFU := hide hFW
      clear hMW hJW hFW hG hcut HFR HFS HJX HX
      go_upto_region 5 with (fail)
      clear j5
      obtain ⟨ao', cap', w2, hrun, a2, a3, hW⟩ := put_run (HMU.keep ((Fr.refl _ _).drew)) hn ⟨4, place, place, time, time, true⟩
      have HRUN := hide hrun
      have hrun2 : (Builtin.append_ #[30, 30] 30 #[.slice ao s.made.length cap, .slice (some ⟨wc.heap.size, 0, none⟩) 1 1]).run Try.prog (wc.alloc (.cells (jC ⟨4, place, place, time, time, true⟩) 42)).drew = .ok (.slice ao' (s.made.length + 1) cap') w2 := hrun
      have HRUN2 := hide hrun2
      have HPF : Hid (WStep w0 p A t (s.ride (tmOf t) ⟨dev, ctr, tok, kind, place, time⟩) w g cap (w2.setCell ⟨p, 14, none⟩ (.slice ao' (s.made.length + 1) cap'))) := hide (by
        rw [unhide HRJ]
        exact WStep.of (unhide HFU) (WStep.of ((Fr.refl _ _).drew) hW))
      have a0 : wc.cell? ⟨p, 14, none⟩ = some (.slice ao s.made.length cap) := HMU.box.cell 14
      have a1 : (wc.drew.alloc (.cells (jC ⟨4, place, place, time, time, true⟩) 42)).cell? ⟨p, 14, none⟩ = some (.slice ao s.made.length cap) := (HMU.box.drew.alloc _).cell 14
      have a1b : (wc.alloc (.cells (jC ⟨4, place, place, time, time, true⟩) 42)).cell? ⟨p, 14, none⟩ = some (.slice ao s.made.length cap) := (HMU.box.alloc _).cell 14
      have i0 : wc.cell? ⟨J, 0, none⟩ = some (.int .i64 4) := HJU.cell 0
      have i1 : wc.cell? ⟨J, 1, none⟩ = some (.int .i64 place) := HJU.cell 1
      have i2 : wc.cell? ⟨J, 2, none⟩ = some (.int .i64 place) := HJU.cell 2
      have i3 : wc.cell? ⟨J, 3, none⟩ = some (.int .i64 time) := HJU.cell 3
      have i4 : wc.cell? ⟨J, 4, none⟩ = some (.int .i64 time) := HJU.cell 4
      have i5 : wc.cell? ⟨J, 5, none⟩ = some (.bool true) := HJU.cell 5
      simp only [jC] at a1 a1b HRUN HRUN2
      clear hrun hrun2 hW HMU HJU HRJ HM
      generalize s.made.length = n at *
      go_region_law (first | refine step_append_runJ rfl (.tmp 41) (.tmp 43) 30 30 rfl rfl rfl (unhide HRUN) ?_ | refine step_append_runJ rfl (.tmp 41) (.tmp 43) 30 30 rfl rfl rfl (unhide HRUN2) ?_)
      all_goals
        clear a0 a1 a1b a2 a3 i0 i1 i2 i3 i4 i5 HRUN HRUN2
        go_wp2
        go_end0
        exact ⟨rfl, unhide HPF⟩
    | false =>
      obtain ⟨u, hu⟩ : ∃ u, u = (((((wc.setCell ⟨p, 16, none⟩ (.int .i64 4)).setCell ⟨p, 17, none⟩ (.int .i64 place)).setCell ⟨p, 18, none⟩ (.int .i64 place)).setCell ⟨p, 19, none⟩ (.int .i64 time)).setCell ⟨p, 20, none⟩ (.int .i64 time)).setCell ⟨p, 21, none⟩ (.bool false) := ⟨_, rfl⟩
      have hFu : Fr (fun k => k = p) wc u := by
        rw [hu]
        repeat (with_reducible (first | exact Fr.refl _ _ | refine Fr.setB ?_ _ _))
      have hbu : Bx u p (wkC A t ⟨s.made, s.rail, some ⟨4, place, place, time, time, false⟩, s.opn, s.again⟩ ao cap) 73 := by
        rw [hu, ← wkC_paid]
        exact (((((hMW.box.setCell 16 _).setCell 17 _).setCell 18 _).setCell 19 _).setCell 20 _).setCell 21 _
      have HMU : WM w0 u p A t ⟨s.made, s.rail, some ⟨4, place, place, time, time, false⟩, s.opn, s.again⟩ ao cap g := hMW.write hbu hFu rfl
      have HJU := hJW.frame hFu (fun t => hpJ t.symm)
      have HFU : Hid (Fr (fun k => k = p ∨ (k = g ∧ 0 < cap)) w u) := hide ((hFW.mono (fun _ _ t => t.elim)).trans hFu (fun _ _ t => .inl t))
      have HMWU := hide HMU
      have i0 : wc.cell? ⟨J, 0, none⟩ = some (.int .i64 4) := hJW.cell 0
      have i1 : wc.cell? ⟨J, 1, none⟩ = some (.int .i64 place) := hJW.cell 1
      have i2 : wc.cell? ⟨J, 2, none⟩ = some (.int .i64 place) := hJW.cell 2
      have i3 : wc.cell? ⟨J, 3, none⟩ = some (.int .i64 time) := hJW.cell 3
      have i4 : wc.cell? ⟨J, 4, none⟩ = some (.int .i64 time) := hJW.cell 4
      have z16 : wc.cell? ⟨p, 16, none⟩ = some (.int .i64 (s.paid.getD jz).kind) := hMW.box.cell 16
      have z17 : wc.cell? ⟨p, 17, none⟩ = some (.int .i64 (s.paid.getD jz).fr) := hMW.box.cell 17
      have z18 : wc.cell? ⟨p, 18, none⟩ = some (.int .i64 (s.paid.getD jz).to) := hMW.box.cell 18
      have z19 : wc.cell? ⟨p, 19, none⟩ = some (.int .i64 (s.paid.getD jz).st) := hMW.box.cell 19
      have z20 : wc.cell? ⟨p, 20, none⟩ = some (.int .i64 (s.paid.getD jz).en) := hMW.box.cell 20
      have z21 : wc.cell? ⟨p, 21, none⟩ = some (.bool (s.paid.getD jz).free) := hMW.box.cell 21
      have zf : ∀ k, wc.frozen? ⟨p, k, none⟩ = false := fun k => hMW.box.frozen k
      have HU := hide hu
      clear hMW hJW hFW hG hcut HFR HFS HJX HX hFu hbu hu
      go_upto_region 5 with (fail)
      rw [← unhide HU]
      clear HU i0 i1 i2 i3 i4 j5 z16 z17 z18 z19 z20 z21 zf
      obtain ⟨ao', cap', w2, hrun, a2, a3, hW⟩ := put_run (HMU.keep ((Fr.refl _ _).drew)) hn ⟨4, place, place, time, time, false⟩
      have HRUN := hide hrun
      have hrun2 : (Builtin.append_ #[30, 30] 30 #[.slice ao s.made.length cap, .slice (some ⟨u.heap.size, 0, none⟩) 1 1]).run Try.prog (u.alloc (.cells (jC ⟨4, place, place, time, time, false⟩) 42)).drew = .ok (.slice ao' (s.made.length + 1) cap') w2 := hrun
      have HRUN2 := hide hrun2
      have HPF : Hid (WStep w0 p A t (s.ride (tmOf t) ⟨dev, ctr, tok, kind, place, time⟩) w g cap (w2.setCell ⟨p, 14, none⟩ (.slice ao' (s.made.length + 1) cap'))) := hide (by
        rw [unhide HRJ]
        exact WStep.trans (unhide HMWU) (unhide HFU) (fun hc => .inl ⟨rfl, hc⟩) (WStep.of ((Fr.refl _ _).drew) hW))
      have a0 : u.cell? ⟨p, 14, none⟩ = some (.slice ao s.made.length cap) := HMU.box.cell 14
      have a1 : (u.drew.alloc (.cells (jC ⟨4, place, place, time, time, false⟩) 42)).cell? ⟨p, 14, none⟩ = some (.slice ao s.made.length cap) := (HMU.box.drew.alloc _).cell 14
      have a1b : (u.alloc (.cells (jC ⟨4, place, place, time, time, false⟩) 42)).cell? ⟨p, 14, none⟩ = some (.slice ao s.made.length cap) := (HMU.box.alloc _).cell 14
      have i0 : u.cell? ⟨J, 0, none⟩ = some (.int .i64 4) := HJU.cell 0
      have i1 : u.cell? ⟨J, 1, none⟩ = some (.int .i64 place) := HJU.cell 1
      have i2 : u.cell? ⟨J, 2, none⟩ = some (.int .i64 place) := HJU.cell 2
      have i3 : u.cell? ⟨J, 3, none⟩ = some (.int .i64 time) := HJU.cell 3
      have i4 : u.cell? ⟨J, 4, none⟩ = some (.int .i64 time) := HJU.cell 4
      have i5 : u.cell? ⟨J, 5, none⟩ = some (.bool false) := HJU.cell 5
      simp only [jC] at a1 a1b HRUN HRUN2
      clear hrun hrun2 hW HMU HJU HRJ HM
      generalize s.made.length = n at *
      go_region_law (first | refine step_append_runJ rfl (.tmp 41) (.tmp 43) 30 30 rfl rfl rfl (unhide HRUN) ?_ | refine step_append_runJ rfl (.tmp 41) (.tmp 43) 30 30 rfl rfl rfl (unhide HRUN2) ?_)
      all_goals
        clear a0 a1 a1b a2 a3 i0 i1 i2 i3 i4 i5 HRUN HRUN2
        go_wp2
        go_end0
        exact ⟨rfl, unhide HPF⟩

end Go.Proofs.Ythgkifkcckandaa

