import Derived.Test.YtjgbllfppomcmaaGreatCBX
import Derived.Test.YtjgbllfppomcmaaGreatFAX
import Derived.Test.YtjgbllfppomcmaaGreatRFX
/- What a day's taps come to: the program's dayOf. -/
namespace Go.Proofs.YtjgbllfppomcmaaGreat
open Go.RowKit

theorem bx7c {w : World} {D : Nat} (h : Bx w D #[.int .i64 0, .int .i64 0, .int .i64 0, .int .i64 0, .int .i64 0, .int .i64 0, .int .i64 0] 70) : (w.cell? ⟨D, 0, none⟩ = some (.int .i64 0) ∧ w.cell? ⟨D, 1, none⟩ = some (.int .i64 0) ∧ w.cell? ⟨D, 2, none⟩ = some (.int .i64 0) ∧ w.cell? ⟨D, 3, none⟩ = some (.int .i64 0) ∧ w.cell? ⟨D, 4, none⟩ = some (.int .i64 0) ∧ w.cell? ⟨D, 5, none⟩ = some (.int .i64 0) ∧ w.cell? ⟨D, 6, none⟩ = some (.int .i64 0)) ∧ (∀ k, w.frozen? ⟨D, k, none⟩ = false) := ⟨⟨h.cell 0, h.cell 1, h.cell 2, h.cell 3, h.cell 4, h.cell 5, h.cell 6⟩, fun k => h.frozen k⟩

set_option maxHeartbeats 4000000 in
set_option maxRecDepth 20000 in
theorem dayOf_any (w : World) (A : Ad) (t : Tf) (h : TAt w A t) (hr : rightE t = 0) (ao1 : Option Addr) (cap1 : Nat) (l : List Ou) (hl : CAt w ao1 (ouV l)) (hln : l.length ≤ 140737488355328) (ho : ousE l = 0)
    (ao : Option Addr) (cap : Nat) (its : List Tp) (hi : CAt w ao (tpV its)) (hn : its.length ≤ 2000) (hok : RgtOk its) (hd : OneDay its) (h0 : 0 < its.length) :
    Calls Tryz.prog 28 #[tv A t, .slice ao1 l.length cap1, .slice ao its.length cap] w fun e w' => e = .returned (.agg (dyC (dayD t l its))) ∧ Fr (fun _ => False) w w' := by
  have hJl := (dayJ_ok hr hok).1
  obtain ⟨J, hJ⟩ : ∃ J, dayJ t its = J := ⟨_, rfl⟩
  obtain ⟨Q, hQ⟩ : ∃ Q, priced t J = Q := ⟨_, rfl⟩
  obtain ⟨P, hP⟩ : ∃ P, dayP t l its = P := ⟨_, rfl⟩
  obtain ⟨D, hD⟩ : ∃ D, dayD t l its = D := ⟨_, rfl⟩
  obtain ⟨N, hN⟩ : ∃ N, dayN its = N := ⟨_, rfl⟩
  have hQl : Q.length = J.length := by rw [← hQ]; simp [priced]
  have RB : Hid (∀ u, Fr (fun _ => False) w u → Calls Tryz.prog 62 #[tv A t, .slice ao its.length cap] u fun e u' => ∃ aj cj, e = .returned (.tuple #[.slice aj J.length cj, .int .i64 0]) ∧ CAt u' aj (jV J) ∧ Fr (fun _ => False) u u') := hide (fun u hu => by
    have hb : buildE (rightE t) its = 0 := (buildE_zero _ _).2 ⟨hr, (rightT_zero its).2 ⟨hn, hok⟩, hd⟩
    have hbj : buildJ (tmOf t) (rightE t) its = J := by unfold buildJ; rw [if_pos hb]; exact hJ
    refine (build_any u A t (h.keep hu) ao cap its (hi.keep hu) (by omega)).mono ?_
    rintro e u' ⟨aj, cj, gj, rfl, hk, _, hf⟩
    rw [hbj] at hk ⊢
    rw [hb]
    exact ⟨aj, cj, rfl, hk.cat, hf⟩)
  have RA : Hid (∀ u aj cj, Fr (fun _ => False) w u → CAt u aj (jV J) → Calls Tryz.prog 60 #[tv A t, .slice aj J.length cj] u fun e u' => ∃ ap cp, e = .returned (.tuple #[.slice ap Q.length cp, .int .i64 0]) ∧ CAt u' ap (pV Q) ∧ Fr (fun _ => False) u u') := hide (fun u aj cj hu hc => by
    obtain ⟨e1, e2⟩ := allE_day hr hok hn
    rw [hJ] at e1 e2
    rw [hQ] at e2
    refine (fall_any u A t (h.keep hu) aj cj J hc).mono ?_
    rintro e u' ⟨ap, cp, gp, rfl, hk, _, hf⟩
    rw [e2] at hk ⊢
    rw [e1]
    exact ⟨ap, cp, rfl, hk.cat, hf⟩)
  have RP : Hid (∀ u ap cp, Fr (fun _ => False) w u → CAt u ap (pV Q) → Calls Tryz.prog 63 #[tv A t, .slice ao1 l.length cap1, .slice ap Q.length cp] u fun e u' => ∃ aq cq, e = .returned (.tuple #[.slice aq P.length cq, .int .i64 0]) ∧ CAt u' aq (pV P) ∧ Fr (fun _ => False) u u') := hide (fun u ap cp hu hc => by
    have e1 : backE t l Q.length = 0 := by
      unfold backE
      rw [if_pos hr, if_pos ho, if_neg (by rw [hQl, ← hJ]; omega)]
    have e2 : appL t l Q = P := by
      unfold appL
      rw [if_pos e1, ← hQ, ← hJ, ← hP]
      rfl
    refine (apply_any u A t (h.keep hu) ao1 cap1 l (hl.keep hu) hln l.length rfl ap cp Q hc Q.length rfl).mono ?_
    rintro e u' ⟨aq, cq, gq, rfl, hk, _, hf⟩
    rw [e2] at hk ⊢
    rw [e1]
    exact ⟨aq, cq, rfl, hk.cat, hf⟩)
  have RD : Hid (∀ u aq cq, Fr (fun _ => False) w u → CAt u aq (pV P) → Calls Tryz.prog 65 #[tv A t, .int .i64 N, .slice aq P.length cq] u fun e u' => e = .returned (.tuple #[.agg (dyC D), .int .i64 0]) ∧ Fr (fun _ => False) u u') := hide (fun u aq cq hu hc => by
    have e1 := dE_day hr (l := l) hok hn hd
    have e2 : dR t N P = D := by rw [← hN, ← hP, ← hD]; rfl
    rw [hN, hP] at e1
    have := capsDay_any u A t (h.keep hu) aq cq N P hc
    rw [e1, e2] at this
    exact this)
  obtain ⟨b0, off0, hao, c0, c1, c2, c3, c4, c5⟩ := hi.tp h0
  simp only [Nat.zero_mul, Nat.add_zero] at c5
  subst hao
  have hNV : dayV its[0].time = N := by rw [← hN, dayN_eq h0]
  have hNE := (dayV_eq (hok.time 0 h0)).2
  generalize its[0].time = tm at *
  have RC : Hid (∀ u, Calls Tryz.prog 18 #[.int .i64 tm] u fun e u' => e = .returned (.tuple #[.int .i64 N, .int .i64 0]) ∧ u' = u) := hide (fun u => by
    have := cday_any u tm
    rw [hNV, hNE] at this
    exact this)
  have HC5 := hide (fun (u : World) (hf : Fr (fun _ => False) w u) => (hf.cell (World.block_lt_of_cell? _ _ c5) (fun t => t)).trans c5)
  obtain ⟨n0, hn0⟩ : ∃ n0, its.length = n0 := ⟨_, rfl⟩
  obtain ⟨m0, hm0⟩ : ∃ m0, l.length = m0 := ⟨_, rfl⟩
  rw [hn0] at RB ⊢
  rw [hm0] at RP ⊢
  rw [hD]
  have HN0 : Hid (0 < n0) := hide (by omega)
  obtain ⟨v, hv⟩ : ∃ v, v = (w.alloc (.cells (tc A t) 27)).alloc (.cells (dyC dz) 70) := ⟨_, rfl⟩
  have HF : Hid (Fr (fun _ => False) w v) := hide (by rw [hv]; exact ((Fr.refl _ w).alloc _).alloc _)
  have HTB : Hid (TB v w.heap.size A t) := hide (by rw [hv]; exact (TB.new w A t).keep ((Fr.refl _ _).alloc _))
  have HBD : Hid (Bx v (w.heap.size + 1) (dyC dz) 70) := hide (by
    rw [hv, ← heap_alloc w (.cells (tc A t) 27)]; exact Bx.new _ _ _)
  obtain ⟨B, hB⟩ : ∃ B, B = w.heap.size := ⟨_, rfl⟩
  have HBL : Hid (w.heap.size ≤ B + 1) := hide (by omega)
  rw [← hB] at HTB HBD
  have HB := hide hB
  have HV := hide hv
  clear hv hB h hr hl hln ho hi hn hok hd h0 hJ hQ hP hD hN hQl hJl hNV hNE c0 c1 c2 c3 c4 c5 hn0 hm0
  obtain ⟨a0, a1, a2, a3, a4, a5, a6⟩ := D
  unfold tv at RB RA RP RD ⊢
  unfold tc at RB RA RD HV ⊢
  have RM := hide (fun (u : World) => mustD_ok u ⟨a0, a1, a2, a3, a4, a5, a6⟩)
  simp only [dyC, dz] at RD RM HBD HV ⊢
  have HCB : Hid (∀ u, Fr (fun _ => False) v u → u.cell? ⟨B, 0, none⟩ = some (.slice A.aS t.st.length A.cS) ∧ u.cell? ⟨B, 1, none⟩ = some (.slice A.aP t.sp.length A.cP) ∧ u.cell? ⟨B, 2, none⟩ = some (.slice A.aB t.bd.length A.cB) ∧ u.cell? ⟨B, 3, none⟩ = some (.float .f64 t.off) ∧ u.cell? ⟨B, 4, none⟩ = some (.int .i64 t.bus) ∧ u.cell? ⟨B, 5, none⟩ = some (.int .i64 t.busDaily) ∧ u.cell? ⟨B, 6, none⟩ = some (.int .i64 t.busWeekly) ∧ u.cell? ⟨B, 7, none⟩ = some (.int .i64 t.hopper) ∧ u.cell? ⟨B, 8, none⟩ = some (.int .i64 t.most) ∧ u.cell? ⟨B, 9, none⟩ = some (.int .i64 t.longest) ∧ u.cell? ⟨B, 10, none⟩ = some (.int .i64 t.change) ∧ u.cell? ⟨B, 11, none⟩ = some (.int .i64 t.passback) ∧ u.cell? ⟨B, 12, none⟩ = some (.int .i64 t.delay) ∧ u.cell? ⟨B, 13, none⟩ = some (.int .i64 t.threshold)) := hide (fun u hf => by
    have h1 := (unhide HTB).keep hf
    exact ⟨h1.cell 0, h1.cell 1, h1.cell 2, h1.cell 3, h1.cell 4, h1.cell 5, h1.cell 6, h1.cell 7, h1.cell 8, h1.cell 9, h1.cell 10, h1.cell 11, h1.cell 12, h1.cell 13⟩)
  obtain ⟨d0, d1, d2, d3, d4, d5, d6, d7, d8, d9, d10, d11, d12, d13⟩ := unhide HCB v (Fr.refl _ _)
  go_enter Tryz.func28, Tryz.ntmps28
  go_upto_region 1 with (fail)
  rw [← unhide HV, ← unhide HB]
  clear HV
  have HACC := HF
  go_cut [7] from 8 to 18 (fun pv wd => ∃ ap cp, pv = .slice ap Q.length cp ∧ Hid (CAt wd ap (pV Q) ∧ Fr (fun _ => False) v wd))
  case first => as_aux_lemma =>
    have HACC := hide (Fr.refl (fun _ => False) v)
    go_region_held3 (fun u => u.cell? ⟨B, 0, none⟩ = some (.slice A.aS t.st.length A.cS) ∧ u.cell? ⟨B, 1, none⟩ = some (.slice A.aP t.sp.length A.cP) ∧ u.cell? ⟨B, 2, none⟩ = some (.slice A.aB t.bd.length A.cB) ∧ u.cell? ⟨B, 3, none⟩ = some (.float .f64 t.off) ∧ u.cell? ⟨B, 4, none⟩ = some (.int .i64 t.bus) ∧ u.cell? ⟨B, 5, none⟩ = some (.int .i64 t.busDaily) ∧ u.cell? ⟨B, 6, none⟩ = some (.int .i64 t.busWeekly) ∧ u.cell? ⟨B, 7, none⟩ = some (.int .i64 t.hopper) ∧ u.cell? ⟨B, 8, none⟩ = some (.int .i64 t.most) ∧ u.cell? ⟨B, 9, none⟩ = some (.int .i64 t.longest) ∧ u.cell? ⟨B, 10, none⟩ = some (.int .i64 t.change) ∧ u.cell? ⟨B, 11, none⟩ = some (.int .i64 t.passback) ∧ u.cell? ⟨B, 12, none⟩ = some (.int .i64 t.delay) ∧ u.cell? ⟨B, 13, none⟩ = some (.int .i64 t.threshold))
      ((refine unhide HCB _ ?_; repeat (first | (with_reducible exact unhide HACC) | (with_reducible exact Fr.refl _ _) | (with_reducible refine Fr.drew ?_))))
      (first
        | (go_at_call 62; refine (unhide RB _ ((unhide HF).trans (by repeat (first | (with_reducible exact unhide HACC) | (with_reducible exact Fr.refl _ _) | (with_reducible refine Fr.drew ?_))) (fun _ _ t => t))).mono ?_; rintro e wa ⟨aj, cj, rfl, hk, hA⟩; have HKJ := hide hk; have HACC := hide (Fr.trans (by repeat (first | (with_reducible exact unhide HACC) | (with_reducible exact Fr.refl _ _) | (with_reducible refine Fr.drew ?_)) : Fr (fun _ => False) v _) hA (fun _ _ t => t)); clear hA; clear hk)
        | (go_at_call 61; refine (mustJ_ok _ _ _ _).mono ?_; rintro e wb ⟨rfl, rfl⟩)
        | (go_at_call 60; refine (unhide RA _ _ _ ((unhide HF).trans (by repeat (first | (with_reducible exact unhide HACC) | (with_reducible exact Fr.refl _ _) | (with_reducible refine Fr.drew ?_))) (fun _ _ t => t)) ((unhide HKJ).keep (by repeat (first | (with_reducible exact Fr.refl _ _) | (with_reducible refine Fr.drew ?_))))).mono ?_; rintro e wc ⟨ap, cp, rfl, hk, hA⟩; have HKP := hide hk; have HACC := hide (Fr.trans (by repeat (first | (with_reducible exact unhide HACC) | (with_reducible exact Fr.refl _ _) | (with_reducible refine Fr.drew ?_)) : Fr (fun _ => False) v _) hA (fun _ _ t => t)); clear hA; clear hk)
        | (go_at_call 59; refine (mustP_ok _ _ _ _).mono ?_; rintro e wd ⟨rfl, rfl⟩))
    all_goals
      go_wp2_with fail
      go_meet
      exact ⟨_, _, rfl, hide ⟨(unhide HKP).keep (by repeat (first | (with_reducible exact Fr.refl _ _) | (with_reducible refine Fr.drew ?_))), by repeat (first | (with_reducible exact unhide HACC) | (with_reducible exact Fr.refl _ _) | (with_reducible refine Fr.drew ?_))⟩⟩
  case rest =>
    obtain ⟨w2, hw2⟩ : ∃ x, x = wc := ⟨_, rfl⟩
    subst hw2
    obtain ⟨ap, cp, rfl, hkf⟩ := hcut
    replace HTB := hide ((unhide HTB).keep (unhide hkf).2)
    replace HF := hide ((unhide HF).trans (unhide hkf).2 (fun _ _ t => t))
    replace HBD := hide ((unhide HBD).keep (unhide hkf).2)
    replace HKP := hide (unhide hkf).1
    clear hkf HCB HACC d0 d1 d2 d3 d4 d5 d6 d7 d8 d9 d10 d11 d12 d13
    go_wp2_with (refine wpList_load_tariff rfl (.tmp 3) rfl (g := B) (A := A) (t := t) rfl (unhide HTB) ?_)
    refine (unhide RP _ _ _ (unhide HF) (unhide HKP)).mono ?_
    rintro e w3 ⟨aq, cq, rfl, hk, hA⟩
    replace HTB := hide ((unhide HTB).keep hA)
    replace HF := hide ((unhide HF).trans hA (fun _ _ t => t))
    replace HBD := hide ((unhide HBD).keep hA)
    have HKQ := hide hk
    clear hA hk HKP RP RA RB
    go_wp2_with fail
    refine (mustP_ok _ _ _ _).mono ?_
    rintro e w4 ⟨rfl, hq⟩
    obtain rfl := hq.symm
    clear hq
    have hb0 := World.block_lt_of_cell? _ _ (unhide HC5 w (Fr.refl _ _))
    have c5 := unhide HC5 w3 (unhide HF)
    have hfs := (unhide HF).size
    have HCB : Hid (∀ u, Fr (fun q => q = B + 1) w3 u → u.cell? ⟨B, 0, none⟩ = some (.slice A.aS t.st.length A.cS) ∧ u.cell? ⟨B, 1, none⟩ = some (.slice A.aP t.sp.length A.cP) ∧ u.cell? ⟨B, 2, none⟩ = some (.slice A.aB t.bd.length A.cB) ∧ u.cell? ⟨B, 3, none⟩ = some (.float .f64 t.off) ∧ u.cell? ⟨B, 4, none⟩ = some (.int .i64 t.bus) ∧ u.cell? ⟨B, 5, none⟩ = some (.int .i64 t.busDaily) ∧ u.cell? ⟨B, 6, none⟩ = some (.int .i64 t.busWeekly) ∧ u.cell? ⟨B, 7, none⟩ = some (.int .i64 t.hopper) ∧ u.cell? ⟨B, 8, none⟩ = some (.int .i64 t.most) ∧ u.cell? ⟨B, 9, none⟩ = some (.int .i64 t.longest) ∧ u.cell? ⟨B, 10, none⟩ = some (.int .i64 t.change) ∧ u.cell? ⟨B, 11, none⟩ = some (.int .i64 t.passback) ∧ u.cell? ⟨B, 12, none⟩ = some (.int .i64 t.delay) ∧ u.cell? ⟨B, 13, none⟩ = some (.int .i64 t.threshold) ∧ u.cell? ⟨b0, off0 + 5, none⟩ = some (.int .i64 tm)) := hide (fun u hf => by
      have h1 := (unhide HTB).frame hf (by omega)
      have h2 := unhide HBL
      exact ⟨h1.cell 0, h1.cell 1, h1.cell 2, h1.cell 3, h1.cell 4, h1.cell 5, h1.cell 6, h1.cell 7, h1.cell 8, h1.cell 9, h1.cell 10, h1.cell 11, h1.cell 12, h1.cell 13, (hf.cell (World.block_lt_of_cell? _ _ c5) (fun q => by simp only at q hb0; have := unhide HB; omega)).trans c5⟩)
    clear hb0 c5 hfs
    obtain ⟨d0, d1, d2, d3, d4, d5, d6, d7, d8, d9, d10, d11, d12, d13, d14⟩ := unhide HCB w3 (Fr.refl _ _)
    have HACC := hide (Fr.refl (fun _ => False) w3)
    have hpos : (0 : Int) < (n0 : Int) := by have := unhide HN0; omega
    have hpos2 : 0 < n0 := unhide HN0
    go_upto_region 3 with (fail)
    go_region_held3 (fun u => u.cell? ⟨B, 0, none⟩ = some (.slice A.aS t.st.length A.cS) ∧ u.cell? ⟨B, 1, none⟩ = some (.slice A.aP t.sp.length A.cP) ∧ u.cell? ⟨B, 2, none⟩ = some (.slice A.aB t.bd.length A.cB) ∧ u.cell? ⟨B, 3, none⟩ = some (.float .f64 t.off) ∧ u.cell? ⟨B, 4, none⟩ = some (.int .i64 t.bus) ∧ u.cell? ⟨B, 5, none⟩ = some (.int .i64 t.busDaily) ∧ u.cell? ⟨B, 6, none⟩ = some (.int .i64 t.busWeekly) ∧ u.cell? ⟨B, 7, none⟩ = some (.int .i64 t.hopper) ∧ u.cell? ⟨B, 8, none⟩ = some (.int .i64 t.most) ∧ u.cell? ⟨B, 9, none⟩ = some (.int .i64 t.longest) ∧ u.cell? ⟨B, 10, none⟩ = some (.int .i64 t.change) ∧ u.cell? ⟨B, 11, none⟩ = some (.int .i64 t.passback) ∧ u.cell? ⟨B, 12, none⟩ = some (.int .i64 t.delay) ∧ u.cell? ⟨B, 13, none⟩ = some (.int .i64 t.threshold) ∧ u.cell? ⟨b0, off0 + 5, none⟩ = some (.int .i64 tm))
      ((refine unhide HCB _ ?_; repeat (first | (with_reducible refine Fr.setB ?_ _ _) | (with_reducible exact (unhide HACC).mono (fun _ _ t => t.elim)) | (with_reducible exact Fr.refl _ _) | (with_reducible refine Fr.drew ?_))))
      (first
        | (go_at_call 18; refine (unhide RC _).mono ?_; rintro e wa ⟨rfl, rfl⟩)
        | (go_at_call 66; refine (mustI_ok _ _).mono ?_; rintro e wb ⟨rfl, rfl⟩)
        | (go_at_call 65; refine (unhide RD _ _ _ ((unhide HF).trans (by repeat (first | (with_reducible exact unhide HACC) | (with_reducible exact Fr.refl _ _) | (with_reducible refine Fr.drew ?_))) (fun _ _ t => t)) ((unhide HKQ).keep (by repeat (first | (with_reducible exact unhide HACC) | (with_reducible exact Fr.refl _ _) | (with_reducible refine Fr.drew ?_))))).mono ?_; rintro e wc ⟨rfl, hA⟩; have HACC := hide (Fr.trans (by repeat (first | (with_reducible exact unhide HACC) | (with_reducible exact Fr.refl _ _) | (with_reducible refine Fr.drew ?_)) : Fr (fun _ => False) w3 _) hA (fun _ _ t => t)); clear hA)
        | (go_at_call 64; refine (unhide RM _).mono ?_; rintro e wd ⟨rfl, hA⟩; have HACC := hide (Fr.trans (by repeat (first | (with_reducible exact unhide HACC) | (with_reducible exact Fr.refl _ _) | (with_reducible refine Fr.drew ?_)) : Fr (fun _ => False) w3 _) hA (fun _ _ t => t)); clear hA; have hx := (unhide HBD).keep (unhide HACC); have HX := hide hx; obtain ⟨⟨x0, x1, x2, x3, x4, x5, x6⟩, y0⟩ := bx7c hx; clear hx))
    all_goals
      go_wp2
      have hb := bxS7 (unhide HX) (.int .i64 a0) (.int .i64 a1) (.int .i64 a2) (.int .i64 a3) (.int .i64 a4) (.int .i64 a5) (.int .i64 a6)
      have hF2 : Fr (fun _ => False) w _ := (Fr.put8 (Fr.put8 (Fr.put8 (Fr.put8 (Fr.put8 (Fr.put8 (Fr.put8 (Fr.trans (unhide HF) (unhide HACC) (fun _ _ t => t)) (unhide HBL) 0 (.int .i64 a0)) (unhide HBL) 1 (.int .i64 a1)) (unhide HBL) 2 (.int .i64 a2)) (unhide HBL) 3 (.int .i64 a3)) (unhide HBL) 4 (.int .i64 a4)) (unhide HBL) 5 (.int .i64 a5)) (unhide HBL) 6 (.int .i64 a6))
      generalize (((((((wd.setCell ⟨B + 1, 0, none⟩ (.int .i64 a0)).setCell ⟨B + 1, 1, none⟩ (.int .i64 a1)).setCell ⟨B + 1, 2, none⟩ (.int .i64 a2)).setCell ⟨B + 1, 3, none⟩ (.int .i64 a3)).setCell ⟨B + 1, 4, none⟩ (.int .i64 a4)).setCell ⟨B + 1, 5, none⟩ (.int .i64 a5)).setCell ⟨B + 1, 6, none⟩ (.int .i64 a6)) = z at *
      have z0 : z.cell? ⟨B + 1, 0, none⟩ = some (.int .i64 a0) := hb.cell 0
      have z1 : z.cell? ⟨B + 1, 1, none⟩ = some (.int .i64 a1) := hb.cell 1
      have z2 : z.cell? ⟨B + 1, 2, none⟩ = some (.int .i64 a2) := hb.cell 2
      have z3 : z.cell? ⟨B + 1, 3, none⟩ = some (.int .i64 a3) := hb.cell 3
      have z4 : z.cell? ⟨B + 1, 4, none⟩ = some (.int .i64 a4) := hb.cell 4
      have z5 : z.cell? ⟨B + 1, 5, none⟩ = some (.int .i64 a5) := hb.cell 5
      have z6 : z.cell? ⟨B + 1, 6, none⟩ = some (.int .i64 a6) := hb.cell 6
      refine bodyPost_ret (v := .agg #[.int .i64 a0, .int .i64 a1, .int .i64 a2, .int .i64 a3, .int .i64 a4, .int .i64 a5, .int .i64 a6]) (by simp [results, z0, z1, z2, z3, z4, z5, z6, Tryz.results28, go_sem]) rfl ⟨rfl, hF2⟩

end Go.Proofs.YtjgbllfppomcmaaGreat

