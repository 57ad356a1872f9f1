import Derived.Test.YthgkifkcckandaaJNC
/- A walk's take. -/
namespace Go.Proofs.Ythgkifkcckandaa
open Go.RowKit

theorem take_len (T : Tm) (s : Wk) (x : Tp) : (s.take T x).made.length ≤ s.made.length + 2 := by
  have hs := shut_len s
  have hlate : (s.late x).made.length ≤ s.made.length + 2 := by unfold Wk.late Wk.put; simp; omega
  unfold Wk.take
  split
  · unfold Wk.ride; simp
  · split
    · split
      · show s.shut.made.length ≤ _; omega
      · split
        · unfold Wk.leave
          split
          · exact hlate
          · split
            · exact hlate
            · unfold Wk.done; split <;> simp
        · omega
    · omega

set_option maxHeartbeats 1000000 in
theorem take_any (w0 w : World) (p : Nat) (A : Ad) (t : Tf) (s : Wk) (ao : Option Addr) (cap g : Nat) (h : WM w0 w p A t s ao cap g) (hT : TAt w0 A t) (hn : s.made.length ≤ 99000) (x : Tp) (lo c : Int) (hW : WOk (tmOf t) lo c s) (h0 : 0 ≤ lo) (hl : lo ≤ x.time) (hc : c ≤ x.time) (hx : x.time ≤ 2147483648) :
    Calls Try.prog 35 #[.pointer (some ⟨p, 0, none⟩), .agg (tpC x)] w fun e w' => e = .returned (.tuple #[]) ∧ WStep w0 p A t (s.take (tmOf t) x) w g cap w' := by
  have HST : Hid (∀ u, Fr (fun _ => False) w u → Calls Try.prog 9 #[tv A t, .int .i64 x.place] u fun e w' => e = .returned (.tuple #[stA ((stationOf t x.place).getD ⟨0, 0, 0⟩), .bool (stationOf t x.place).isSome]) ∧ Fr (fun _ => False) u w') := hide (fun u hf => station_any u A t ((hT.keep h.fr).keep hf) x.place)
  have RR := hide (fun (u : World) (hu : Fr (fun _ => False) w u) => ride_any w0 u p A t s ao cap g (h.keep hu) (by omega) x (fun q hq => by
    obtain ⟨k, h1, h2⟩ := hW.paid_mem hq
    have hj := hW.made q (mem_of_get h1)
    have := hj.k1; have := hj.lo; have := hj.le; have := hj.hi
    exact ⟨by omega, by omega, by omega⟩) ⟨by omega, hx⟩)
  have RE := hide (fun (u : World) (hu : Fr (fun _ => False) w u) => enter_any w0 u p A t s ao cap g (h.keep hu) hT hn x lo c hW h0 hl hc hx)
  have RV := hide (fun (u : World) (hu : Fr (fun _ => False) w u) => leave_any w0 u p A t s ao cap g (h.keep hu) hn x lo c hW h0 hl hc hx)
  have RS := hide (fun (u : World) (hu : Fr (fun _ => False) w u) => WStep.of hu (WStep.refl (h.keep hu)))
  have HG1 : Hid ((tmOf t).group x.place = ((stationOf t x.place).getD ⟨0, 0, 0⟩).group) := hide rfl
  have HK1 : Hid ((tmOf t).known x.place = (stationOf t x.place).isSome) := hide rfl
  rw [unhide HG1] at RE
  have HZ : Hid (s.take (tmOf t) x = if x.kind = 3 then s.ride (tmOf t) x else if (stationOf t x.place).isSome then (if x.kind = 1 then s.enter (tmOf t) x else if x.kind = 2 then s.leave (tmOf t) x else s) else s) := hide (by unfold Wk.take; rw [unhide HK1])
  obtain ⟨Z, hZ⟩ : ∃ Z, s.take (tmOf t) x = Z := ⟨_, rfl⟩
  rw [hZ] at HZ ⊢
  clear hZ HG1 HK1
  have H := hide h
  clear h hT hW h0 hl hc hx
  obtain ⟨z, hz⟩ : ∃ z, (stationOf t x.place).getD ⟨0, 0, 0⟩ = z := ⟨_, rfl⟩
  rw [hz] at HST RE
  clear hz
  generalize (stationOf t x.place).isSome = zs at *
  obtain ⟨dev, ctr, tok, kind, place, time⟩ := x
  simp only [tpC] at *
  obtain ⟨v, hv⟩ : ∃ v, v = w.alloc (.cells #[.int .i64 dev, .int .i64 ctr, .string tok, .int .i64 kind, .int .i64 place, .int .i64 time] 39) := ⟨_, rfl⟩
  have hFv : Fr (fun _ => False) w v := by rw [hv]; exact (Fr.refl _ w).alloc _
  have hX : Bx v w.heap.size #[.int .i64 dev, .int .i64 ctr, .string tok, .int .i64 kind, .int .i64 place, .int .i64 time] 39 := by rw [hv]; exact Bx.new _ _ _
  have hb := ((unhide H).keep hFv).box
  have hcb : ∀ u, Fr (fun _ => False) v u → u.cell? ⟨p, 0, none⟩ = some (.slice A.aS t.st.length A.cS) ∧ u.cell? ⟨p, 1, none⟩ = some (.slice A.aP t.sp.length A.cP) ∧ u.cell? ⟨p, 2, none⟩ = some (.slice A.aB t.bd.length A.cB) ∧ u.cell? ⟨p, 3, none⟩ = some (.float .f64 t.off) ∧ u.cell? ⟨p, 4, none⟩ = some (.int .i64 t.bus) ∧ u.cell? ⟨p, 5, none⟩ = some (.int .i64 t.busDaily) ∧ u.cell? ⟨p, 6, none⟩ = some (.int .i64 t.busWeekly) ∧ u.cell? ⟨p, 7, none⟩ = some (.int .i64 t.hopper) ∧ u.cell? ⟨p, 8, none⟩ = some (.int .i64 t.most) ∧ u.cell? ⟨p, 9, none⟩ = some (.int .i64 t.longest) ∧ u.cell? ⟨p, 10, none⟩ = some (.int .i64 t.change) ∧ u.cell? ⟨p, 11, none⟩ = some (.int .i64 t.passback) ∧ u.cell? ⟨p, 12, none⟩ = some (.int .i64 t.delay) ∧ u.cell? ⟨p, 13, none⟩ = some (.int .i64 t.threshold) ∧ u.cell? ⟨w.heap.size, 4, none⟩ = some (.int .i64 place) := fun u hf => by
    have h1 := hb.keep hf
    exact ⟨h1.cell 0, h1.cell 1, h1.cell 2, h1.cell 3, h1.cell 4, h1.cell 5, h1.cell 6, h1.cell 7, h1.cell 8, h1.cell 9, h1.cell 10, h1.cell 11, h1.cell 12, h1.cell 13, (hX.keep hf).cell 4⟩
  have HCB := hide hcb
  have HX := hide hX
  have HFV := hide hFv
  have HV := hide hv
  obtain ⟨X, hXX⟩ : ∃ X, X = w.heap.size := ⟨_, rfl⟩
  have HXX := hide hXX
  rw [← hXX] at HCB HX
  obtain ⟨d0, d1, d2, d3, d4, d5, d6, d7, d8, d9, d10, d11, d12, d13, j2⟩ := unhide HCB v (Fr.refl _ _)
  clear hcb hb hX hFv hv H hXX
  go_enter Try.func35, Try.ntmps35
  go_upto_region 1 with (fail)
  rw [← unhide HXX, ← unhide HV]
  clear HXX HV
  go_cut [4, 5] from 6 to 15 (fun v4 v5 wd => ∃ K : Nat, v4 = .pointer (some ⟨K, 0, none⟩) ∧ v5 = .bool zs ∧ Hid (Fr (fun _ => False) v wd ∧ wd.cell? ⟨K, 2, none⟩ = some (.int .i64 z.group)))
  case first =>
    go_region_held3 (fun u => u.cell? ⟨p, 0, none⟩ = some (.slice A.aS t.st.length A.cS) ∧ u.cell? ⟨p, 1, none⟩ = some (.slice A.aP t.sp.length A.cP) ∧ u.cell? ⟨p, 2, none⟩ = some (.slice A.aB t.bd.length A.cB) ∧ u.cell? ⟨p, 3, none⟩ = some (.float .f64 t.off) ∧ u.cell? ⟨p, 4, none⟩ = some (.int .i64 t.bus) ∧ u.cell? ⟨p, 5, none⟩ = some (.int .i64 t.busDaily) ∧ u.cell? ⟨p, 6, none⟩ = some (.int .i64 t.busWeekly) ∧ u.cell? ⟨p, 7, none⟩ = some (.int .i64 t.hopper) ∧ u.cell? ⟨p, 8, none⟩ = some (.int .i64 t.most) ∧ u.cell? ⟨p, 9, none⟩ = some (.int .i64 t.longest) ∧ u.cell? ⟨p, 10, none⟩ = some (.int .i64 t.change) ∧ u.cell? ⟨p, 11, none⟩ = some (.int .i64 t.passback) ∧ u.cell? ⟨p, 12, none⟩ = some (.int .i64 t.delay) ∧ u.cell? ⟨p, 13, none⟩ = some (.int .i64 t.threshold) ∧ u.cell? ⟨X, 4, none⟩ = some (.int .i64 place))
      ((refine unhide HCB _ ?_; repeat (first | (with_reducible exact Fr.refl _ _) | (with_reducible refine Fr.drew ?_) | (with_reducible refine Fr.alloc ?_ _) | (with_reducible refine Fr.trans ?_ (unhide HF2) (fun _ _ t => t)) | (with_reducible refine Fr.setN (Nat.lt_irrefl _) ?_ _ _) | refine Fr.setN (Nat.not_lt.2 (unhide HF2).size) ?_ _ _)))
      (first | (go_at_call 9; refine (unhide HST _ ((unhide HFV).trans (b := v) (by repeat (with_reducible (first | exact Fr.refl _ _ | refine Fr.drew ?_ | refine Fr.alloc ?_ _))) (fun _ _ t => t))).mono ?_; rintro e w2 ⟨rfl, hF2⟩; first | (have hN := new_cells (wc := v) (cs := #[.int .i64 0, .int .i64 0, .int .i64 0]) (T := 35) hF2; have z0 : w2.cell? ⟨v.heap.size, 0, none⟩ = some (.int .i64 0) := hN.cell 0; have z1 : w2.cell? ⟨v.heap.size, 1, none⟩ = some (.int .i64 0) := hN.cell 1; have z2 : w2.cell? ⟨v.heap.size, 2, none⟩ = some (.int .i64 0) := hN.cell 2; have zf : ∀ j, w2.frozen? ⟨v.heap.size, j, none⟩ = false := fun j => hN.frozen j; clear hN; have HF2 := hide hF2; clear hF2) | (have hN := new_cellsD (wc := v) (cs := #[.int .i64 0, .int .i64 0, .int .i64 0]) (T := 35) hF2; have z0 : w2.cell? ⟨v.heap.size, 0, none⟩ = some (.int .i64 0) := hN.cell 0; have z1 : w2.cell? ⟨v.heap.size, 1, none⟩ = some (.int .i64 0) := hN.cell 1; have z2 : w2.cell? ⟨v.heap.size, 2, none⟩ = some (.int .i64 0) := hN.cell 2; have zf : ∀ j, w2.frozen? ⟨v.heap.size, j, none⟩ = false := fun j => hN.frozen j; clear hN; have HF2 := hide hF2; clear hF2) | (have HF2 := hide hF2; clear hF2)))
    all_goals
      go_wp2_with fail
      go_meet
      first
        | exact ⟨w2.heap.size, by rfl, by rfl, hide ⟨(Fr.trans ((Fr.refl (fun _ => False) v).drew) (unhide HF2) (fun _ _ t => t)).alloc _, by simp [go_sem]⟩⟩
        | exact ⟨v.heap.size, by rfl, by rfl, hide ⟨Fr.setN (Nat.lt_irrefl _) (Fr.setN (Nat.lt_irrefl _) (Fr.setN (Nat.lt_irrefl _) (Fr.trans (((Fr.refl (fun _ => False) v).alloc _).drew) (unhide HF2) (fun _ _ t => t)) _ _) _ _) _ _, by simp [go_sem, z2]⟩⟩
  case rest =>
    obtain ⟨K, rfl, rfl, HC2⟩ := hcut
    obtain ⟨hG2, k2⟩ := unhide HC2
    have hX2 := (unhide HX).keep hG2
    have x0 : wc.cell? ⟨X, 0, none⟩ = some (.int .i64 dev) := hX2.cell 0
    have x1 : wc.cell? ⟨X, 1, none⟩ = some (.int .i64 ctr) := hX2.cell 1
    have x2 : wc.cell? ⟨X, 2, none⟩ = some (.string tok) := hX2.cell 2
    have x3 : wc.cell? ⟨X, 3, none⟩ = some (.int .i64 kind) := hX2.cell 3
    have x4 : wc.cell? ⟨X, 4, none⟩ = some (.int .i64 place) := hX2.cell 4
    have x5 : wc.cell? ⟨X, 5, none⟩ = some (.int .i64 time) := hX2.cell 5
    have HFW : Hid (Fr (fun _ => False) w wc) := hide ((unhide HFV).trans hG2 (fun _ _ t => t))
    clear HC2 hG2 hX2 HX HFV HCB HST d0 d1 d2 d3 d4 d5 d6 d7 d8 d9 d10 d11 d12 d13 j2
    by_cases k3 : kind = 3
    · subst k3
      have HZZ : Hid (Z = s.ride (tmOf t) ⟨dev, ctr, tok, 3, place, time⟩) := hide ((unhide HZ).trans (if_pos rfl))
      have RR1 := hide (unhide RR _ (unhide HFW))
      clear HZ RR RE RV RS
      go_wp2_with fail
      refine (unhide RR1).mono ?_
      rintro e w2 ⟨rfl, hS⟩
      have HS := hide (WStep.of (unhide HFW) hS)
      clear hS RR1 HFW x0 x1 x2 x3 x4 x5 k2
      go_wp2
      first | go_end0 | refine bodyPost_ret (results_none rfl _ _ _) rfl ?_
      exact ⟨rfl, by rw [unhide HZZ]; exact unhide HS⟩
    · have k3b : (kind == 3) = false := by simp [k3]
      have HZ2 := hide ((unhide HZ).trans (if_neg k3))
      clear HZ k3 RR
      cases zs with
      | false =>
        have HZZ : Hid (Z = s) := hide (unhide HZ2)
        have HS := hide (unhide RS _ (unhide HFW))
        clear HZ2 RE RV RS
        go_wp2
        first | go_end0 | refine bodyPost_ret (results_none rfl _ _ _) rfl ?_
        exact ⟨rfl, by rw [unhide HZZ]; exact unhide HS⟩
      | true =>
        have HZ3 := hide ((unhide HZ2).trans (if_pos rfl))
        clear HZ2
        by_cases k1 : kind = 1
        · subst k1
          have HZZ : Hid (Z = s.enter (tmOf t) ⟨dev, ctr, tok, 1, place, time⟩) := hide ((unhide HZ3).trans (if_pos rfl))
          have RR1 := hide (unhide RE _ (unhide HFW))
          clear HZ3 RE RV RS
          go_wp2_with fail
          refine (unhide RR1).mono ?_
          rintro e w2 ⟨rfl, hS⟩
          have HS := hide (WStep.of (unhide HFW) hS)
          clear hS RR1 HFW x0 x1 x2 x3 x4 x5 k2
          go_wp2
          first | go_end0 | refine bodyPost_ret (results_none rfl _ _ _) rfl ?_
          exact ⟨rfl, by rw [unhide HZZ]; exact unhide HS⟩
        · have k1b : (kind == 1) = false := by simp [k1]
          have HZ4 := hide ((unhide HZ3).trans (if_neg k1))
          clear HZ3 k1 RE
          by_cases k22 : kind = 2
          · subst k22
            have HZZ : Hid (Z = s.leave (tmOf t) ⟨dev, ctr, tok, 2, place, time⟩) := hide ((unhide HZ4).trans (if_pos rfl))
            have RR1 := hide (unhide RV _ (unhide HFW))
            clear HZ4 RV RS
            go_wp2_with fail
            refine (unhide RR1).mono ?_
            rintro e w2 ⟨rfl, hS⟩
            have HS := hide (WStep.of (unhide HFW) hS)
            clear hS RR1 HFW x0 x1 x2 x3 x4 x5 k2
            go_wp2
            first | go_end0 | refine bodyPost_ret (results_none rfl _ _ _) rfl ?_
            exact ⟨rfl, by rw [unhide HZZ]; exact unhide HS⟩
          · have k2b : (kind == 2) = false := by simp [k22]
            have HZZ : Hid (Z = s) := hide ((unhide HZ4).trans (if_neg k22))
            have HS := hide (unhide RS _ (unhide HFW))
            clear HZ4 RV RS k22
            go_wp2
            first | go_end0 | refine bodyPost_ret (results_none rfl _ _ _) rfl ?_
            exact ⟨rfl, by rw [unhide HZZ]; exact unhide HS⟩

end Go.Proofs.Ythgkifkcckandaa

