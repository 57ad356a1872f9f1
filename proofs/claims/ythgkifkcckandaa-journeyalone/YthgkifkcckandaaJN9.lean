import Derived.Test.YthgkifkcckandaaJN8
/- A walk's changes. -/
namespace Go.Proofs.Ythgkifkcckandaa
open Go.RowKit

theorem new_cells {wc w2 : World} {cs : Array Value} {T : TypeId} (h : Fr (fun _ => False) (wc.alloc (.cells cs T)) w2) : Bx w2 wc.heap.size cs T := (Bx.new _ _ _).keep h

theorem new_cellsD {wc w2 : World} {cs : Array Value} {T : TypeId} (h : Fr (fun _ => False) (wc.alloc (.cells cs T)).drew w2) : Bx w2 wc.heap.size cs T := (Bx.new _ _ _).drew.keep h

theorem changes_none (w0 w : World) (p : Nat) (A : Ad) (t : Tf) (s : Wk) (ao : Option Addr) (cap g : Nat) (h : WM w0 w p A t s ao cap g) (x : Tp) (gr : Int) (hr : s.rail = none ∨ gr = 0) :
    Calls Try.prog 63 #[.pointer (some ⟨p, 0, none⟩), .agg (tpC x), .int .i64 gr] w fun e w' => e = .returned (.bool false) ∧ Fr (fun _ => False) w w' := by
  obtain ⟨dev, ctr, tok, kind, place, time⟩ := x
  simp only [tpC]
  obtain ⟨v, hv⟩ : ∃ v, v = w.alloc (.cells #[.int .i64 dev, .int .i64 ctr, .string tok, .int .i64 kind, .int .i64 place, .int .i64 time] 39) := ⟨_, rfl⟩
  have hF : Fr (fun _ => False) w v := by rw [hv]; exact (Fr.refl _ w).alloc _
  have hb := h.box.keep hF
  have c15 : v.cell? ⟨p, 15, none⟩ = some (.int .i64 (railV s.rail)) := hb.cell 15
  have HF := hide hF
  have HV := hide hv
  clear hF hb hv h
  cases hs : s.rail with
  | none =>
    rw [hs] at c15
    simp only [railV] at c15
    clear hr hs
    go_enter Try.func63, Try.ntmps63
    go_upto_region 1 with (fail)
    rw [← unhide HV]
    clear HV
    go_wp2
    go_ret
    exact ⟨rfl, unhide HF⟩
  | some k =>
    obtain rfl : gr = 0 := by rcases hr with h | h; (· rw [hs] at h; cases h); exact h
    rw [hs] at c15
    simp only [railV] at c15
    have hkb : ((k : Int) == -1) = false := by simp
    clear hr hs
    go_enter Try.func63, Try.ntmps63
    go_upto_region 1 with (fail)
    rw [← unhide HV]
    clear HV
    go_wp2
    go_ret
    exact ⟨rfl, unhide HF⟩

set_option maxHeartbeats 1000000 in
theorem changes_some (w0 w : World) (p : Nat) (A : Ad) (t : Tf) (s : Wk) (ao : Option Addr) (cap g : Nat) (h : WM w0 w p A t s ao cap g) (hT : TAt w A t) (hn : s.made.length ≤ 100000) (x : Tp) (gr : Int) (k : Nat) (b : Jn) (hr : s.rail = some k) (hm : s.made[k]? = some b)
    (hgr : gr ≠ 0) (hb0 : 0 ≤ b.st ∧ b.st ≤ 2147483648 ∧ 0 ≤ b.en ∧ b.en ≤ 2147483648) (hx : 0 ≤ x.time ∧ x.time ≤ 2147483648) :
    Calls Try.prog 63 #[.pointer (some ⟨p, 0, none⟩), .agg (tpC x), .int .i64 gr] w fun e w' => e = .returned (.bool (decide (b.kind = 1) && decide (((stationOf t b.to).getD ⟨0, 0, 0⟩).group = gr) && (decide (x.time - b.en ≤ t.change) && decide (x.time - b.st ≤ t.longest)))) ∧ Fr (fun _ => False) w w' := by
  have HST : Hid (∀ u, Fr (fun _ => False) w u → Calls Try.prog 9 #[tv A t, .int .i64 b.to] u fun e w' => e = .returned (.tuple #[stA ((stationOf t b.to).getD ⟨0, 0, 0⟩), .bool (stationOf t b.to).isSome]) ∧ Fr (fun _ => False) u w') := hide (fun u hf => station_any u A t (hT.keep hf) b.to)
  have hml := get_lt hm
  obtain ⟨hao, hcap, hcl⟩ := jV_cell h.row hm
  have hgl := h.row.lt (by omega) hcap
  obtain ⟨dev, ctr, tok, kind, place, time⟩ := x
  obtain ⟨jk, jf, jt, js, je, jr⟩ := b
  simp only [tpC] at *
  obtain ⟨z, hz⟩ : ∃ z, (stationOf t jt).getD ⟨0, 0, 0⟩ = z := ⟨_, rfl⟩
  rw [hz] at HST ⊢
  generalize (stationOf t jt).isSome = zs at *
  have w1 : IntKind.i64.wrap (time - je) = time - je := by rw [IntKind.wrap_i64]; omega
  have w2 : IntKind.i64.wrap (time - js) = time - js := by rw [IntKind.wrap_i64]; omega
  obtain ⟨lc, hlc⟩ : ∃ lc, decide (time - je ≤ t.change) = lc := ⟨_, rfl⟩
  obtain ⟨ll, hll⟩ : ∃ ll, decide (time - js ≤ t.longest) = ll := ⟨_, rfl⟩
  obtain ⟨lk, hlk⟩ : ∃ lk, decide (jk = 1) = lk := ⟨_, rfl⟩
  obtain ⟨lg, hlg⟩ : ∃ lg, decide (z.group = gr) = lg := ⟨_, rfl⟩
  rw [hlc, hll, hlk, hlg]
  have hlk2 : (jk == 1) = lk := by rw [← hlk]; by_cases q : jk = 1 <;> simp [q]
  have hlg2 : (z.group == gr) = lg := by rw [← hlg]; by_cases q : z.group = gr <;> simp [q]
  have hgr2 : (gr == 0) = false := by simp [hgr]
  have hkb : ((k : Int) == -1) = false := by simp
  have i1 : (k : Int) < (s.made.length : Int) := by omega
  have i2 : (s.made.length : Int) ≤ 100000 := by omega
  obtain ⟨v, hv⟩ : ∃ v, v = w.alloc (.cells #[.int .i64 dev, .int .i64 ctr, .string tok, .int .i64 kind, .int .i64 place, .int .i64 time] 39) := ⟨_, rfl⟩
  have hF : Fr (fun _ => False) w v := by rw [hv]; exact (Fr.refl _ w).alloc _
  have hvs : v.heap.size = w.heap.size + 1 := by rw [hv]; simp
  have hX : Bx v w.heap.size #[.int .i64 dev, .int .i64 ctr, .string tok, .int .i64 kind, .int .i64 place, .int .i64 time] 39 := by rw [hv]; exact Bx.new _ _ _
  have hb := h.box.keep hF
  have hbp := h.lt
  have HB : Hid (Bx v p (wkC A t s ao cap) 73) := hide hb
  have HX := hide hX
  have HROW : Hid (∀ u, Fr (fun _ => False) v u → ∀ c (_ : c < 6) y, (jL ⟨jk, jf, jt, js, je, jr⟩)[c]? = some y → u.cell? ⟨g, k * 6 + c, none⟩ = some y) := hide (fun u hf c hc y hy => by
    have h1 := hcl c hc y hy
    exact ((hF.trans hf (fun _ _ t => t)).cell (World.block_lt_of_cell? _ _ h1) (fun t => t)).trans h1)
  have c14 : v.cell? ⟨p, 14, none⟩ = some (.slice (some ⟨g, 0, none⟩) s.made.length cap) := by rw [← hao]; exact hb.cell 14
  have c15 : v.cell? ⟨p, 15, none⟩ = some (.int .i64 (k : Int)) := by have := hb.cell 15; rw [this]; show some (Value.int .i64 (railV s.rail)) = _; rw [hr]; rfl
  have m0 : v.cell? ⟨g, k * 6, none⟩ = some (.int .i64 jk) := unhide HROW _ (Fr.refl _ _) 0 (by omega) _ rfl
  have m1 : v.cell? ⟨g, k * 6 + 1, none⟩ = some (.int .i64 jf) := unhide HROW _ (Fr.refl _ _) 1 (by omega) _ rfl
  have m2 : v.cell? ⟨g, k * 6 + 2, none⟩ = some (.int .i64 jt) := unhide HROW _ (Fr.refl _ _) 2 (by omega) _ rfl
  have m3 : v.cell? ⟨g, k * 6 + 3, none⟩ = some (.int .i64 js) := unhide HROW _ (Fr.refl _ _) 3 (by omega) _ rfl
  have m4 : v.cell? ⟨g, k * 6 + 4, none⟩ = some (.int .i64 je) := unhide HROW _ (Fr.refl _ _) 4 (by omega) _ rfl
  have m5 : v.cell? ⟨g, k * 6 + 5, none⟩ = some (.bool jr) := unhide HROW _ (Fr.refl _ _) 5 (by omega) _ rfl
  have HF := hide hF
  have HV := hide hv
  have HN := hide (And.intro hvs (And.intro hbp hgl))
  obtain ⟨X, hXe⟩ : ∃ X, X = w.heap.size := ⟨_, rfl⟩
  have HXE := hide hXe
  have HC := hide (And.intro hlc (And.intro hll (And.intro hlk hlg)))
  clear hF hb hv h hX hcl hT hz hvs hbp hgl hm hml hr hcap hao hlc hll hlk hlg hn hgr
  generalize s.made.length = n at *
  rw [← hXe] at HX HN
  have hCB : ∀ u, Fr (fun _ => False) v u → u.cell? ⟨p, 14, none⟩ = some (.slice (some ⟨g, 0, none⟩) n cap) ∧ u.cell? ⟨p, 15, none⟩ = some (.int .i64 (k : Int)) ∧ u.cell? ⟨g, k * 6, none⟩ = some (.int .i64 jk) ∧ u.cell? ⟨g, k * 6 + 1, none⟩ = some (.int .i64 jf) ∧ u.cell? ⟨g, k * 6 + 2, none⟩ = some (.int .i64 jt) ∧ u.cell? ⟨g, k * 6 + 3, none⟩ = some (.int .i64 js) ∧ u.cell? ⟨g, k * 6 + 4, none⟩ = some (.int .i64 je) ∧ u.cell? ⟨g, k * 6 + 5, none⟩ = some (.bool jr) := fun u hf => by
    have f : ∀ {a : Addr} {y : Value}, v.cell? a = some y → u.cell? a = some y := fun {a y} e => (hf.cell (World.block_lt_of_cell? _ _ e) (fun t => t)).trans e
    exact ⟨f c14, f c15, f m0, f m1, f m2, f m3, f m4, f m5⟩
  have HKP := hide hCB
  clear hCB hXe
  go_enter Try.func63, Try.ntmps63
  go_upto_region 1 with (fail)
  rw [← unhide HXE, ← unhide HV]
  clear HV
  go_upto_region 3 with (fail)
  obtain ⟨J, hJ⟩ : ∃ J, J = v.heap.size := ⟨_, rfl⟩
  have HJ := hide hJ
  go_cut [7] from 20 to 29 (fun v7 wc => v7 = .pointer (some ⟨J, 0, none⟩) ∧ Hid (Fr (fun _ => False) v wc ∧ Bx wc J #[.int .i64 jk, .int .i64 jf, .int .i64 jt, .int .i64 js, .int .i64 je, .bool jr] 42))
  case first =>
    clear hJ
    go_region_held3 (fun u => u.cell? ⟨p, 14, none⟩ = some (.slice (some ⟨g, 0, none⟩) n cap) ∧ u.cell? ⟨p, 15, none⟩ = some (.int .i64 (k : Int)) ∧ u.cell? ⟨g, k * 6, none⟩ = some (.int .i64 jk) ∧ u.cell? ⟨g, k * 6 + 1, none⟩ = some (.int .i64 jf) ∧ u.cell? ⟨g, k * 6 + 2, none⟩ = some (.int .i64 jt) ∧ u.cell? ⟨g, k * 6 + 3, none⟩ = some (.int .i64 js) ∧ u.cell? ⟨g, k * 6 + 4, none⟩ = some (.int .i64 je) ∧ u.cell? ⟨g, k * 6 + 5, none⟩ = some (.bool jr)) ((refine unhide HKP _ ?_; repeat (with_reducible (first | exact Fr.refl _ _ | refine Fr.drew ?_ | refine Fr.alloc ?_ _ | refine Fr.setN (Nat.lt_irrefl _) ?_ _ _)))) (fail)
    all_goals
      go_wp2_with fail
      go_meet
      exact ⟨by rw [unhide HJ], hide ⟨(by repeat (with_reducible (first | exact Fr.refl _ _ | refine Fr.drew ?_ | refine Fr.alloc ?_ _ | refine Fr.setN (Nat.lt_irrefl _) ?_ _ _))), by rw [unhide HJ]; exact Bx.new _ _ _⟩⟩
  case rest =>
    obtain ⟨rfl, HC1⟩ := hcut
    obtain ⟨hG, hJX⟩ := unhide HC1
    have hb := (unhide HB).keep hG
    have hcb : ∀ u, Fr (fun _ => False) wc u → u.cell? ⟨p, 0, none⟩ = some (.slice A.aS t.st.length A.cS) ∧ u.cell? ⟨p, 1, none⟩ = some (.slice A.aP t.sp.length A.cP) ∧ u.cell? ⟨p, 2, none⟩ = some (.slice A.aB t.bd.length A.cB) ∧ u.cell? ⟨p, 3, none⟩ = some (.float .f64 t.off) ∧ u.cell? ⟨p, 4, none⟩ = some (.int .i64 t.bus) ∧ u.cell? ⟨p, 5, none⟩ = some (.int .i64 t.busDaily) ∧ u.cell? ⟨p, 6, none⟩ = some (.int .i64 t.busWeekly) ∧ u.cell? ⟨p, 7, none⟩ = some (.int .i64 t.hopper) ∧ u.cell? ⟨p, 8, none⟩ = some (.int .i64 t.most) ∧ u.cell? ⟨p, 9, none⟩ = some (.int .i64 t.longest) ∧ u.cell? ⟨p, 10, none⟩ = some (.int .i64 t.change) ∧ u.cell? ⟨p, 11, none⟩ = some (.int .i64 t.passback) ∧ u.cell? ⟨p, 12, none⟩ = some (.int .i64 t.delay) ∧ u.cell? ⟨p, 13, none⟩ = some (.int .i64 t.threshold) ∧ u.cell? ⟨J, 2, none⟩ = some (.int .i64 jt) := fun u hf => by
      have h1 := hb.keep hf
      exact ⟨h1.cell 0, h1.cell 1, h1.cell 2, h1.cell 3, h1.cell 4, h1.cell 5, h1.cell 6, h1.cell 7, h1.cell 8, h1.cell 9, h1.cell 10, h1.cell 11, h1.cell 12, h1.cell 13, (hJX.keep hf).cell 2⟩
    obtain ⟨d0, d1, d2, d3, d4, d5, d6, d7, d8, d9, d10, d11, d12, d13, j2⟩ := hcb wc (Fr.refl _ _)
    have HCB := hide hcb
    have HG : Hid (Fr (fun _ => False) w wc) := hide ((unhide HF).trans hG (fun _ _ t => t))
    have HBW := hide hb
    have HJX := hide hJX
    have HXW := hide ((unhide HX).keep hG)
    clear hcb hb hJX hG HC1 HB HX HF HKP HROW c14 c15 m0 m1 m2 m3 m4 m5 hJ
    go_upto_region 4 with (fail)
    go_cut [8, 9] from 30 to 39 (fun v8 v9 wd => ∃ K : Nat, v8 = .pointer (some ⟨K, 0, none⟩) ∧ v9 = .bool zs ∧ Hid (Fr (fun _ => False) wc wd ∧ wd.cell? ⟨K, 2, none⟩ = some (.int .i64 z.group)))
    case first =>
      go_region_held3 (fun u => u.cell? ⟨p, 0, none⟩ = some (.slice A.aS t.st.length A.cS) ∧ u.cell? ⟨p, 1, none⟩ = some (.slice A.aP t.sp.length A.cP) ∧ u.cell? ⟨p, 2, none⟩ = some (.slice A.aB t.bd.length A.cB) ∧ u.cell? ⟨p, 3, none⟩ = some (.float .f64 t.off) ∧ u.cell? ⟨p, 4, none⟩ = some (.int .i64 t.bus) ∧ u.cell? ⟨p, 5, none⟩ = some (.int .i64 t.busDaily) ∧ u.cell? ⟨p, 6, none⟩ = some (.int .i64 t.busWeekly) ∧ u.cell? ⟨p, 7, none⟩ = some (.int .i64 t.hopper) ∧ u.cell? ⟨p, 8, none⟩ = some (.int .i64 t.most) ∧ u.cell? ⟨p, 9, none⟩ = some (.int .i64 t.longest) ∧ u.cell? ⟨p, 10, none⟩ = some (.int .i64 t.change) ∧ u.cell? ⟨p, 11, none⟩ = some (.int .i64 t.passback) ∧ u.cell? ⟨p, 12, none⟩ = some (.int .i64 t.delay) ∧ u.cell? ⟨p, 13, none⟩ = some (.int .i64 t.threshold) ∧ u.cell? ⟨J, 2, none⟩ = some (.int .i64 jt))
        ((refine unhide HCB _ ?_; repeat (first | (with_reducible exact Fr.refl _ _) | (with_reducible refine Fr.drew ?_) | (with_reducible refine Fr.alloc ?_ _) | (with_reducible refine Fr.trans ?_ (unhide HF2) (fun _ _ t => t)) | (with_reducible refine Fr.setN (Nat.lt_irrefl _) ?_ _ _) | refine Fr.setN (Nat.not_lt.2 (unhide HF2).size) ?_ _ _)))
        (first | (go_at_call 9; refine (unhide HST _ ((unhide HG).trans (b := wc) (by repeat (with_reducible (first | exact Fr.refl _ _ | refine Fr.drew ?_ | refine Fr.alloc ?_ _))) (fun _ _ t => t))).mono ?_; rintro e w2 ⟨rfl, hF2⟩; first | (have hN := new_cells (wc := wc) (cs := #[.int .i64 0, .int .i64 0, .int .i64 0]) (T := 35) hF2; have z0 : w2.cell? ⟨wc.heap.size, 0, none⟩ = some (.int .i64 0) := hN.cell 0; have z1 : w2.cell? ⟨wc.heap.size, 1, none⟩ = some (.int .i64 0) := hN.cell 1; have z2 : w2.cell? ⟨wc.heap.size, 2, none⟩ = some (.int .i64 0) := hN.cell 2; have zf : ∀ j, w2.frozen? ⟨wc.heap.size, j, none⟩ = false := fun j => hN.frozen j; clear hN; have HF2 := hide hF2; clear hF2) | (have hN := new_cellsD (wc := wc) (cs := #[.int .i64 0, .int .i64 0, .int .i64 0]) (T := 35) hF2; have z0 : w2.cell? ⟨wc.heap.size, 0, none⟩ = some (.int .i64 0) := hN.cell 0; have z1 : w2.cell? ⟨wc.heap.size, 1, none⟩ = some (.int .i64 0) := hN.cell 1; have z2 : w2.cell? ⟨wc.heap.size, 2, none⟩ = some (.int .i64 0) := hN.cell 2; have zf : ∀ j, w2.frozen? ⟨wc.heap.size, j, none⟩ = false := fun j => hN.frozen j; clear hN; have HF2 := hide hF2; clear hF2) | (have HF2 := hide hF2; clear hF2)))
      all_goals
        go_wp2_with fail
        go_meet
        first
          | exact ⟨w2.heap.size, by rfl, by rfl, hide ⟨(Fr.trans ((Fr.refl (fun _ => False) wc).drew) (unhide HF2) (fun _ _ t => t)).alloc _, by simp [go_sem]⟩⟩
          | exact ⟨wc.heap.size, by rfl, by rfl, hide ⟨Fr.setN (Nat.lt_irrefl _) (Fr.setN (Nat.lt_irrefl _) (Fr.setN (Nat.lt_irrefl _) (Fr.trans (((Fr.refl (fun _ => False) wc).alloc _).drew) (unhide HF2) (fun _ _ t => t)) _ _) _ _) _ _, by simp [go_sem, z2]⟩⟩
    case rest =>
      obtain ⟨K, rfl, rfl, HC2⟩ := hcut
      obtain ⟨hG2, k2⟩ := unhide HC2
      have e9 : wc.cell? ⟨p, 9, none⟩ = some (.int .i64 t.longest) := ((unhide HBW).keep hG2).cell 9
      have e10 : wc.cell? ⟨p, 10, none⟩ = some (.int .i64 t.change) := ((unhide HBW).keep hG2).cell 10
      have x5 : wc.cell? ⟨X, 5, none⟩ = some (.int .i64 time) := ((unhide HXW).keep hG2).cell 5
      have y0 : wc.cell? ⟨J, 0, none⟩ = some (.int .i64 jk) := ((unhide HJX).keep hG2).cell 0
      have y3 : wc.cell? ⟨J, 3, none⟩ = some (.int .i64 js) := ((unhide HJX).keep hG2).cell 3
      have y4 : wc.cell? ⟨J, 4, none⟩ = some (.int .i64 je) := ((unhide HJX).keep hG2).cell 4
      have HFW : Hid (Fr (fun _ => False) w wc) := hide ((unhide HG).trans hG2 (fun _ _ t => t))
      obtain ⟨hlc, hll, hlk, hlg⟩ := unhide HC
      clear HC HC2 hG2 HBW HXW HJX HG HCB HST d0 d1 d2 d3 d4 d5 d6 d7 d8 d9 d10 d11 d12 d13 j2 HN HJ hlk hlg
      go_upto_region 5 with (fail)
      cases lc <;> cases ll <;> cases lk <;> cases lg
      all_goals
        go_quiet (fail)
        go_wp2
        go_ret
        first | exact ⟨rfl, (unhide HFW).drewN _⟩ | exact ⟨rfl, (unhide HFW).drew⟩ | exact ⟨rfl, unhide HFW⟩

end Go.Proofs.Ythgkifkcckandaa

