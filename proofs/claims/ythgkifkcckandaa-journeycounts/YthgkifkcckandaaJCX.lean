/- Proved: the law JourneyCounts answers true for every tariff and every slice of taps, and its arguments read afterwards as they read before. No condition but the form's own reach. -/
import Derived.Test.YthgkifkcckandaaJNH
import Derived.Test.YthgkifkcckandaaJMX
import Derived.Test.YthgkifkcckandaaO1
import Derived.Test.YthgkifkcckandaaQO1
import Derived.Test.YthgkifkcckandaaJO1
/- The walk of JourneyCounts. -/
namespace Go.Proofs.Ythgkifkcckandaa
open Go.RowKit

theorem cnt_snoc {α : Type} (p : α → Bool) (l : List α) (i : Nat) (h : i < l.length) : (l.take (i + 1)).countP p = (l.take i).countP p + (if p l[i] then 1 else 0) := by
  rw [List.take_succ_eq_append_getElem h, List.countP_append, List.countP_singleton]
theorem cnt_le {α : Type} (p : α → Bool) (l : List α) (i : Nat) : (l.take i).countP p ≤ i := by
  have h1 := List.countP_le_length (p := p) (l := l.take i)
  rw [List.length_take] at h1
  omega

theorem busB_iff (x : Tp) : (x.kind == 3) = isBus x := by unfold isBus; by_cases h : x.kind = 3 <;> simp [h]

set_option maxRecDepth 100000 in
set_option maxHeartbeats 2000000 in
theorem counts_walk (w : World) (A : Ad) (t : Tf) (hT : TAt w A t) (ao0 : Option Addr) (cap0 : Nat) (l : List Tp) (h : CAt w ao0 (tpV l)) (hl : l.length ≤ 4398046511104) :
    Calls Try.prog 3 #[tv A t, .slice ao0 l.length cap0] w fun e w' => e = .returned (.bool true) ∧ Fr (fun _ => False) w w' := by
  have RB := hide (fun (u : World) (hu : Fr (fun _ => False) w u) => build_any u A t (hT.keep hu) ao0 cap0 l (h.keep hu) hl)
  have HST := hide (fun (u : World) (id : Int) (hf : Fr (fun _ => False) w u) => station_any u A t (hT.keep hf) id)
  have H := hide h
  have HTB := hide (TB.new w A t)
  obtain ⟨v, hv⟩ : ∃ v, v = w.alloc (.cells (tc A t) 27) := ⟨_, rfl⟩
  have hFv : Fr (fun _ => False) w v := by rw [hv]; exact (Fr.refl _ _).alloc _
  have HFV := hide hFv
  have HV := hide hv
  rw [← hv] at HTB
  obtain ⟨B, hB⟩ : ∃ B, B = w.heap.size := ⟨_, rfl⟩
  rw [← hB] at HTB
  have HBB := hide hB
  clear hFv hv hT h hB
  unfold tv at HST ⊢
  unfold tc at HV HST ⊢
  go_enter Try.func3, Try.ntmps3
  go_upto_region 1 with (fail)
  rw [← unhide HBB, ← unhide HV]
  clear HV HBB
  go_wp2_with fail
  refine (awake_anyJ v).mono ?_
  rintro e w1 ⟨rfl, hF1⟩
  have HF1 := hide ((unhide HFV).trans hF1 (fun _ _ t => t))
  have HTB1 := hide ((unhide HTB).keep hF1)
  clear hF1 HFV HTB
  have RB1 := hide (unhide RB w1 (unhide HF1))
  clear RB
  go_wp2_with (refine wpList_load_tariff rfl (.tmp 2) rfl (g := B) (A := A) (t := t) rfl (unhide HTB1) ?_)
  refine (unhide RB1).mono ?_
  rintro e w2 ⟨aj, cj, gj, rfl, hK, hg, hF2⟩
  have HF2 := hide ((unhide HF1).trans hF2 (fun _ _ t => t))
  have HTB2 := hide ((unhide HTB1).keep hF2)
  have HK := hide hK
  clear hF2 HF1 HTB1 RB1 hK hg
  by_cases he : buildE (rightE t) l = 0
  · have hjj : buildJ (tmOf t) (rightE t) l = walkedJ (tmOf t) l := by unfold buildJ; rw [if_pos he]
    rw [he, hjj]
    rw [hjj] at HK
    obtain ⟨e1, e2, _⟩ := (buildE_zero _ _).1 he
    obtain ⟨hl2, hok⟩ := (rightT_zero l).1 e2
    have hlg : 0 ≤ (tmOf t).lng := (small_of e1).longest.1
    have HL := hide (fun i (hi : i < (walkedJ (tmOf t) l).length) => jkinds hlg hok hi)
    have HCM := hide (counts_math hlg hok)
    have HLE := hide (walked_le (tmOf t) l hl2)
    have HOK := hide hok
    have HL2 := hide hl2
    clear he hjj e1 e2 hok hlg
    obtain ⟨J, hJ⟩ : ∃ J, walkedJ (tmOf t) l = J := ⟨_, rfl⟩
    rw [hJ] at HK HL HLE HCM ⊢
    clear hJ
    go_wp2_with fail
    go_loopw [8, 9, 10, 11] (fun rv ev xv iv wr => ∃ i : Nat, i ≤ l.length ∧ rv = .int .i64 ((l.take i).countP isBus : Nat) ∧ ev = .int .i64 ((l.take i).countP (isEnt (tmOf t)) : Nat) ∧ xv = .int .i64 ((l.take i).countP (isExt (tmOf t)) : Nat) ∧ iv = .int .i64 i ∧ Hid (Fr (fun _ => False) w2 wr)) (fun _ _ _ iv _ => l.length - (intOf iv).toNat)
    case atStart => exact ⟨0, Nat.zero_le _, rfl, rfl, rfl, rfl, hide (Fr.refl _ _)⟩
    case round =>
      obtain ⟨i, hi, rfl, rfl, rfl, rfl, HI⟩ := hrel
      by_cases hil : i < l.length
      · have HR := hide (cnt_snoc isBus l i hil)
        have HE := hide (cnt_snoc (isEnt (tmOf t)) l i hil)
        have HX := hide (cnt_snoc (isExt (tmOf t)) l i hil)
        have hRl := cnt_le isBus l i
        have hEl := cnt_le (isEnt (tmOf t)) l i
        have hXl := cnt_le (isExt (tmOf t)) l i
        obtain ⟨b, off, rfl, c0, c1, c2, c3, c4, c5⟩ := (((unhide H).keep (unhide HF2)).keep (unhide HI)).tp hil
        generalize (l.take i).countP isBus = R at *
        generalize (l.take i).countP (isEnt (tmOf t)) = E at *
        generalize (l.take i).countP (isExt (tmOf t)) = X at *
        obtain ⟨x, hx⟩ : ∃ x, l[i] = x := ⟨_, rfl⟩
        rw [hx] at HR HE HX c0 c1 c2 c3 c4 c5
        have HFW : Hid (Fr (fun _ => False) w wr) := hide ((unhide HF2).trans (unhide HI) (fun _ _ t => t))
        have HST1 := hide (fun (u : World) (hu : Fr (fun _ => False) w u) => unhide HST u x.place hu)
        have hT2 := (unhide HTB2).keep (unhide HI)
        have HCB : Hid (∀ u, Fr (fun _ => False) wr u → u.cell? ⟨B, 0, none⟩ = some (.slice A.aS t.st.length A.cS) ∧ u.cell? ⟨B, 1, none⟩ = some (.slice A.aP t.sp.length A.cP) ∧ u.cell? ⟨B, 2, none⟩ = some (.slice A.aB t.bd.length A.cB) ∧ u.cell? ⟨B, 3, none⟩ = some (.float .f64 t.off) ∧ u.cell? ⟨B, 4, none⟩ = some (.int .i64 t.bus) ∧ u.cell? ⟨B, 5, none⟩ = some (.int .i64 t.busDaily) ∧ u.cell? ⟨B, 6, none⟩ = some (.int .i64 t.busWeekly) ∧ u.cell? ⟨B, 7, none⟩ = some (.int .i64 t.hopper) ∧ u.cell? ⟨B, 8, none⟩ = some (.int .i64 t.most) ∧ u.cell? ⟨B, 9, none⟩ = some (.int .i64 t.longest) ∧ u.cell? ⟨B, 10, none⟩ = some (.int .i64 t.change) ∧ u.cell? ⟨B, 11, none⟩ = some (.int .i64 t.passback) ∧ u.cell? ⟨B, 12, none⟩ = some (.int .i64 t.delay) ∧ u.cell? ⟨B, 13, none⟩ = some (.int .i64 t.threshold) ∧ u.cell? ⟨b, off + i * 6 + 4, none⟩ = some (.int .i64 x.place)) := hide (fun u hf => by
          have h1 := hT2.keep hf
          exact ⟨h1.cell 0, h1.cell 1, h1.cell 2, h1.cell 3, h1.cell 4, h1.cell 5, h1.cell 6, h1.cell 7, h1.cell 8, h1.cell 9, h1.cell 10, h1.cell 11, h1.cell 12, h1.cell 13, (hf.cell (World.block_lt_of_cell? _ _ c4) (fun t => t)).trans c4⟩)
        obtain ⟨d0, d1, d2, d3, d4, d5, d6, d7, d8, d9, d10, d11, d12, d13, d14⟩ := unhide HCB wr (Fr.refl _ _)
        have hl2 := unhide HL2
        have hiI : (i : Int) < (l.length : Int) := by omega
        have hRI : (R : Int) ≤ 2000 := by omega
        have hEI : (E : Int) ≤ 2000 := by omega
        have hXI : (X : Int) ≤ 2000 := by omega
        have HIX := hide (And.intro hil (And.intro hRl (And.intro hEl (And.intro hXl hl2))))
        clear hx hT2 HK HL HCM HLE HOK HL2 c0 c1 c2 c4 c5 HST H HTB2 hRl hEl hXl hl hi hil
        obtain ⟨z, hz⟩ : ∃ z, (stationOf t x.place).getD ⟨0, 0, 0⟩ = z := ⟨_, rfl⟩
        obtain ⟨zs, hzs⟩ : ∃ zs, (stationOf t x.place).isSome = zs := ⟨_, rfl⟩
        have HKN : Hid ((tmOf t).known x.place = zs) := hide hzs
        rw [hz, hzs] at HST1
        clear hz hzs
        go_upto_region 11 with (fail)
        go_cut [12, 13] from 42 to 51 (fun v12 v13 wd => v13 = .bool zs ∧ Hid (Fr (fun _ => False) wr wd))
        case first =>
          go_region_held3 (fun u => u.cell? ⟨B, 0, none⟩ = some (.slice A.aS t.st.length A.cS) ∧ u.cell? ⟨B, 1, none⟩ = some (.slice A.aP t.sp.length A.cP) ∧ u.cell? ⟨B, 2, none⟩ = some (.slice A.aB t.bd.length A.cB) ∧ u.cell? ⟨B, 3, none⟩ = some (.float .f64 t.off) ∧ u.cell? ⟨B, 4, none⟩ = some (.int .i64 t.bus) ∧ u.cell? ⟨B, 5, none⟩ = some (.int .i64 t.busDaily) ∧ u.cell? ⟨B, 6, none⟩ = some (.int .i64 t.busWeekly) ∧ u.cell? ⟨B, 7, none⟩ = some (.int .i64 t.hopper) ∧ u.cell? ⟨B, 8, none⟩ = some (.int .i64 t.most) ∧ u.cell? ⟨B, 9, none⟩ = some (.int .i64 t.longest) ∧ u.cell? ⟨B, 10, none⟩ = some (.int .i64 t.change) ∧ u.cell? ⟨B, 11, none⟩ = some (.int .i64 t.passback) ∧ u.cell? ⟨B, 12, none⟩ = some (.int .i64 t.delay) ∧ u.cell? ⟨B, 13, none⟩ = some (.int .i64 t.threshold) ∧ u.cell? ⟨b, off + i * 6 + 4, none⟩ = some (.int .i64 x.place))
            ((refine unhide HCB _ ?_; repeat (first | (with_reducible exact Fr.refl _ _) | (with_reducible refine Fr.drew ?_) | (with_reducible refine Fr.alloc ?_ _) | (with_reducible refine Fr.trans ?_ (unhide HFS) (fun _ _ t => t)) | (with_reducible refine Fr.setN (Nat.lt_irrefl _) ?_ _ _) | refine Fr.setN (Nat.not_lt.2 (unhide HFS).size) ?_ _ _)))
            (first | (go_at_call 9; refine (unhide HST1 _ ((unhide HFW).trans (b := wr) (by repeat (with_reducible (first | exact Fr.refl _ _ | refine Fr.drew ?_ | refine Fr.alloc ?_ _))) (fun _ _ t => t))).mono ?_; rintro e ws ⟨rfl, hFS⟩; first | (have hN := new_cells (wc := wr) (cs := #[.int .i64 0, .int .i64 0, .int .i64 0]) (T := 35) hFS; have z0 : ws.cell? ⟨wr.heap.size, 0, none⟩ = some (.int .i64 0) := hN.cell 0; have z1 : ws.cell? ⟨wr.heap.size, 1, none⟩ = some (.int .i64 0) := hN.cell 1; have z2 : ws.cell? ⟨wr.heap.size, 2, none⟩ = some (.int .i64 0) := hN.cell 2; have zf : ∀ j, ws.frozen? ⟨wr.heap.size, j, none⟩ = false := fun j => hN.frozen j; clear hN; have HFS := hide hFS; clear hFS) | (have hN := new_cellsD (wc := wr) (cs := #[.int .i64 0, .int .i64 0, .int .i64 0]) (T := 35) hFS; have z0 : ws.cell? ⟨wr.heap.size, 0, none⟩ = some (.int .i64 0) := hN.cell 0; have z1 : ws.cell? ⟨wr.heap.size, 1, none⟩ = some (.int .i64 0) := hN.cell 1; have z2 : ws.cell? ⟨wr.heap.size, 2, none⟩ = some (.int .i64 0) := hN.cell 2; have zf : ∀ j, ws.frozen? ⟨wr.heap.size, j, none⟩ = false := fun j => hN.frozen j; clear hN; have HFS := hide hFS; clear hFS) | (have HFS := hide hFS; clear hFS)))
          all_goals
            go_wp2_with fail
            go_meet
            first
              | exact ⟨rfl, hide ((Fr.trans ((Fr.refl (fun _ => False) wr).drew) (unhide HFS) (fun _ _ t => t)).alloc _)⟩
              | exact ⟨rfl, hide (Fr.setN (Nat.lt_irrefl _) (Fr.setN (Nat.lt_irrefl _) (Fr.setN (Nat.lt_irrefl _) (Fr.trans (((Fr.refl (fun _ => False) wr).alloc _).drew) (unhide HFS) (fun _ _ t => t)) _ _) _ _) _ _)⟩
        case rest =>
          obtain ⟨rfl, HFd⟩ := hcut
          have x3 : wc.cell? ⟨b, off + i * 6 + 3, none⟩ = some (.int .i64 x.kind) := ((unhide HFd).cell (World.block_lt_of_cell? _ _ c3) (fun t => t)).trans c3
          clear HCB HST1 HFW c3 d0 d1 d2 d3 d4 d5 d6 d7 d8 d9 d10 d11 d12 d13 d14
          by_cases k3 : x.kind = 3
          · have e1 : isBus x = true := by simp [isBus, k3]
            have HR1 : Hid ((l.take (i + 1)).countP isBus = R + 1) := hide (by rw [unhide HR, e1]; rfl)
            have HE1 : Hid ((l.take (i + 1)).countP (isEnt (tmOf t)) = E) := hide (by rw [unhide HE]; simp [isEnt, e1])
            have HX1 : Hid ((l.take (i + 1)).countP (isExt (tmOf t)) = X) := hide (by rw [unhide HX]; simp [isExt, e1])
            rw [k3] at x3
            clear HR HE HX e1 k3 HKN
            go_wp2
            exact ⟨⟨i + 1, by have := (unhide HIX).1; omega, by rw [unhide HR1]; go_num, by rw [unhide HE1], by rw [unhide HX1], by go_num, hide ((unhide HI).trans (unhide HFd) (fun _ _ t => t))⟩, by have := (unhide HIX).1; simp [intOf]; omega⟩
          · have e1 : isBus x = false := by simp [isBus, k3]
            have k3b : (x.kind == 3) = false := by simp [k3]
            have HR1 : Hid ((l.take (i + 1)).countP isBus = R) := hide (by rw [unhide HR, e1]; rfl)
            cases zs with
            | false =>
              have HE1 : Hid ((l.take (i + 1)).countP (isEnt (tmOf t)) = E) := hide (by rw [unhide HE]; simp [isEnt, unhide HKN])
              have HX1 : Hid ((l.take (i + 1)).countP (isExt (tmOf t)) = X) := hide (by rw [unhide HX]; simp [isExt, unhide HKN])
              clear HR HE HX e1 k3 HKN
              go_wp2
              exact ⟨⟨i + 1, by have := (unhide HIX).1; omega, by rw [unhide HR1], by rw [unhide HE1], by rw [unhide HX1], by go_num, hide ((unhide HI).trans (unhide HFd) (fun _ _ t => t))⟩, by have := (unhide HIX).1; simp [intOf]; omega⟩
            | true =>
              by_cases k1 : x.kind = 1
              · have HE1 : Hid ((l.take (i + 1)).countP (isEnt (tmOf t)) = E + 1) := hide (by rw [unhide HE]; simp [isEnt, unhide HKN, e1, k1])
                have HX1 : Hid ((l.take (i + 1)).countP (isExt (tmOf t)) = X) := hide (by rw [unhide HX]; simp [isExt, unhide HKN, k1])
                rw [k1] at x3
                clear HR HE HX e1 k3 k3b k1 HKN
                go_wp2
                exact ⟨⟨i + 1, by have := (unhide HIX).1; omega, by rw [unhide HR1], by rw [unhide HE1]; go_num, by rw [unhide HX1], by go_num, hide ((unhide HI).trans (unhide HFd) (fun _ _ t => t))⟩, by have := (unhide HIX).1; simp [intOf]; omega⟩
              · have HE1 : Hid ((l.take (i + 1)).countP (isEnt (tmOf t)) = E) := hide (by rw [unhide HE]; simp [isEnt, k1])
                have HX1 : Hid ((l.take (i + 1)).countP (isExt (tmOf t)) = X + 1) := hide (by rw [unhide HX]; simp [isExt, unhide HKN, e1, k1])
                have k1b : (x.kind == 1) = false := by simp [k1]
                clear HR HE HX e1 k3 k1 HKN
                go_wp2
                exact ⟨⟨i + 1, by have := (unhide HIX).1; omega, by rw [unhide HR1], by rw [unhide HE1], by rw [unhide HX1]; go_num, by go_num, hide ((unhide HI).trans (unhide HFd) (fun _ _ t => t))⟩, by have := (unhide HIX).1; simp [intOf]; omega⟩
      · obtain rfl : i = l.length := by omega
        obtain ⟨m1, m2, m3, m4⟩ := unhide HCM
        have hR0 := List.countP_le_length (p := isBus) (l := l)
        have hE0 := List.countP_le_length (p := isEnt (tmOf t)) (l := l)
        have hX0 := List.countP_le_length (p := isExt (tmOf t)) (l := l)
        have hl2 := unhide HL2
        rw [List.take_length]
        have HM := hide (And.intro m1 (And.intro m2 (And.intro m3 m4)))
        have HB3 := hide (And.intro hR0 (And.intro hE0 (And.intro hX0 hl2)))
        generalize l.countP isBus = R at *
        generalize l.countP (isEnt (tmOf t)) = E at *
        generalize l.countP (isExt (tmOf t)) = X at *
        have hJ2 := unhide HLE
        clear HST HOK HL2 m1 m2 m3 m4 hR0 hE0 hX0 HCM hl2
        obtain ⟨u, hu⟩ : ∃ u, u = wr.alloc (.cells #[.int .i64 0, .int .i64 0, .int .i64 0, .int .i64 0, .int .i64 0] 40) := ⟨_, rfl⟩
        have hBu : Bx u wr.heap.size #[.int .i64 0, .int .i64 0, .int .i64 0, .int .i64 0, .int .i64 0] 40 := by rw [hu]; exact Bx.new _ _ _
        have hFu : Fr (fun _ => False) wr u := by rw [hu]; exact (Fr.refl _ _).alloc _
        have HU := hide hu
        have HFU : Hid (Fr (fun _ => False) w2 u) := hide ((unhide HI).trans hFu (fun _ _ t => t))
        have HM2 : Hid (w2.heap.size ≤ wr.heap.size) := hide (unhide HI).size
        obtain ⟨M, hMM⟩ : ∃ M, M = wr.heap.size := ⟨_, rfl⟩
        rw [← hMM] at hBu HM2
        have HBU := hide hBu
        have HMM := hide hMM
        clear hu hBu hFu hMM
        go_upto_region 19 with (fail)
        rw [← unhide HMM, ← unhide HU]
        clear HU HMM HI
        go_wp2_with fail
        go_loopw [15] (fun iv wx => ∃ k : Nat, k ≤ J.length ∧ iv = .int .i64 k ∧ Hid (Bx wx M #[.int .i64 0, .int .i64 (cntJ 1 (J.take k) : Nat), .int .i64 (cntJ 2 (J.take k) : Nat), .int .i64 (cntJ 3 (J.take k) : Nat), .int .i64 (cntJ 4 (J.take k) : Nat)] 40 ∧ Fr (fun _ => False) w2 wx)) (fun iv _ => J.length - (intOf iv).toNat)
        case atStart => exact ⟨0, Nat.zero_le _, rfl, hide ⟨unhide HBU, unhide HFU⟩⟩
        case round =>
          obtain ⟨k, hk, rfl, HI⟩ := hrel
          obtain ⟨hBx, hFx⟩ := unhide HI
          have HC1 := hide (cnt_snoc (isK 1) J k)
          have HC2 := hide (cnt_snoc (isK 2) J k)
          have HC3 := hide (cnt_snoc (isK 3) J k)
          have HC4 := hide (cnt_snoc (isK 4) J k)
          have l1 := cnt_le (isK 1) J k
          have l2 := cnt_le (isK 2) J k
          have l3 := cnt_le (isK 3) J k
          have l4 := cnt_le (isK 4) J k
          by_cases hkl : k < J.length
          · obtain ⟨hk1, hk4⟩ := unhide HL k hkl
            obtain ⟨jj, hjj⟩ : ∃ jj, J[k] = jj := ⟨_, rfl⟩
            have hgj : J[k]? = some jj := by rw [List.getElem?_eq_getElem hkl, hjj]
            have HC1 := hide (unhide HC1 hkl)
            have HC2 := hide (unhide HC2 hkl)
            have HC3 := hide (unhide HC3 hkl)
            have HC4 := hide (unhide HC4 hkl)
            rw [hjj] at hk1 hk4 HC1 HC2 HC3 HC4
            obtain ⟨haj, hcj, hcell⟩ := jV_cell ((unhide HK).keep (by omega) hFx) hgj
            subst haj
            have c0 : wr.cell? ⟨gj, k * 6, none⟩ = some (.int .i64 jj.kind) := hcell 0 (by omega) _ rfl
            have a1 : wr.cell? ⟨M, 1, none⟩ = some (.int .i64 (cntJ 1 (J.take k) : Nat)) := hBx.cell 1
            have a2 : wr.cell? ⟨M, 2, none⟩ = some (.int .i64 (cntJ 2 (J.take k) : Nat)) := hBx.cell 2
            have a3 : wr.cell? ⟨M, 3, none⟩ = some (.int .i64 (cntJ 3 (J.take k) : Nat)) := hBx.cell 3
            have a4 : wr.cell? ⟨M, 4, none⟩ = some (.int .i64 (cntJ 4 (J.take k) : Nat)) := hBx.cell 4
            have af : ∀ q, wr.frozen? ⟨M, q, none⟩ = false := fun q => hBx.frozen q
            change Hid (cntJ 1 (J.take (k + 1)) = cntJ 1 (J.take k) + _) at HC1
            change Hid (cntJ 2 (J.take (k + 1)) = cntJ 2 (J.take k) + _) at HC2
            change Hid (cntJ 3 (J.take (k + 1)) = cntJ 3 (J.take k) + _) at HC3
            change Hid (cntJ 4 (J.take (k + 1)) = cntJ 4 (J.take k) + _) at HC4
            change cntJ 1 (J.take k) ≤ k at l1
            change cntJ 2 (J.take k) ≤ k at l2
            change cntJ 3 (J.take k) ≤ k at l3
            change cntJ 4 (J.take k) ≤ k at l4
            generalize cntJ 1 (J.take k) = n1 at *
            generalize cntJ 2 (J.take k) = n2 at *
            generalize cntJ 3 (J.take k) = n3 at *
            generalize cntJ 4 (J.take k) = n4 at *
            have kI : (k : Int) < (J.length : Int) := by omega
            have i1 : (n1 : Int) ≤ 4001 := by omega
            have i2 : (n2 : Int) ≤ 4001 := by omega
            have i3 : (n3 : Int) ≤ 4001 := by omega
            have i4 : (n4 : Int) ≤ 4001 := by omega
            have HBX := hide hBx
            have HFX := hide hFx
            have HKL := hide hkl
            have HMW := hide (Fr.setN (a := w2) (B := M) (by have := unhide HM2; omega) hFx)
            clear hBx hFx hcell hgj hjj l1 l2 l3 l4 HI HM HB3 HL HK H HTB2 HBU HFU HLE hcj hk hkl
            have hcs : jj.kind = 1 ∨ jj.kind = 2 ∨ jj.kind = 3 ∨ jj.kind = 4 := by omega
            clear hk1 hk4
            rcases hcs with hq | hq | hq | hq
            · have HD1 : Hid (cntJ 1 (J.take (k + 1)) = n1 + 1) := hide (by rw [unhide HC1]; simp [isK, hq])
              have HD2 : Hid (cntJ 2 (J.take (k + 1)) = n2) := hide (by rw [unhide HC2]; simp [isK, hq])
              have HD3 : Hid (cntJ 3 (J.take (k + 1)) = n3) := hide (by rw [unhide HC3]; simp [isK, hq])
              have HD4 : Hid (cntJ 4 (J.take (k + 1)) = n4) := hide (by rw [unhide HC4]; simp [isK, hq])
              have HBQ : Hid (Bx (wr.setCell ⟨M, 1, none⟩ (.int .i64 ((n1 : Int) + 1))) M #[.int .i64 0, .int .i64 (cntJ 1 (J.take (k + 1)) : Nat), .int .i64 (cntJ 2 (J.take (k + 1)) : Nat), .int .i64 (cntJ 3 (J.take (k + 1)) : Nat), .int .i64 (cntJ 4 (J.take (k + 1)) : Nat)] 40) := hide (by
                rw [unhide HD1, unhide HD2, unhide HD3, unhide HD4]
                have := (unhide HBX).setCell 1 (.int .i64 ((n1 : Int) + 1))
                simpa using this)
              rw [hq] at c0
              clear hq HC1 HC2 HC3 HC4 HD1 HD2 HD3 HD4 HBX
              go_wp2
              exact ⟨⟨k + 1, by have := unhide HKL; omega, by go_num, hide ⟨by first | exact unhide HBQ | (have := unhide HBQ; simpa using this), unhide HMW _ _⟩⟩, by have := unhide HKL; simp [intOf]; omega⟩
            · have HD2 : Hid (cntJ 2 (J.take (k + 1)) = n2 + 1) := hide (by rw [unhide HC2]; simp [isK, hq])
              have HD1 : Hid (cntJ 1 (J.take (k + 1)) = n1) := hide (by rw [unhide HC1]; simp [isK, hq])
              have HD3 : Hid (cntJ 3 (J.take (k + 1)) = n3) := hide (by rw [unhide HC3]; simp [isK, hq])
              have HD4 : Hid (cntJ 4 (J.take (k + 1)) = n4) := hide (by rw [unhide HC4]; simp [isK, hq])
              have HBQ : Hid (Bx (wr.setCell ⟨M, 2, none⟩ (.int .i64 ((n2 : Int) + 1))) M #[.int .i64 0, .int .i64 (cntJ 1 (J.take (k + 1)) : Nat), .int .i64 (cntJ 2 (J.take (k + 1)) : Nat), .int .i64 (cntJ 3 (J.take (k + 1)) : Nat), .int .i64 (cntJ 4 (J.take (k + 1)) : Nat)] 40) := hide (by
                rw [unhide HD1, unhide HD2, unhide HD3, unhide HD4]
                have := (unhide HBX).setCell 2 (.int .i64 ((n2 : Int) + 1))
                simpa using this)
              rw [hq] at c0
              clear hq HC1 HC2 HC3 HC4 HD1 HD2 HD3 HD4 HBX
              go_wp2
              exact ⟨⟨k + 1, by have := unhide HKL; omega, by go_num, hide ⟨by first | exact unhide HBQ | (have := unhide HBQ; simpa using this), unhide HMW _ _⟩⟩, by have := unhide HKL; simp [intOf]; omega⟩
            · have HD3 : Hid (cntJ 3 (J.take (k + 1)) = n3 + 1) := hide (by rw [unhide HC3]; simp [isK, hq])
              have HD1 : Hid (cntJ 1 (J.take (k + 1)) = n1) := hide (by rw [unhide HC1]; simp [isK, hq])
              have HD2 : Hid (cntJ 2 (J.take (k + 1)) = n2) := hide (by rw [unhide HC2]; simp [isK, hq])
              have HD4 : Hid (cntJ 4 (J.take (k + 1)) = n4) := hide (by rw [unhide HC4]; simp [isK, hq])
              have HBQ : Hid (Bx (wr.setCell ⟨M, 3, none⟩ (.int .i64 ((n3 : Int) + 1))) M #[.int .i64 0, .int .i64 (cntJ 1 (J.take (k + 1)) : Nat), .int .i64 (cntJ 2 (J.take (k + 1)) : Nat), .int .i64 (cntJ 3 (J.take (k + 1)) : Nat), .int .i64 (cntJ 4 (J.take (k + 1)) : Nat)] 40) := hide (by
                rw [unhide HD1, unhide HD2, unhide HD3, unhide HD4]
                have := (unhide HBX).setCell 3 (.int .i64 ((n3 : Int) + 1))
                simpa using this)
              rw [hq] at c0
              clear hq HC1 HC2 HC3 HC4 HD1 HD2 HD3 HD4 HBX
              go_wp2
              exact ⟨⟨k + 1, by have := unhide HKL; omega, by go_num, hide ⟨by first | exact unhide HBQ | (have := unhide HBQ; simpa using this), unhide HMW _ _⟩⟩, by have := unhide HKL; simp [intOf]; omega⟩
            · have HD4 : Hid (cntJ 4 (J.take (k + 1)) = n4 + 1) := hide (by rw [unhide HC4]; simp [isK, hq])
              have HD1 : Hid (cntJ 1 (J.take (k + 1)) = n1) := hide (by rw [unhide HC1]; simp [isK, hq])
              have HD2 : Hid (cntJ 2 (J.take (k + 1)) = n2) := hide (by rw [unhide HC2]; simp [isK, hq])
              have HD3 : Hid (cntJ 3 (J.take (k + 1)) = n3) := hide (by rw [unhide HC3]; simp [isK, hq])
              have HBQ : Hid (Bx (wr.setCell ⟨M, 4, none⟩ (.int .i64 ((n4 : Int) + 1))) M #[.int .i64 0, .int .i64 (cntJ 1 (J.take (k + 1)) : Nat), .int .i64 (cntJ 2 (J.take (k + 1)) : Nat), .int .i64 (cntJ 3 (J.take (k + 1)) : Nat), .int .i64 (cntJ 4 (J.take (k + 1)) : Nat)] 40) := hide (by
                rw [unhide HD1, unhide HD2, unhide HD3, unhide HD4]
                have := (unhide HBX).setCell 4 (.int .i64 ((n4 : Int) + 1))
                simpa using this)
              rw [hq] at c0
              clear hq HC1 HC2 HC3 HC4 HD1 HD2 HD3 HD4 HBX
              go_wp2
              exact ⟨⟨k + 1, by have := unhide HKL; omega, by go_num, hide ⟨by first | exact unhide HBQ | (have := unhide HBQ; simpa using this), unhide HMW _ _⟩⟩, by have := unhide HKL; simp [intOf]; omega⟩
          · obtain rfl : k = J.length := by omega
            have c0 : wr.cell? ⟨M, 0, none⟩ = some (.int .i64 0) := hBx.cell 0
            have a1 : wr.cell? ⟨M, 1, none⟩ = some (.int .i64 (cntJ 1 (J.take J.length) : Nat)) := hBx.cell 1
            have a2 : wr.cell? ⟨M, 2, none⟩ = some (.int .i64 (cntJ 2 (J.take J.length) : Nat)) := hBx.cell 2
            have a3 : wr.cell? ⟨M, 3, none⟩ = some (.int .i64 (cntJ 3 (J.take J.length) : Nat)) := hBx.cell 3
            have a4 : wr.cell? ⟨M, 4, none⟩ = some (.int .i64 (cntJ 4 (J.take J.length) : Nat)) := hBx.cell 4
            change cntJ 1 (J.take J.length) ≤ _ at l1
            change cntJ 2 (J.take J.length) ≤ _ at l2
            change cntJ 3 (J.take J.length) ≤ _ at l3
            change cntJ 4 (J.take J.length) ≤ _ at l4
            rw [List.take_length] at a1 a2 a3 a4 l1 l2 l3 l4
            obtain ⟨m1, m2, m3, m4⟩ := unhide HM
            obtain ⟨b1, b2, b3, b4⟩ := unhide HB3
            generalize cntJ 1 J = n1 at *
            generalize cntJ 2 J = n2 at *
            generalize cntJ 3 J = n3 at *
            generalize cntJ 4 J = n4 at *
            subst m1
            have f1 : ((R : Int) == (R : Int)) = true := by simp
            have w1 : IntKind.i64.wrap ((E : Int) - (X : Int)) = (E : Int) - (X : Int) := by rw [IntKind.wrap_i64]; omega
            have w2' : IntKind.i64.wrap ((n2 : Int) - (n3 : Int)) = (n2 : Int) - (n3 : Int) := by rw [IntKind.wrap_i64]; omega
            have f2 : ((E : Int) - (X : Int) == (n2 : Int) - (n3 : Int)) = true := by rw [beq_iff_eq]; omega
            have w3 : IntKind.i64.wrap ((n1 : Int) + (n2 : Int)) = (n1 : Int) + (n2 : Int) := by rw [IntKind.wrap_i64]; omega
            have w4 : IntKind.i64.wrap ((n1 : Int) + (n3 : Int)) = (n1 : Int) + (n3 : Int) := by rw [IntKind.wrap_i64]; omega
            have f3 : decide ((n1 : Int) + (n2 : Int) ≤ (E : Int)) = true := by rw [decide_eq_true_eq]; omega
            have f4 : decide ((n1 : Int) + (n3 : Int) ≤ (X : Int)) = true := by rw [decide_eq_true_eq]; omega
            have HFZ := hide ((unhide HF2).trans hFx (fun _ _ t => t))
            clear hBx hFx HI HC1 HC2 HC3 HC4 HM HB3 HL HK H HTB2 HBU HFU HLE hkl hk l1 l2 l3 l4 b1 b2 b3 b4 m2 m3 m4
            go_wp2
            go_ret
            exact ⟨rfl, unhide HFZ⟩
  · have hb2 : (buildE (rightE t) l == 0) = false := by simp [he]
    have hb3 : (buildE (rightE t) l != 0) = true := by simp [he]
    have hj0 : buildJ (tmOf t) (rightE t) l = [] := by unfold buildJ; rw [if_neg he]
    rw [hj0]
    simp only [List.length_nil]
    generalize buildE (rightE t) l = ee at *
    clear HK HTB2 H HST hj0
    go_wp2
    go_ret
    exact ⟨rfl, unhide HF2⟩

end Go.Proofs.Ythgkifkcckandaa

namespace Go.Proofs.Ythgkifkcckandaa
open Go.ChangeShapes Go.WideShapes Go.ChangeAt Go.RowKit Go.Deep

namespace journeyCounts

set_option maxRecDepth 100000 in
theorem lifted (os : Os) (started : os.Started) (H : Type) (enc : TypeId × Value → H) :
    ReturnsInHanded {} Try.checked os 3 .any (Rows.journeyCountsSpec.pre6 enc Try.prog Try.f3 Rows.journeyCountsRow.domain false) (Rows.journeyCountsSpec.post enc Try.prog Try.f3 false true false false) := by
  refine returnsInHanded_of_change_sized (C := Try.checked) own started (by kernel_rfl) Try.func3
    (ChangeSpec.witness6 (enc := enc) (C := Try.checked) false ⟨#[], #[.agg #[.slice none 0 0, .slice none 0 0, .slice none 0 0, .float .f64 0, .int .i64 0, .int .i64 0, .int .i64 0, .int .i64 0, .int .i64 0, .int .i64 0, .int .i64 0, .int .i64 0, .int .i64 0, .int .i64 0], .slice none 0 0], []⟩ 8 (by kernel_rfl) (by kernel_rfl) (by kernel_rfl) (by kernel_rfl)) ?_
  intro W base args ds gs before hval0 hW hcnd hsz0 _
  have hsz : (DataW.weightsEach Try.prog (Try.f3.params.toList ++ Rows.journeyCountsSpec.plain.varTypes Try.prog) (ds ++ gs)).all (· ≤ reachBytes) = true := hsz0
  have hval : ∀ (j : Nat) t v, Try.f3.params[j]? = some t → args[j]? = some v → Value.okWide Try.prog W .any base t v := hval0
  have hW' := hW
  obtain ⟨p, q, hA0, hV, rfl, hfz, hnd⟩ := hW
  have hA : DataW.TrodAll enc Try.prog W 0 (fun _ => true) true Try.f3.params.toList args.toList ds p := hA0
  rw [Try.params3] at hA hval hsz
  obtain ⟨v0, vs0, d0, ds0, p0, q0, hargs, rfl, rfl, h0, r0⟩ := trodAll_cons hA
  obtain ⟨v1, vs1, d1, ds1, p1, q1, rfl, rfl, rfl, h1, r1⟩ := trodAll_cons r0
  obtain ⟨rfl, rfl, rfl⟩ := trodAll_nil r1
  obtain rfl : args = #[v0, v1] := by cases args; simp_all
  obtain ⟨rfl, rfl⟩ := trodVars_none hV
  have k0 := h0
  have lt0 : ∀ x ∈ p0, x.block < W.heap.size := by obtain ⟨m, hm⟩ := k0; exact DataW.trod_lt m _ _ _ hm
  obtain ⟨A0, t0, rfl, hT0⟩ := open_arg (j := 0) (okWide_struct Try.underlying27 (hval 0 27 v0 rfl rfl)) h0 hsz rfl rfl
  have k1 := h1
  have lt1 : ∀ x ∈ p1, x.block < W.heap.size := by obtain ⟨m, hm⟩ := k1; exact DataW.trod_lt m _ _ _ hm
  obtain ⟨a1, c1, l1, rfl, hb1, hc1, hn1⟩ := arg_taps (j := 1) (okWide_slice Try.underlying28 (hval 1 28 v1 rfl rfl)) h1 hsz rfl rfl
  clear hA0 hval0
  refine (counts_walk W A0 t0 hT0 a1 c1 l1 hb1 (by omega)).mono fun e W' ⟨he, hfr⟩ => ?_
  subst he
  have bel : Below W.heap.size W W' := hfr.below (Nat.le_refl _) (fun k t => t.elim)
  exact ⟨_, rfl, _, _, _, [], _, [], hW', trodAll_mk1 (shut_bool Try.underlying4 _), (trodAll_cons_mk (Below.trod laidOut (by kernel_rfl) (of_decide_eq_true (by kernel_rfl)) k0 bel lt0) (trodAll_cons_mk (Below.trod laidOut (by kernel_rfl) (of_decide_eq_true (by kernel_rfl)) k1 bel lt1) trodAll_mk0)), rfl, bel.frame _, fun h => by cases h⟩

theorem over : Rows.journeyCountsRow.holds Try.pinned (OpenSpec.ofChange Rows.journeyCountsSpec) :=
  OpenClaim.holds_of_wide 3 Try.f3 rfl rfl rfl rfl rfl rfl rfl ⟨rfl, rfl, rfl, rfl, rfl⟩ rfl rfl rfl rfl rfl (by kernel_rfl) Try.func3 (by kernel_rfl)
    (of_decide_eq_true (by kernel_rfl)) (by unfold Func.isWrapper; first | (rw [if_pos (by decide +kernel)]; kernel_rfl) | (rw [if_neg (by decide +kernel)]; exact ⟨rfl, rfl⟩))
    (fun os started H enc _ => lifted os started H enc)

end journeyCounts

/-- THE STATEMENT. -/
theorem journeyCounts_holds : Rows.JourneyCountsSaid := journeyCounts.over
#print axioms journeyCounts_holds
end Go.Proofs.Ythgkifkcckandaa

