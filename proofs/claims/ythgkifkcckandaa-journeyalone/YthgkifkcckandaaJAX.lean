/- Proved: the law JourneyAlone answers true for every tariff and every slice of taps, and its arguments read afterwards as they read before. No condition but the form's own reach. -/
import Derived.Test.YthgkifkcckandaaJN8
import Derived.Test.YthgkifkcckandaaJNH
import Derived.Test.YthgkifkcckandaaJMX
import Derived.Test.YthgkifkcckandaaO1
import Derived.Test.YthgkifkcckandaaQO1
import Derived.Test.YthgkifkcckandaaJO1
/- Rows of journeys compared: the same. -/
namespace Go.Proofs.Ythgkifkcckandaa
open Go.RowKit

/-- The document's Same of two rows that hold the same journeys. -/
theorem same_any (w : World) (ao bo : Option Addr) (ac bc ga gb : Nat) (l : List Jn) (ha : KRow w ao ac ga 6 (jV l)) (hb : KRow w bo bc gb 6 (jV l)) (hl : l.length ≤ 100000) :
    Calls Try.prog 10 #[.slice ao l.length ac, .slice bo l.length bc] w fun e w' => e = .returned (.bool true) ∧ Fr (fun _ => False) w w' := by
  have q1 := egJ
  have q2 := eqJ
  have HA := hide ha
  have HB := hide hb
  have hself : ((l.length : Int) != (l.length : Int)) = false := by simp
  clear ha hb
  go_enter Try.func10, Try.ntmps10
  go_wp2
  go_loopw [5] (fun iv wr => ∃ i : Nat, i ≤ l.length ∧ iv = .int .i64 i ∧ Hid (Fr (fun _ => False) w wr)) (fun iv _ => l.length - (intOf iv).toNat)
  case atStart => exact ⟨0, Nat.zero_le _, rfl, hide (Fr.refl _ _)⟩
  case round =>
    obtain ⟨i, hi, rfl, HI⟩ := hrel
    by_cases hil : i < l.length
    · obtain ⟨j, hj⟩ : ∃ j, l[i] = j := ⟨_, rfl⟩
      have hgj : l[i]? = some j := by rw [List.getElem?_eq_getElem hil, hj]
      obtain ⟨hao, _, ha⟩ := jV_cell ((unhide HA).keep (by omega) (unhide HI)) hgj
      obtain ⟨hbo, _, hb⟩ := jV_cell ((unhide HB).keep (by omega) (unhide HI)) hgj
      subst hao hbo
      obtain ⟨k, f, o, s, e, r⟩ := j
      have a0 : wr.cell? ⟨ga, i * 6, none⟩ = some (.int .i64 k) := ha 0 (by omega) _ rfl
      have a1 : wr.cell? ⟨ga, i * 6 + 1, none⟩ = some (.int .i64 f) := ha 1 (by omega) _ rfl
      have a2 : wr.cell? ⟨ga, i * 6 + 2, none⟩ = some (.int .i64 o) := ha 2 (by omega) _ rfl
      have a3 : wr.cell? ⟨ga, i * 6 + 3, none⟩ = some (.int .i64 s) := ha 3 (by omega) _ rfl
      have a4 : wr.cell? ⟨ga, i * 6 + 4, none⟩ = some (.int .i64 e) := ha 4 (by omega) _ rfl
      have a5 : wr.cell? ⟨ga, i * 6 + 5, none⟩ = some (.bool r) := ha 5 (by omega) _ rfl
      have b0 : wr.cell? ⟨gb, i * 6, none⟩ = some (.int .i64 k) := hb 0 (by omega) _ rfl
      have b1 : wr.cell? ⟨gb, i * 6 + 1, none⟩ = some (.int .i64 f) := hb 1 (by omega) _ rfl
      have b2 : wr.cell? ⟨gb, i * 6 + 2, none⟩ = some (.int .i64 o) := hb 2 (by omega) _ rfl
      have b3 : wr.cell? ⟨gb, i * 6 + 3, none⟩ = some (.int .i64 s) := hb 3 (by omega) _ rfl
      have b4 : wr.cell? ⟨gb, i * 6 + 4, none⟩ = some (.int .i64 e) := hb 4 (by omega) _ rfl
      have b5 : wr.cell? ⟨gb, i * 6 + 5, none⟩ = some (.bool r) := hb 5 (by omega) _ rfl
      have hlt : (i : Int) < (l.length : Int) := by omega
      clear ha hb hj hgj hself
      go_wp2_with fail
      go_region_held3 (fun u => u.cell? ⟨ga, i * 6, none⟩ = some (.int .i64 k) ∧ u.cell? ⟨ga, i * 6 + 1, none⟩ = some (.int .i64 f) ∧ u.cell? ⟨ga, i * 6 + 2, none⟩ = some (.int .i64 o) ∧ u.cell? ⟨ga, i * 6 + 3, none⟩ = some (.int .i64 s) ∧ u.cell? ⟨ga, i * 6 + 4, none⟩ = some (.int .i64 e) ∧ u.cell? ⟨ga, i * 6 + 5, none⟩ = some (.bool r) ∧ u.cell? ⟨gb, i * 6, none⟩ = some (.int .i64 k) ∧ u.cell? ⟨gb, i * 6 + 1, none⟩ = some (.int .i64 f) ∧ u.cell? ⟨gb, i * 6 + 2, none⟩ = some (.int .i64 o) ∧ u.cell? ⟨gb, i * 6 + 3, none⟩ = some (.int .i64 s) ∧ u.cell? ⟨gb, i * 6 + 4, none⟩ = some (.int .i64 e) ∧ u.cell? ⟨gb, i * 6 + 5, none⟩ = some (.bool r)) (go_keep) (fail)
      go_wp2
      exact ⟨⟨i + 1, by omega, by go_num, hide (by with_reducible (first | exact unhide HI | exact (unhide HI).drew | exact (unhide HI).drewN _))⟩, by simp [intOf]; omega⟩
    · obtain rfl : i = l.length := by omega
      clear hself
      go_wp2
      go_ret
      exact ⟨rfl, unhide HI⟩

end Go.Proofs.Ythgkifkcckandaa

/- The walk of JourneyAlone. -/
namespace Go.Proofs.Ythgkifkcckandaa
open Go.RowKit

theorem tpV_snoc (l : List Tp) (x : Tp) : tpV (l ++ [x]) = tpV l ++ tpL x := by simp [tpV]
theorem tpL_one (x : Tp) : ∀ u ∈ tpL x, u.oneCell' = true := fun u hu => by simp only [tpL, List.mem_cons, List.not_mem_nil, or_false] at hu; rcases hu with rfl | rfl | rfl | rfl | rfl | rfl <;> rfl

theorem busA_iff (x : Tp) : (x.kind == 3) = isBus x := by unfold isBus; by_cases h : x.kind = 3 <;> simp [h]

/-- A row of taps of one's own, as it grows. -/
structure TL (M : Nat) (w0 w : World) (ao : Option Addr) (cap g : Nat) (L : List Tp) : Prop where
  row : KRow w ao cap g 6 (tpV L)
  new : 0 < cap → M ≤ g
  fr : Fr (fun _ => False) w0 w

theorem TL.app {M : Nat} {w0 w w2 w3 : World} {ao ao' : Option Addr} {cap g cap' g' : Nat} {L : List Tp} (h : TL M w0 w ao cap g L) (h0 : w0.heap.size = M) (hf : Fr (fun _ => False) w w2) (x : Tp) (hr : KRow w3 ao' cap' g' 6 (tpV L ++ tpL x)) (hg : Grew w2 g cap w3 g' cap') : TL M w0 w3 ao' cap' g' (L ++ [x]) := by
  refine ⟨by rw [tpV_snoc]; exact hr, fun hc => ?_, ?_⟩
  · rcases hg with ⟨e, e2, _⟩ | ⟨e, _, _⟩
    · rw [e]; exact h.new (by omega)
    · have := h.fr.size; have := hf.size; omega
  · rcases hg with ⟨_, _, f⟩ | ⟨_, _, f⟩
    · exact (h.fr.trans hf (fun _ _ t => t)).trans f (fun i hi t => by have := h.new t.2; omega)
    · exact (h.fr.trans hf (fun _ _ t => t)).trans f (fun _ _ t => t)

set_option maxRecDepth 100000 in
set_option maxHeartbeats 2000000 in
theorem alone_walk (w : World) (A : Ad) (t : Tf) (hT : TAt w A t) (ao0 : Option Addr) (cap0 : Nat) (l : List Tp) (h : CAt w ao0 (tpV l)) (hl : l.length ≤ 4398046511104) :
    Calls Try.prog 5 #[tv A t, .slice ao0 l.length cap0] w fun e w' => e = .returned (.bool true) ∧ Fr (fun _ => False) w w' := by
  have RB := hide (fun (u : World) (hu : Fr (fun _ => False) w u) => build_any u A t (hT.keep hu) ao0 cap0 l (h.keep hu) hl)
  have RB2 := hide (fun (u : World) (hu : Fr (fun _ => False) w u) (bo : Option Addr) (bc : Nat) (m : List Tp) (hm : CAt u bo (tpV m)) (hml : m.length ≤ 4398046511104) => build_any u A t (hT.keep hu) bo bc m hm hml)
  have HST := hide (fun (u : World) (id : Int) (hf : Fr (fun _ => False) w u) => station_any u A t (hT.keep hf) id)
  have H := hide h
  have HTB := hide (TB.new w A t)
  obtain ⟨v, hv⟩ : ∃ v, v = w.alloc (.cells (tc A t) 27) := ⟨_, rfl⟩
  have hFv : Fr (fun _ => False) w v := by rw [hv]; exact (Fr.refl _ _).alloc _
  have HFV := hide hFv
  have HV := hide hv
  rw [← hv] at HTB
  obtain ⟨B, hB⟩ : ∃ B, B = w.heap.size := ⟨_, rfl⟩
  rw [← hB] at HTB
  have HBB := hide hB
  clear hFv hv hT h hB
  unfold tv at HST RB2 ⊢
  unfold tc at HV HST RB2 ⊢
  go_enter Try.func5, Try.ntmps5
  go_upto_region 1 with (fail)
  rw [← unhide HBB, ← unhide HV]
  clear HV HBB
  go_wp2_with fail
  refine (awake_anyJ v).mono ?_
  rintro e w1 ⟨rfl, hF1⟩
  have HF1 := hide ((unhide HFV).trans hF1 (fun _ _ t => t))
  have HTB1 := hide ((unhide HTB).keep hF1)
  clear hF1 HFV HTB
  have RB1 := hide (unhide RB w1 (unhide HF1))
  clear RB
  go_wp2_with (refine wpList_load_tariff rfl (.tmp 2) rfl (g := B) (A := A) (t := t) rfl (unhide HTB1) ?_)
  refine (unhide RB1).mono ?_
  rintro e w2 ⟨aj, cj, gj, rfl, hK, hg, hF2⟩
  have HF2 := hide ((unhide HF1).trans hF2 (fun _ _ t => t))
  have HTB2 := hide ((unhide HTB1).keep hF2)
  have HK := hide hK
  clear hF2 HF1 HTB1 RB1 hK hg
  by_cases he : buildE (rightE t) l = 0
  · have hjj : buildJ (tmOf t) (rightE t) l = walkedJ (tmOf t) l := by unfold buildJ; rw [if_pos he]
    rw [he, hjj]
    rw [hjj] at HK
    obtain ⟨e1, e2, _⟩ := (buildE_zero _ _).1 he
    obtain ⟨hl2, hok⟩ := (rightT_zero l).1 e2
    have hlg : 0 ≤ (tmOf t).lng := (small_of e1).longest.1
    have HAM : Hid (buildE (rightE t) (othK (tmOf t) l l.length) = 0 ∧ buildJ (tmOf t) (rightE t) (othK (tmOf t) l l.length) = walkedJ (tmOf t) l) := hide (by rw [e1] at he ⊢; exact alone_math he)
    have HLE := hide (walked_le (tmOf t) l hl2)
    have HL2 := hide hl2
    clear he hjj e1 e2 hok hlg
    obtain ⟨J, hJ⟩ : ∃ J, walkedJ (tmOf t) l = J := ⟨_, rfl⟩
    rw [hJ] at HK HLE HAM ⊢
    clear hJ
    go_wp2_with fail
    obtain ⟨iz, hiz⟩ := info_of3 tInfo
    have HIZ := hide hiz
    clear hiz
    go_loopw [8, 9] (fun ov iv wr => ∃ (i : Nat) (ao : Option Addr) (cap g : Nat), i ≤ l.length ∧ ov = .slice ao (othK (tmOf t) l i).length cap ∧ iv = .int .i64 i ∧ Hid (TL w2.heap.size w2 wr ao cap g (othK (tmOf t) l i))) (fun _ iv _ => l.length - (intOf iv).toNat)
    case atStart => exact ⟨0, none, 0, 0, Nat.zero_le _, rfl, rfl, hide ⟨KRow.nil _ _ _, fun h => absurd h (by omega), Fr.refl _ _⟩⟩
    case round =>
      obtain ⟨i, ao, cap, g, hi, rfl, rfl, HI⟩ := hrel
      have hol := othK_len (tmOf t) l i hi
      by_cases hil : i < l.length
      · have HY := hide (othK_yes (tmOf t) l i hil)
        have HN := hide (othK_no (tmOf t) l i hil)
        have hFI := (unhide HI).fr
        obtain ⟨b, off, rfl, c0, c1, c2, c3, c4, c5⟩ := (((unhide H).keep (unhide HF2)).keep hFI).tp hil
        obtain ⟨x, hx⟩ : ∃ x, l[i] = x := ⟨_, rfl⟩
        rw [hx] at HY HN c0 c1 c2 c3 c4 c5
        obtain ⟨L, hL⟩ : ∃ L, othK (tmOf t) l i = L := ⟨_, rfl⟩
        rw [hL] at HI HY HN hol ⊢
        have HFW : Hid (Fr (fun _ => False) w wr) := hide ((unhide HF2).trans hFI (fun _ _ t => t))
        have HST1 := hide (fun (u : World) (hu : Fr (fun _ => False) w u) => unhide HST u x.place hu)
        have hT2 := (unhide HTB2).keep hFI
        have HCB : Hid (∀ u, Fr (fun _ => False) wr u → u.cell? ⟨B, 0, none⟩ = some (.slice A.aS t.st.length A.cS) ∧ u.cell? ⟨B, 1, none⟩ = some (.slice A.aP t.sp.length A.cP) ∧ u.cell? ⟨B, 2, none⟩ = some (.slice A.aB t.bd.length A.cB) ∧ u.cell? ⟨B, 3, none⟩ = some (.float .f64 t.off) ∧ u.cell? ⟨B, 4, none⟩ = some (.int .i64 t.bus) ∧ u.cell? ⟨B, 5, none⟩ = some (.int .i64 t.busDaily) ∧ u.cell? ⟨B, 6, none⟩ = some (.int .i64 t.busWeekly) ∧ u.cell? ⟨B, 7, none⟩ = some (.int .i64 t.hopper) ∧ u.cell? ⟨B, 8, none⟩ = some (.int .i64 t.most) ∧ u.cell? ⟨B, 9, none⟩ = some (.int .i64 t.longest) ∧ u.cell? ⟨B, 10, none⟩ = some (.int .i64 t.change) ∧ u.cell? ⟨B, 11, none⟩ = some (.int .i64 t.passback) ∧ u.cell? ⟨B, 12, none⟩ = some (.int .i64 t.delay) ∧ u.cell? ⟨B, 13, none⟩ = some (.int .i64 t.threshold) ∧ u.cell? ⟨b, off + i * 6 + 4, none⟩ = some (.int .i64 x.place)) := hide (fun u hf => by
          have h1 := hT2.keep hf
          exact ⟨h1.cell 0, h1.cell 1, h1.cell 2, h1.cell 3, h1.cell 4, h1.cell 5, h1.cell 6, h1.cell 7, h1.cell 8, h1.cell 9, h1.cell 10, h1.cell 11, h1.cell 12, h1.cell 13, (hf.cell (World.block_lt_of_cell? _ _ c4) (fun t => t)).trans c4⟩)
        obtain ⟨d0, d1, d2, d3, d4, d5, d6, d7, d8, d9, d10, d11, d12, d13, d14⟩ := unhide HCB wr (Fr.refl _ _)
        have hl2 := unhide HL2
        have hiI : (i : Int) < (l.length : Int) := by omega
        have hiJ : (i : Int) ≤ 2000 := by omega
        have hLI : (L.length : Int) ≤ 2000 := by omega
        have HIX := hide (And.intro hil (And.intro hl2 hol))
        have HTP : Hid (TpAt wr b (off + i * 6) x) := hide ⟨c0, c1, c2, c3, c4, c5⟩
        clear hx hL hT2 HK HAM HLE HL2 c0 c1 c2 c3 c4 c5 HST H HTB2 hl hi hil RB2 hol hFI
        obtain ⟨z, hz⟩ : ∃ z, (stationOf t x.place).getD ⟨0, 0, 0⟩ = z := ⟨_, rfl⟩
        obtain ⟨zs, hzs⟩ : ∃ zs, (stationOf t x.place).isSome = zs := ⟨_, rfl⟩
        have HKN : Hid ((tmOf t).known x.place = zs) := hide hzs
        rw [hz, hzs] at HST1
        clear hz hzs
        go_upto_region 9 with (fail)
        go_cut [10, 11] from 35 to 44 (fun v12 v13 wd => v13 = .bool zs ∧ Hid (Fr (fun _ => False) wr wd))
        case first =>
          go_region_held3 (fun u => u.cell? ⟨B, 0, none⟩ = some (.slice A.aS t.st.length A.cS) ∧ u.cell? ⟨B, 1, none⟩ = some (.slice A.aP t.sp.length A.cP) ∧ u.cell? ⟨B, 2, none⟩ = some (.slice A.aB t.bd.length A.cB) ∧ u.cell? ⟨B, 3, none⟩ = some (.float .f64 t.off) ∧ u.cell? ⟨B, 4, none⟩ = some (.int .i64 t.bus) ∧ u.cell? ⟨B, 5, none⟩ = some (.int .i64 t.busDaily) ∧ u.cell? ⟨B, 6, none⟩ = some (.int .i64 t.busWeekly) ∧ u.cell? ⟨B, 7, none⟩ = some (.int .i64 t.hopper) ∧ u.cell? ⟨B, 8, none⟩ = some (.int .i64 t.most) ∧ u.cell? ⟨B, 9, none⟩ = some (.int .i64 t.longest) ∧ u.cell? ⟨B, 10, none⟩ = some (.int .i64 t.change) ∧ u.cell? ⟨B, 11, none⟩ = some (.int .i64 t.passback) ∧ u.cell? ⟨B, 12, none⟩ = some (.int .i64 t.delay) ∧ u.cell? ⟨B, 13, none⟩ = some (.int .i64 t.threshold) ∧ u.cell? ⟨b, off + i * 6 + 4, none⟩ = some (.int .i64 x.place))
            ((refine unhide HCB _ ?_; repeat (first | (with_reducible exact Fr.refl _ _) | (with_reducible refine Fr.drew ?_) | (with_reducible refine Fr.alloc ?_ _) | (with_reducible refine Fr.trans ?_ (unhide HFS) (fun _ _ t => t)) | (with_reducible refine Fr.setN (Nat.lt_irrefl _) ?_ _ _) | refine Fr.setN (Nat.not_lt.2 (unhide HFS).size) ?_ _ _)))
            (first | (go_at_call 9; refine (unhide HST1 _ ((unhide HFW).trans (b := wr) (by repeat (with_reducible (first | exact Fr.refl _ _ | refine Fr.drew ?_ | refine Fr.alloc ?_ _))) (fun _ _ t => t))).mono ?_; rintro e ws ⟨rfl, hFS⟩; first | (have hN := new_cells (wc := wr) (cs := #[.int .i64 0, .int .i64 0, .int .i64 0]) (T := 35) hFS; have z0 : ws.cell? ⟨wr.heap.size, 0, none⟩ = some (.int .i64 0) := hN.cell 0; have z1 : ws.cell? ⟨wr.heap.size, 1, none⟩ = some (.int .i64 0) := hN.cell 1; have z2 : ws.cell? ⟨wr.heap.size, 2, none⟩ = some (.int .i64 0) := hN.cell 2; have zf : ∀ j, ws.frozen? ⟨wr.heap.size, j, none⟩ = false := fun j => hN.frozen j; clear hN; have HFS := hide hFS; clear hFS) | (have hN := new_cellsD (wc := wr) (cs := #[.int .i64 0, .int .i64 0, .int .i64 0]) (T := 35) hFS; have z0 : ws.cell? ⟨wr.heap.size, 0, none⟩ = some (.int .i64 0) := hN.cell 0; have z1 : ws.cell? ⟨wr.heap.size, 1, none⟩ = some (.int .i64 0) := hN.cell 1; have z2 : ws.cell? ⟨wr.heap.size, 2, none⟩ = some (.int .i64 0) := hN.cell 2; have zf : ∀ j, ws.frozen? ⟨wr.heap.size, j, none⟩ = false := fun j => hN.frozen j; clear hN; have HFS := hide hFS; clear hFS) | (have HFS := hide hFS; clear hFS)))
          all_goals
            go_wp2_with fail
            go_meet
            first
              | exact ⟨rfl, hide ((Fr.trans ((Fr.refl (fun _ => False) wr).drew) (unhide HFS) (fun _ _ t => t)).alloc _)⟩
              | exact ⟨rfl, hide (Fr.setN (Nat.lt_irrefl _) (Fr.setN (Nat.lt_irrefl _) (Fr.setN (Nat.lt_irrefl _) (Fr.trans (((Fr.refl (fun _ => False) wr).alloc _).drew) (unhide HFS) (fun _ _ t => t)) _ _) _ _) _ _)⟩
        case rest =>
          obtain ⟨rfl, HFd⟩ := hcut
          obtain ⟨c0, c1, c2, c3, c4, c5⟩ := (unhide HTP).keep (unhide HFd)
          clear HCB HST1 HFW d0 d1 d2 d3 d4 d5 d6 d7 d8 d9 d10 d11 d12 d13 d14
          cases hkp : keepT (tmOf t) x with
          | false =>
            have HN1 := hide (unhide HN hkp)
            simp only [keepT, Bool.or_eq_false_iff, unhide HKN] at hkp
            obtain ⟨hz0, hb0⟩ := hkp
            subst hz0
            have k3b : (x.kind == 3) = false := by rw [busA_iff]; exact hb0
            clear HY HN hb0 HKN
            go_wp2
            exact ⟨⟨i + 1, ao, cap, g, by have := (unhide HIX).1; omega, by rw [unhide HN1], by go_num, hide (by rw [unhide HN1]; exact ⟨(unhide HI).row.keep (by omega) (unhide HFd), (unhide HI).new, (unhide HI).fr.trans (unhide HFd) (fun _ _ t => t)⟩)⟩, by have := (unhide HIX).1; simp [intOf]; omega⟩
          | true =>
            have HY1 := hide (unhide HY hkp)
            have hko : (zs = true ∨ (zs = false ∧ (x.kind == 3) = true)) := by
              cases zs with
              | true => exact .inl rfl
              | false =>
                simp only [keepT, unhide HKN, Bool.false_or] at hkp
                exact .inr ⟨rfl, by rw [busA_iff]; exact hkp⟩
            clear HY HN hkp HKN
            have wi : IntKind.i64.wrap (1 + (i : Int)) = 1 + (i : Int) := by rw [IntKind.wrap_i64]; omega
            obtain ⟨ax, hax⟩ : ∃ ax, (1 + (i : Int)) = ax := ⟨_, rfl⟩
            have HAX := hide hax
            go_upto_region 10 with (fail)
            go_cut [53] from 45 to 52 (fun v wd => v = .bool true ∧ wd = wc)
            case first =>
              rcases hko with hz | ⟨hz, hk⟩
              · subst hz
                go_wp2_with fail
                go_meet
                exact ⟨rfl, rfl⟩
              · subst hz
                go_wp2_with fail
                go_meet
                exact ⟨by first | rfl | rw [hk], rfl⟩
            case rest =>
              obtain ⟨rfl, rfl⟩ := hcut
              clear hko
              obtain ⟨u, hu⟩ : ∃ u, u = wc.alloc (.cells #[.int .i64 9, .int .i64 ax, .string { data := #[122, 122, 122, 122, 122, 122, 122, 122] }, .int .i64 x.kind, .int .i64 x.place, .int .i64 x.time] 39) := ⟨_, rfl⟩
              have hFu : Fr (fun _ => False) wc u := by rw [hu]; exact (Fr.refl _ _).alloc _
              have hBu : Bx u wc.heap.size #[.int .i64 9, .int .i64 ax, .string { data := #[122, 122, 122, 122, 122, 122, 122, 122] }, .int .i64 x.kind, .int .i64 x.place, .int .i64 x.time] 39 := by rw [hu]; exact Bx.new _ _ _
              have HU := hide hu
              have HFU : Hid (Fr (fun _ => False) wr u) := hide ((unhide HFd).trans hFu (fun _ _ t => t))
              obtain ⟨X, hX⟩ : ∃ X, X = wc.heap.size := ⟨_, rfl⟩
              rw [← hX] at hBu
              have HXX := hide hX
              have z0 : u.cell? ⟨X, 0, none⟩ = some (.int .i64 9) := hBu.cell 0
              have z1 : u.cell? ⟨X, 1, none⟩ = some (.int .i64 ax) := hBu.cell 1
              have z2 : u.cell? ⟨X, 2, none⟩ = some (.string { data := #[122, 122, 122, 122, 122, 122, 122, 122] }) := hBu.cell 2
              have z3 : u.cell? ⟨X, 3, none⟩ = some (.int .i64 x.kind) := hBu.cell 3
              have z4 : u.cell? ⟨X, 4, none⟩ = some (.int .i64 x.place) := hBu.cell 4
              have z5 : u.cell? ⟨X, 5, none⟩ = some (.int .i64 x.time) := hBu.cell 5
              clear hu hFu hBu hX
              go_upto_region 15 with (fail)
              rw [← unhide HXX, ← unhide HU]
              clear HXX HU c0 c1 c2 c3 c4 c5
              have HSR : Hid (Src Try.prog 6 28 (.slice (some ⟨u.heap.size, 0, none⟩) 1 1) 1 [.int .i64 9, .int .i64 ax, .string { data := #[122, 122, 122, 122, 122, 122, 122, 122] }, .int .i64 x.kind, .int .i64 x.place, .int .i64 x.time] (u.alloc (.cells #[.int .i64 9, .int .i64 ax, .string { data := #[122, 122, 122, 122, 122, 122, 122, 122] }, .int .i64 x.kind, .int .i64 x.place, .int .i64 x.time] 39))) := hide (src_one u [.int .i64 9, .int .i64 ax, .string { data := #[122, 122, 122, 122, 122, 122, 122, 122] }, .int .i64 x.kind, .int .i64 x.place, .int .i64 x.time] 28 39 6 Try.underlying28 rfl (fun v hv => by simp only [List.mem_cons, List.not_mem_nil, or_false] at hv; rcases hv with rfl | rfl | rfl | rfl | rfl | rfl <;> rfl) (fun j => ((Bx.new u #[.int .i64 9, .int .i64 ax, .string { data := #[122, 122, 122, 122, 122, 122, 122, 122] }, .int .i64 x.kind, .int .i64 x.place, .int .i64 x.time] 39).cell j).trans (by simp)))
              have HRW : Hid (KRow (u.alloc (.cells #[.int .i64 9, .int .i64 ax, .string { data := #[122, 122, 122, 122, 122, 122, 122, 122] }, .int .i64 x.kind, .int .i64 x.place, .int .i64 x.time] 39)) ao cap g 6 (tpV L)) := hide ((unhide HI).row.keep (by omega) ((unhide HFU).alloc _))
              go_wp2_with (at_builtin; refine wpList_append_krow _ rfl (.tmp 63) (.tmp 65) 28 28 rfl 39 iz _ 6 (by omega) Try.underlying28 (unhide HIZ).1 (unhide HIZ).2.1 rfl (unhide HIZ).2.2.1 rfl (unhide HRW) (tpV_length L) _ [.int .i64 9, .int .i64 ax, .string { data := #[122, 122, 122, 122, 122, 122, 122, 122] }, .int .i64 x.kind, .int .i64 x.place, .int .i64 x.time] 1 rfl (unhide HSR) (by rw [(unhide HIZ).2.2.2]; omega) (by omega) ?_)
              intro ao2 cap2 w4 g2 hrow hgr
              have HTL : Hid (TL w2.heap.size w2 w4 ao2 cap2 g2 (L ++ [modT i x])) := hide ((unhide HI).app rfl ((unhide HFU).alloc _) (modT i x) (by rw [← unhide HAX] at hrow; exact hrow) hgr)
              clear hrow hgr HRW HSR z0 z1 z2 z3 z4 z5 HFU HFd HAX
              go_wp2
              exact ⟨⟨i + 1, ao2, cap2, g2, by have := (unhide HIX).1; omega, by rw [unhide HY1]; simp, by go_num, hide (by rw [unhide HY1]; exact unhide HTL)⟩, by have := (unhide HIX).1; simp [intOf]; omega⟩
      · obtain rfl : i = l.length := by omega
        obtain ⟨hrow, hnew, hfr⟩ := unhide HI
        obtain ⟨ha1, ha2⟩ := unhide HAM
        have HTB4 := hide ((unhide HTB2).keep hfr)
        have RB3 := hide (unhide RB2 wr ((unhide HF2).trans hfr (fun _ _ t => t)) ao cap (othK (tmOf t) l l.length) hrow.cat (by omega))
        have HFR := hide hfr
        obtain ⟨m, hm⟩ : ∃ m, othK (tmOf t) l l.length = m := ⟨_, rfl⟩
        rw [hm] at RB3 ha1 ha2 hol ⊢
        have HA := hide (And.intro ha1 ha2)
        have HLE2 := HLE
        clear HST HL2 HAM HI hrow hnew hfr ha1 ha2 hm HTB2 H RB2 hol
        go_wp2_with (refine wpList_load_tariff rfl (.tmp 2) rfl (g := B) (A := A) (t := t) rfl (unhide HTB4) ?_)
        refine (unhide RB3).mono ?_
        rintro e w5 ⟨aq, cq, gq, rfl, hK2, _, hF5⟩
        rw [(unhide HA).1, (unhide HA).2]
        rw [(unhide HA).2] at hK2
        have hF25 := (unhide HFR).trans hF5 (fun _ _ t => t)
        have RS := hide (same_any w5 aj aq cj cq gj gq J ((unhide HK).keep (by omega) hF25) hK2 (by have := unhide HLE2; omega))
        have HFF := hide ((unhide HF2).trans hF25 (fun _ _ t => t))
        clear hK2 hF5 hF25 HFR HK HTB4 RB3 HA HLE2 HLE HF2
        go_wp2_with fail
        refine (unhide RS).mono ?_
        rintro e w6 ⟨rfl, hF6⟩
        have HFZ := hide ((unhide HFF).trans hF6 (fun _ _ t => t))
        clear hF6 RS HFF
        go_wp2
        go_ret
        exact ⟨rfl, unhide HFZ⟩
  · have hb2 : (buildE (rightE t) l == 0) = false := by simp [he]
    have hb3 : (buildE (rightE t) l != 0) = true := by simp [he]
    generalize buildE (rightE t) l = ee at *
    clear HK HTB2 H HST RB2
    go_wp2
    go_ret
    exact ⟨rfl, unhide HF2⟩

end Go.Proofs.Ythgkifkcckandaa

namespace Go.Proofs.Ythgkifkcckandaa
open Go.ChangeShapes Go.WideShapes Go.ChangeAt Go.RowKit Go.Deep

namespace journeyAlone

set_option maxRecDepth 100000 in
theorem lifted (os : Os) (started : os.Started) (H : Type) (enc : TypeId × Value → H) :
    ReturnsInHanded {} Try.checked os 5 .any (Rows.journeyAloneSpec.pre6 enc Try.prog Try.f5 Rows.journeyAloneRow.domain false) (Rows.journeyAloneSpec.post enc Try.prog Try.f5 false true false false) := by
  refine returnsInHanded_of_change_sized (C := Try.checked) own started (by kernel_rfl) Try.func5
    (ChangeSpec.witness6 (enc := enc) (C := Try.checked) false ⟨#[], #[.agg #[.slice none 0 0, .slice none 0 0, .slice none 0 0, .float .f64 0, .int .i64 0, .int .i64 0, .int .i64 0, .int .i64 0, .int .i64 0, .int .i64 0, .int .i64 0, .int .i64 0, .int .i64 0, .int .i64 0], .slice none 0 0], []⟩ 8 (by kernel_rfl) (by kernel_rfl) (by kernel_rfl) (by kernel_rfl)) ?_
  intro W base args ds gs before hval0 hW hcnd hsz0 _
  have hsz : (DataW.weightsEach Try.prog (Try.f5.params.toList ++ Rows.journeyAloneSpec.plain.varTypes Try.prog) (ds ++ gs)).all (· ≤ reachBytes) = true := hsz0
  have hval : ∀ (j : Nat) t v, Try.f5.params[j]? = some t → args[j]? = some v → Value.okWide Try.prog W .any base t v := hval0
  have hW' := hW
  obtain ⟨p, q, hA0, hV, rfl, hfz, hnd⟩ := hW
  have hA : DataW.TrodAll enc Try.prog W 0 (fun _ => true) true Try.f5.params.toList args.toList ds p := hA0
  rw [Try.params5] at hA hval hsz
  obtain ⟨v0, vs0, d0, ds0, p0, q0, hargs, rfl, rfl, h0, r0⟩ := trodAll_cons hA
  obtain ⟨v1, vs1, d1, ds1, p1, q1, rfl, rfl, rfl, h1, r1⟩ := trodAll_cons r0
  obtain ⟨rfl, rfl, rfl⟩ := trodAll_nil r1
  obtain rfl : args = #[v0, v1] := by cases args; simp_all
  obtain ⟨rfl, rfl⟩ := trodVars_none hV
  have k0 := h0
  have lt0 : ∀ x ∈ p0, x.block < W.heap.size := by obtain ⟨m, hm⟩ := k0; exact DataW.trod_lt m _ _ _ hm
  obtain ⟨A0, t0, rfl, hT0⟩ := open_arg (j := 0) (okWide_struct Try.underlying27 (hval 0 27 v0 rfl rfl)) h0 hsz rfl rfl
  have k1 := h1
  have lt1 : ∀ x ∈ p1, x.block < W.heap.size := by obtain ⟨m, hm⟩ := k1; exact DataW.trod_lt m _ _ _ hm
  obtain ⟨a1, c1, l1, rfl, hb1, hc1, hn1⟩ := arg_taps (j := 1) (okWide_slice Try.underlying28 (hval 1 28 v1 rfl rfl)) h1 hsz rfl rfl
  clear hA0 hval0
  refine (alone_walk W A0 t0 hT0 a1 c1 l1 hb1 (by omega)).mono fun e W' ⟨he, hfr⟩ => ?_
  subst he
  have bel : Below W.heap.size W W' := hfr.below (Nat.le_refl _) (fun k t => t.elim)
  exact ⟨_, rfl, _, _, _, [], _, [], hW', trodAll_mk1 (shut_bool Try.underlying4 _), (trodAll_cons_mk (Below.trod laidOut (by kernel_rfl) (of_decide_eq_true (by kernel_rfl)) k0 bel lt0) (trodAll_cons_mk (Below.trod laidOut (by kernel_rfl) (of_decide_eq_true (by kernel_rfl)) k1 bel lt1) trodAll_mk0)), rfl, bel.frame _, fun h => by cases h⟩

theorem over : Rows.journeyAloneRow.holds Try.pinned (OpenSpec.ofChange Rows.journeyAloneSpec) :=
  OpenClaim.holds_of_wide 5 Try.f5 rfl rfl rfl rfl rfl rfl rfl ⟨rfl, rfl, rfl, rfl, rfl⟩ rfl rfl rfl rfl rfl (by kernel_rfl) Try.func5 (by kernel_rfl)
    (of_decide_eq_true (by kernel_rfl)) (by unfold Func.isWrapper; first | (rw [if_pos (by decide +kernel)]; kernel_rfl) | (rw [if_neg (by decide +kernel)]; exact ⟨rfl, rfl⟩))
    (fun os started H enc _ => lifted os started H enc)

end journeyAlone

/-- THE STATEMENT. -/
theorem journeyAlone_holds : Rows.JourneyAloneSaid := journeyAlone.over
#print axioms journeyAlone_holds
end Go.Proofs.Ythgkifkcckandaa

