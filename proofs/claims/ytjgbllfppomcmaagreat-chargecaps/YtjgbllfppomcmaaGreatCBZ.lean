import Derived.Test.YtjgbllfppomcmaaGreatCB3
import Derived.Test.YtjgbllfppomcmaaGreatCBY
import Derived.Deep.RegionHeld3
/- What a token owes, week by week: the program's Bills. -/
namespace Go.Proofs.YtjgbllfppomcmaaGreat
open Go.RowKit

theorem dyInfo : (Tryz.prog.info? 70).map (fun i => (i.zero.map (·.cells), i.size, i.bytes)) = some (some (dyL dz).toArray, 7, 56) := by kernel_rfl

theorem CAt.rearD {w : World} {ao : Option Addr} {l : List Dy} (h : CAt w ao (dyV l)) (n : Nat) : CAt w (ao.map (fun x => x.add (n * 7))) (dyV (l.drop n)) := by
  intro h0
  have h1 := dyV_length l
  have h2 := dyV_length (l.drop n)
  rw [List.length_drop] at h2
  have hn : n < l.length := by
    rcases Nat.lt_or_ge n l.length with q | q
    · exact q
    · rw [show l.length - n = 0 by omega] at h2; omega
  have h3 : (l.length - n) * 7 = l.length * 7 - n * 7 := by omega
  obtain ⟨b, off, rfl, hc⟩ := h (by omega)
  refine ⟨b, off + n * 7, by simp [Addr.add_lit], fun j hj => ?_⟩
  rw [Nat.add_assoc, hc (n * 7 + j) (by omega)]
  have e2 : dyV l = dyV (l.take n) ++ dyV (l.drop n) := by unfold dyV; rw [← List.flatMap_append, List.take_append_drop]
  have h4 := dyV_length (l.take n)
  rw [List.length_take, Nat.min_eq_left (by omega)] at h4
  congr 1
  rw [List.getElem_of_eq e2, List.getElem_append_right (by omega)]
  congr 1
  omega

theorem CAt.frontD {w : World} {ao : Option Addr} {l : List Dy} (h : CAt w ao (dyV l)) (n : Nat) : CAt w ao (dyV (l.take n)) := by
  intro h0
  have h1 := dyV_length l
  have h2 := dyV_length (l.take n)
  rw [List.length_take] at h2
  obtain ⟨b, off, e, hc⟩ := h (by omega)
  refine ⟨b, off, e, fun j hj => ?_⟩
  rw [hc j (by omega)]
  have e2 : dyV l = dyV (l.take n) ++ dyV (l.drop n) := by unfold dyV; rw [← List.flatMap_append, List.take_append_drop]
  congr 1
  rw [List.getElem_of_eq e2, List.getElem_append_left hj]

set_option maxRecDepth 20000 in
theorem slice_uptoB (b off n m cap : Nat) (h : n ≤ cap) (h0 : 0 < n) (u : World) : (Instr.slice 64 (.slice (some ⟨b, off, none⟩) m cap) none (some (.int .i64 (n : Int))) none).run Tryz.prog u = .ok (.slice (some ⟨b, off, none⟩) n cap) u := by
  rw [run_slice_h (P := Tryz.prog) (w := u) 64 (some ⟨b, off, none⟩) m cap Tryz.underlying64 .i64 (n : Int) (by omega) (by omega)]
  have e : (.slice (some ⟨b, off, none⟩) n cap : Value) = sliced (some ⟨b, off, none⟩) 0 n cap 7 := by
    unfold sliced
    rw [if_neg (by omega)]
    simp [Addr.add_lit]
  rw [e]
  rfl

theorem Grew.frB {w w' : World} {g cap g' cap' : Nat} (h : Grew w g cap w' g' cap') : Fr (fun q => q = g ∧ 0 < cap) w w' := by
  rcases h with ⟨_, _, f⟩ | ⟨_, _, f⟩
  · exact f
  · exact f.mono (fun _ _ t => t.elim)
theorem step_callB {P : Program} {ops : Array Oper} {o : Oper} {a : Act} {w : World} {K : Act → World → Prop} {Q : Exit → Act → World → Prop} {E : Prop} (hgd : o.guard = none) (f : FuncId) (args : Array Value) (hrun : (execOp a.eval o).run P w = .ok (.enter f args) w) {Post : Ending → World → Prop} (hc : Calls P f args w Post)
    (h : ∀ e w', Post e w' → ∃ v, e = .returned v ∧ K (a.put o.dst v) w') : if Region.wanted o (yielded ops a.tmps) = true then Oper.wp P o a w K Q else E := by
  have hw : Region.wanted o (yielded ops a.tmps) = true := by simp [Region.wanted, hgd]
  rw [if_pos hw]
  unfold Oper.wp
  rw [hrun, Oper.upon_enter]
  refine hc.mono fun e w'' hh => ?_
  obtain ⟨v, rfl, hv⟩ := h e w'' hh
  exact hv

theorem daysN_few : ∀ (n : Nat) (m : List Tp), RgtOk m → m.length ≤ n → (daysN n m).length ≤ m.length
  | 0, _, _, _ => Nat.zero_le _
  | _ + 1, [], _, _ => Nat.zero_le _
  | n + 1, x :: r, h, hn => by
    have hp := dayLn_pos h (by simp)
    have hdl : (List.drop (dayLn (x :: r)) (x :: r)).length = (x :: r).length - dayLn (x :: r) := List.length_drop ..
    have hln : (x :: r).length = r.length + 1 := rfl
    have := daysN_few n ((x :: r).drop (dayLn (x :: r))) (h.sub (List.drop_sublist ..)) (by omega)
    show (daysN n ((x :: r).drop (dayLn (x :: r)))).length + 1 ≤ _
    omega

/-- Rows of taps stay. -/
theorem DL.cellAt {M : Nat} {w : World} {ao : Option Addr} {cap g : Nat} {ds : List DR} (h : DL M w ao cap g ds) {i : Nat} (hi : i < ds.length) : ao = some ⟨g, 0, none⟩ ∧ w.cell? ⟨g, i, none⟩ = some ds[i].val ∧ CAt w ds[i].ao (tpV ds[i].tp) := by
  have hle := h.row.le
  rw [List.length_map] at hle
  refine ⟨h.row.ad (by omega), ?_, (h.els _ (List.getElem_mem hi)).1.cat⟩
  have := h.row.cells i (by rw [List.length_map]; exact hi)
  rw [this, List.getElem_map]

set_option maxHeartbeats 16000000 in
set_option maxRecDepth 20000 in
theorem bills_any (w : World) (A : Ad) (t : Tf) (h : TAt w A t) (ao1 : Option Addr) (cap1 : Nat) (l : List Ou) (hl : CAt w ao1 (ouV l)) (hln : l.length ≤ 140737488355328) (ao0 : Option Addr) (cap0 : Nat) (m : List Tp) (hm : CAt w ao0 (tpV m)) (hml : m.length ≤ 4398046511104) (hcap : m.length ≤ cap0) :
    Calls Tryz.prog 11 #[tv A t, .slice ao1 l.length cap1, .slice ao0 m.length cap0] w fun e w' => OwedP t l m w e w' := by
  have hmf := makesT
  have RT := hide (fun (u : World) (hu : Fr (fun _ => False) w u) => right_walk u A t (h.keep hu))
  have RR := hide (fun (u : World) (hu : Fr (fun _ => False) w u) => refRight_any u ao1 cap1 l (hl.keep hu) hln)
  have RD := hide (fun (u : World) (hu : Fr (fun _ => False) w u) => days_any u ao0 cap0 m (hm.keep hu) hml hcap)
  have HT := hide h
  have HL := hide (And.intro hl hln)
  have HE : Hid (owedE t l m = if rightE t = 0 then (if ousE l = 0 then rightT m else ousE l) else rightE t) := hide rfl
  have HFAIL : Hid (∀ (u : World), BW w w.heap.size A t u none 0 0 [] → ∀ x : Int, x ≠ 0 → owedE t l m = x →
      ((u.setCell ⟨w.heap.size + 1, 0, none⟩ (.slice none 0 0)).setCell ⟨w.heap.size + 2, 0, none⟩ (.int .i64 x)).cell? ⟨w.heap.size + 1, 0, none⟩ = some (.slice none 0 0) ∧ ((u.setCell ⟨w.heap.size + 1, 0, none⟩ (.slice none 0 0)).setCell ⟨w.heap.size + 2, 0, none⟩ (.int .i64 x)).cell? ⟨w.heap.size + 2, 0, none⟩ = some (.int .i64 x) ∧
      OwedP t l m w (.returned (.tuple #[.slice none 0 0, .int .i64 x])) ((u.setCell ⟨w.heap.size + 1, 0, none⟩ (.slice none 0 0)).setCell ⟨w.heap.size + 2, 0, none⟩ (.int .i64 x))) := hide (fun u hu x hx hxe => by
    have k1 := (hu.res.setCell 0 (.slice none 0 0)).setOther (by omega : ¬ w.heap.size + 1 = w.heap.size + 2) 0 (.int .i64 x)
    have k2 := (hu.err.setOther (by omega : ¬ w.heap.size + 2 = w.heap.size + 1) 0 (.slice none 0 0)).setCell 0 (.int .i64 x)
    exact ⟨k1.cell 0, k2.cell 0, OwedP.fail (Fr.put8 (Fr.put8 hu.fr (Nat.le_succ _) 0 _) (by omega) 0 _) hxe hx⟩)
  obtain ⟨v, hv⟩ : ∃ v, v = ((w.alloc (.cells (tc A t) 27)).alloc (.cells #[.slice none 0 0] 33)).alloc (.cells #[.int .i64 0] 34) := ⟨_, rfl⟩
  have hbw : BW w w.heap.size A t v none 0 0 [] := by rw [hv]; exact BW.start w A t
  obtain ⟨B, hB⟩ : ∃ B, B = w.heap.size := ⟨_, rfl⟩
  rw [← hB] at hbw HFAIL
  have HBW := hide hbw
  have HV := hide hv
  have HB := hide hB
  clear hv hbw hB h hl hln hm
  unfold tv at *
  unfold tc at HV
  have hhm := hmf
  show Calls Tryz.prog 11 #[.agg (tc A t), .slice ao1 l.length cap1, .slice ao0 m.length cap0] w fun e w' => OwedP t l m w e w'
  unfold tc
  go_enter_defers Tryz.func11, Tryz.ntmps11
  go_upto_region 1 with (fail)
  rw [← unhide HV, ← unhide HB]
  clear HV
  go_wp2_with (refine wpList_load_tariff rfl (.tmp 3) rfl (g := B) (A := A) (t := t) rfl (unhide HBW).box ?_)
  refine (unhide RT _ (unhide HBW).fr).mono ?_
  rintro e w1 ⟨rfl, hF⟩
  replace HBW := hide ((unhide HBW).keep hF)
  clear hF RT
  by_cases hr : rightE t = 0
  case neg =>
    obtain ⟨x, hx⟩ : ∃ x, rightE t = x := ⟨_, rfl⟩
    have HX0 : Hid (x ≠ 0) := hide (by rw [← hx]; exact hr)
    have HXE : Hid (owedE t l m = x) := hide (by rw [unhide HE, if_neg hr]; exact hx)
    rw [hx]
    clear hr hx HE
    go_wp2_with fail
    refine (clook_no _ x (unhide HX0)).mono ?_
    rintro e w2 ⟨rfl, hq⟩
    obtain rfl := hq.symm
    clear hq
    go_wp2
    refine leaves_cons (f := 22) (args := #[.pointer (some ⟨B + 1, 0, none⟩), .pointer (some ⟨B + 2, 0, none⟩)]) (by simp) (by simp [go_sem]) ?_
    refine (catchB (B + 1) (B + 2) (by omega) x 0 (.slice none 0 0) [] _ ((unhide HBW).res.cell 0) ((unhide HBW).res.frozen 0) ((unhide HBW).err.cell 0) ((unhide HBW).err.frozen 0)).mono ?_
    rintro e u' w'' ⟨rfl, rfl, rfl⟩
    have hz := unhide HFAIL _ (unhide HBW) x (unhide HX0) (unhide HXE)
    have z1 := hz.1
    have z2 := hz.2.1
    have z3 := hide hz.2.2
    clear hz
    simp [Leaves, settle, results, Tryz.results11, go_sem, z1, z2]
    exact unhide z3
  case pos =>
    rw [hr]
    go_wp2_with fail
    refine (clook_ok _).mono ?_
    rintro e w2 ⟨rfl, hq⟩
    obtain rfl := hq.symm
    clear hq
    go_wp2_with fail
    refine (unhide RR _ (unhide HBW).fr).mono ?_
    rintro e w3 ⟨rfl, hF⟩
    replace HBW := hide ((unhide HBW).keep hF)
    clear hF RR
    by_cases ho : ousE l = 0
    case neg =>
      obtain ⟨x, hx⟩ : ∃ x, ousE l = x := ⟨_, rfl⟩
      have HX0 : Hid (x ≠ 0) := hide (by rw [← hx]; exact ho)
      have HXE : Hid (owedE t l m = x) := hide (by rw [unhide HE, if_pos hr, if_neg ho]; exact hx)
      rw [hx]
      clear hr ho hx HE
      go_wp2_with fail
      refine (clook_no _ x (unhide HX0)).mono ?_
      rintro e w4 ⟨rfl, hq⟩
      obtain rfl := hq.symm
      clear hq
      go_wp2
      refine leaves_cons (f := 22) (args := #[.pointer (some ⟨B + 1, 0, none⟩), .pointer (some ⟨B + 2, 0, none⟩)]) (by simp) (by simp [go_sem]) ?_
      refine (catchB (B + 1) (B + 2) (by omega) x 0 (.slice none 0 0) [] _ ((unhide HBW).res.cell 0) ((unhide HBW).res.frozen 0) ((unhide HBW).err.cell 0) ((unhide HBW).err.frozen 0)).mono ?_
      rintro e u' w'' ⟨rfl, rfl, rfl⟩
      have hz := unhide HFAIL _ (unhide HBW) x (unhide HX0) (unhide HXE)
      have z1 := hz.1
      have z2 := hz.2.1
      have z3 := hide hz.2.2
      clear hz
      simp [Leaves, settle, results, Tryz.results11, go_sem, z1, z2]
      exact unhide z3
    case pos =>
      rw [ho]
      go_wp2_with fail
      refine (clook_ok _).mono ?_
      rintro e w4 ⟨rfl, hq⟩
      obtain rfl := hq.symm
      clear hq
      go_wp2_with fail
      refine (unhide RD _ (unhide HBW).fr).mono ?_
      rintro e w5 ⟨ao, cap, g, ds, rfl, hD, hds, hF⟩
      replace HBW := hide ((unhide HBW).keep hF)
      have HDL := hide hD
      clear hF RD hD
      by_cases hrt : rightT m = 0
      case neg =>
        obtain ⟨x, hx⟩ : ∃ x, rightT m = x := ⟨_, rfl⟩
        have HX0 : Hid (x ≠ 0) := hide (by rw [← hx]; exact hrt)
        have HXE : Hid (owedE t l m = x) := hide (by rw [unhide HE, if_pos hr, if_pos ho]; exact hx)
        rw [hx]
        obtain ⟨nd, hnd⟩ : ∃ nd, ds.length = nd := ⟨_, rfl⟩
        rw [hnd]
        clear hr ho hrt hx hds hnd HDL HE
        go_wp2_with fail
        refine (mustT_no _ _ _ _ x (unhide HX0)).mono ?_
        rintro e w6 ⟨rfl, hq⟩
        obtain rfl := hq.symm
        clear hq
        go_wp2
        refine leaves_cons (f := 22) (args := #[.pointer (some ⟨B + 1, 0, none⟩), .pointer (some ⟨B + 2, 0, none⟩)]) (by simp) (by simp [go_sem]) ?_
        refine (catchB (B + 1) (B + 2) (by omega) x 0 (.slice none 0 0) [] _ ((unhide HBW).res.cell 0) ((unhide HBW).res.frozen 0) ((unhide HBW).err.cell 0) ((unhide HBW).err.frozen 0)).mono ?_
        rintro e u' w'' ⟨rfl, rfl, rfl⟩
        have hz := unhide HFAIL _ (unhide HBW) x (unhide HX0) (unhide HXE)
        have z1 := hz.1
        have z2 := hz.2.1
        have z3 := hide hz.2.2
        clear hz
        simp [Leaves, settle, results, Tryz.results11, go_sem, z1, z2]
        exact unhide z3
      case pos =>
        rw [hrt]
        rw [if_pos hrt] at hds
        obtain ⟨hm2, hok⟩ := (rightT_zero m).1 hrt
        have HR := hide hr
        have HO := hide ho
        have HOWE : Hid (owedE t l m = 0) := hide (by rw [unhide HE, if_pos hr, if_pos ho, hrt])
        obtain ⟨D, hDD⟩ : ∃ D, daysD t l m = D := ⟨_, rfl⟩
        have HOWL : Hid (owedL t l m = billsD t D) := hide (by unfold owedL; rw [if_pos (unhide HOWE), hDD])
        have hrow := daysD_row hr (l := l) hok hm2
        rw [hDD] at hrow
        have HROW := hide hrow
        have hlen : D.length = ds.length := by rw [← hDD]; unfold daysD; rw [← hds]; simp
        have HLEN := hide hlen
        have hits := (daysL_ok hok).1
        have hd2000 : ds.length ≤ 2000 := by
          have h1 := daysN_few m.length m hok (Nat.le_refl _)
          have h2 : (ds.map DR.tp).length = ds.length := List.length_map ..
          rw [hds] at h2
          have h3 : (daysN m.length m).length = (daysL m).length := rfl
          omega
        have HDI : Hid (∀ i (hi : i < ds.length) (hj : i < D.length), D[i] = dayD t l ds[i].tp ∧ RgtOk ds[i].tp ∧ ds[i].tp.length ≤ 2000 ∧ 0 < ds[i].tp.length ∧ OneDay ds[i].tp) := hide (fun i hi hj => by
          have hmem : ds[i].tp ∈ daysL m := by rw [← hds]; exact List.mem_map_of_mem (List.getElem_mem hi)
          have q := hits _ hmem
          have e1 : (daysD t l m)[i]? = some (dayD t l ds[i].tp) := by
            unfold daysD
            rw [← hds, List.map_map, List.getElem?_map, List.getElem?_eq_getElem hi]
            rfl
          rw [hDD, List.getElem?_eq_getElem hj] at e1
          exact ⟨Option.some.inj e1, hok.sub q.sub, Nat.le_trans q.sub.length_le hm2, q.pos, q.one⟩)
        obtain ⟨info, hi, hzz⟩ := Option.map_eq_some_iff.1 dyInfo
        simp only [Prod.mk.injEq] at hzz
        obtain ⟨hz0, hs, hy⟩ := hzz
        obtain ⟨z, hz, hzc⟩ := Option.map_eq_some_iff.1 hz0
        have HIN : Hid (Tryz.prog.info? 70 = some info ∧ info.zero = some z ∧ z.cells.size = 7 ∧ info.size = 7 ∧ info.bytes = 56) := hide ⟨hi, hz, by rw [hzc]; rfl, hs, hy⟩
        obtain ⟨infb, hi2, hzz2⟩ := Option.map_eq_some_iff.1 blInfo
        simp only [Prod.mk.injEq] at hzz2
        obtain ⟨hz02, hs2, hy2⟩ := hzz2
        obtain ⟨zb, hz2, hzc2⟩ := Option.map_eq_some_iff.1 hz02
        have HIB : Hid (Tryz.prog.info? 43 = some infb ∧ infb.zero = some zb ∧ zb.cells.size = 2 ∧ infb.size = 2 ∧ infb.bytes = 16) := hide ⟨hi2, hz2, by rw [hzc2]; rfl, hs2, hy2⟩
        clear hz0 hs hy hz hzc hi hz02 hs2 hy2 hz2 hzc2 hi2 hits hds hrow hlen hm2 hok hr ho hrt hDD HE HFAIL
        go_wp2_with fail
        refine (mustT_ok _ _ _ _).mono ?_
        rintro e w6 ⟨rfl, hq⟩
        obtain rfl := hq.symm
        clear hq
        have HS0 : Hid (Fr (fun _ => False) w5 w5 ∧ KRow w5 none 0 0 7 (dyV (D.take 0)) ∧ ((0 : Nat) < 0 → w5.heap.size ≤ 0)) := hide ⟨Fr.refl _ _, KRow.nil _ _ _, fun h => absurd h (by omega)⟩
        go_wp2
        go_loopw [8, 10, 25] (fun dv _ kv wr => ∃ (i : Nat) (a8 : Option Addr) (c8 g8 : Nat), i ≤ ds.length ∧ dv = .slice a8 i c8 ∧ kv = .int .i64 i ∧ Hid (Fr (fun _ => False) w5 wr ∧ KRow wr a8 c8 g8 7 (dyV (D.take i)) ∧ (0 < c8 → w5.heap.size ≤ g8))) (fun _ _ kv _ => ds.length - (intOf kv).toNat)
        case atStart => exact ⟨0, none, 0, 0, Nat.zero_le _, rfl, rfl, HS0⟩
        case round =>
          obtain ⟨i, a8, c8, g8, hi, rfl, rfl, HI⟩ := hrel
          clear HS0
          obtain ⟨wi, hwi⟩ : ∃ x, x = wr := ⟨_, rfl⟩
          subst hwi
          by_cases hil : i < ds.length
          · have hlt : (i : Int) < (ds.length : Int) := by omega
            obtain ⟨i1, i2, i3⟩ := unhide HI
            obtain ⟨hao, d14, hct⟩ := (unhide HDL).cellAt hil
            subst hao
            replace d14 := (i1.cell (World.block_lt_of_cell? _ _ d14) (fun t => t)).trans d14
            replace hct := hct.keep i1
            have hj : i < D.length := by rw [unhide HLEN]; exact hil
            obtain ⟨q1, q2, q3, q4, q5⟩ := unhide HDI i hil hj
            have HDT : Hid (dyV (D.take (i + 1)) = dyV (D.take i) ++ dyL D[i]) := hide (by rw [List.take_succ_eq_append_getElem hj, dyV_snoc])
            rw [q1] at HDT
            generalize ds[i] = x at *
            obtain ⟨xo, xc, xg, xt⟩ := x
            simp only [DR.val] at d14 hct q2 q3 q4 q5 HDT
            have HBI := hide ((unhide HBW).keep i1)
            have hwf := (unhide HBI).fr
            have RDY := dayOf_any wi A t ((unhide HT).keep hwf) (unhide HR) ao1 cap1 l ((unhide HL).1.keep hwf) (unhide HL).2 (unhide HO) xo xc xt hct q3 q2 q5 q4
            obtain ⟨d, hd⟩ : ∃ d, dayD t l xt = d := ⟨_, rfl⟩
            rw [hd] at RDY HDT
            obtain ⟨a0, a1, a2, a3, a4, a5, a6⟩ := d
            simp only [dyC] at RDY
            unfold tv at RDY
            obtain ⟨xn, hxn⟩ : ∃ xn, xt.length = xn := ⟨_, rfl⟩
            rw [hxn] at RDY d14
            have RD := hide RDY
            have HI1 := hide i1
            have HI2 := hide i2
            have HI3 := hide i3
            have hTL : (D.take i).length = i := by rw [List.length_take]; omega
            have HQL : Hid ((dyV (D.take i)).length = i * 7) := hide (by rw [dyV_length, hTL])
            clear RDY hd hxn q1 q2 q3 q4 q5 hct i1 i2 i3 HI hwf hj hTL
            go_wp2_with (refine wpList_load_tariff rfl (.tmp 3) rfl (g := B) (A := A) (t := t) rfl (unhide HBI).box ?_)
            refine (unhide RD).mono ?_
            rintro e w7 ⟨rfl, hF⟩
            have HF7 := hide hF
            have K3 := hide (((unhide HI2).keep (by omega) hF).keep (by omega) ((Fr.refl (fun _ => False) w7).alloc (.cells #[.int .i64 a0, .int .i64 a1, .int .i64 a2, .int .i64 a3, .int .i64 a4, .int .i64 a5, .int .i64 a6] 70)))
            have HSR := hide (src_one w7 (dyL ⟨a0, a1, a2, a3, a4, a5, a6⟩) 64 70 7 Tryz.underlying64 rfl (dyL_one _) (W := w7.alloc (.cells #[.int .i64 a0, .int .i64 a1, .int .i64 a2, .int .i64 a3, .int .i64 a4, .int .i64 a5, .int .i64 a6] 70)) (fun j => by rw [World.cell?_alloc_new]; exact List.getElem?_toArray.symm ▸ rfl))
            clear hF RD d14 HBI
            go_wp2_with (at_builtin; refine wpList_append_krow _ rfl (.tmp 29) (.tmp 34) 64 64 rfl 70 info _ 7 (by omega) Tryz.underlying64 (unhide HIN).1 (unhide HIN).2.1 (unhide HIN).2.2.1 (unhide HIN).2.2.2.1 rfl (unhide K3) (unhide HQL) _ _ 1 rfl (unhide HSR) (by rw [(unhide HIN).2.2.2.2]; omega) (by omega) ?_)
            intro a8' c8' w9 g8' hK hG
            have HS1 : Hid (Fr (fun _ => False) w5 w9 ∧ KRow w9 a8' c8' g8' 7 (dyV (D.take (i + 1))) ∧ (0 < c8' → w5.heap.size ≤ g8')) := hide (by
              have hal : Fr (fun _ => False) w5 (w7.alloc (.cells #[.int .i64 a0, .int .i64 a1, .int .i64 a2, .int .i64 a3, .int .i64 a4, .int .i64 a5, .int .i64 a6] 70)) := ((unhide HI1).trans (unhide HF7) (fun _ _ t => t)).alloc _
              refine ⟨?_, ?_, fun hc' => ?_⟩
              · rcases hG with ⟨_, _, f⟩ | ⟨_, _, f⟩
                · exact hal.trans f (fun q hq e => by have := unhide HI3 e.2; have := e.1; omega)
                · exact hal.trans f (fun _ _ t => t)
              · rw [unhide HDT]
                exact hK
              · have := hal.size
                rcases hG with ⟨e1, e2, _⟩ | ⟨e1, _, _⟩
                · rw [e1]; exact unhide HI3 (by omega)
                · omega)
            clear hK hG K3 HSR HQL HDT HF7 HI1 HI2 HI3
            go_wp2
            exact ⟨⟨i + 1, a8', c8', g8', by omega, rfl, by go_num, HS1⟩, by simp [intOf]; omega⟩
          · obtain rfl : i = ds.length := by omega
            have hltn : ¬ (ds.length : Int) < (ds.length : Int) := by omega
            obtain ⟨i1, i2, i3⟩ := unhide HI
            rw [show D.take ds.length = D by rw [← unhide HLEN, List.take_length]] at i2
            rw [← unhide HLEN]
            rw [← unhide HLEN] at hltn hd2000
            have HBS := hide ((unhide HBW).keep i1)
            have hle8 : D.length ≤ c8 := by have := i2.le; rw [dyV_length] at this; omega
            have HG8 : Hid (0 < c8 → B + 2 < g8) := hide (fun hc => by have := i3 hc; have := (unhide HBW).err.lt; omega)
            have HCD : Hid (∀ u, Fr (fun q => q = B + 1) wi u → CAt u a8 (dyV D)) := hide (fun u hu => (i2.stay (fun hc => hu.block _ (i2.lt (by omega) hc) (by have := unhide HG8 hc; omega))).cat)
            clear i1 i2 i3 HI HDI HDL HBW HLEN
            obtain ⟨w6, hw6⟩ : ∃ x, x = wi := ⟨_, rfl⟩
            subst hw6
            obtain ⟨dn, hdn⟩ : ∃ dn, D.length = dn := ⟨_, rfl⟩
            have HDN := hide hdn
            rw [hdn] at hle8 hltn hd2000 ⊢
            have HS2 : Hid (DRow t D ∧ D.length = dn ∧ (∀ u, Fr (fun q => q = B + 1) w6 u → CAt u a8 (dyV D)) ∧ Fr (fun q => q = B + 1) w6 w6 ∧ BW w B A t w6 none 0 0 [] ∧ ((0 : Nat) < 0 → w6.heap.size ≤ 0) ∧ ([] : List (Int × Int)) ++ billsD t D = billsD t D ∧ ([] : List (Int × Int)).length + D.length ≤ dn) := hide ⟨unhide HROW, hdn, unhide HCD, Fr.refl _ _, unhide HBS, fun h => absurd h (by omega), rfl, by simp [hdn]⟩
            clear HCD HBS HROW hdn
            go_wp2
            go_loopw [8, 11] (fun dv _ wr => ∃ (rem : List Dy) (rn : Nat) (ak : Option Addr) (ck : Nat) (ab : Option Addr) (cb gb : Nat) (bs : List (Int × Int)), rn ≤ ck ∧ dv = .slice ak rn ck ∧ Hid (DRow t rem ∧ rem.length = rn ∧ (∀ u, Fr (fun q => q = B + 1) w6 u → CAt u ak (dyV rem)) ∧ Fr (fun q => q = B + 1) w6 wr ∧ BW w B A t wr ab cb gb bs ∧ (0 < cb → w6.heap.size ≤ gb) ∧ bs ++ billsD t rem = billsD t D ∧ bs.length + rem.length ≤ dn)) (fun dv _ _ => match dv with | .slice _ n _ => n | _ => 0)
            case atStart => exact ⟨D, dn, a8, c8, none, 0, 0, [], hle8, rfl, HS2⟩
            case round =>
              obtain ⟨rem, rn, ak, ck, ab, cb, gb, bs, hck, rfl, HI⟩ := hrel
              clear HS2
              obtain ⟨w7, hw7⟩ : ∃ x, x = wr := ⟨_, rfl⟩
              subst hw7
              by_cases h0 : 0 < rn
              · obtain ⟨j1, j2, j3, j4, j5, j6, j7, j8⟩ := unhide HI
                have hrl : 0 < rem.length := by omega
                obtain ⟨b0, off0, hak, hqq⟩ := (j3 w7 j4).dy hrl
                clear hqq
                subst hak
                have RW0 := weekLength_any w7 _ ck rem (j3 w7 j4) (by omega) hrl
                have hn0 := wkLn_pos hrl
                have hnl := wkLn_le rem
                obtain ⟨n, hn⟩ : ∃ n, wkLn rem = n := ⟨_, rfl⟩
                have HN := hide hn
                rw [hn, j2] at RW0
                rw [hn] at hn0 hnl
                rw [j2] at hnl
                have RW := hide RW0
                have HBI := hide j5
                have J := hide (And.intro j1 (And.intro j2 (And.intro j3 (And.intro j4 (And.intro j6 (And.intro j7 j8))))))
                have h0b : decide ((0 : Int) < (rn : Int)) = true := by simp; omega
                have h0i : (0 : Int) < (rn : Int) := by omega
                clear j1 j2 j3 j4 j5 j6 j7 j8 HI RW0 hn hrl
                go_wp2_with fail
                refine (unhide RW).mono ?_
                rintro e w8 ⟨rfl, hF⟩
                have HF8 := hide hF
                replace HBI := hide ((unhide HBI).keep hF)
                clear hF RW
                have hnI : (n : Int) ≤ (rn : Int) := by omega
                have hnC : (n : Int) ≤ (ck : Int) := by omega
                have hn0i : (0 : Int) ≤ (n : Int) := by omega
                have hsl := fun u => slice_uptoB b0 off0 n rn ck (by omega) hn0 u
                obtain ⟨wn, hwn⟩ : ∃ wn, wn = weekV (rem[0]'(by have := (unhide J).2.1; omega)).day := ⟨_, rfl⟩
                obtain ⟨am, ham⟩ : ∃ am, am = wkV t (rem.take n) := ⟨_, rfl⟩
                have HST : Hid (billsD t rem = (wn, am) :: billsD t (rem.drop n)) := hide (by
                  rw [billsD_step t (by have := (unhide J).2.1; omega), hwn, ham, unhide HN])
                have RB : Hid (∀ u, Fr (fun _ => False) w8 u → Calls Tryz.prog 30 #[.agg (tc A t), .slice (some ⟨b0, off0, none⟩) n ck] u fun e u' => e = .returned (.agg #[.int .i64 wn, .int .i64 am]) ∧ Fr (fun _ => False) u u') := hide (fun u hu => by
                  obtain ⟨j1, j2, j3, j4, _⟩ := unhide J
                  have hfu : Fr (fun q => q = B + 1) w6 u := (j4.trans (unhide HF8) (fun _ _ t => t.elim)).trans hu (fun _ _ t => t.elim)
                  have htl : (rem.take n).length = n := by rw [List.length_take]; omega
                  have hwk := wk_row (unhide HR) j1 (by omega)
                  rw [unhide HN] at hwk
                  have := billOf_any u A t ((unhide HT).keep ((unhide HBI).fr.trans hu (fun _ _ t => t))) _ ck (rem.take n) ((j3 u hfu).frontD n) (by omega) hwk.2
                  have e0 : weekV ((rem.take n)[0]'(by omega)).day = wn := by rw [List.getElem_take]; exact hwn.symm
                  rw [e0, ← ham] at this
                  rw [htl] at this
                  exact this)
                clear hwn ham
                have HQ : Hid (∀ u, Fr (fun _ => False) w8 u → u.cell? ⟨B, 0, none⟩ = some (.slice A.aS t.st.length A.cS) ∧ u.cell? ⟨B, 1, none⟩ = some (.slice A.aP t.sp.length A.cP) ∧ u.cell? ⟨B, 2, none⟩ = some (.slice A.aB t.bd.length A.cB) ∧ u.cell? ⟨B, 3, none⟩ = some (.float .f64 t.off) ∧ u.cell? ⟨B, 4, none⟩ = some (.int .i64 t.bus) ∧ u.cell? ⟨B, 5, none⟩ = some (.int .i64 t.busDaily) ∧ u.cell? ⟨B, 6, none⟩ = some (.int .i64 t.busWeekly) ∧ u.cell? ⟨B, 7, none⟩ = some (.int .i64 t.hopper) ∧ u.cell? ⟨B, 8, none⟩ = some (.int .i64 t.most) ∧ u.cell? ⟨B, 9, none⟩ = some (.int .i64 t.longest) ∧ u.cell? ⟨B, 10, none⟩ = some (.int .i64 t.change) ∧ u.cell? ⟨B, 11, none⟩ = some (.int .i64 t.passback) ∧ u.cell? ⟨B, 12, none⟩ = some (.int .i64 t.delay) ∧ u.cell? ⟨B, 13, none⟩ = some (.int .i64 t.threshold) ∧ u.cell? ⟨B + 1, 0, none⟩ = some (.slice ab bs.length cb) ∧ u.frozen? ⟨B + 1, 0, none⟩ = false) := hide (fun u hf => by
                  have h1 := (unhide HBI).keep hf
                  exact ⟨h1.box.cell 0, h1.box.cell 1, h1.box.cell 2, h1.box.cell 3, h1.box.cell 4, h1.box.cell 5, h1.box.cell 6, h1.box.cell 7, h1.box.cell 8, h1.box.cell 9, h1.box.cell 10, h1.box.cell 11, h1.box.cell 12, h1.box.cell 13, h1.res.cell 0, h1.res.frozen 0⟩)
                unfold tc at RB
                obtain ⟨d0, d1, d2, d3, d4, d5, d6, d7, d8, d9, d10, d11, d12, d13, d14, d15⟩ := unhide HQ w8 (Fr.refl _ _)
                have HBL : Hid (bs.length ≤ dn) := hide (by have := (unhide J).2.2.2.2.2.2; omega)
                obtain ⟨bn, hbn⟩ : ∃ bn, bs.length = bn := ⟨_, rfl⟩
                have HBN := hide hbn
                rw [hbn] at HQ HBL d14
                have HVL : Hid ((blV bs).length = bn * 2) := hide (by rw [blV_length, hbn])
                clear hbn
                go_wp2_with fail
                refine wp_region_noPanic ?_
                go_region_law (first
                  | (refine step_callB rfl 30 #[.agg #[.slice A.aS t.st.length A.cS, .slice A.aP t.sp.length A.cP, .slice A.aB t.bd.length A.cB, .float .f64 t.off, .int .i64 t.bus, .int .i64 t.busDaily, .int .i64 t.busWeekly, .int .i64 t.hopper, .int .i64 t.most, .int .i64 t.longest, .int .i64 t.change, .int .i64 t.passback, .int .i64 t.delay, .int .i64 t.threshold], .slice (some ⟨b0, off0, none⟩) n ck] (by kernel_rfl) (unhide RB _ (by first | exact Fr.refl _ _ | exact (Fr.refl _ _).drew)) ?_; rintro e w9 ⟨rfl, hA⟩; refine ⟨_, rfl, ?_⟩; have HA : Hid (Fr (fun _ => False) w8 w9) := hide (Fr.trans (by first | exact Fr.refl _ _ | exact (Fr.refl _ _).drew) hA (fun _ _ t => t)); clear hA; obtain ⟨e0, e1, e2, e3, e4, e5, e6, e7, e8, e9, e10, e11, e12, e13, e14, e15⟩ := unhide HQ w9 (unhide HA); have g14 := (unhide HQ _ ((unhide HA).alloc (.cells #[.int .i64 wn, .int .i64 am] 43))).2.2.2.2.2.2.2.2.2.2.2.2.2.2.1; have g15 := (unhide HQ _ ((unhide HA).alloc (.cells #[.int .i64 wn, .int .i64 am] 43))).2.2.2.2.2.2.2.2.2.2.2.2.2.2.2; have HSR := hide (src_one w9 (blL (wn, am)) 33 43 2 Tryz.underlying33 rfl (blL_one _) (W := w9.alloc (.cells #[.int .i64 wn, .int .i64 am] 43)) (fun j => by rw [World.cell?_alloc_new]; exact List.getElem?_toArray.symm ▸ rfl)))
                  | (refine step_append_krow rfl (.tmp 42) (.tmp 48) 33 33 rfl 43 infb _ 2 (by omega) Tryz.underlying33 (unhide HIB).1 (unhide HIB).2.1 (unhide HIB).2.2.1 (unhide HIB).2.2.2.1 (ao := ab) (cap := cb) (g := gb) (n := bn) (vs := blV bs) rfl ((unhide HBI).row.keep (by omega) ((unhide HA).alloc (.cells #[.int .i64 wn, .int .i64 am] 43))) (unhide HVL) _ (blL (wn, am)) 1 rfl (unhide HSR) (by rw [(unhide HIB).2.2.2.2]; have := unhide HBL; omega) (by have := unhide HBL; omega) ?_; intro ab' cb' wz gb' hK hG; have HKG := hide (And.intro hK hG); have hne : ¬ (B + 1 = gb ∧ 0 < cb) := (fun t => by have := (unhide HBI).new t.2; have := t.1; omega); have y14 : wz.cell? ⟨B + 1, 0, none⟩ = some (.slice ab bn cb) := (hG.frB.cell (a := ⟨B + 1, 0, none⟩) (World.block_lt_of_cell? _ _ g14) hne).trans g14; have y15 : wz.frozen? ⟨B + 1, 0, none⟩ = false := (hG.frB.frozen (a := ⟨B + 1, 0, none⟩) (World.block_lt_of_cell? _ _ g14) hne).trans g15; clear hK hG))
                all_goals
                  refine NoPanic.normal ?_
                  have hadd := (unhide HBI).add ((unhide HA).alloc (.cells #[.int .i64 wn, .int .i64 am] 43)) (wn, am) (unhide HKG).1 (unhide HKG).2
                  rw [unhide HBN] at hadd
                  have HNX : Hid (Fr (fun q => q = B + 1) w6 (wz.setCell ⟨B + 1, 0, none⟩ (.slice ab' (bn + 1) cb')) ∧ BW w B A t (wz.setCell ⟨B + 1, 0, none⟩ (.slice ab' (bn + 1) cb')) ab' cb' gb' (bs ++ [(wn, am)]) ∧ (0 < cb' → w6.heap.size ≤ gb')) := hide (by
                    obtain ⟨_, _, _, j4, j6, _⟩ := unhide J
                    have f8 : Fr (fun q => q = B + 1) w6 (w9.alloc (.cells #[.int .i64 wn, .int .i64 am] 43)) := (j4.trans (unhide HF8) (fun _ _ t => t.elim)).trans ((unhide HA).alloc _) (fun _ _ t => t.elim)
                    have hg := (unhide HKG).2
                    refine ⟨(f8.trans hg.frB (fun q hq e => by have := j6 e.2; have := e.1; omega)).setCell (p := ⟨B + 1, 0, none⟩) (fun _ => rfl) _, hadd, fun hc => ?_⟩
                    have := f8.size
                    rcases hg with ⟨e1, e2, _⟩ | ⟨e1, _, _⟩
                    · rw [e1]; exact j6 (by omega)
                    · omega)
                  clear hadd
                  obtain ⟨wq, hwq⟩ : ∃ x, x = wz.setCell ⟨B + 1, 0, none⟩ (.slice ab' (bn + 1) cb') := ⟨_, rfl⟩
                  rw [← hwq] at HNX ⊢
                  clear hwq HKG HSR HA HBI RB HQ HVL HIB HIN hsl d0 d1 d2 d3 d4 d5 d6 d7 d8 d9 d10 d11 d12 d13 d14 d15 e0 e1 e2 e3 e4 e5 e6 e7 e8 e9 e10 e11 e12 e13 e14 e15 g14 g15 y14 y15 hne
                  go_wp2
                  refine ⟨⟨rem.drop n, rn - n, _, ck - n, ab', cb', gb', bs ++ [(wn, am)], by omega, rfl, hide ?_⟩, by simp; omega⟩
                  obtain ⟨j1, j2, j3, j4, j6, j7, j8⟩ := unhide J
                  obtain ⟨x1, x2, x3⟩ := unhide HNX
                  refine ⟨j1.sub (List.drop_sublist ..), by rw [List.length_drop, j2], fun u hu => ?_, x1, x2, x3, ?_, ?_⟩
                  · split
                    · rename_i e
                      have : rem.drop n = [] := List.eq_nil_of_length_eq_zero (by rw [List.length_drop]; omega)
                      rw [this]
                      exact CAt.nil _ _
                    · simpa [Addr.add_lit] using (j3 u hu).rearD n
                  · rw [List.append_assoc, ← j7, unhide HST]
                    rfl
                  · rw [List.length_append, List.length_drop, List.length_singleton]
                    omega
              · obtain rfl : rn = 0 := by omega
                obtain ⟨j1, j2, j3, j4, j5, j6, j7, j8⟩ := unhide HI
                have hnil : rem = [] := List.eq_nil_of_length_eq_zero j2
                subst hnil
                rw [billsD_nil, List.append_nil] at j7
                have r0 : w7.cell? ⟨B + 1, 0, none⟩ = some (.slice ab bs.length cb) := j5.res.cell 0
                have r1 := j5.res.frozen 0
                have e0 : w7.cell? ⟨B + 2, 0, none⟩ = some (.int .i64 0) := j5.err.cell 0
                have e1 := j5.err.frozen 0
                have HZ : Hid (((w7.setCell ⟨B + 1, 0, none⟩ (.slice ab bs.length cb)).setCell ⟨B + 2, 0, none⟩ (.int .i64 0)).cell? ⟨B + 1, 0, none⟩ = some (.slice ab bs.length cb) ∧ ((w7.setCell ⟨B + 1, 0, none⟩ (.slice ab bs.length cb)).setCell ⟨B + 2, 0, none⟩ (.int .i64 0)).cell? ⟨B + 2, 0, none⟩ = some (.int .i64 0) ∧
                    OwedP t l m w (.returned (.tuple #[.slice ab bs.length cb, .int .i64 0])) ((w7.setCell ⟨B + 1, 0, none⟩ (.slice ab bs.length cb)).setCell ⟨B + 2, 0, none⟩ (.int .i64 0))) := hide (by
                  have k1 := (j5.res.setCell 0 (.slice ab bs.length cb)).setOther (by omega : ¬ B + 1 = B + 2) 0 (.int .i64 0)
                  have k2 := (j5.err.setOther (by omega : ¬ B + 2 = B + 1) 0 (.slice ab bs.length cb)).setCell 0 (.int .i64 0)
                  have hsz := j5.sz
                  refine ⟨k1.cell 0, k2.cell 0, ab, cb, gb, ?_, ?_, fun hc => by have := j5.new hc; omega, Fr.put8 (Fr.put8 j5.fr (by omega) 0 _) (by omega) 0 _⟩
                  · rw [unhide HOWL, ← j7, unhide HOWE]
                  · rw [unhide HOWL, ← j7]
                    have g1 : Fr (fun q => q = B + 1) w7 (w7.setCell ⟨B + 1, 0, none⟩ (.slice ab bs.length cb)) := (Fr.refl (fun q => q = B + 1) _).setCell (p := ⟨B + 1, 0, none⟩) (fun _ => rfl) _
                    have g2 : Fr (fun q => q = B + 2) (w7.setCell ⟨B + 1, 0, none⟩ (.slice ab bs.length cb)) ((w7.setCell ⟨B + 1, 0, none⟩ (.slice ab bs.length cb)).setCell ⟨B + 2, 0, none⟩ (.int .i64 0)) := (Fr.refl (fun q => q = B + 2) _).setCell (p := ⟨B + 2, 0, none⟩) (fun _ => rfl) _
                    have r2 := j5.row.stay (fun hc => g1.block _ (j5.row.lt (by omega) hc) (by have := j5.new hc; omega))
                    exact r2.stay (fun hc => g2.block _ (r2.lt (by omega) hc) (by have := j5.new hc; omega)))
                clear j1 j2 j3 j4 j5 j6 j7 j8 HI
                obtain ⟨bn, hbn⟩ : ∃ bn, bs.length = bn := ⟨_, rfl⟩
                rw [hbn] at HZ r0
                clear hbn
                go_wp2
                refine leaves_cons (f := 22) (args := #[.pointer (some ⟨B + 1, 0, none⟩), .pointer (some ⟨B + 2, 0, none⟩)]) (by simp) (by simp [go_sem]) ?_
                refine (idleB (B + 1) (B + 2) _).mono ?_
                rintro e u' w'' ⟨rfl, rfl, rfl⟩
                have z1 := (unhide HZ).1
                have z2 := (unhide HZ).2.1
                have z3 := hide (unhide HZ).2.2
                clear HZ
                simp [Leaves, settle, results, Tryz.results11, go_sem, z1, z2]
                exact unhide z3

end Go.Proofs.YtjgbllfppomcmaaGreat

/- What a token owes in all: the program's Charge. -/
namespace Go.Proofs.YtjgbllfppomcmaaGreat
open Go.RowKit

theorem wkIn_fold {t : Tf} (hr : rightE t = 0) : ∀ (L : List Dy) (s : Dy) (n : Int), WkIn t s n → (∀ d ∈ L, GoodD t d) → WkIn t (L.foldl addW s) (n + L.length)
  | [], s, n, h, _ => by simpa using h
  | d :: r, s, n, h, hg => by
    have := wkIn_fold hr r (addW s d) (n + 1) (h.add hr (hg d (List.mem_cons_self ..))) (fun x hx => hg x (List.mem_cons_of_mem _ hx))
    rw [show n + 1 + (r.length : Int) = n + ((d :: r).length : Int) by rw [List.length_cons]; omega] at this
    exact this
theorem wkIn_sum {t : Tf} (hr : rightE t = 0) (L : List Dy) (hg : ∀ d ∈ L, GoodD t d) : WkIn t (sumW L) L.length := by
  have := wkIn_fold hr L dz 0 (WkIn.zero t) hg
  rw [Int.zero_add] at this
  exact this

theorem wkV_in {t : Tf} (hr : rightE t = 0) {L : List Dy} (hg : ∀ d ∈ L, GoodD t d) (hl : L.length ≤ 7) : 0 ≤ wkV t L ∧ wkV t L ≤ 100000000000 := by
  have h1 := wkIn_sum hr L hg
  have h2 := h1.hold hr
  have h3 := h1.m
  unfold wkV
  simp only at h2
  omega

theorem billsN_in {t : Tf} (hr : rightE t = 0) : ∀ (n : Nat) (D : List Dy), DRow t D → D.length ≤ n → (billsN t n D).length ≤ D.length ∧ ∀ b ∈ billsN t n D, 0 ≤ b.2 ∧ b.2 ≤ 100000000000
  | 0, D, _, _ => ⟨Nat.zero_le _, fun b hb => absurd hb (by simp [billsN])⟩
  | n + 1, [], _, _ => ⟨Nat.zero_le _, fun b hb => absurd hb (by simp [billsN])⟩
  | n + 1, d :: r, h, hn => by
    have hp := wkLn_pos (D := d :: r) (by simp)
    have hl : (List.drop (wkLn (d :: r)) (d :: r)).length = (d :: r).length - wkLn (d :: r) := List.length_drop ..
    have h2 : (d :: r).length = r.length + 1 := rfl
    obtain ⟨i1, i2⟩ := billsN_in hr n ((d :: r).drop (wkLn (d :: r))) (h.sub (List.drop_sublist ..)) (by omega)
    have hw := wk_row hr h (by simp)
    have hg := wkV_in hr (L := (d :: r).take (wkLn (d :: r))) (fun x hx => (h.good x (List.mem_of_mem_take hx)).1) hw.1
    refine ⟨?_, fun b hb => ?_⟩
    · show (billsN t n ((d :: r).drop (wkLn (d :: r)))).length + 1 ≤ _
      omega
    · have hb' : b ∈ (weekV d.day, wkV t ((d :: r).take (wkLn (d :: r)))) :: billsN t n ((d :: r).drop (wkLn (d :: r))) := hb
      rcases List.mem_cons.1 hb' with rfl | hb'
      · exact hg
      · exact i2 b hb'

theorem daysL_few {m : List Tp} (h : RgtOk m) : (daysL m).length ≤ m.length := daysN_few m.length m h (Nat.le_refl _)
theorem owedL_in (t : Tf) (l : List Ou) (m : List Tp) : (owedL t l m).length ≤ 2000 ∧ ∀ b ∈ owedL t l m, 0 ≤ b.2 ∧ b.2 ≤ 100000000000 := by
  unfold owedL
  split
  · rename_i h
    obtain ⟨h1, _, h3⟩ := owedE_zero h
    obtain ⟨h4, h5⟩ := (rightT_zero m).1 h3
    obtain ⟨k1, k2⟩ := billsN_in h1 (daysD t l m).length (daysD t l m) (daysD_row h1 h5 h4) (Nat.le_refl _)
    have h6 : (daysD t l m).length = (daysL m).length := List.length_map ..
    have h7 := daysL_few h5
    exact ⟨Nat.le_trans k1 (by omega), k2⟩
  · exact ⟨Nat.zero_le _, fun b hb => by cases hb⟩

def sumB (l : List (Int × Int)) : Int := l.foldl (fun s b => s + b.2) 0
theorem sumB_step (l : List (Int × Int)) (i : Nat) (hi : i < l.length) : sumB (l.take (i + 1)) = sumB (l.take i) + l[i].2 := by
  unfold sumB
  rw [List.take_succ_eq_append_getElem hi, List.foldl_append]
  rfl
theorem sumB_in {l : List (Int × Int)} (h : ∀ b ∈ l, 0 ≤ b.2 ∧ b.2 ≤ 100000000000) : ∀ i, i ≤ l.length → 0 ≤ sumB (l.take i) ∧ sumB (l.take i) ≤ i * 100000000000
  | 0, _ => by simp [sumB]
  | i + 1, hi => by
    have := sumB_in h i (by omega)
    have h2 := h _ (List.getElem_mem (show i < l.length by omega))
    rw [sumB_step l i (by omega)]
    omega

/-- What a token owes in all. -/
def owedV (t : Tf) (l : List Ou) (m : List Tp) : Int := sumB (owedL t l m)

theorem CAt.bl {w : World} {ao : Option Addr} {l : List (Int × Int)} (h : CAt w ao (blV l)) {i : Nat} (hi : i < l.length) : ∃ b off, ao = some ⟨b, off, none⟩ ∧ w.cell? ⟨b, off + i * 2, none⟩ = some (.int .i64 l[i].1) ∧ w.cell? ⟨b, off + i * 2 + 1, none⟩ = some (.int .i64 l[i].2) := by
  have hl := blV_length l
  obtain ⟨b, off, e, hc⟩ := h (by omega)
  have g := fun c hc' => flat_get blL 2 (fun _ => rfl) l i hi c hc'
  have q : ∀ c (hc' : c < 2) v, (blL l[i])[c]? = some v → w.cell? ⟨b, off + (i * 2 + c), none⟩ = some v := fun c hc' v hv => by
    have h1 := hc (i * 2 + c) (by omega)
    have h2 := g c hc'
    rw [hv] at h2
    rw [h1]
    have h3 : (blV l)[i * 2 + c]? = some v := h2
    rw [List.getElem?_eq_getElem (by omega)] at h3
    exact h3
  exact ⟨b, off, e, q 0 (by omega) _ rfl, q 1 (by omega) _ rfl⟩

set_option maxHeartbeats 2000000 in
set_option maxRecDepth 20000 in
theorem charge_any (w : World) (A : Ad) (t : Tf) (h : TAt w A t) (ao1 : Option Addr) (cap1 : Nat) (l : List Ou) (hl : CAt w ao1 (ouV l)) (hln : l.length ≤ 140737488355328) (ao0 : Option Addr) (cap0 : Nat) (m : List Tp) (hm : CAt w ao0 (tpV m)) (hml : m.length ≤ 4398046511104) (hcap : m.length ≤ cap0) :
    Calls Tryz.prog 12 #[tv A t, .slice ao1 l.length cap1, .slice ao0 m.length cap0] w fun e w' => e = .returned (.tuple #[.int .i64 (owedV t l m), .int .i64 (owedE t l m)]) ∧ Fr (fun _ => False) w w' := by
  obtain ⟨v, hv⟩ : ∃ v, v = w.alloc (.cells (tc A t) 27) := ⟨_, rfl⟩
  have hFv : Fr (fun _ => False) w v := by rw [hv]; exact (Fr.refl _ w).alloc _
  have HFV := hide hFv
  have RB := hide (bills_any v A t (h.keep hFv) ao1 cap1 l (hl.keep hFv) hln ao0 cap0 m (hm.keep hFv) hml hcap)
  have HTB : Hid (TB v w.heap.size A t) := hide (by rw [hv]; exact TB.new w A t)
  obtain ⟨B, hB⟩ : ∃ B, B = w.heap.size := ⟨_, rfl⟩
  rw [← hB] at HTB
  have HV := hide hv
  have HB := hide hB
  have HIN := hide (owedL_in t l m)
  have HE2 : Hid (¬ owedE t l m = 0 → owedL t l m = []) := hide (fun e => by unfold owedL; rw [if_neg e])
  have HOV : Hid (owedV t l m = sumB (owedL t l m)) := hide rfl
  clear hv hFv hB h hl hln hm
  unfold tv at RB ⊢
  unfold tc at RB HV ⊢
  unfold OwedP at RB
  generalize owedE t l m = E at *
  generalize owedV t l m = V at *
  obtain ⟨L, hL⟩ : ∃ L, owedL t l m = L := ⟨_, rfl⟩
  rw [hL] at RB HIN HE2 HOV
  clear hL
  go_enter Tryz.func12, Tryz.ntmps12
  go_upto_region 1 with (fail)
  rw [← unhide HV, ← unhide HB]
  clear HV
  go_wp2_with (refine wpList_load_tariff rfl (.tmp 3) rfl (g := B) (A := A) (t := t) rfl (unhide HTB) ?_)
  refine (unhide RB).mono ?_
  rintro e w2 ⟨ab, cb, gb, rfl, hk, _, hF⟩
  have HF := hide ((unhide HFV).trans hF (fun _ _ t => t))
  have HK := hide hk.cat
  clear hk hF RB
  by_cases he : E = 0
  case neg =>
    have hb2 : (E == 0) = false := by simp [he]
    have hb3 : (E != 0) = true := by simp [he]
    have HVV : Hid (V = 0) := hide (by rw [unhide HOV, unhide HE2 he]; rfl)
    obtain ⟨nl, hnl⟩ : ∃ nl, L.length = nl := ⟨_, rfl⟩
    rw [hnl]
    clear he HE2 HOV HIN hnl HK
    go_wp2
    go_ret2
    exact ⟨by rw [unhide HVV]; rfl, unhide HF⟩
  case pos =>
    subst he
    have hn := (unhide HIN).1
    obtain ⟨nl, hnl⟩ : ∃ nl, L.length = nl := ⟨_, rfl⟩
    have HNL := hide hnl
    rw [hnl] at hn ⊢
    clear hnl HE2
    have HS0 : Hid (Fr (fun _ => False) w2 w2) := hide (Fr.refl _ _)
    have HZ0 : Hid (sumB (L.take 0) = 0) := hide rfl
    go_wp2
    go_loopw [10, 12, 25] (fun sv _ kv wr => ∃ (i : Nat) (s : Int), i ≤ nl ∧ sv = .int .i64 s ∧ kv = .int .i64 i ∧ Hid (s = sumB (L.take i)) ∧ Hid (Fr (fun _ => False) w2 wr)) (fun _ _ kv _ => nl - (intOf kv).toNat)
    case atStart => exact ⟨0, 0, Nat.zero_le _, rfl, rfl, hide (unhide HZ0).symm, HS0⟩
    case round =>
      obtain ⟨i, s, hi, rfl, rfl, HSS, HI⟩ := hrel
      clear HS0 HZ0
      by_cases hil : i < nl
      · have hlt : (i : Int) < (nl : Int) := by omega
        obtain ⟨b0, off0, hao, c0, c1⟩ := ((unhide HK).keep (unhide HI)).bl (i := i) (by rw [unhide HNL]; exact hil)
        subst hao
        have hst := sumB_step L i (by rw [unhide HNL]; exact hil)
        have h1 := sumB_in (unhide HIN).2 i (by rw [unhide HNL]; exact hi)
        have h2 := (unhide HIN).2 _ (List.getElem_mem (show i < L.length by rw [unhide HNL]; exact hil))
        rw [← unhide HSS] at hst h1
        generalize L[i]'(by rw [unhide HNL]; exact hil) = x at *
        obtain ⟨x0, x1⟩ := x
        simp only at c0 c1 hst h2
        have HST := hide hst
        have hwr : wrap64 (s + x1) = s + x1 := by unfold wrap64; omega
        have HFX : Hid (Fr (fun _ => False) w2 (wr.alloc (.cells #[.int .i64 x0, .int .i64 x1] 43))) := hide ((unhide HI).alloc _)
        clear hst h1 h2 HSS
        go_wp2
        exact ⟨⟨i + 1, s + x1, by omega, by first | rfl | rw [hwr], by go_num, hide (unhide HST).symm, by first | exact HFX | (refine hide ?_; repeat (first | exact unhide HI | exact unhide HFX | (refine Fr.put8 ?_ (unhide HI).size _ _) | refine Fr.alloc ?_ _))⟩, by simp [intOf]; omega⟩
      · obtain rfl : i = nl := by omega
        have hltn : ¬ (i : Int) < (i : Int) := by omega
        have HVV : Hid (V = s) := hide (by rw [unhide HOV, unhide HSS, ← unhide HNL, List.take_length])
        have HFF := hide ((unhide HF).trans (unhide HI) (fun _ _ t => t))
        clear HSS HOV HIN HK HI HNL
        go_wp2
        go_ret2
        exact ⟨by rw [unhide HVV]; rfl, unhide HFF⟩

end Go.Proofs.YtjgbllfppomcmaaGreat

