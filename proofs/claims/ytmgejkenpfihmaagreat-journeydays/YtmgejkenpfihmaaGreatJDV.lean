/- Proved: the law JourneyDays answers true for every slice of taps and every two taps, and its arguments read afterwards as they read before. No condition but the form's own reach. -/
import Derived.Test.YtmgejkenpfihmaaGreatJDA
import Derived.Test.YtmgejkenpfihmaaGreatJNH
import Derived.Test.YtmgejkenpfihmaaGreatOX
/- The walk of JourneyDays. -/
namespace Go.Proofs.YtmgejkenpfihmaaGreat
open Go.RowKit

theorem DL.other {S : Nat → Prop} {M : Nat} {u u' : World} {ao : Option Addr} {cap g : Nat} {ds : List DR} (h : DL M u ao cap g ds) (hf : Fr S u u') (hS : ∀ q, M ≤ q → ¬ S q) : DL M u' ao cap g ds :=
  ⟨h.row.stay (fun hc => hf.block _ (h.row.lt (by omega) hc) (hS _ (h.new hc))), h.new, fun e he => ⟨(h.els e he).1.stay (fun hc => hf.block _ ((h.els e he).1.lt (by omega) hc) (hS _ ((h.els e he).2 hc).1)), (h.els e he).2⟩, h.apart⟩

theorem daysN_le : ∀ (n : Nat) (l : List Tp), (daysN n l).length ≤ n ∧ ∀ m ∈ daysN n l, m.length ≤ l.length
  | 0, _ => ⟨Nat.le_refl _, fun m hm => by simp [daysN] at hm⟩
  | n + 1, [] => ⟨by simp [daysN], fun m hm => by simp [daysN] at hm⟩
  | n + 1, x :: r => by
    have ih := daysN_le n ((x :: r).drop (dayLn (x :: r)))
    refine ⟨?_, fun m hm => ?_⟩
    · show ((x :: r).take (dayLn (x :: r)) :: daysN n ((x :: r).drop (dayLn (x :: r)))).length ≤ n + 1
      rw [List.length_cons]; have := ih.1; omega
    · have hm' : m ∈ (x :: r).take (dayLn (x :: r)) :: daysN n ((x :: r).drop (dayLn (x :: r))) := hm
      rcases List.mem_cons.1 hm' with e | e
      · rw [e, List.length_take]; omega
      · have := ih.2 m e
        rw [List.length_drop] at this; omega
theorem daysL_le (l : List Tp) : (daysL l).length ≤ l.length ∧ ∀ m ∈ daysL l, m.length ≤ l.length := daysN_le l.length l

set_option maxHeartbeats 8000000 in
set_option maxRecDepth 20000 in
theorem days_walk (w : World) (ao0 : Option Addr) (cap0 : Nat) (l : List Tp) (hl : CAt w ao0 (tpV l)) (hn : (l.length + 1) * 56 ≤ 140737488355328) (tp1 tp2 : Tp) :
    Calls Tryz.prog 3 #[.slice ao0 l.length cap0, .agg (tpC tp1), .agg (tpC tp2)] w fun e w' => e = .returned (.bool true) ∧ Fr (fun _ => False) w w' := by
  have HL := hide (fun (u : World) (hu : Fr (fun _ => False) w u) => hl.keep hu)
  have HNN := hide hn
  obtain ⟨v, hv⟩ : ∃ v, v = (w.alloc (.cells (tpC tp1) 24)).alloc (.cells (tpC tp2) 24) := ⟨_, rfl⟩
  have HF : Hid (Fr (fun _ => False) w v) := hide (by rw [hv]; exact ((Fr.refl _ w).alloc _).alloc _)
  have hA : Bx v w.heap.size (tpC tp1) 24 := by rw [hv]; exact (Bx.new w _ _).alloc _
  have hB : Bx v (w.heap.size + 1) (tpC tp2) 24 := by
    rw [hv, ← heap_alloc w (.cells (tpC tp1) 24)]; exact Bx.new _ _ _
  obtain ⟨B, hBB⟩ : ∃ B, B = w.heap.size := ⟨_, rfl⟩
  rw [← hBB] at hA hB
  have HA := hide hA
  have HB1 := hide hB
  have HV := hide hv
  have HBE := hide hBB
  clear hv hA hB hBB hl hn
  unfold tpC at HV ⊢
  go_enter Tryz.func3, Tryz.ntmps3
  go_upto_region 1 with (fail)
  rw [← unhide HV, ← unhide HBE]
  clear HV
  go_wp2_with fail
  refine (awake_anyJ v).mono ?_
  rintro e w1 ⟨rfl, hF⟩
  replace HF := hide ((unhide HF).trans hF (fun _ _ t => t))
  replace HA := hide ((unhide HA).keep hF)
  replace HB1 := hide ((unhide HB1).keep hF)
  clear hF
  go_wp2_with fail
  refine (lent_anyJ w1 ao0 cap0 l (unhide HL w1 (unhide HF)) (unhide HNN)).mono ?_
  rintro e w2 ⟨ci, gi, rfl, hLt⟩
  have HR := hide hLt.row
  have HG : Hid (0 < ci ∧ w.heap.size ≤ gi ∧ B + 1 < gi) := hide ⟨hLt.pos, by have := hLt.new; have := (unhide HF).size; omega, by have := hLt.new; have := (unhide HB1).lt; omega⟩
  have hF := hLt.fr
  clear hLt
  replace HF := hide ((unhide HF).trans hF (fun _ _ t => t))
  replace HA := hide ((unhide HA).keep hF)
  replace HB1 := hide ((unhide HB1).keep hF)
  clear hF
  have HCF : Hid (∀ u, Fr (fun _ => False) w2 u → CAt u (some ⟨gi, 0, none⟩) (tpV l)) := hide (fun u hu => KRow.frontT (us := tpL tk7) (by rw [← tpV_snoc]; exact (unhide HR).keep (by omega) hu) (unhide HG).1)
  have HCI : Hid (l.length ≤ ci) := hide (by have a := (unhide HR).le; rw [tpV_length, List.length_append, List.length_singleton] at a; omega)
  have HF2 := hide (Fr.refl (fun _ => False) w2)
  go_wp2_with fail
  refine (jright_any w2 (some ⟨gi, 0, none⟩) ci l (unhide HCF w2 (unhide HF2)) (by have := unhide HNN; omega)).mono ?_
  rintro e w3 ⟨rfl, hF⟩
  replace HF2 := hide ((unhide HF2).trans hF (fun _ _ t => t))
  replace HF := hide ((unhide HF).trans hF (fun _ _ t => t))
  replace HA := hide ((unhide HA).keep hF)
  replace HB1 := hide ((unhide HB1).keep hF)
  replace HR := hide ((unhide HR).keep (by omega) hF)
  clear hF
  have RD1 := days_any w3 (some ⟨gi, 0, none⟩) ci l (unhide HCF w3 (unhide HF2)) (by have := unhide HNN; omega) (unhide HCI)
  obtain ⟨R, hR⟩ : ∃ R, (if rightT l = 0 then daysL l else []) = R := ⟨_, rfl⟩
  obtain ⟨E, hE⟩ : ∃ E, rightT l = E := ⟨_, rfl⟩
  have HRR := hide (And.intro hR hE)
  have HRL : Hid (R.length ≤ 2000 ∧ ∀ m ∈ R, m.length ≤ 2000) := hide (by
    rw [← hR]
    split
    · rename_i h0
      have h2 := ((rightT_zero l).1 h0).1
      exact ⟨Nat.le_trans (daysL_le l).1 h2, fun m hm => Nat.le_trans ((daysL_le l).2 m hm) h2⟩
    · exact ⟨by simp, fun m hm => by simp at hm⟩)
  rw [hR, hE] at RD1
  rw [hE]
  clear hR hE
  go_wp2_with fail
  refine RD1.mono ?_
  rintro e w4 ⟨ax, cx, gx, dsX, rfl, hDX, hTX, hF⟩
  have HX := hide hDX
  have HTX := hide hTX
  have HXM0 : Hid (0 < cx → gx < w4.heap.size) := hide (fun hc => hDX.row.lt (by omega) hc)
  have HXE : Hid (∀ d ∈ dsX, 0 < d.cap → d.g < w4.heap.size) := hide (fun d hd hc => (hDX.els d hd).1.lt (by omega) hc)
  have HMX : Hid (gi < w3.heap.size) := hide ((unhide HR).lt (by omega) (unhide HG).1)
  have HS3 : Hid (w3.heap.size ≤ w4.heap.size ∧ w.heap.size ≤ w3.heap.size) := hide ⟨hF.size, (unhide HF).size⟩
  replace HF2 := hide ((unhide HF2).trans hF (fun _ _ t => t))
  clear hDX hTX RD1
  replace HF := hide ((unhide HF).trans hF (fun _ _ t => t))
  replace HA := hide ((unhide HA).keep hF)
  replace HB1 := hide ((unhide HB1).keep hF)
  replace HR := hide ((unhide HR).keep (by omega) hF)
  clear hF
  have RD2 := days_any w4 (some ⟨gi, 0, none⟩) ci l (unhide HCF w4 (unhide HF2)) (by have := unhide HNN; omega) (unhide HCI)
  rw [(unhide HRR).1, (unhide HRR).2] at RD2
  go_wp2_with fail
  refine RD2.mono ?_
  rintro e w5 ⟨ay, cy, gy, dsY, rfl, hDY, hTY, hF⟩
  have HY := hide hDY
  have HS45 : Hid (w4.heap.size ≤ w5.heap.size) := hide hF.size
  have HTY := hide hTY
  clear hDY hTY RD2
  replace HF := hide ((unhide HF).trans hF (fun _ _ t => t))
  replace HA := hide ((unhide HA).keep hF)
  replace HB1 := hide ((unhide HB1).keep hF)
  replace HR := hide ((unhide HR).keep (by omega) hF)
  replace HX := hide ((unhide HX).keep hF)
  clear hF
  have RK := kept_anyJ w5 ao0 cap0 ci gi l (unhide HL w5 (unhide HF)) (unhide HNN) (unhide HR) (unhide HG).1
  go_wp2_with fail
  refine RK.mono ?_
  rintro e w6 ⟨rfl, hFK⟩
  have hg := unhide HG
  have hgm := unhide HMX
  have hs3 := unhide HS3
  have hbw := unhide HBE
  have HS46 : Hid (w4.heap.size ≤ w6.heap.size) := hide (by have := hFK.size; have := unhide HS45; omega)
  have HXY : Hid (DL w3.heap.size w6 ax cx gx dsX ∧ DL w4.heap.size w6 ay cy gy dsY ∧ Fr (fun _ => False) w w6 ∧ Bx w6 B (tpC tp1) 24 ∧ Bx w6 (B + 1) (tpC tp2) 24) := hide
    ⟨(unhide HX).other hFK (fun q hq e => by omega), (unhide HY).other hFK (fun q hq e => by omega), (unhide HF).trans hFK (fun q hq e => by omega), (unhide HA).frame hFK (by omega), (unhide HB1).frame hFK (by omega)⟩
  have HXM : Hid (0 < cx → gx < w4.heap.size) := hide (fun hc => by have := unhide HXM0 hc; exact this)
  clear hFK hg hgm hs3 hbw HX HY HF HA HB1 HR RK HCF HCI HF2
  obtain ⟨h1, h2, h3, h4, h5⟩ := unhide HXY
  have HX := hide h1
  have HY := hide h2
  have HF := hide h3
  have HA := hide h4
  have HB1 := hide h5
  clear h1 h2 h3 h4 h5 HXY
  have RW := rdays_any w6 ao0 cap0 l (unhide HL w6 (unhide HF)) (by have := unhide HNN; omega)
  rw [(unhide HRR).1, (unhide HRR).2] at RW
  go_wp2_with fail
  refine RW.mono ?_
  rintro e w7 ⟨aw, cw, gw, dsW, rfl, hDW, hTW, hF⟩
  have HW := hide hDW
  have HTW := hide hTW
  have HS67 : Hid (w6.heap.size ≤ w7.heap.size) := hide hF.size
  clear hDW hTW RW
  replace HF := hide ((unhide HF).trans hF (fun _ _ t => t))
  replace HA := hide ((unhide HA).keep hF)
  replace HB1 := hide ((unhide HB1).keep hF)
  replace HX := hide ((unhide HX).keep hF)
  replace HY := hide ((unhide HY).keep hF)
  clear hF
  have hxl : dsX.length ≤ 2000 := by have := (unhide HRL).1; rw [← unhide HTX, List.length_map] at this; exact this
  have hyl : dsY.length ≤ 2000 := by have := (unhide HRL).1; rw [← unhide HTY, List.length_map] at this; exact this
  have HXL := hide hxl
  have HYL := hide hyl
  have RS := sameDays_any w7 ax aw cx cw gx gw dsX dsW (unhide HX).dv (unhide HW).dv (by rw [unhide HTX, unhide HTW]) (by omega)
  clear hxl hyl
  go_wp2_with fail
  refine RS.mono ?_
  rintro e u0 ⟨rfl, hF⟩
  have HSU : Hid (w3.heap.size ≤ u0.heap.size ∧ w.heap.size ≤ u0.heap.size) := hide (by have := hF.size; have := unhide HS67; have := unhide HS46; have := unhide HS3; omega)
  clear RS
  replace HF := hide ((unhide HF).trans hF (fun _ _ t => t))
  replace HA := hide ((unhide HA).keep hF)
  replace HB1 := hide ((unhide HB1).keep hF)
  replace HX := hide ((unhide HX).keep hF)
  replace HY := hide ((unhide HY).keep hF)
  replace HW := hide ((unhide HW).keep hF)
  clear hF
  have HI0 : Hid (XS u0 u0 w3.heap.size w4.heap.size u0.heap.size ax cx gx dsX.length dsX ∧ ∀ (j : Nat) (d : DR), 0 ≤ j → dsX[j]? = some d → d.tp.length ≤ 2000) := hide (by
    have hb : ∀ d ∈ dsX, d.tp.length ≤ 2000 := fun d hd => (unhide HRL).2 _ (by rw [← unhide HTX]; exact List.mem_map.2 ⟨d, hd, rfl⟩)
    exact ⟨⟨unhide HX, rfl, unhide HXM, fun d hd => ⟨fun hc => .inl (unhide HXE d hd hc), by have := hb d hd; omega⟩, Nat.le_refl _, Fr.refl _ _⟩, fun j d _ hd => hb d (List.mem_of_getElem? hd)⟩)
  have hxl := unhide HXL
  obtain ⟨nx, hnx⟩ : ∃ nx, dsX.length = nx := ⟨_, rfl⟩
  rw [hnx] at HI0 hxl ⊢
  clear hnx
  go_upto_region 10 with (fail)
  go_loopw [18, 19] (fun iv _ wr => ∃ (i : Nat) (ds : List DR), i ≤ nx ∧ iv = .int .i64 i ∧ Hid (XS u0 wr w3.heap.size w4.heap.size u0.heap.size ax cx gx nx ds ∧ ∀ (j : Nat) (d : DR), i ≤ j → ds[j]? = some d → d.tp.length ≤ 2000)) (fun iv _ _ => nx - (intOf iv).toNat)
  case atStart => exact ⟨0, dsX, Nat.zero_le _, rfl, HI0⟩
  case round =>
    obtain ⟨i, ds, hi, rfl, HI⟩ := hrel
    clear HI0
    by_cases hil : i < nx
    · have hlt : (i : Int) < (nx : Int) := by omega
      have hid : ds[i]? = some (ds[i]'(by have := (unhide HI).1.ln; omega)) := List.getElem?_eq_getElem _
      generalize (ds[i]'(by have := (unhide HI).1.ln; omega)) = d at *
      obtain ⟨m, hm⟩ : ∃ m, d.tp.length = m := ⟨_, rfl⟩
      have hm2 : m ≤ 2000 := by rw [← hm]; exact (unhide HI).2 i d (Nat.le_refl _) hid
      have HJ0 : Hid (∃ ds' d', ds'[i]? = some d' ∧ d'.tp.length = m ∧ XS u0 wr w3.heap.size w4.heap.size u0.heap.size ax cx gx nx ds' ∧ ∀ (j : Nat) (e : DR), i + 1 ≤ j → ds'[j]? = some e → e.tp.length ≤ 2000) := hide ⟨ds, d, hid, hm, (unhide HI).1, fun j e hj he => (unhide HI).2 j e (by omega) he⟩
      obtain ⟨wq, hwq⟩ : ∃ wq, wq = wr := ⟨_, rfl⟩
      subst hwq
      clear HI hid hm
      go_wp2
      go_loopw [19] (fun kv wj => ∃ k : Nat, k ≤ m ∧ kv = .int .i64 k ∧ Hid (∃ ds' d', ds'[i]? = some d' ∧ d'.tp.length = m ∧ XS u0 wj w3.heap.size w4.heap.size u0.heap.size ax cx gx nx ds' ∧ ∀ (j : Nat) (e : DR), i + 1 ≤ j → ds'[j]? = some e → e.tp.length ≤ 2000)) (fun kv _ => m - (intOf kv).toNat)
      case atStart => exact ⟨0, Nat.zero_le _, rfl, HJ0⟩
      case round =>
        obtain ⟨k, hk, rfl, HJ⟩ := hrel
        clear HJ0
        obtain ⟨wj, hwj⟩ : ∃ wj, wj = wr := ⟨_, rfl⟩
        subst hwj
        obtain ⟨ds', d', hd', hdm, hxs, hrest⟩ := unhide HJ
        clear HJ
        obtain ⟨hax, x0, _⟩ := hxs.dl.dv.cell hd'
        rw [hdm] at x0
        by_cases hkm : k < m
        · as_aux_lemma =>
          have hltk : (k : Int) < (m : Int) := by omega
          obtain ⟨hp1, hp2, hp3, _, _⟩ := hxs.put hd' (k := k) (by omega)
          obtain ⟨oa, ca, da, tA⟩ := d'
          simp only at hp1 hp2 hp3 x0 hdm
          rw [hp3] at x0
          have hlen2 : (tA.set k tk5).length = m := by rw [List.length_set]; exact hdm
          have hset : (ds'.set i (⟨oa, ca, da, tA.set k tk5⟩ : DR))[i]? = some ⟨oa, ca, da, tA.set k tk5⟩ := List.getElem?_set_self (List.getElem?_eq_some_iff.1 hd').1
          have HS1 : Hid (∃ ds' d', ds'[i]? = some d' ∧ d'.tp.length = m ∧ XS u0 ((((((wj.setCell ⟨da, k * 6, none⟩ (.int .i64 (-5))).setCell ⟨da, k * 6 + 1, none⟩ (.int .i64 0)).setCell ⟨da, k * 6 + 2, none⟩ (.string ⟨#[]⟩)).setCell ⟨da, k * 6 + 3, none⟩ (.int .i64 0)).setCell ⟨da, k * 6 + 4, none⟩ (.int .i64 0)).setCell ⟨da, k * 6 + 5, none⟩ (.int .i64 0)) w3.heap.size w4.heap.size u0.heap.size ax cx gx nx ds' ∧ ∀ (j : Nat) (e : DR), i + 1 ≤ j → ds'[j]? = some e → e.tp.length ≤ 2000) := hide ⟨_, _, hset, hlen2, hp1, fun j e hj he => hrest j e hj (by rw [List.getElem?_set_ne (by omega)] at he; exact he)⟩
          obtain ⟨⟨y0, r0⟩, f0⟩ := hp2 0 (by omega)
          obtain ⟨⟨x1, r1⟩, f1⟩ := hp2 1 (by omega)
          obtain ⟨⟨x2, r2⟩, f2⟩ := hp2 2 (by omega)
          obtain ⟨⟨x3, r3⟩, f3⟩ := hp2 3 (by omega)
          obtain ⟨⟨x4, r4⟩, f4⟩ := hp2 4 (by omega)
          obtain ⟨⟨x5, r5⟩, f5⟩ := hp2 5 (by omega)
          rw [Nat.add_zero] at r0 f0
          subst hax
          clear hp1 hp2 hp3 hd' hdm hxs hrest hlen2 hset
          go_upto_region 14 with (fail)
          obtain ⟨u3, hu3⟩ : ∃ u3, u3 = ((((((wj.setCell ⟨da, k * 6, none⟩ (.int .i64 (-5))).setCell ⟨da, k * 6 + 1, none⟩ (.int .i64 0)).setCell ⟨da, k * 6 + 2, none⟩ (.string ⟨#[]⟩)).setCell ⟨da, k * 6 + 3, none⟩ (.int .i64 0)).setCell ⟨da, k * 6 + 4, none⟩ (.int .i64 0)).setCell ⟨da, k * 6 + 5, none⟩ (.int .i64 0)) := ⟨_, rfl⟩
          rw [← hu3] at HS1 ⊢
          clear hu3 r0 r1 r2 r3 r4 r5 f0 f1 f2 f3 f4 f5 x0
          go_wp2
          exact ⟨⟨k + 1, by omega, by go_num, HS1⟩, by simp [intOf]; omega⟩
        · obtain rfl : k = m := by omega
          have hltk : ¬ (k : Int) < (k : Int) := by omega
          have HX2 := hide (hxs.keep ((Fr.refl (fun _ => False) wj).alloc (.cells #[.int .i64 (-6), .int .i64 0, .string ⟨#[]⟩, .int .i64 0, .int .i64 0, .int .i64 0] 24)))
          have HDD := hide (And.intro hd' hdm)
          have HRE := hide hrest
          have HKK : Hid (KRow (wj.alloc (.cells #[.int .i64 (-6), .int .i64 0, .string ⟨#[]⟩, .int .i64 0, .int .i64 0, .int .i64 0] 24)) d'.ao d'.cap d'.g 6 (tpV d'.tp)) := hide ((unhide HX2).dl.els d' (List.mem_of_getElem? hd')).1
          have HKL : Hid ((tpV d'.tp).length = k * 6) := hide (by rw [tpV_length, hdm])
          have HSR := hide (src_new' wj (tpL tk6) 22 24 6 Tryz.underlying22 rfl (tpL_one _) (W := wj.alloc (.cells #[.int .i64 (-6), .int .i64 0, .string ⟨#[]⟩, .int .i64 0, .int .i64 0, .int .i64 0] 24)) (fun j => by rw [World.cell?_alloc_new]; exact List.getElem?_toArray.symm ▸ rfl))
          obtain ⟨info, hi2, hz2, hs2, hy2⟩ := info_of3 tInfo
          have HIN := hide (And.intro hi2 (And.intro hz2 (And.intro hs2 hy2)))
          have HLT : Hid (w3.heap.size ≤ (wj.alloc (.cells #[.int .i64 (-6), .int .i64 0, .string ⟨#[]⟩, .int .i64 0, .int .i64 0, .int .i64 0] 24)).heap.size) := hide (by have := (unhide HX2).sz; have := unhide HSU; omega)
          clear hi2 hz2 hs2 hy2 hd' hdm hxs hrest
          subst hax
          go_wp2_with (at_builtin; refine wpList_append_krow _ rfl (.tmp 74) (.tmp 76) 22 22 rfl 24 info _ 6 (by omega) Tryz.underlying22 (unhide HIN).1 (unhide HIN).2.1 rfl (unhide HIN).2.2.1 rfl (unhide HKK) (unhide HKL) _ (tpL tk6) 1 rfl (unhide HSR) (by rw [(unhide HIN).2.2.2]; omega) (by omega) ?_)
          intro ao1 cap1 v1 g1 hK1 hG1
          obtain ⟨hg1, ⟨y0, r0⟩, f0⟩ := (unhide HX2).grow (x := tk6) (unhide HDD).1 (by rw [(unhide HDD).2]; omega) (unhide HLT) (by rw [tpV_snoc]; exact hK1) hG1
          rw [(unhide HDD).2] at hg1
          have HS1 : Hid (XS u0 (v1.setCell ⟨gx, i, none⟩ (.slice ao1 (k + 1) cap1)) w3.heap.size w4.heap.size u0.heap.size (some ⟨gx, 0, none⟩) cx gx nx (ds'.set i ⟨ao1, cap1, g1, d'.tp ++ [tk6]⟩) ∧ ∀ (j : Nat) (e : DR), i + 1 ≤ j → (ds'.set i ⟨ao1, cap1, g1, d'.tp ++ [tk6]⟩)[j]? = some e → e.tp.length ≤ 2000) := hide ⟨hg1, fun j e hj he => unhide HRE j e hj (by rw [List.getElem?_set_ne (by omega)] at he; exact he)⟩
          clear hK1 hG1 hg1 HX2 HDD HRE HKK HKL HSR HIN HLT x0
          go_upto_region 11 with (fail)
          obtain ⟨u3, hu3⟩ : ∃ u3, u3 = v1.setCell ⟨gx, i, none⟩ (.slice ao1 (k + 1) cap1) := ⟨_, rfl⟩
          rw [← hu3] at HS1 ⊢
          clear hu3 r0 f0
          go_wp2
          exact ⟨⟨i + 1, _, by omega, by go_num, HS1⟩, by simp [intOf]; omega⟩
    · obtain rfl : i = nx := by omega
      have hlt : ¬ (i : Int) < (i : Int) := by omega
      have hxs := (unhide HI).1
      have hs3 := unhide HS3
      have hsu := unhide HSU
      have hgi := unhide HG
      have hmx := unhide HMX
      have hbl := (unhide HB1).lt
      have hY := (unhide HY).apartX (Nat.le_refl _) (Nat.le_refl _) hxs.fr
      have hW := (unhide HW).apartX (Nat.le_refl _) (unhide HS46) hxs.fr
      have hown : ∀ q, q ≤ B + 1 → ¬ Own w3.heap.size w4.heap.size u0.heap.size q := fun q hq t => by rcases t with t | t <;> omega
      have HA2 := hide ((unhide HA).frame hxs.fr (hown B (by omega)))
      have HB2 := hide ((unhide HB1).frame hxs.fr (hown (B + 1) (by omega)))
      have HF2 : Hid (Fr (fun _ => False) w wr) := hide ((unhide HF).trans hxs.fr (fun q hq t => by rcases t with t | t <;> omega))
      have hyl := unhide HYL
      have RS := sameDays_any wr ay aw cy cw gy gw dsY dsW hY hW (by rw [unhide HTY, unhide HTW]) (by omega)
      clear hxs hs3 hsu hgi hmx hbl hY hW hown hyl HI HA HB1 HF HX HY HW
      go_wp2_with fail
      refine RS.mono ?_
      rintro e x1 ⟨rfl, hF⟩
      have HFZ := hide ((unhide HF2).trans hF (fun _ _ t => t))
      have hA3 := (unhide HA2).keep hF
      have hB3 := (unhide HB2).keep hF
      clear RS hF HF2 HA2 HB2
      obtain ⟨d1, k1, t1, q1, p1, m1⟩ := tp1
      obtain ⟨d2, k2, t2, q2, p2, m2⟩ := tp2
      have HCB : Hid (∀ u, Fr (fun _ => False) x1 u → u.cell? ⟨B, 0, none⟩ = some (.int .i64 d1) ∧ u.cell? ⟨B, 1, none⟩ = some (.int .i64 k1) ∧ u.cell? ⟨B, 2, none⟩ = some (.string t1) ∧ u.cell? ⟨B, 3, none⟩ = some (.int .i64 q1) ∧ u.cell? ⟨B, 4, none⟩ = some (.int .i64 p1) ∧ u.cell? ⟨B, 5, none⟩ = some (.int .i64 m1) ∧ u.cell? ⟨B + 1, 0, none⟩ = some (.int .i64 d2) ∧ u.cell? ⟨B + 1, 1, none⟩ = some (.int .i64 k2) ∧ u.cell? ⟨B + 1, 2, none⟩ = some (.string t2) ∧ u.cell? ⟨B + 1, 3, none⟩ = some (.int .i64 q2) ∧ u.cell? ⟨B + 1, 4, none⟩ = some (.int .i64 p2) ∧ u.cell? ⟨B + 1, 5, none⟩ = some (.int .i64 m2)) := hide (fun u hf => have a := hA3.keep hf; have b := hB3.keep hf; ⟨a.cell 0, a.cell 1, a.cell 2, a.cell 3, a.cell 4, a.cell 5, b.cell 0, b.cell 1, b.cell 2, b.cell 3, b.cell 4, b.cell 5⟩)
      have RR := hide (fun (u : World) (hu : Fr (fun _ => False) x1 u) => rrightJ_any u ao0 cap0 l (unhide HL u ((unhide HFZ).trans hu (fun _ _ t => t))) (by have := unhide HNN; omega))
      rw [(unhide HRR).2] at RR
      have RO1 := hide (fun (u : World) => order_any u ⟨d1, k1, t1, q1, p1, m1⟩ ⟨d2, k2, t2, q2, p2, m2⟩)
      have RO2 := hide (fun (u : World) => rorder_anyJ u ⟨d1, k1, t1, q1, p1, m1⟩ ⟨d2, k2, t2, q2, p2, m2⟩)
      simp only [tpC] at RO1 RO2
      generalize ordI ⟨d1, k1, t1, q1, p1, m1⟩ ⟨d2, k2, t2, q2, p2, m2⟩ = ov at *
      clear hA3 hB3
      obtain ⟨a0, a1, a2, a3, a4, a5, b0, b1, b2, b3, b4, b5⟩ := unhide HCB x1 (Fr.refl _ _)
      go_wp2_with fail
      go_region_held3 (fun u => u.cell? ⟨B, 0, none⟩ = some (.int .i64 d1) ∧ u.cell? ⟨B, 1, none⟩ = some (.int .i64 k1) ∧ u.cell? ⟨B, 2, none⟩ = some (.string t1) ∧ u.cell? ⟨B, 3, none⟩ = some (.int .i64 q1) ∧ u.cell? ⟨B, 4, none⟩ = some (.int .i64 p1) ∧ u.cell? ⟨B, 5, none⟩ = some (.int .i64 m1) ∧ u.cell? ⟨B + 1, 0, none⟩ = some (.int .i64 d2) ∧ u.cell? ⟨B + 1, 1, none⟩ = some (.int .i64 k2) ∧ u.cell? ⟨B + 1, 2, none⟩ = some (.string t2) ∧ u.cell? ⟨B + 1, 3, none⟩ = some (.int .i64 q2) ∧ u.cell? ⟨B + 1, 4, none⟩ = some (.int .i64 p2) ∧ u.cell? ⟨B + 1, 5, none⟩ = some (.int .i64 m2)) ((refine unhide HCB _ ?_; repeat (first | (with_reducible exact Fr.refl _ _) | (with_reducible refine Fr.drew ?_) | (with_reducible refine Fr.trans ?_ (unhide HC1) (fun _ _ t => t)) | (with_reducible refine Fr.trans ?_ (unhide HC2) (fun _ _ t => t)) | (with_reducible refine Fr.trans ?_ (unhide HC3) (fun _ _ t => t)))))
        (first | (go_at_call 12; refine (unhide RR _ (by repeat (first | (with_reducible exact Fr.refl _ _) | (with_reducible refine Fr.drew ?_) | (with_reducible refine Fr.trans ?_ (unhide HC2) (fun _ _ t => t)) | (with_reducible refine Fr.trans ?_ (unhide HC3) (fun _ _ t => t))))).mono ?_; rintro e wa ⟨rfl, hC⟩; have HC1 := hide hC; clear hC) | (go_at_call 13; refine (unhide RO1 _).mono ?_; rintro e wb ⟨rfl, hC⟩; have HC2 := hide hC; clear hC) | (go_at_call 14; refine (unhide RO2 _).mono ?_; rintro e wd ⟨rfl, hC⟩; have HC3 := hide hC; clear hC))
      all_goals
        go_wp2_with fail
        go_ret
        exact ⟨by first | rfl | simp, (unhide HFZ).trans (by repeat (first | (with_reducible exact Fr.refl _ _) | (with_reducible refine Fr.drew ?_) | (with_reducible refine Fr.trans ?_ (unhide HC1) (fun _ _ t => t)) | (with_reducible refine Fr.trans ?_ (unhide HC2) (fun _ _ t => t)) | (with_reducible refine Fr.trans ?_ (unhide HC3) (fun _ _ t => t)))) (fun _ _ t => t)⟩

end Go.Proofs.YtmgejkenpfihmaaGreat

namespace Go.Proofs.YtmgejkenpfihmaaGreat
open Go.ChangeShapes Go.WideShapes Go.ChangeAt Go.RowKit Go.Deep

namespace journeyDays

set_option maxRecDepth 100000 in
theorem lifted (os : Os) (started : os.Started) (H : Type) (enc : TypeId × Value → H) :
    ReturnsInHanded {} Tryz.checked os 3 .any (Rows.journeyDaysSpec.pre6 enc Tryz.prog Tryz.f3 Rows.journeyDaysRow.domain false) (Rows.journeyDaysSpec.post enc Tryz.prog Tryz.f3 false true false false) := by
  refine returnsInHanded_of_change_sized (C := Tryz.checked) own started (by kernel_rfl) Tryz.func3
    (ChangeSpec.witness6 (enc := enc) (C := Tryz.checked) false ⟨#[], #[.slice none 0 0, .agg #[.int .i64 0, .int .i64 0, .string ⟨#[]⟩, .int .i64 0, .int .i64 0, .int .i64 0], .agg #[.int .i64 0, .int .i64 0, .string ⟨#[]⟩, .int .i64 0, .int .i64 0, .int .i64 0]], []⟩ 8 (by kernel_rfl) (by kernel_rfl) (by kernel_rfl) (by kernel_rfl)) ?_
  intro W base args ds gs before hval0 hW hcnd hsz0 _
  have hsz : (DataW.weightsEach Tryz.prog (Tryz.f3.params.toList ++ Rows.journeyDaysSpec.plain.varTypes Tryz.prog) (ds ++ gs)).all (· ≤ reachBytes) = true := hsz0
  have hval : ∀ (j : Nat) t v, Tryz.f3.params[j]? = some t → args[j]? = some v → Value.okWide Tryz.prog W .any base t v := hval0
  have hW' := hW
  obtain ⟨p, q, hA0, hV, rfl, hfz, hnd⟩ := hW
  have hA : DataW.TrodAll enc Tryz.prog W 0 (fun _ => true) true Tryz.f3.params.toList args.toList ds p := hA0
  rw [Tryz.params3] at hA hval hsz
  obtain ⟨v0, vs0, d0, ds0, p0, q0, hargs, rfl, rfl, h0, r0⟩ := trodAll_cons hA
  obtain ⟨v1, vs1, d1, ds1, p1, q1, rfl, rfl, rfl, h1, r1⟩ := trodAll_cons r0
  obtain ⟨v2, vs2, d2, ds2, p2, q2, rfl, rfl, rfl, h2, r2⟩ := trodAll_cons r1
  obtain ⟨rfl, rfl, rfl⟩ := trodAll_nil r2
  obtain rfl : args = #[v0, v1, v2] := by cases args; simp_all
  obtain ⟨rfl, rfl⟩ := trodVars_none hV
  have k0 := h0
  have lt0 : ∀ x ∈ p0, x.block < W.heap.size := by obtain ⟨m, hm⟩ := k0; exact DataW.trod_lt m _ _ _ hm
  obtain ⟨a0, c0, l0, rfl, hb0, hc0, hn0⟩ := arg_taps (j := 0) (okWide_slice Tryz.underlying22 (hval 0 22 v0 rfl rfl)) h0 hsz rfl rfl
  have k1 := h1
  have lt1 : ∀ x ∈ p1, x.block < W.heap.size := by obtain ⟨m, hm⟩ := k1; exact DataW.trod_lt m _ _ _ hm
  obtain ⟨t1, rfl, ht1⟩ := arg_tap (okWide_struct Tryz.underlying24 (hval 1 24 v1 rfl rfl)) h1
  have k2 := h2
  have lt2 : ∀ x ∈ p2, x.block < W.heap.size := by obtain ⟨m, hm⟩ := k2; exact DataW.trod_lt m _ _ _ hm
  obtain ⟨t2, rfl, ht2⟩ := arg_tap (okWide_struct Tryz.underlying24 (hval 2 24 v2 rfl rfl)) h2
  clear hA0 hval0
  refine (days_walk W a0 c0 l0 hb0 hn0 t1 t2).mono fun e W' ⟨he, hfr⟩ => ?_
  subst he
  have bel : Below W.heap.size W W' := hfr.below (Nat.le_refl _) (fun k t => t.elim)
  exact ⟨_, rfl, _, _, _, [], _, [], hW', trodAll_mk1 (shut_bool Tryz.underlying4 _), (trodAll_cons_mk (Below.trod laidOut (by kernel_rfl) (of_decide_eq_true (by kernel_rfl)) k0 bel lt0) (trodAll_cons_mk (Below.trod laidOut (by kernel_rfl) (of_decide_eq_true (by kernel_rfl)) k1 bel lt1) (trodAll_cons_mk (Below.trod laidOut (by kernel_rfl) (of_decide_eq_true (by kernel_rfl)) k2 bel lt2) trodAll_mk0))), rfl, bel.frame _, fun h => by cases h⟩

theorem over : Rows.journeyDaysRow.holds Tryz.pinned (OpenSpec.ofChange Rows.journeyDaysSpec) :=
  OpenClaim.holds_of_wide 3 Tryz.f3 rfl rfl rfl rfl rfl rfl rfl ⟨rfl, rfl, rfl, rfl, rfl⟩ rfl rfl rfl rfl rfl (by kernel_rfl) Tryz.func3 (by kernel_rfl)
    (of_decide_eq_true (by kernel_rfl)) (by unfold Func.isWrapper; first | (rw [if_pos (by decide +kernel)]; kernel_rfl) | (rw [if_neg (by decide +kernel)]; exact ⟨rfl, rfl⟩))
    (fun os started H enc _ => lifted os started H enc)

end journeyDays

/-- THE STATEMENT. -/
theorem journeyDays_holds : Rows.JourneyDaysSaid := journeyDays.over
#print axioms journeyDays_holds
end Go.Proofs.YtmgejkenpfihmaaGreat

