import Derived.Test.YtabhfeocelljdaaGreatDoorZF5
import Derived.Deep.Cut
import Derived.Deep.CutBlock
import Derived.Deep.RegionLaw
/- Contract: readFrame. -/
namespace Go.Proofs.YtabhfeocelljdaaGreatDoor
open Go.RowKit

/-- The frame has been read. -/
structure RDf (w wk : World) (q p g B : Nat) (bs : List UInt8) (io : Option Addr) (ic : Nat) (bo : Option Addr) (bc : Nat) : Prop where
  rf : RF w wk q p g B bs (readF bs).2 ((readF bs).1.cells io ic bo bc)
  il : ∃ ib ds, IL (B + 1) wk io ic ib ds (readF bs).1.items
  by' : ∃ gb, Row wk (.slice bo (readF bs).1.bytes.length bc) gb (readF bs).1.bytes ∧ B < gb
  n1 : (readF bs).1.items.length ≤ 8
  n2 : (readF bs).1.bytes.length ≤ 16100 ∧ (bc = 0 ∨ (readF bs).1.items.length = 0)

theorem fault_code (c f : Int) (u : World) : (Instr.field 64 (.agg #[.int .i64 c, .int .i64 f]) 0).run Tryz.prog u = .ok (.int .i64 c) u := by
  first | kernel_rfl | rfl | simp [go_sem, Tryz.underlying64]

theorem step_call {P : Program} {ops : Array Oper} {o : Oper} {a : Act} {w : World} {K : Act → World → Prop} {Q : Exit → Act → World → Prop} {E : Prop} (hgd : o.guard = none) (f : FuncId) (args : Array Value) (hrun : (execOp a.eval o).run P w = .ok (.enter f args) w) {Post : Ending → World → Prop} (hc : Calls P f args w Post)
    (h : ∀ e w', Post e w' → ∃ v, e = .returned v ∧ K (a.put o.dst v) w') : if Region.wanted o (yielded ops a.tmps) = true then Oper.wp P o a w K Q else E := by
  have hw : Region.wanted o (yielded ops a.tmps) = true := by simp [Region.wanted, hgd]
  rw [if_pos hw]
  unfold Oper.wp
  rw [hrun, Oper.upon_enter]
  refine hc.mono fun e w'' hh => ?_
  obtain ⟨v, rfl, hv⟩ := h e w'' hh
  exact hv
theorem Grew.frZ {w w' : World} {g cap g' cap' : Nat} (h : Grew w g cap w' g' cap') : Fr (fun q => q = g ∧ 0 < cap) w w' := by
  rcases h with ⟨_, _, f⟩ | ⟨_, _, f⟩
  · exact f
  · exact f.mono (fun _ _ t => t.elim)
theorem readF_some {bs : List UInt8} (h : (rNum bs ⟨0, 0, 0, 0⟩ 1).1 = 1) : 0 < bs.length := by
  cases bs with
  | nil =>
    exfalso
    have : (rNum [] ⟨0, 0, 0, 0⟩ 1).1 = 0 := by decide
    omega
  | cons a r => simp
theorem infoB : (Tryz.prog.info? 23).map (fun i => (i.zero, i.size, i.bytes)) = some (some (.slice none 0 0), 1, 24) := by kernel_rfl

set_option maxHeartbeats 4000000 in
set_option maxRecDepth 20000 in
theorem readframe_any (w : World) (ao : Option Addr) (cap : Nat) (bs : List UInt8) (hB : BAt w ao cap bs) :
    Calls Tryz.prog 31 #[.slice ao bs.length cap] w fun e w' => ∃ io ic bo bc, e = .returned (.tuple #[.agg ((readF bs).1.cells io ic bo bc), .bool (readOk bs)]) ∧ Hid (Fr (fun _ => False) w w' ∧ (∃ ib ds, IL w.heap.size w' io ic ib ds (readF bs).1.items) ∧ (∃ gb, Row w' (.slice bo (readF bs).1.bytes.length bc) gb (readF bs).1.bytes ∧ w.heap.size ≤ gb) ∧ (readF bs).1.items.length ≤ 8 ∧ (readF bs).1.bytes.length ≤ 16100 ∧ (bc = 0 ∨ (readF bs).1.items.length = 0)) := by
  have HH := hide (fun (w' : World) (hF : Fr (fun _ => False) w w') => newreader_any w' ao cap bs (hB.later hF).1 (hB.later hF).2.1 (hB.later hF).2.2)
  clear hB
  go_enter Tryz.func31, Tryz.ntmps31
  go_wp2_with fail
  have hF0 : Fr (fun _ => False) w (w.alloc (.cells #[.int .i64 0, .int .i64 0, .int .i64 0, .slice none 0 0, .slice none 0 0] 25)) := (Fr.refl _ _).alloc _
  have hbx := Bx.new w #[.int .i64 0, .int .i64 0, .int .i64 0, .slice none 0 0, .slice none 0 0] 25
  have hsz : (w.alloc (.cells #[.int .i64 0, .int .i64 0, .int .i64 0, .slice none 0 0, .slice none 0 0] 25)).heap.size = w.heap.size + 1 := by simp
  generalize w.alloc (.cells #[.int .i64 0, .int .i64 0, .int .i64 0, .slice none 0 0, .slice none 0 0] 25) = w0 at *
  obtain ⟨q, hq⟩ : ∃ q, q = w.heap.size := ⟨_, rfl⟩
  rw [← hq] at hbx ⊢
  have HW := hide (And.intro hF0 (And.intro hbx (And.intro hq hsz)))
  refine (unhide HH _ hF0).mono ?_
  clear hF0 hbx hq hsz HH
  rintro e w1 ⟨p, g1, rfl, hR1, hF1, hg1, hp1⟩
  have hO : ROwn w0 w1 p g1 bs ⟨0, 0, 0, 0⟩ := ⟨hF1, hp1, hg1, hR1⟩
  have HO := hide hO
  clear hR1 hF1 hg1 hp1 hO
  go_wp2_with fail
  refine (rnumber_any (unhide HO).2.2.2 1).mono ?_
  obtain ⟨hk0, hk1, hk2⟩ := rNum_eq bs ⟨0, 0, 0, 0⟩ 1
  rw [hk0]
  obtain ⟨k, hk⟩ : ∃ k, (rNum bs ⟨0, 0, 0, 0⟩ 1).1 = k := ⟨_, rfl⟩
  obtain ⟨s1, hs1⟩ : ∃ s1, (rNum bs ⟨0, 0, 0, 0⟩ 1).2 = s1 := ⟨_, rfl⟩
  rw [hk] at hk1 hk2
  rw [hk, hs1]
  have HK := hide (And.intro hk hs1)
  clear hk0 hk hs1
  rintro e w2 ⟨rfl, k1, k2⟩
  have HO2 := hide ((unhide HO).next k1 k2)
  clear k1 k2 HO
  go_upto_block 0 with (fail)
  have HR : Hid (RF w (w2.alloc (.cells #[.int .i64 k, .int .i64 0, .int .i64 0, .slice none 0 0, .slice none 0 0] 25)) q p g1 w2.heap.size bs s1 #[.int .i64 k, .int .i64 0, .int .i64 0, .slice none 0 0, .slice none 0 0]) := by
    obtain ⟨o1, o2, o3, o4⟩ := unhide HO2
    obtain ⟨v1, v2, v3, v4⟩ := unhide HW
    have hpl := o4.lt
    exact hide ⟨(v1.trans o1 (fun _ _ t => t)).alloc _, (v2.keep o1).alloc _, Bx.new _ _ _, RAt.alloc o4 _, by omega, by omega, hpl, fun h0 => ⟨by omega, RAt.rowlt o4 h0⟩⟩
  clear HO2 HW
  generalize w2.alloc (.cells #[.int .i64 k, .int .i64 0, .int .i64 0, .slice none 0 0, .slice none 0 0] 25) = W at *
  generalize w2.heap.size = B at *
  go_cut [] from 11 to 45 (fun wc => ∃ io ic bo bc, Hid (RDf w wc q p g1 B bs io ic bo bc))
  case first =>
    by_cases h1 : k = 1
    · subst h1
      have h0 : 0 < bs.length := readF_some (unhide HK).1
      obtain ⟨hb0, hb1, hb2⟩ := rNum_eq bs s1 8
      obtain ⟨hq0, hq1, hq2⟩ := rNum_eq bs (rNum bs s1 8).2 8
      obtain ⟨hn0, hn1, hn2⟩ := rCnt_eq bs (rNum bs (rNum bs s1 8).2 8).2 8 (by omega)
      have HX : Hid (readF bs = (⟨1, (rNum bs s1 8).1, (rNum bs (rNum bs s1 8).2 8).1, (rTxts bs 256 (rCnt bs (rNum bs (rNum bs s1 8).2 8).2 8).2 (rCnt bs (rNum bs (rNum bs s1 8).2 8).2 8).1.toNat).1, []⟩, (rTxts bs 256 (rCnt bs (rNum bs (rNum bs s1 8).2 8).2 8).2 (rCnt bs (rNum bs (rNum bs s1 8).2 8).2 8).1.toNat).2)) := by
        obtain ⟨e1, e2⟩ := unhide HK
        unfold readF
        simp only [e1, e2]
        refine hide ?_
        rw [if_pos trivial]
      generalize (rCnt bs (rNum bs (rNum bs s1 8).2 8).2 8).2 = sn at *
      obtain ⟨N, hN⟩ : ∃ N : Nat, (rCnt bs (rNum bs (rNum bs s1 8).2 8).2 8).1 = (N : Int) := ⟨_, (Int.toNat_of_nonneg hn1).symm⟩
      rw [hN] at HX hn0 hn1 hn2
      rw [Int.toNat_natCast] at HX
      have HN0 := hide hn0
      clear hn0 hN
      generalize (rNum bs (rNum bs s1 8).2 8).1 = qv at *
      generalize (rNum bs (rNum bs s1 8).2 8).2 = s3 at *
      have HQ0 := hide hq0
      clear hq0
      generalize (rNum bs s1 8).1 = bv at *
      generalize (rNum bs s1 8).2 = s2 at *
      have HB0 := hide hb0
      have H0 := hide h0
      clear hb0 h0 HK
      go_wp2_with fail
      refine (rnumber_any (unhide HR).rd 8).mono ?_
      rw [unhide HB0]
      rintro e w3 ⟨rfl, k1, k2⟩
      have HR3 := hide ((unhide HR).read k1 k2)
      clear k1 k2 HR HB0
      have c1 : w3.cell? ⟨B, 1, none⟩ = some (.int .i64 0) := (unhide HR3).bf.cell 1
      have f1 : w3.frozen? ⟨B, 1, none⟩ = false := (unhide HR3).bf.frozen 1
      have HR4 := hide ((unhide HR3).put 1 (.int .i64 bv))
      clear HR3
      go_wp2_with fail
      generalize w3.setCell ⟨B, 1, none⟩ (.int .i64 bv) = w4 at *
      refine (rnumber_any (unhide HR4).rd 8).mono ?_
      rw [unhide HQ0]
      rintro e w5 ⟨rfl, k1, k2⟩
      have HR5 := hide ((unhide HR4).read k1 k2)
      clear k1 k2 HR4 HQ0 c1 f1
      have c2 : w5.cell? ⟨B, 2, none⟩ = some (.int .i64 0) := (unhide HR5).bf.cell 2
      have f2 : w5.frozen? ⟨B, 2, none⟩ = false := (unhide HR5).bf.frozen 2
      have HR6 := hide ((unhide HR5).put 2 (.int .i64 qv))
      clear HR5
      go_wp2_with fail
      generalize w5.setCell ⟨B, 2, none⟩ (.int .i64 qv) = w6 at *
      refine (rcount_any (unhide HR6).rd 8).mono ?_
      rw [unhide HN0]
      rintro e w7 ⟨rfl, k1, k2⟩
      have HR7 := hide ((unhide HR6).read k1 k2)
      clear k1 k2 HR6 HN0 c2 f2
      have hn8 : N ≤ 8 := by omega
      clear hn1 hn2
      go_wp2
      go_loopw [23] (fun iv wr => ∃ (i : Nat) (io : Option Addr) (ic ib : Nat) (ds : List RD), i ≤ N ∧ iv = .int .i64 i ∧ Hid (RF w wr q p g1 B bs (rTxts bs 256 sn i).2 #[.int .i64 1, .int .i64 bv, .int .i64 qv, .slice io i ic, .slice none 0 0] ∧ IL (B + 1) wr io ic ib ds (rTxts bs 256 sn i).1)) (fun iv _ => N - (intOf iv).toNat)
      case atStart => exact ⟨0, none, 0, B + 1, [], Nat.zero_le _, rfl, hide ⟨unhide HR7, IL.nil _ _ _⟩⟩
      case round =>
        obtain ⟨i, io, ic, ib, ds, hi, rfl, HI⟩ := hrel
        by_cases hil : i < N
        · have hiI : (i : Int) < (N : Int) := by omega
          obtain ⟨hx0, hx1⟩ := rTxt_eq bs (rTxts bs 256 sn i).2 256 (by omega)
          have HT : Hid ((rTxts bs 256 sn (i + 1)).1 = (rTxts bs 256 sn i).1 ++ [(rTxt bs (rTxts bs 256 sn i).2 256).1] ∧ (rTxts bs 256 sn (i + 1)).2 = (rTxt bs (rTxts bs 256 sn i).2 256).2) := hide ⟨rfl, rfl⟩
          have HTL := hide (rTxts_length bs 256 sn i)
          generalize (rTxt bs (rTxts bs 256 sn i).2 256).1 = x at *
          generalize (rTxt bs (rTxts bs 256 sn i).2 256).2 = sx at *
          have HX0 := hide hx0
          clear hx0
          generalize (rTxts bs 256 sn i).1 = its at *
          generalize (rTxts bs 256 sn i).2 = si at *
          obtain ⟨info, hinf, hzz⟩ := Option.map_eq_some_iff.1 infoB
          simp only [Prod.mk.injEq] at hzz
          have HINF := hide (And.intro hinf hzz)
          clear hinf hzz
          have c3 : wr.cell? ⟨B, 3, none⟩ = some (.slice io i ic) := (unhide HI).1.bf.cell 3
          have f3 : wr.frozen? ⟨B, 3, none⟩ = false := (unhide HI).1.bf.frozen 3
          have HID : Hid (RF w wr.drew q p g1 B bs si #[.int .i64 1, .int .i64 bv, .int .i64 qv, .slice io i ic, .slice none 0 0] ∧ IL (B + 1) wr.drew io ic ib ds its) := hide ⟨(unhide HI).1.keep ((Fr.refl _ _).drew), (unhide HI).2.frame ((Fr.refl (fun _ => False) _).drew) (fun _ t => t) (fun _ _ _ t => t)⟩
          have HDL : Hid (ds.length = i) := hide (by rw [(unhide HI).2.n1]; exact unhide HTL)
          go_wp2_with fail
          go_region_law (first | (refine step_call rfl 63 #[.pointer (some ⟨p, 0, none⟩), .int .i64 256] (by kernel_rfl) (rtext_any (unhide HID).1.rd 256) ?_; rw [unhide HX0]; rintro e w8 ⟨rfl, k1, k2⟩; refine ⟨_, rfl, ?_⟩; have HR8 := hide (And.intro ((unhide HID).1.read k1 k2) ((unhide HID).2.stay k2 (fun k t => by have t : k = p := t; have := (unhide HI).1.lo; omega))); clear k1 k2; obtain ⟨xc, w9, hcv, H9⟩ := conv_strZ w8 x (by omega); have c8 : w8.cell? ⟨B, 3, none⟩ = some (.slice io i ic) := (unhide HR8).1.bf.cell 3; have HR9 := hide (And.intro ((unhide HR8).1.keep (unhide H9).2.1) ((unhide HR8).2.frame (unhide H9).2.1 (fun _ t => t) (fun _ _ _ t => t))); have c9 : w9.cell? ⟨B, 3, none⟩ = some (.slice io i ic) := (unhide HR9).1.bf.cell 3; have hl9 := (unhide HR9).1.bf.lt; have HRA := hide (And.intro ((unhide HR9).1.keep ((Fr.refl _ _).alloc (.cells #[.slice (some ⟨w8.heap.size, 0, none⟩) x.length xc] 23))) ((unhide HR9).2.frame ((Fr.refl (fun _ => False) _).alloc (.cells #[.slice (some ⟨w8.heap.size, 0, none⟩) x.length xc] 23)) (fun _ t => t) (fun _ _ _ t => t))); have HSR := hide (src_one (P := Tryz.prog) w9 [.slice (some ⟨w8.heap.size, 0, none⟩) x.length xc] 22 23 1 Tryz.underlying22 rfl (fun u hu => by simp at hu; subst hu; rfl) (W := w9.alloc (.cells #[.slice (some ⟨w8.heap.size, 0, none⟩) x.length xc] 23)) (fun j => by rw [World.cell?_alloc_new]; simp))) | (refine step_append_krow rfl (.tmp 26) (.tmp 30) 22 22 rfl 23 info _ 1 (by omega) Tryz.underlying22 (unhide HINF).1 (unhide HINF).2.1 rfl (unhide HINF).2.2.1 (ao := io) (cap := ic) (g := ib) (n := i) (vs := ds.map RD.val) rfl (unhide HRA).2.row (by rw [List.length_map, unhide HDL]; omega) _ [.slice (some ⟨w8.heap.size, 0, none⟩) x.length xc] 1 rfl (unhide HSR) (by rw [(unhide HINF).2.2.2]; omega) (by omega) ?_; intro ao' cap' wB gB hkr hgr; have HRB := hide ((unhide HRA).1.more hgr.frZ (fun k t => by have := (unhide HRA).2.ib t.2; omega) (unhide H0)); have cB : wB.cell? ⟨B, 3, none⟩ = some (.slice io i ic) := (unhide HRB).bf.cell 3; have fB : wB.frozen? ⟨B, 3, none⟩ = false := (unhide HRB).bf.frozen 3; have HG := hide (And.intro hkr hgr); clear hkr hgr))
          all_goals
            have HIB : Hid (IL (B + 1) (wB.setCell ⟨B, 3, none⟩ (.slice ao' (i + 1) cap')) ao' cap' gB (ds ++ [⟨some ⟨w8.heap.size, 0, none⟩, x.length, xc, w8.heap.size⟩]) (its ++ [x])) := by
              obtain ⟨hkr, hgr⟩ := unhide HG
              have h8 := (unhide HR8).1.bf.lt
              have h9 := (unhide H9).2.2
              refine hide (IL.stay (S := fun k => k = B) ((unhide HRA).2.next (d := ⟨some ⟨w8.heap.size, 0, none⟩, x.length, xc, w8.heap.size⟩) (by omega) ((unhide H9).1.frame ((Fr.refl (fun _ => False) _).alloc _) (fun t => t)) rfl (fun hc => ⟨?_, fun hc2 => ?_, fun e he hc2 => ?_⟩) hkr hgr ?_) (Fr.setCell (S := fun k => k = B) (Fr.refl _ _) (p := ⟨B, 3, none⟩) (fun _ => rfl) _) (fun k t => by have t : k = B := t; omega))
              · show B + 1 ≤ w8.heap.size; omega
              · have := (unhide HR8).2.row.lt (by omega) hc2
                show ib ≠ w8.heap.size; omega
              · have := ((unhide HR8).2.in' he hc2).2.1
                show e.g < w8.heap.size; omega
              · rw [heap_alloc]; omega
            have HRE := hide ((unhide HRB).put 3 (.slice ao' (i + 1) cap'))
            clear HG HRB HRA HR9 HR8 cB fB c8 c9 c3 f3 hcv H9 HSR HINF HID HI
            go_wp2
            refine ⟨⟨i + 1, ao', cap', gB, ds ++ [⟨some ⟨w8.heap.size, 0, none⟩, x.length, xc, w8.heap.size⟩], by omega, by go_num, hide ⟨?_, ?_⟩⟩, by simp [intOf]; omega⟩
            · rw [(unhide HT).2]; exact unhide HRE
            · rw [(unhide HT).1]; exact unhide HIB
        · obtain rfl : i = N := by omega
          have hlen := rTxts_length bs 256 sn i
          have HD : Hid (RDf w wr q p g1 B bs io ic none 0) := by
            have e := unhide HX
            obtain ⟨hr, hil⟩ := unhide HI
            refine hide ⟨by rw [e]; simp only [Fm.cells]; rw [hlen]; exact hr, by rw [e]; exact ⟨ib, ds, hil⟩, by rw [e]; exact ⟨B + 1, Row.nil _ _, by omega⟩, by rw [e]; simp only; omega, ⟨by rw [e]; simp, .inl rfl⟩⟩
          clear HX HI hlen
          go_wp2
          go_meet
          exact ⟨io, ic, none, 0, HD⟩
    by_cases h4 : k = 4
    · subst h4
      obtain ⟨hx0, hx1⟩ := rTxt_eq bs s1 16100 (by omega)
      have HX : Hid (readF bs = (⟨4, 0, 0, [], (rTxt bs s1 16100).1⟩, (rTxt bs s1 16100).2)) := by
        obtain ⟨e1, e2⟩ := unhide HK
        unfold readF
        simp only [e1, e2]
        refine hide ?_
        rw [if_neg (by omega), if_neg (by omega), if_pos trivial]
      generalize (rTxt bs s1 16100).1 = x at *
      generalize (rTxt bs s1 16100).2 = s2 at *
      have HX0 := hide hx0
      clear hx0 h1
      go_wp2_with fail
      refine (rtext_any (unhide HR).rd 16100).mono ?_
      rw [unhide HX0]
      rintro e w3 ⟨rfl, k1, k2⟩
      have HR3 := hide ((unhide HR).read k1 k2)
      clear k1 k2 HR HX0
      obtain ⟨xc, w4, hcv, H4⟩ := conv_strZ w3 x (by omega)
      have hr4 := (unhide HR3).keep (unhide H4).2.1
      have c4 : w4.cell? ⟨B, 4, none⟩ = some (.slice none 0 0) := hr4.bf.cell 4
      have f4 : w4.frozen? ⟨B, 4, none⟩ = false := hr4.bf.frozen 4
      have hBl := (unhide HR3).bf.lt
      have HD : Hid (RDf w (w4.setCell ⟨B, 4, none⟩ (.slice (some ⟨w3.heap.size, 0, none⟩) x.length xc)) q p g1 B bs none 0 (some ⟨w3.heap.size, 0, none⟩) xc) := by
        have e := unhide HX
        refine hide ⟨by rw [e]; exact hr4.put 4 _, by rw [e]; exact ⟨B + 1, [], IL.nil _ _ _⟩, by rw [e]; exact ⟨w3.heap.size, (unhide H4).1.stay (fun _ => Below.heap_setCell _ _ _ _ (by show w3.heap.size ≠ B; omega)), hBl⟩, by rw [e]; simp, ⟨by rw [e]; show x.length ≤ 16100; omega, .inr (by rw [e]; rfl)⟩⟩
      clear hr4 HR3 H4 hBl HX
      go_wp2
      go_meet
      exact ⟨none, 0, _, _, HD⟩
    by_cases h2 : k = 2 ∨ k = 3
    · obtain ⟨hx0, hx1, hx2⟩ := rNum_eq bs s1 8
      have HX : Hid (readF bs = (⟨k, 0, (rNum bs s1 8).1, [], []⟩, (rNum bs s1 8).2)) := by
        obtain ⟨e1, e2⟩ := unhide HK
        unfold readF
        simp only [e1, e2]
        refine hide ?_
        rw [if_neg h1, if_pos h2]
      generalize (rNum bs s1 8).1 = x at *
      generalize (rNum bs s1 8).2 = s2 at *
      have HX0 := hide hx0
      clear hx0 h1 h4 HK
      rcases h2 with rfl | rfl
      all_goals
        go_wp2_with fail
        refine (rnumber_any (unhide HR).rd 8).mono ?_
        rw [unhide HX0]
        rintro e w3 ⟨rfl, k1, k2⟩
        have HR3 := hide ((unhide HR).read k1 k2)
        clear k1 k2 HR HX0
        have c4 : w3.cell? ⟨B, 2, none⟩ = some (.int .i64 0) := (unhide HR3).bf.cell 2
        have f4 : w3.frozen? ⟨B, 2, none⟩ = false := (unhide HR3).bf.frozen 2
        have HD : Hid (RDf w (w3.setCell ⟨B, 2, none⟩ (.int .i64 x)) q p g1 B bs none 0 none 0) := by
          have e := unhide HX
          refine hide ⟨by rw [e]; exact (unhide HR3).put 2 _, by rw [e]; exact ⟨B + 1, [], IL.nil _ _ _⟩, by rw [e]; exact ⟨B + 1, Row.nil _ _, by omega⟩, by rw [e]; simp, ⟨by rw [e]; simp, .inl rfl⟩⟩
        clear HR3 HX
        go_wp2
        go_meet
        exact ⟨none, 0, none, 0, HD⟩
    have b1 : (k == 1) = false := by simp; omega
    have b2 : (k == 2) = false := by simp; omega
    have b3 : (k == 3) = false := by simp; omega
    have b4 : (k == 4) = false := by simp; omega
    have HD : Hid (RDf w W q p g1 B bs none 0 none 0) := by
      have hr := unhide HR
      obtain ⟨e1, e2⟩ := unhide HK
      have e : readF bs = (⟨k, 0, 0, [], []⟩, s1) := by
        unfold readF
        simp only [e1, e2]
        rw [if_neg h1, if_neg h2, if_neg h4]
      refine hide ⟨by rw [e]; exact hr, by rw [e]; exact ⟨B + 1, [], IL.nil _ _ _⟩, by rw [e]; exact ⟨B + 1, Row.nil _ _, by omega⟩, by rw [e]; simp, ⟨by rw [e]; simp, .inl rfl⟩⟩
    clear HR h1 h2 h4
    go_wp2
    go_meet
    exact ⟨none, 0, none, 0, HD⟩
  case rest =>
    obtain ⟨io, ic, bo, bc, HD⟩ := hcut
    clear HR HK hk1 hk2
    obtain ⟨f, hf⟩ : ∃ f, (readF bs).1 = f := ⟨_, rfl⟩
    obtain ⟨s, hs⟩ : ∃ s, (readF bs).2 = s := ⟨_, rfl⟩
    obtain ⟨hrf, hil, hby, hn1, hn2⟩ := unhide HD
    rw [hf, hs] at hrf
    rw [hf] at hil hby hn1 hn2
    obtain ⟨kd, ba, sq, its, bts⟩ := f
    have HFS := hide (And.intro hf hs)
    clear HD hf hs
    simp only [Fm.cells] at hrf hil hby hn1 hn2
    have HRF := hide hrf
    have HIL := hide hil
    have HBY := hide hby
    have HE : Hid (∀ u, Fr (fun _ => False) wc u → Calls Tryz.prog 64 #[.pointer (some ⟨p, 0, none⟩)] u fun e w' => e = .returned (.agg #[.int .i64 (endR s bs.length).c, .int .i64 (endR s bs.length).f]) ∧ Fr (· = p) wc w') :=
      hide (fun u hu => (end_any (RAt.frame hrf.rd hu (fun t => t) (fun t => t))).mono (fun e w' t => ⟨t.1, (hu.mono (fun _ _ t => t.elim)).trans t.2.2 (fun _ _ t => t)⟩))
    have hlo := hrf.lo
    have HM : Hid (∀ u, Fr (· = p) wc u → Calls Tryz.prog 24 #[.agg #[.int .i64 kd, .int .i64 ba, .int .i64 sq, .slice io its.length ic, .slice bo bts.length bc]] u fun e w' => e = .returned (.bool (Fm.mk kd ba sq its bts).may) ∧ Hid (Fr (· = p) wc w')) := by
      refine hide (fun u hu => ?_)
      obtain ⟨ib, ds, hi⟩ := hil
      have h := maybe_any u ⟨kd, ba, sq, its, bts⟩ io ic bo bc ((hi.stay hu (fun i t => by have t : i = p := t; omega)).rows (by have hn1 : its.length ≤ 8 := hn1; show its.length ≤ _; omega))
      exact h.mono (fun e w' t => ⟨t.1, hide (hu.trans (unhide t.2) (fun _ _ t => t.elim))⟩)
    have HS : Hid (∀ u, Fr (fun k => k = p ∨ k = q) wc u → u.cell? ⟨B, 0, none⟩ = some (.int .i64 kd) ∧ u.cell? ⟨B, 1, none⟩ = some (.int .i64 ba) ∧ u.cell? ⟨B, 2, none⟩ = some (.int .i64 sq) ∧ u.cell? ⟨B, 3, none⟩ = some (.slice io its.length ic) ∧ u.cell? ⟨B, 4, none⟩ = some (.slice bo bts.length bc)) := by
      refine hide (fun u hu => ?_)
      have h := hrf.bf.frame hu (by show ¬ (B = p ∨ B = q); omega)
      exact ⟨h.cell 0, h.cell 1, h.cell 2, h.cell 3, h.cell 4⟩
    have HQ : Hid (∀ u, Fr (· = p) wc u → u.cell? ⟨q, 0, none⟩ = some (.int .i64 0) ∧ u.cell? ⟨q, 1, none⟩ = some (.int .i64 0) ∧ u.cell? ⟨q, 2, none⟩ = some (.int .i64 0) ∧ u.cell? ⟨q, 3, none⟩ = some (.slice none 0 0) ∧ u.cell? ⟨q, 4, none⟩ = some (.slice none 0 0) ∧ ∀ i, u.frozen? ⟨q, i, none⟩ = false) := by
      refine hide (fun u hu => ?_)
      have h := hrf.bq.frame hu (by show ¬ q = p; omega)
      exact ⟨h.cell 0, h.cell 1, h.cell 2, h.cell 3, h.cell 4, h.frozen⟩
    have HN := hide (And.intro hn1 hn2)
    clear hrf hil hby hn1 hn2
    obtain ⟨ef, hef⟩ : ∃ ef, (endR s bs.length).f = ef := ⟨_, rfl⟩
    obtain ⟨ec, hec0⟩ : ∃ ec, (endR s bs.length).c = ec := ⟨_, rfl⟩
    obtain ⟨mb, hmb⟩ : ∃ mb, (Fm.mk kd ba sq its bts).may = mb := ⟨_, rfl⟩
    rw [hef, hec0] at HE
    rw [hmb] at HM
    have HOK : Hid (readOk bs = (decide (ec = 0) && mb)) := by
      unfold readOk
      rw [(unhide HFS).1, (unhide HFS).2, hec0, hmb]
      exact hide rfl
    clear hef hec0 hmb
    by_cases hec : ec = 0
    · subst hec
      have hfc := fault_code 0 ef
      go_wp2_with fail
      go_region_held3 (fun w' => w'.cell? ⟨B, 0, none⟩ = some (.int .i64 kd) ∧ w'.cell? ⟨B, 1, none⟩ = some (.int .i64 ba) ∧ w'.cell? ⟨B, 2, none⟩ = some (.int .i64 sq) ∧ w'.cell? ⟨B, 3, none⟩ = some (.slice io its.length ic) ∧ w'.cell? ⟨B, 4, none⟩ = some (.slice bo bts.length bc)) (first | exact unhide HS _ (Fr.refl _ _) | exact unhide HS _ ((Fr.refl _ _).drew) | exact unhide HS _ (Fr.mono (unhide hF8) (fun _ _ t => .inl t)) | exact unhide HS _ (Fr.mono (unhide hF9) (fun _ _ t => .inl t)) | exact unhide HS _ ((((((Fr.mono (T := fun k => k = p ∨ k = q) (unhide hF9) (fun _ _ t => .inl t)).setCell (fun _ => .inr rfl) _).setCell (fun _ => .inr rfl) _).setCell (fun _ => .inr rfl) _).setCell (fun _ => .inr rfl) _).setCell (fun _ => .inr rfl) _)) (first | (go_at_call 64; refine (unhide HE _ ((Fr.refl _ _).drew)).mono ?_; rintro e w8 ⟨rfl, hF8'⟩; have hF8 := hide hF8'; clear hF8') | (go_at_call 24; refine (unhide HM w8 (unhide hF8)).mono ?_; rintro e w9 ⟨rfl, hF9⟩; have y0 := (unhide HQ w9 (unhide hF9)).1; have y1 := (unhide HQ w9 (unhide hF9)).2.1; have y2 := (unhide HQ w9 (unhide hF9)).2.2.1; have y3 := (unhide HQ w9 (unhide hF9)).2.2.2.1; have y4 := (unhide HQ w9 (unhide hF9)).2.2.2.2.1; have z0 := (unhide HQ w9 (unhide hF9)).2.2.2.2.2 0; have z1 := (unhide HQ w9 (unhide hF9)).2.2.2.2.2 1; have z2 := (unhide HQ w9 (unhide hF9)).2.2.2.2.2 2; have z3 := (unhide HQ w9 (unhide hF9)).2.2.2.2.2 3; have z4 := (unhide HQ w9 (unhide hF9)).2.2.2.2.2 4))
      have hfin : Bx (((((w9.setCell ⟨q, 0, none⟩ (.int .i64 kd)).setCell ⟨q, 1, none⟩ (.int .i64 ba)).setCell ⟨q, 2, none⟩ (.int .i64 sq)).setCell ⟨q, 3, none⟩ (.slice io its.length ic)).setCell ⟨q, 4, none⟩ (.slice bo bts.length bc)) q #[.int .i64 kd, .int .i64 ba, .int .i64 sq, .slice io its.length ic, .slice bo bts.length bc] 25 := ((((((unhide HRF).bq.frame (unhide hF9) (by show ¬ q = p; omega)).setCell 0 _).setCell 1 _).setCell 2 _).setCell 3 _).setCell 4 _
      have HFF : Hid (Fr (fun k => k = p ∨ k = q) wc (((((w9.setCell ⟨q, 0, none⟩ (.int .i64 kd)).setCell ⟨q, 1, none⟩ (.int .i64 ba)).setCell ⟨q, 2, none⟩ (.int .i64 sq)).setCell ⟨q, 3, none⟩ (.slice io its.length ic)).setCell ⟨q, 4, none⟩ (.slice bo bts.length bc))) := hide ((((((Fr.mono (T := fun k => k = p ∨ k = q) (unhide hF9) (fun _ _ t => .inl t)).setCell (fun _ => .inr rfl) _).setCell (fun _ => .inr rfl) _).setCell (fun _ => .inr rfl) _).setCell (fun _ => .inr rfl) _).setCell (fun _ => .inr rfl) _)
      generalize ((((w9.setCell ⟨q, 0, none⟩ (.int .i64 kd)).setCell ⟨q, 1, none⟩ (.int .i64 ba)).setCell ⟨q, 2, none⟩ (.int .i64 sq)).setCell ⟨q, 3, none⟩ (.slice io its.length ic)).setCell ⟨q, 4, none⟩ (.slice bo bts.length bc) = V at *
      have x0 : V.cell? ⟨q, 0, none⟩ = some (.int .i64 kd) := hfin.cell 0
      have x1 : V.cell? ⟨q, 1, none⟩ = some (.int .i64 ba) := hfin.cell 1
      have x2 : V.cell? ⟨q, 2, none⟩ = some (.int .i64 sq) := hfin.cell 2
      have x3 : V.cell? ⟨q, 3, none⟩ = some (.slice io its.length ic) := hfin.cell 3
      have x4 : V.cell? ⟨q, 4, none⟩ = some (.slice bo bts.length bc) := hfin.cell 4
      clear hfin
      go_wp2
      refine bodyPost_ret (v := .tuple #[.agg #[.int .i64 kd, .int .i64 ba, .int .i64 sq, .slice io its.length ic, .slice bo bts.length bc], .bool mb]) ?_ rfl ?_
      · simp [results, Tryz.results31, go_sem, x0, x1, x2, x3, x4]
      · obtain ⟨ib, ds, hi⟩ := unhide HIL
        obtain ⟨gb, hb1, hb2⟩ := unhide HBY
        have hff := unhide HFF
        rw [(unhide HFS).1, unhide HOK]
        refine ⟨io, ic, bo, bc, by simp [Fm.cells], hide ⟨(unhide HRF).fr.trans hff (fun i hi t => by omega), ⟨ib, ds, (hi.stay hff (fun i t => by omega)).low (by omega)⟩, ⟨gb, hb1.frame hff (by show ¬ (gb = p ∨ gb = q); omega), by omega⟩, (unhide HN).1, (unhide HN).2⟩⟩
    · have hecb : (ec == 0) = false := by simp [hec]
      have hd0 : decide (ec = 0) = false := by simp [hec]
      have hfc := fault_code ec ef
      obtain ⟨b0, b1, b2, b3, b4⟩ := unhide HS wc (Fr.refl _ _)
      go_wp2_with fail
      go_region_law (refine step_call rfl 64 #[.pointer (some ⟨p, 0, none⟩)] (by kernel_rfl) (unhide HE _ ((Fr.refl _ _).drew)) ?_; rintro e w8 ⟨rfl, hF8'⟩; refine ⟨_, rfl, ?_⟩; have hF8 := hide hF8'; clear hF8'; have y0 := (unhide HQ w8 (unhide hF8)).1; have y1 := (unhide HQ w8 (unhide hF8)).2.1; have y2 := (unhide HQ w8 (unhide hF8)).2.2.1; have y3 := (unhide HQ w8 (unhide hF8)).2.2.2.1; have y4 := (unhide HQ w8 (unhide hF8)).2.2.2.2.1; have z0 := (unhide HQ w8 (unhide hF8)).2.2.2.2.2 0; have z1 := (unhide HQ w8 (unhide hF8)).2.2.2.2.2 1; have z2 := (unhide HQ w8 (unhide hF8)).2.2.2.2.2 2; have z3 := (unhide HQ w8 (unhide hF8)).2.2.2.2.2 3; have z4 := (unhide HQ w8 (unhide hF8)).2.2.2.2.2 4; obtain ⟨v0, v1, v2, v3, v4⟩ := unhide HS w8 (Fr.mono (unhide hF8) (fun _ _ t => .inl t)))
      all_goals
        have hfin : Bx (((((w8.setCell ⟨q, 0, none⟩ (.int .i64 kd)).setCell ⟨q, 1, none⟩ (.int .i64 ba)).setCell ⟨q, 2, none⟩ (.int .i64 sq)).setCell ⟨q, 3, none⟩ (.slice io its.length ic)).setCell ⟨q, 4, none⟩ (.slice bo bts.length bc)) q #[.int .i64 kd, .int .i64 ba, .int .i64 sq, .slice io its.length ic, .slice bo bts.length bc] 25 := ((((((unhide HRF).bq.frame (unhide hF8) (by show ¬ q = p; omega)).setCell 0 _).setCell 1 _).setCell 2 _).setCell 3 _).setCell 4 _
        have HFF : Hid (Fr (fun k => k = p ∨ k = q) wc (((((w8.setCell ⟨q, 0, none⟩ (.int .i64 kd)).setCell ⟨q, 1, none⟩ (.int .i64 ba)).setCell ⟨q, 2, none⟩ (.int .i64 sq)).setCell ⟨q, 3, none⟩ (.slice io its.length ic)).setCell ⟨q, 4, none⟩ (.slice bo bts.length bc))) := hide ((((((Fr.mono (T := fun k => k = p ∨ k = q) (unhide hF8) (fun _ _ t => .inl t)).setCell (fun _ => .inr rfl) _).setCell (fun _ => .inr rfl) _).setCell (fun _ => .inr rfl) _).setCell (fun _ => .inr rfl) _).setCell (fun _ => .inr rfl) _)
        generalize ((((w8.setCell ⟨q, 0, none⟩ (.int .i64 kd)).setCell ⟨q, 1, none⟩ (.int .i64 ba)).setCell ⟨q, 2, none⟩ (.int .i64 sq)).setCell ⟨q, 3, none⟩ (.slice io its.length ic)).setCell ⟨q, 4, none⟩ (.slice bo bts.length bc) = V at *
        have x0 : V.cell? ⟨q, 0, none⟩ = some (.int .i64 kd) := hfin.cell 0
        have x1 : V.cell? ⟨q, 1, none⟩ = some (.int .i64 ba) := hfin.cell 1
        have x2 : V.cell? ⟨q, 2, none⟩ = some (.int .i64 sq) := hfin.cell 2
        have x3 : V.cell? ⟨q, 3, none⟩ = some (.slice io its.length ic) := hfin.cell 3
        have x4 : V.cell? ⟨q, 4, none⟩ = some (.slice bo bts.length bc) := hfin.cell 4
        clear hfin
        go_wp2
        refine bodyPost_ret (v := .tuple #[.agg #[.int .i64 kd, .int .i64 ba, .int .i64 sq, .slice io its.length ic, .slice bo bts.length bc], .bool false]) ?_ rfl ?_
        · simp [results, Tryz.results31, go_sem, x0, x1, x2, x3, x4]
        · obtain ⟨ib, ds, hi⟩ := unhide HIL
          obtain ⟨gb, hb1, hb2⟩ := unhide HBY
          have hff := unhide HFF
          rw [(unhide HFS).1, unhide HOK]
          refine ⟨io, ic, bo, bc, by rw [hd0]; rfl, hide ⟨(unhide HRF).fr.trans hff (fun i hi t => by omega), ⟨ib, ds, (hi.stay hff (fun i t => by omega)).low (by omega)⟩, ⟨gb, hb1.frame hff (by show ¬ (gb = p ∨ gb = q); omega), by omega⟩, (unhide HN).1, (unhide HN).2⟩⟩

end Go.Proofs.YtabhfeocelljdaaGreatDoor

