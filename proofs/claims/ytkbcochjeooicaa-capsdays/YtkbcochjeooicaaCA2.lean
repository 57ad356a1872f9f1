import Derived.Test.YtkbcochjeooicaaCA1
import Derived.Test.YtkbcochjeooicaaCR1
import Derived.Test.YtkbcochjeooicaaQL7
import Derived.Test.YtkbcochjeooicaaPK0
/- What a day comes to, asked of the program and of the document: the walk of CapsDays. -/
namespace Go.Proofs.Ytkbcochjeooicaa
open Go.RowKit

def mkP : Jn × Int := (jz, -7)
theorem pV_snoc (l : List (Jn × Int)) (p : Jn × Int) : pV (l ++ [p]) = pV l ++ pL p := by simp [pV]

set_option maxRecDepth 20000 in
theorem slice_uptoP (g n m cap : Nat) (h : n ≤ cap) (hc : 0 < cap) (u : World) : (Instr.slice 28 (.slice (some ⟨g, 0, none⟩) m cap) none (some (.int .i64 (n : Int))) none).run Try.prog u = .ok (.slice (some ⟨g, 0, none⟩) n cap) u := by
  rw [run_slice_h (P := Try.prog) (w := u) 28 (some ⟨g, 0, none⟩) m cap Try.underlying28 .i64 (n : Int) (by omega) (by omega)]
  have e : (.slice (some ⟨g, 0, none⟩) n cap : Value) = sliced (some ⟨g, 0, none⟩) 0 n cap 7 := by
    unfold sliced
    rw [if_neg (by omega)]
    simp [Addr.add_lit]
  rw [e]
  rfl

set_option maxHeartbeats 8000000 in
set_option maxRecDepth 20000 in
theorem days_walkC (w : World) (A : Ad) (t : Tf) (h : TAt w A t) (day : Int) (ao0 : Option Addr) (cap0 : Nat) (l : List (Jn × Int)) (hl : CAt w ao0 (pV l)) (hn : (l.length + 1) * 56 ≤ 140737488355328) :
    Calls Try.prog 3 #[tv A t, .int .i64 day, .slice ao0 l.length cap0] w fun e w' => e = .returned (.bool true) ∧ Fr (fun _ => False) w w' := by
  have H := hide h
  have HL := hide (fun (u : World) (hu : Fr (fun _ => False) w u) => hl.keep hu)
  obtain ⟨v, hv⟩ : ∃ v, v = w.alloc (.cells (tc A t) 27) := ⟨_, rfl⟩
  have HF : Hid (Fr (fun _ => False) w v) := hide (by rw [hv]; exact (Fr.refl _ w).alloc _)
  have hTB : TB v w.heap.size A t := by rw [hv]; exact TB.new w A t
  obtain ⟨B, hB⟩ : ∃ B, B = w.heap.size := ⟨_, rfl⟩
  rw [← hB] at hTB
  have HTB := hide hTB
  have HV := hide hv
  have HB := hide hB
  have HNN := hide hn
  clear hv hB hTB h hl hn
  unfold tv
  unfold tc at HV ⊢
  go_enter Try.func3, Try.ntmps3
  go_upto_region 1 with (fail)
  rw [← unhide HV, ← unhide HB]
  clear HV
  go_wp2_with fail
  refine (awake_anyC v).mono ?_
  rintro e w1 ⟨rfl, hF⟩
  replace HF := hide ((unhide HF).trans hF (fun _ _ t => t))
  replace HTB := hide ((unhide HTB).keep hF)
  clear hF
  go_wp2_with (refine wpList_load_tariff rfl (.tmp 3) rfl (g := B) (A := A) (t := t) rfl (unhide HTB) ?_)
  refine (lent_anyT w1 A t ((unhide H).keep (unhide HF))).mono ?_
  rintro e w2 ⟨A', gS, gP, gB, rfl, hLt⟩
  have HT := hide (hLt.tat ((unhide H).keep (unhide HF)))
  have HK := hide hLt.kp
  have HQ : Hid (w.heap.size ≤ gS ∧ w.heap.size ≤ gP ∧ w.heap.size ≤ gB ∧ B < gS ∧ B < gP ∧ B < gB ∧ gS < w2.heap.size ∧ gP < w2.heap.size ∧ gB < w2.heap.size) := hide (by
    have a0 := (unhide HF).size
    have a1 := hLt.oS.new
    have a2 := hLt.oP.new
    have a3 := hLt.oB.new
    have a4 := (unhide HTB).lt
    have a5 := hLt.oS.row.lt (by omega) hLt.oS.pos
    have a6 := hLt.oP.row.lt (by omega) hLt.oP.pos
    have a7 := hLt.oB.row.lt (by omega) hLt.oB.pos
    exact ⟨by omega, by omega, by omega, by omega, by omega, by omega, a5, a6, a7⟩)
  have hF := hLt.fr
  clear hLt
  replace HF := hide ((unhide HF).trans hF (fun _ _ t => t))
  replace HTB := hide ((unhide HTB).keep hF)
  clear hF
  obtain ⟨M, HME⟩ : ∃ M, Hid (M = w2.heap.size) := ⟨_, hide rfl⟩
  have HG : Hid ((w2.alloc (.cells #[.slice none 0 0, .slice none 0 0, .slice none 0 0, .float .f64 0, .int .i64 0, .int .i64 0, .int .i64 0, .int .i64 0, .int .i64 0, .int .i64 0, .int .i64 0, .int .i64 0, .int .i64 0, .int .i64 0] 27)).heap[M]? = some (.cells #[.slice none 0 0, .slice none 0 0, .slice none 0 0, .float .f64 0, .int .i64 0, .int .i64 0, .int .i64 0, .int .i64 0, .int .i64 0, .int .i64 0, .int .i64 0, .int .i64 0, .int .i64 0, .int .i64 0] 27 (0, 0))) := hide (by rw [unhide HME]; exact heap_new _ _)
  obtain ⟨v2, HV2⟩ : ∃ v2, Hid (v2 = (w2.alloc (.cells #[.slice none 0 0, .slice none 0 0, .slice none 0 0, .float .f64 0, .int .i64 0, .int .i64 0, .int .i64 0, .int .i64 0, .int .i64 0, .int .i64 0, .int .i64 0, .int .i64 0, .int .i64 0, .int .i64 0] 27)).setRow M (tc A' t)) := ⟨_, hide rfl⟩
  have hF : Fr (fun _ => False) w2 v2 := by rw [unhide HV2]; exact ((Fr.refl _ w2).alloc _).setRow (fun h => absurd h (by rw [unhide HME]; omega)) _
  have HM : Hid (TB v2 M A' t) := hide (by rw [unhide HV2]; exact TB.set (unhide HG) A' t)
  replace HF := hide ((unhide HF).trans hF (fun _ _ t => t))
  replace HTB := hide ((unhide HTB).keep hF)
  replace HT := hide ((unhide HT).keep hF)
  replace HK := hide ((unhide HK).keep hF)
  clear hF
  go_upto_region 3 with (rw [← unhide HME]; refine wpList_store_tariff rfl (.tmp 8) (.tmp 18) rfl (g := M) (A := A') (t := t) rfl rfl _ (unhide HG) rfl ?_)
  rw [← unhide HV2]
  clear HV2 HG
  obtain ⟨info, hi, hzz⟩ := Option.map_eq_some_iff.1 pInfo
  simp only [Prod.mk.injEq] at hzz
  obtain ⟨hz0, hs, hy⟩ := hzz
  obtain ⟨z, hz, hzc⟩ := Option.map_eq_some_iff.1 hz0
  have HIN : Hid (Try.prog.info? 34 = some info ∧ info.zero = some z ∧ z.cells.size = 7 ∧ info.size = 7 ∧ info.bytes = 56) := hide ⟨hi, hz, by rw [hzc]; rfl, hs, hy⟩
  have hmk : ∀ u : World, (Instr.makeSlice 28 (.int .i64 0) (.int .i64 ((l.length : Int) + 1))).run Try.prog u = .ok (.slice (some ⟨u.heap.size, 0, none⟩) 0 (l.length + 1)) (u.alloc (.cells (madeCells z.cells ((l.length + 1) * info.size)) 34)) := fun u => by
    have hbb := unhide HNN
    have := run_make (P := Try.prog) u 28 34 info z Try.underlying28 hi hz .i64 .i64 0 ((l.length : Int) + 1) (by omega) (by omega) (by rw [hy]; omega) (by omega)
    rw [show ((l.length : Int) + 1).toNat = l.length + 1 by omega, show (0 : Int).toNat = 0 from rfl] at this
    exact this
  have HM0 := hide (fun (u : World) => KRow.made0 u z.cells (l.length + 1) 7 ((l.length + 1) * info.size) (by rw [hs]) (by have hbb := unhide HNN; simp only [maxLen]; omega) 34)
  have HLN : Hid (l.length + 1 ≤ 140737488355328) := hide (by have := unhide HNN; omega)
  have hln : (l.length : Int) + 1 ≤ 140737488355328 := by have := unhide HLN; omega
  generalize madeCells z.cells ((l.length + 1) * info.size) = mc at *
  clear hz0 hs hy hz hzc hi
  have HIA := hide ((unhide HM0 v2))
  have HFA : Hid (Fr (fun _ => False) v2 (v2.alloc (.cells mc 34))) := hide ((Fr.refl _ v2).alloc _)
  have hsr := CAt.src (unhide HL _ ((unhide HF).trans (unhide HFA) (fun _ _ t => t))) 28 34 7 l.length cap0 (by omega) Try.underlying28 (pV_length _) (pV_one _)
  have HSR := hide hsr
  clear hsr HM0
  obtain ⟨gi, HGI⟩ : ∃ gi, Hid (gi = v2.heap.size) := ⟨_, hide rfl⟩
  go_wp2_with (at_builtin; refine wpList_append_krow _ rfl (.tmp 22) (.tmp 23) 28 28 rfl 34 info _ 7 (by omega) Try.underlying28 (unhide HIN).1 (unhide HIN).2.1 (unhide HIN).2.2.1 (unhide HIN).2.2.2.1 rfl (unhide HIA) rfl _ (pV l) l.length rfl (unhide HSR) (by rw [(unhide HIN).2.2.2.2]; have := unhide HNN; omega) (by have := unhide HLN; omega) ?_)
  intro ao1 cap1 w3 g1 hK hG
  have hF : Fr (fun _ => False) v2 w3 := by
    rcases hG with ⟨_, _, f⟩ | ⟨_, _, f⟩
    · exact (unhide HFA).trans f (fun q hq e => by have := e.1; omega)
    · exact (unhide HFA).trans f (fun _ _ t => t)
  have HG1 : Hid (v2.heap.size ≤ g1 ∧ 0 < cap1) := hide (by
    have hs := (unhide HFA).size
    rcases hG with ⟨e1, e2, _⟩ | ⟨e1, e2, _⟩
    · exact ⟨by omega, by omega⟩
    · exact ⟨by omega, e2⟩)
  have HI0 := hide hK
  clear hK hG HIA HSR HFA hmk hln HGI gi
  have HQ2 : Hid (gS < v2.heap.size ∧ gP < v2.heap.size ∧ gB < v2.heap.size ∧ M < v2.heap.size) := hide (by have := unhide HQ; have := hF.size; have a := (unhide HM).lt; have b := (unhide HK).rS.lt (by omega) (unhide HK).pS; have c := (unhide HK).rP.lt (by omega) (unhide HK).pP; have d := (unhide HK).rB.lt (by omega) (unhide HK).pB; exact ⟨b, c, d, a⟩)
  obtain ⟨S2, HS2⟩ : ∃ S2, Hid (S2 = v2.heap.size) := ⟨_, hide rfl⟩
  rw [← unhide HS2] at HG1 HQ2
  clear HS2
  replace HF := hide ((unhide HF).trans hF (fun _ _ t => t))
  replace HTB := hide ((unhide HTB).keep hF)
  replace HT := hide ((unhide HT).keep hF)
  replace HK := hide ((unhide HK).keep hF)
  replace HM := hide ((unhide HM).keep hF)
  clear hF
  have HIA := hide ((unhide HI0).keep (by omega) ((Fr.refl (fun _ => False) w3).alloc (.cells #[.int .i64 0, .int .i64 0, .int .i64 0, .int .i64 0, .int .i64 0, .bool false, .int .i64 (-7)] 34)))
  have HFA : Hid (Fr (fun _ => False) w3 (w3.alloc (.cells #[.int .i64 0, .int .i64 0, .int .i64 0, .int .i64 0, .int .i64 0, .bool false, .int .i64 (-7)] 34))) := hide ((Fr.refl _ w3).alloc _)
  have HSR := hide (src_new' w3 (pL mkP) 28 34 7 Try.underlying28 rfl (pL_one _) (W := w3.alloc (.cells #[.int .i64 0, .int .i64 0, .int .i64 0, .int .i64 0, .int .i64 0, .bool false, .int .i64 (-7)] 34)) (fun j => by rw [World.cell?_alloc_new]; exact List.getElem?_toArray.symm ▸ rfl))
  have HI0' := HI0
  clear HI0
  go_wp2_with (at_builtin; refine wpList_append_krow _ rfl (.tmp 24) (.tmp 26) 28 28 rfl 34 info _ 7 (by omega) Try.underlying28 (unhide HIN).1 (unhide HIN).2.1 (unhide HIN).2.2.1 (unhide HIN).2.2.2.1 rfl (unhide HIA) (pV_length l) _ (pL mkP) 1 rfl (unhide HSR) (by rw [(unhide HIN).2.2.2.2]; have := unhide HNN; omega) (by have := unhide HLN; omega) ?_)
  intro ao2 cap2 w4 g2 hK hG
  have hS : Fr (fun q => q = g1) w3 w4 := by
    rcases hG with ⟨_, _, f⟩ | ⟨_, _, f⟩
    · exact (((unhide HFA).mono (fun _ _ t => t.elim)).trans f (fun q _ e => e.1))
    · exact ((unhide HFA).trans f (fun _ _ t => t)).mono (fun _ _ t => t.elim)
  have HG2 : Hid (S2 ≤ g2 ∧ 0 < cap2) := hide (by
    have hs := (unhide HFA).size
    have := unhide HG1
    have := (unhide HI0').lt (by omega) this.2
    rcases hG with ⟨e1, e2, _⟩ | ⟨e1, e2, _⟩
    · exact ⟨by omega, by omega⟩
    · exact ⟨by omega, e2⟩)
  have HI : Hid (KRow w4 ao2 cap2 g2 7 (pV (l ++ [mkP]))) := hide (by rw [pV_snoc]; exact hK)
  have hq := unhide HQ2
  have hg := (unhide HG1).1
  have hwq := unhide HQ
  have hB1 := unhide HB
  replace HF : Hid (Fr (fun _ => False) w w4) := hide ((unhide HF).trans hS (fun q hq' e => by omega))
  replace HTB := hide ((unhide HTB).frame hS (by omega))
  replace HM := hide ((unhide HM).frame hS (by omega))
  replace HK := hide ((unhide HK).frame hS (by omega) (by omega) (by omega))
  replace HT := hide ((unhide HK).tat (unhide H))
  clear hS hK hG hq hg hwq hB1  HIA HSR HFA HI0' HG1 HIN
  obtain rfl : ao2 = some ⟨g2, 0, none⟩ := (unhide HI).ad (unhide HG2).2
  have HIF : Hid (CAt w4 (some ⟨g2, 0, none⟩) (pV l)) := hide (KRow.front (us := pL mkP) (by rw [← pV_snoc]; exact unhide HI) (unhide HG2).2)
  have hsl := fun u => slice_uptoP g2 l.length (l.length + 1) cap2 (by have a := (unhide HI).le; rw [pV_length, List.length_append, List.length_singleton] at a; omega) (unhide HG2).2 u
  obtain ⟨D, hD⟩ : ∃ D, dR t day l = D := ⟨_, rfl⟩
  obtain ⟨E, hE⟩ : ∃ E, dE t day l = E := ⟨_, rfl⟩
  have HDE := hide (And.intro hD hE)
  obtain ⟨r0, r1, r2, r3, r4, r5, r6⟩ := D
  have RA : Hid (∀ (u : World), Fr (fun _ => False) w4 u → Calls Try.prog 10 #[tv A' t, .int .i64 day, .slice (some ⟨g2, 0, none⟩) l.length cap2] u fun e w' => e = .returned (.tuple #[.agg #[.int .i64 r0, .int .i64 r1, .int .i64 r2, .int .i64 r3, .int .i64 r4, .int .i64 r5, .int .i64 r6], .int .i64 E]) ∧ Fr (fun _ => False) u w') := hide (fun u hu => by
    have := capsDay_any u A' t ((unhide HT).keep hu) (some ⟨g2, 0, none⟩) cap2 day l ((unhide HIF).keep hu)
    rw [hD, hE] at this
    exact this)
  clear hD hE
  have HCB : Hid (∀ u, Fr (fun _ => False) w4 u → u.cell? ⟨M, 0, none⟩ = some (.slice A'.aS t.st.length A'.cS) ∧ u.cell? ⟨M, 1, none⟩ = some (.slice A'.aP t.sp.length A'.cP) ∧ u.cell? ⟨M, 2, none⟩ = some (.slice A'.aB t.bd.length A'.cB) ∧ u.cell? ⟨M, 3, none⟩ = some (.float .f64 t.off) ∧ u.cell? ⟨M, 4, none⟩ = some (.int .i64 t.bus) ∧ u.cell? ⟨M, 5, none⟩ = some (.int .i64 t.busDaily) ∧ u.cell? ⟨M, 6, none⟩ = some (.int .i64 t.busWeekly) ∧ u.cell? ⟨M, 7, none⟩ = some (.int .i64 t.hopper) ∧ u.cell? ⟨M, 8, none⟩ = some (.int .i64 t.most) ∧ u.cell? ⟨M, 9, none⟩ = some (.int .i64 t.longest) ∧ u.cell? ⟨M, 10, none⟩ = some (.int .i64 t.change) ∧ u.cell? ⟨M, 11, none⟩ = some (.int .i64 t.passback) ∧ u.cell? ⟨M, 12, none⟩ = some (.int .i64 t.delay) ∧ u.cell? ⟨M, 13, none⟩ = some (.int .i64 t.threshold)) := hide (fun u hf => by
    have h1 := (unhide HM).keep hf
    exact ⟨h1.cell 0, h1.cell 1, h1.cell 2, h1.cell 3, h1.cell 4, h1.cell 5, h1.cell 6, h1.cell 7, h1.cell 8, h1.cell 9, h1.cell 10, h1.cell 11, h1.cell 12, h1.cell 13⟩)
  obtain ⟨d0, d1, d2, d3, d4, d5, d6, d7, d8, d9, d10, d11, d12, d13⟩ := unhide HCB w4 (Fr.refl _ _)
  unfold tv tc at RA
  have HACC := hide (Fr.refl (fun _ => False) w4)
  go_upto_region 4 with (fail)
  go_cut [10, 11] from 28 to 37 (fun bv ev wd => ∃ D, bv = .pointer (some ⟨D, 0, none⟩) ∧ ev = .int .i64 E ∧ Hid (Bx wd D #[.int .i64 r0, .int .i64 r1, .int .i64 r2, .int .i64 r3, .int .i64 r4, .int .i64 r5, .int .i64 r6] 36 ∧ w4.heap.size ≤ D ∧ Fr (fun _ => False) w4 wd))
  case first => as_aux_lemma =>
    go_region_held3 (fun u => u.cell? ⟨M, 0, none⟩ = some (.slice A'.aS t.st.length A'.cS) ∧ u.cell? ⟨M, 1, none⟩ = some (.slice A'.aP t.sp.length A'.cP) ∧ u.cell? ⟨M, 2, none⟩ = some (.slice A'.aB t.bd.length A'.cB) ∧ u.cell? ⟨M, 3, none⟩ = some (.float .f64 t.off) ∧ u.cell? ⟨M, 4, none⟩ = some (.int .i64 t.bus) ∧ u.cell? ⟨M, 5, none⟩ = some (.int .i64 t.busDaily) ∧ u.cell? ⟨M, 6, none⟩ = some (.int .i64 t.busWeekly) ∧ u.cell? ⟨M, 7, none⟩ = some (.int .i64 t.hopper) ∧ u.cell? ⟨M, 8, none⟩ = some (.int .i64 t.most) ∧ u.cell? ⟨M, 9, none⟩ = some (.int .i64 t.longest) ∧ u.cell? ⟨M, 10, none⟩ = some (.int .i64 t.change) ∧ u.cell? ⟨M, 11, none⟩ = some (.int .i64 t.passback) ∧ u.cell? ⟨M, 12, none⟩ = some (.int .i64 t.delay) ∧ u.cell? ⟨M, 13, none⟩ = some (.int .i64 t.threshold))
      ((refine unhide HCB _ ?_; repeat (first | (with_reducible exact unhide HACC) | (with_reducible exact Fr.refl _ _) | (with_reducible refine Fr.drew ?_) | (with_reducible refine Fr.alloc ?_ _) | (with_reducible refine Fr.put7 ?_ (by have q := (unhide HX).2; (try simp only [heap_alloc] at q); exact q) _ _))))
      ((go_at_call 10; refine (unhide RA _ (by repeat (first | (with_reducible exact unhide HACC) | (with_reducible exact Fr.refl _ _) | (with_reducible refine Fr.drew ?_) | (with_reducible refine Fr.alloc ?_ _) | (with_reducible refine Fr.put7 ?_ (by have q := (unhide HX).2; (try simp only [heap_alloc] at q); exact q) _ _)))).mono ?_; rintro e wz ⟨rfl, hA⟩; have hB : Fr (fun _ => False) w4 wz := Fr.trans (by repeat (first | (with_reducible exact unhide HACC) | (with_reducible exact Fr.refl _ _) | (with_reducible refine Fr.drew ?_) | (with_reducible refine Fr.alloc ?_ _) | (with_reducible refine Fr.put7 ?_ (by have q := (unhide HX).2; (try simp only [heap_alloc] at q); exact q) _ _))) hA (fun _ _ t => t); (repeat (replace hA := Fr.of_drew hA)); (first | (have hx := bxA (u := w4) hA (by repeat (first | (with_reducible exact unhide HACC) | (with_reducible exact Fr.refl _ _) | (with_reducible refine Fr.drew ?_) | (with_reducible refine Fr.alloc ?_ _) | (with_reducible refine Fr.put7 ?_ (by have q := (unhide HX).2; (try simp only [heap_alloc] at q); exact q) _ _))); have HX := hide hx; obtain ⟨⟨x0, x1, x2, x3, x4, x5, x6⟩, y0⟩ := bx7 hx.1; clear hx; try (simp only [heap_alloc] at x0 x1 x2 x3 x4 x5 x6 y0)) | (have hx := bxB (u := w4) hA (by repeat (first | (with_reducible exact unhide HACC) | (with_reducible exact Fr.refl _ _) | (with_reducible refine Fr.drew ?_) | (with_reducible refine Fr.alloc ?_ _) | (with_reducible refine Fr.put7 ?_ (by have q := (unhide HX).2; (try simp only [heap_alloc] at q); exact q) _ _))); have HX := hide hx; obtain ⟨⟨x0, x1, x2, x3, x4, x5, x6⟩, y0⟩ := bx7 hx.1; clear hx; try (simp only [heap_alloc] at x0 x1 x2 x3 x4 x5 x6 y0)) | (have hx := bxK (unhide HX) (by repeat (first | (with_reducible exact Fr.refl _ _) | (with_reducible refine Fr.drew ?_) | (with_reducible refine Fr.alloc ?_ _))) hA; have HX := hide hx; obtain ⟨⟨x0, x1, x2, x3, x4, x5, x6⟩, y0⟩ := bx7 hx.1; clear hx; try (simp only [heap_alloc] at x0 x1 x2 x3 x4 x5 x6 y0)) | skip); have HACC := hide hB; clear hA hB))
    all_goals
      go_wp2_with fail
      go_meet
      refine ⟨_, rfl, rfl, hide ⟨?_, ?_, ?_⟩⟩
      · first
          | ((repeat (with_reducible refine Bx.drew ?_)); with_reducible exact Bx.new _ _ _)
          | (have q := (unhide HX).1; (try simp only [heap_alloc] at q); (repeat (with_reducible refine Bx.drew ?_)); with_reducible exact bxS q _ _ _ _ _ _ _)
      · first
          | exact (unhide HACC).size
          | (have q := (unhide HX).2; (try simp only [heap_alloc] at q); exact q)
      · repeat (first | (with_reducible exact unhide HACC) | (with_reducible exact Fr.refl _ _) | (with_reducible refine Fr.drew ?_) | (with_reducible refine Fr.alloc ?_ _) | (with_reducible refine Fr.put7 ?_ (by have q := (unhide HX).2; (try simp only [heap_alloc] at q); exact q) _ _))
  case rest =>
    obtain ⟨D1, rfl, rfl, HC⟩ := hcut
    obtain ⟨w5, hw5⟩ : ∃ x, x = wc := ⟨_, rfl⟩
    subst hw5
    obtain ⟨hD1, hDn, hF⟩ := unhide HC
    have HD1 := hide hD1
    clear hD1 HC RA HCB HIF hsl HACC d0 d1 d2 d3 d4 d5 d6 d7 d8 d9 d10 d11 d12 d13
    replace HF := hide ((unhide HF).trans hF (fun _ _ t => t))
    replace HTB := hide ((unhide HTB).keep hF)
    replace HM := hide ((unhide HM).keep hF)
    replace HT := hide ((unhide HT).keep hF)
    replace HK := hide ((unhide HK).keep hF)
    have HDQ : Hid (gS < g2 ∧ gP < g2 ∧ gB < g2 ∧ M < g2 ∧ g2 < D1) := hide (by
      have a := unhide HQ2
      have b := (unhide HG2).1
      have c := (unhide HI).lt (by omega) (unhide HG2).2
      omega)
    replace HI := hide ((unhide HI).keep (by omega) hF)
    clear hF
    have RK := kept_anyT w5 A' A t gS gP gB (unhide HT) ((unhide H).keep (unhide HF)) (unhide HK)
    go_wp2_with (first | refine wpList_load_tariff rfl (.tmp 8) rfl (g := M) (A := A') (t := t) rfl (unhide HM) ?_ | refine wpList_load_tariff rfl (.tmp 3) rfl (g := B) (A := A) (t := t) rfl (unhide HTB) ?_)
    refine RK.mono ?_
    rintro e w6 ⟨rfl, hF⟩
    have hq := unhide HQ
    have hdq := unhide HDQ
    have hbw := unhide HB
    have HV0 : Hid (Fr (fun _ => False) w w6 ∧ TB w6 B A t ∧ KRow w6 (some ⟨g2, 0, none⟩) cap2 g2 7 (pV (l ++ [mkP])) ∧ Bx w6 D1 #[.int .i64 r0, .int .i64 r1, .int .i64 r2, .int .i64 r3, .int .i64 r4, .int .i64 r5, .int .i64 r6] 36) := hide
      ⟨(unhide HF).trans hF (fun q hq' e => by omega), (unhide HTB).frame hF (by omega), (unhide HI).stay (fun hc => hF.block _ ((unhide HI).lt (by omega) hc) (by omega)), (unhide HD1).frame hF (by omega)⟩
    clear hF hq hdq hbw HF HTB HM HT HK HI HD1 HQ HQ2 HDQ RK HG2
    have m7 : w6.cell? ⟨g2, l.length * 7 + 6, none⟩ = some (.int .i64 (-7)) := (pV_cell (unhide HV0).2.2.1 (k := l.length) (b := mkP) (by rw [List.getElem?_append_right (Nat.le_refl _), Nat.sub_self]; rfl)).2.2 6 (by omega) _ rfl
    have q1 := egP
    have q2 := eqP
    have hln : l.length ≤ 140737488355328 := by have := unhide HLN; omega
    have hlt2 : (l.length : Int) < (l.length : Int) + 1 := by omega
    go_wp2
    go_loopw [12, 13] (fun sv iv wr => ∃ i : Nat, i ≤ l.length ∧ sv = .bool true ∧ iv = .int .i64 i ∧ Hid (Fr (fun _ => False) w wr ∧ TB wr B A t ∧ KRow wr (some ⟨g2, 0, none⟩) cap2 g2 7 (pV (l ++ [mkP])) ∧ Bx wr D1 #[.int .i64 r0, .int .i64 r1, .int .i64 r2, .int .i64 r3, .int .i64 r4, .int .i64 r5, .int .i64 r6] 36)) (fun _ iv _ => l.length - (intOf iv).toNat)
    case atStart => exact ⟨0, Nat.zero_le _, rfl, rfl, HV0⟩
    case round =>
      obtain ⟨i, hi, rfl, rfl, HI⟩ := hrel
      clear HV0 m7 hlt2
      by_cases hil : i < l.length
      · as_aux_lemma =>
        have hlt : (i : Int) < (l.length : Int) := by omega
        have hlt2 : (i : Int) < (l.length : Int) + 1 := by omega
        obtain ⟨b0, off0, hao, kk⟩ := (unhide HL wr (unhide HI).1).pj hil
        subst hao
        have hga := (pV_cell (unhide HI).2.2.1 (k := i) (b := l[i]) (by rw [List.getElem?_append_left hil]; exact List.getElem?_eq_getElem hil)).2.2
        have k0 := kk 0 (by omega) _ rfl
        have k1 := kk 1 (by omega) _ rfl
        have k2 := kk 2 (by omega) _ rfl
        have k3 := kk 3 (by omega) _ rfl
        have k4 := kk 4 (by omega) _ rfl
        have k5 := kk 5 (by omega) _ rfl
        have k6 := kk 6 (by omega) _ rfl
        rw [Nat.add_zero] at k0
        rw [← Nat.add_assoc] at k1 k2 k3 k4 k5 k6
        clear kk
        generalize hq : l[i] = q at *
        obtain ⟨⟨k, f, o, s, n, r⟩, m⟩ := q
        simp only at k0 k1 k2 k3 k4 k5 k6
        have a0 : wr.cell? ⟨g2, i * 7, none⟩ = some (.int .i64 k) := hga 0 (by omega) _ rfl
        have a1 : wr.cell? ⟨g2, i * 7 + 1, none⟩ = some (.int .i64 f) := hga 1 (by omega) _ rfl
        have a2 : wr.cell? ⟨g2, i * 7 + 2, none⟩ = some (.int .i64 o) := hga 2 (by omega) _ rfl
        have a3 : wr.cell? ⟨g2, i * 7 + 3, none⟩ = some (.int .i64 s) := hga 3 (by omega) _ rfl
        have a4 : wr.cell? ⟨g2, i * 7 + 4, none⟩ = some (.int .i64 n) := hga 4 (by omega) _ rfl
        have a5 : wr.cell? ⟨g2, i * 7 + 5, none⟩ = some (.bool r) := hga 5 (by omega) _ rfl
        have a6 : wr.cell? ⟨g2, i * 7 + 6, none⟩ = some (.int .i64 m) := hga 6 (by omega) _ rfl
        clear hga hq
        go_upto_region 9 with (fail)
        have HSX : Hid (∀ u, Fr (fun _ => False) wr u → Hid (Fr (fun _ => False) w u ∧ TB u B A t ∧ KRow u (some ⟨g2, 0, none⟩) cap2 g2 7 (pV (l ++ [mkP])) ∧ Bx u D1 #[.int .i64 r0, .int .i64 r1, .int .i64 r2, .int .i64 r3, .int .i64 r4, .int .i64 r5, .int .i64 r6] 36)) := hide (fun u hf => by
          obtain ⟨i1, i2, i3, i4⟩ := unhide HI
          exact hide ⟨i1.trans hf (fun _ _ t => t), i2.keep hf, i3.keep (by omega) hf, i4.keep hf⟩)
        go_region_held3 (fun u => u.cell? ⟨g2, i * 7, none⟩ = some (.int .i64 k) ∧ u.cell? ⟨g2, i * 7 + 1, none⟩ = some (.int .i64 f) ∧ u.cell? ⟨g2, i * 7 + 2, none⟩ = some (.int .i64 o) ∧ u.cell? ⟨g2, i * 7 + 3, none⟩ = some (.int .i64 s) ∧ u.cell? ⟨g2, i * 7 + 4, none⟩ = some (.int .i64 n) ∧ u.cell? ⟨g2, i * 7 + 5, none⟩ = some (.bool r) ∧ u.cell? ⟨g2, i * 7 + 6, none⟩ = some (.int .i64 m) ∧ u.cell? ⟨b0, off0 + i * 7, none⟩ = some (.int .i64 k) ∧ u.cell? ⟨b0, off0 + i * 7 + 1, none⟩ = some (.int .i64 f) ∧ u.cell? ⟨b0, off0 + i * 7 + 2, none⟩ = some (.int .i64 o) ∧ u.cell? ⟨b0, off0 + i * 7 + 3, none⟩ = some (.int .i64 s) ∧ u.cell? ⟨b0, off0 + i * 7 + 4, none⟩ = some (.int .i64 n) ∧ u.cell? ⟨b0, off0 + i * 7 + 5, none⟩ = some (.bool r) ∧ u.cell? ⟨b0, off0 + i * 7 + 6, none⟩ = some (.int .i64 m)) (go_keep) (fail)
        clear a0 a1 a2 a3 a4 a5 a6 k0 k1 k2 k3 k4 k5 k6 HI
        go_wp2
        exact ⟨⟨i + 1, by omega, rfl, by go_num, unhide HSX _ (by repeat (first | (with_reducible exact Fr.refl _ _) | (with_reducible refine Fr.drew ?_) | (with_reducible refine Fr.drewN ?_ _)))⟩, by simp [intOf]; omega⟩
      · obtain rfl : i = l.length := by omega
        have hlt : ¬ (l.length : Int) < (l.length : Int) := by omega
        obtain ⟨i1, i2, i3, i4⟩ := unhide HI
        have R4 := rcapsDay_any wr A t ((unhide H).keep i1) ao0 cap0 day l (unhide HL wr i1)
        rw [(unhide HDE).1, (unhide HDE).2] at R4
        have HB1 := hide i2
        have HF := hide i1
        have HD1 := hide i4
        clear HI i1 i2 i3 i4 q1 q2
        simp only [dyC] at R4
        go_wp2_with (refine wpList_load_tariff rfl (.tmp 3) rfl (g := B) (A := A) (t := t) rfl (unhide HB1) ?_)
        refine R4.mono ?_
        rintro e w7 ⟨rfl, hF⟩
        replace HF := hide ((unhide HF).trans hF (fun _ _ t => t))
        replace HD1 := hide ((unhide HD1).keep hF)
        clear hF R4 HB1
        go_upto_region 11 with (fail)
        obtain ⟨w8, hw8⟩ : ∃ w8, w8 = w7.alloc (.cells #[.int .i64 r0, .int .i64 r1, .int .i64 r2, .int .i64 r3, .int .i64 r4, .int .i64 r5, .int .i64 r6] 36) := ⟨_, rfl⟩
        obtain ⟨D2, hD2⟩ : ∃ D2, D2 = w7.heap.size := ⟨_, rfl⟩
        rw [← hw8, ← hD2]
        have hF : Fr (fun _ => False) w7 w8 := by rw [hw8]; exact (Fr.refl _ _).alloc _
        have HB2 : Bx w8 D2 #[.int .i64 r0, .int .i64 r1, .int .i64 r2, .int .i64 r3, .int .i64 r4, .int .i64 r5, .int .i64 r6] 36 := by rw [hw8, hD2]; exact Bx.new _ _ _
        have HB1' := (unhide HD1).keep hF
        replace HF := hide ((unhide HF).trans hF (fun _ _ t => t))
        clear hF hw8 hD2 HD1
        have a0 : w8.cell? ⟨D1, 0, none⟩ = some (.int .i64 r0) := HB1'.cell 0
        have a1 : w8.cell? ⟨D1, 1, none⟩ = some (.int .i64 r1) := HB1'.cell 1
        have a2 : w8.cell? ⟨D1, 2, none⟩ = some (.int .i64 r2) := HB1'.cell 2
        have a3 : w8.cell? ⟨D1, 3, none⟩ = some (.int .i64 r3) := HB1'.cell 3
        have a4 : w8.cell? ⟨D1, 4, none⟩ = some (.int .i64 r4) := HB1'.cell 4
        have a5 : w8.cell? ⟨D1, 5, none⟩ = some (.int .i64 r5) := HB1'.cell 5
        have a6 : w8.cell? ⟨D1, 6, none⟩ = some (.int .i64 r6) := HB1'.cell 6
        have b0 : w8.cell? ⟨D2, 0, none⟩ = some (.int .i64 r0) := HB2.cell 0
        have b1 : w8.cell? ⟨D2, 1, none⟩ = some (.int .i64 r1) := HB2.cell 1
        have b2 : w8.cell? ⟨D2, 2, none⟩ = some (.int .i64 r2) := HB2.cell 2
        have b3 : w8.cell? ⟨D2, 3, none⟩ = some (.int .i64 r3) := HB2.cell 3
        have b4 : w8.cell? ⟨D2, 4, none⟩ = some (.int .i64 r4) := HB2.cell 4
        have b5 : w8.cell? ⟨D2, 5, none⟩ = some (.int .i64 r5) := HB2.cell 5
        have b6 : w8.cell? ⟨D2, 6, none⟩ = some (.int .i64 r6) := HB2.cell 6
        have q1 := egD
        have q2 := eqD
        clear HB2 HB1'
        go_wp2
        go_ret
        exact ⟨by first | rfl | simp, unhide HF⟩

end Go.Proofs.Ytkbcochjeooicaa

