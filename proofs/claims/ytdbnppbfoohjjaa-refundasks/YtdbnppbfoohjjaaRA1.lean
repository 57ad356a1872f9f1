import Derived.Test.YtdbnppbfoohjjaaRR2
import Derived.Test.YtdbnppbfoohjjaaRS1
import Derived.Test.YtdbnppbfoohjjaaRL0
import Derived.Test.YtdbnppbfoohjjaaRF3
import Derived.Test.YtdbnppbfoohjjaaPK0
import Derived.Test.YtdbnppbfoohjjaaQL7
/- What outages hold up, asked of the program and of the document: the walk of RefundAsks. -/
namespace Go.Proofs.Ytdbnppbfoohjjaa
open Go.RowKit

def mkQ : Jn × Int := (jz, -7)
def mkO : Ou := ⟨-7, 0, 0⟩
theorem pV_snocR (l : List (Jn × Int)) (p : Jn × Int) : pV (l ++ [p]) = pV l ++ pL p := by simp [pV]

set_option maxRecDepth 20000 in
theorem slice_uptoQ (g n m cap : Nat) (h : n ≤ cap) (hc : 0 < cap) (u : World) : (Instr.slice 49 (.slice (some ⟨g, 0, none⟩) m cap) none (some (.int .i64 (n : Int))) none).run Try.prog u = .ok (.slice (some ⟨g, 0, none⟩) n cap) u := by
  rw [run_slice_h (P := Try.prog) (w := u) 49 (some ⟨g, 0, none⟩) m cap Try.underlying49 .i64 (n : Int) (by omega) (by omega)]
  have e : (.slice (some ⟨g, 0, none⟩) n cap : Value) = sliced (some ⟨g, 0, none⟩) 0 n cap 7 := by
    unfold sliced
    rw [if_neg (by omega)]
    simp [Addr.add_lit]
  rw [e]
  rfl
set_option maxRecDepth 20000 in
theorem slice_uptoO (g n m cap : Nat) (h : n ≤ cap) (hc : 0 < cap) (u : World) : (Instr.slice 51 (.slice (some ⟨g, 0, none⟩) m cap) none (some (.int .i64 (n : Int))) none).run Try.prog u = .ok (.slice (some ⟨g, 0, none⟩) n cap) u := by
  rw [run_slice_h (P := Try.prog) (w := u) 51 (some ⟨g, 0, none⟩) m cap Try.underlying51 .i64 (n : Int) (by omega) (by omega)]
  have e : (.slice (some ⟨g, 0, none⟩) n cap : Value) = sliced (some ⟨g, 0, none⟩) 0 n cap 3 := by
    unfold sliced
    rw [if_neg (by omega)]
    simp [Addr.add_lit]
  rw [e]
  rfl

theorem eqO (w : World) (a0 a1 a2 : Int) : (Op.equalIn 10000 54 (.agg #[.int .i64 a0, .int .i64 a1, .int .i64 a2]) (.agg #[.int .i64 a0, .int .i64 a1, .int .i64 a2])).run Try.prog w = .ok true w := by
  have u3 := Try.underlying3
  have hS : Try.prog.underlying 54 = some (.struct (Try.prog.fieldsOf 54)) := by kernel_rfl
  have hp : Try.prog.stoodInHeld 54 = false := by kernel_rfl
  rw [show (10000 : Nat) = 9999 + 1 from rfl, run_equalIn_agg w 9999 54 _ _ hS hp]
  simp only [Program.fieldsOf, Try.underlying54]
  go_simp
theorem egO : Try.prog.eqGuardType Try.prog.depth 54 = false := by kernel_rfl
theorem ouV_cell {w : World} {ao : Option Addr} {cap g : Nat} {l : List Ou} (h : KRow w ao cap g 3 (ouV l)) {k : Nat} {b : Ou} (hb : l[k]? = some b) :
    ∀ c (_ : c < 3) v, (ouL b)[c]? = some v → w.cell? ⟨g, k * 3 + c, none⟩ = some v := by
  have hk := (List.getElem?_eq_some_iff.1 hb).1
  have hl := ouV_length l
  refine fun c hc v hv => ?_
  have h1 := h.cells (k * 3 + c) (by omega)
  have h2 := flat_get ouL 3 (fun _ => rfl) l k hk c hc
  have h3 : l[k] = b := by rw [List.getElem?_eq_getElem hk] at hb; exact Option.some.inj hb
  rw [h3, hv] at h2
  rw [h1]
  have h4 : (ouV l)[k * 3 + c]? = some v := h2
  rw [List.getElem?_eq_getElem (by omega)] at h4
  exact h4

/-- A row of priced journeys, the first i written over. -/
def overP (i : Nat) (l : List (Jn × Int)) : List (Jn × Int) := (l.take i).map (fun x => (x.1, -5)) ++ l.drop i
theorem overP_zero (l : List (Jn × Int)) : overP 0 l = l := by simp [overP]
theorem overP_length (i : Nat) (l : List (Jn × Int)) : (overP i l).length = l.length := by simp [overP]; omega

set_option maxHeartbeats 16000000 in
set_option maxRecDepth 20000 in
theorem asks_walkR (w : World) (A : Ad) (t : Tf) (h : TAt w A t) (ao1 : Option Addr) (cap1 : Nat) (l : List Ou) (hl : CAt w ao1 (ouV l)) (hln : (l.length + 100) * 24 ≤ 140737488355328) (ao0 : Option Addr) (cap0 : Nat) (p : List (Jn × Int)) (hp : CAt w ao0 (pV p)) (hpn : (p.length + 1) * 56 ≤ 140737488355328) (jj : Jn) :
    Calls Try.prog 5 #[tv A t, .slice ao1 l.length cap1, .slice ao0 p.length cap0, .agg (jC jj)] w fun e w' => e = .returned (.bool true) ∧ Fr (fun _ => False) w w' := by
  have H := hide h
  have HL := hide (fun (u : World) (hu : Fr (fun _ => False) w u) => hl.keep hu)
  have HP := hide (fun (u : World) (hu : Fr (fun _ => False) w u) => hp.keep hu)
  have HLN := hide hln
  have HPN := hide hpn
  obtain ⟨v, hv⟩ : ∃ v, v = (w.alloc (.cells (tc A t) 27)).alloc (.cells (jC jj) 46) := ⟨_, rfl⟩
  have HF : Hid (Fr (fun _ => False) w v) := hide (by rw [hv]; exact ((Fr.refl _ w).alloc _).alloc _)
  have HTB : Hid (TB v w.heap.size A t) := hide (by rw [hv]; exact (TB.new w A t).keep ((Fr.refl _ _).alloc _))
  have HJ : Hid (Bx v (w.heap.size + 1) (jC jj) 46) := hide (by
    rw [hv, ← heap_alloc w (.cells (tc A t) 27)]; exact Bx.new _ _ _)
  obtain ⟨B, hB⟩ : ∃ B, B = w.heap.size := ⟨_, rfl⟩
  rw [← hB] at HTB HJ
  have HV := hide hv
  have HB := hide hB
  clear hv hB h hl hp hln hpn
  obtain ⟨y, HY⟩ : ∃ y, Hid (heldB t.delay l jj = y) := ⟨_, hide rfl⟩
  obtain ⟨jk, jf, jo, js, jn, jr⟩ := jj
  unfold tv
  unfold tc at HV ⊢
  simp only [jC] at HV ⊢
  go_enter Try.func5, Try.ntmps5
  go_upto_region 1 with (fail)
  rw [← unhide HV, ← unhide HB]
  clear HV
  go_wp2_with fail
  refine (awake_anyR v).mono ?_
  rintro e w1 ⟨rfl, hF⟩
  replace HF := hide ((unhide HF).trans hF (fun _ _ t => t))
  replace HTB := hide ((unhide HTB).keep hF)
  replace HJ := hide ((unhide HJ).keep hF)
  clear hF
  go_wp2_with (refine wpList_load_tariff rfl (.tmp 4) rfl (g := B) (A := A) (t := t) rfl (unhide HTB) ?_)
  refine (lent_anyT w1 A t ((unhide H).keep (unhide HF))).mono ?_
  rintro e w2 ⟨A', gS, gP, gB, rfl, hLt⟩
  have HT := hide (hLt.tat ((unhide H).keep (unhide HF)))
  have HK := hide hLt.kp
  have HQ : Hid (w.heap.size ≤ gS ∧ w.heap.size ≤ gP ∧ w.heap.size ≤ gB ∧ B + 1 < gS ∧ B + 1 < gP ∧ B + 1 < gB ∧ gS < w2.heap.size ∧ gP < w2.heap.size ∧ gB < w2.heap.size) := hide (by
    have a0 := (unhide HF).size
    have a1 := hLt.oS.new
    have a2 := hLt.oP.new
    have a3 := hLt.oB.new
    have a4 := (unhide HJ).lt
    have a5 := hLt.oS.row.lt (by omega) hLt.oS.pos
    have a6 := hLt.oP.row.lt (by omega) hLt.oP.pos
    have a7 := hLt.oB.row.lt (by omega) hLt.oB.pos
    exact ⟨by omega, by omega, by omega, by omega, by omega, by omega, a5, a6, a7⟩)
  have hF := hLt.fr
  clear hLt
  replace HF := hide ((unhide HF).trans hF (fun _ _ t => t))
  replace HTB := hide ((unhide HTB).keep hF)
  replace HJ := hide ((unhide HJ).keep hF)
  clear hF
  obtain ⟨M, HME⟩ : ∃ M, Hid (M = w2.heap.size) := ⟨_, hide rfl⟩
  have HG : Hid ((w2.alloc (.cells #[.slice none 0 0, .slice none 0 0, .slice none 0 0, .float .f64 0, .int .i64 0, .int .i64 0, .int .i64 0, .int .i64 0, .int .i64 0, .int .i64 0, .int .i64 0, .int .i64 0, .int .i64 0, .int .i64 0] 27)).heap[M]? = some (.cells #[.slice none 0 0, .slice none 0 0, .slice none 0 0, .float .f64 0, .int .i64 0, .int .i64 0, .int .i64 0, .int .i64 0, .int .i64 0, .int .i64 0, .int .i64 0, .int .i64 0, .int .i64 0, .int .i64 0] 27 (0, 0))) := hide (by rw [unhide HME]; exact heap_new _ _)
  obtain ⟨v2, HV2⟩ : ∃ v2, Hid (v2 = (w2.alloc (.cells #[.slice none 0 0, .slice none 0 0, .slice none 0 0, .float .f64 0, .int .i64 0, .int .i64 0, .int .i64 0, .int .i64 0, .int .i64 0, .int .i64 0, .int .i64 0, .int .i64 0, .int .i64 0, .int .i64 0] 27)).setRow M (tc A' t)) := ⟨_, hide rfl⟩
  have hF : Fr (fun _ => False) w2 v2 := by rw [unhide HV2]; exact ((Fr.refl _ w2).alloc _).setRow (fun h => absurd h (by rw [unhide HME]; omega)) _
  have HM : Hid (TB v2 M A' t) := hide (by rw [unhide HV2]; exact TB.set (unhide HG) A' t)
  have HMQ : Hid (gS < M ∧ gP < M ∧ gB < M ∧ B + 1 < M ∧ M < v2.heap.size) := hide (by have a := unhide HQ; have b := unhide HME; have c := (unhide HM).lt; omega)
  replace HF := hide ((unhide HF).trans hF (fun _ _ t => t))
  replace HTB := hide ((unhide HTB).keep hF)
  replace HJ := hide ((unhide HJ).keep hF)
  replace HT := hide ((unhide HT).keep hF)
  replace HK := hide ((unhide HK).keep hF)
  clear hF
  go_upto_region 3 with (rw [← unhide HME]; refine wpList_store_tariff rfl (.tmp 10) (.tmp 29) rfl (g := M) (A := A') (t := t) rfl rfl _ (unhide HG) rfl ?_)
  rw [← unhide HV2]
  clear HV2 HG HME
  obtain ⟨info, hi, hzz⟩ := Option.map_eq_some_iff.1 ouInfo
  simp only [Prod.mk.injEq] at hzz
  obtain ⟨hz0, hs, hy⟩ := hzz
  obtain ⟨z, hz, hzc⟩ := Option.map_eq_some_iff.1 hz0
  have HIN : Hid (Try.prog.info? 54 = some info ∧ info.zero = some z ∧ z.cells.size = 3 ∧ info.size = 3 ∧ info.bytes = 24) := hide ⟨hi, hz, by rw [hzc]; rfl, hs, hy⟩
  have hmk : ∀ u : World, (Instr.makeSlice 51 (.int .i64 0) (.int .i64 ((l.length : Int) + 1))).run Try.prog u = .ok (.slice (some ⟨u.heap.size, 0, none⟩) 0 (l.length + 1)) (u.alloc (.cells (madeCells z.cells ((l.length + 1) * info.size)) 54)) := fun u => by
    have hbb := unhide HLN
    have := run_make (P := Try.prog) u 51 54 info z Try.underlying51 hi hz .i64 .i64 0 ((l.length : Int) + 1) (by omega) (by omega) (by rw [hy]; omega) (by omega)
    rw [show ((l.length : Int) + 1).toNat = l.length + 1 by omega, show (0 : Int).toNat = 0 from rfl] at this
    exact this
  have HM0 := hide (fun (u : World) => KRow.made0 u z.cells (l.length + 1) 3 ((l.length + 1) * info.size) (by rw [hs]) (by have hbb := unhide HLN; simp only [maxLen]; omega) 54)
  have hln : (l.length : Int) + 1 ≤ 140737488355328 := by have := unhide HLN; omega
  generalize madeCells z.cells ((l.length + 1) * info.size) = mc at *
  clear hz0 hs hy hz hzc hi
  have HIA := hide (unhide HM0 v2)
  have HFA : Hid (Fr (fun _ => False) v2 (v2.alloc (.cells mc 54))) := hide ((Fr.refl _ v2).alloc _)
  have hsr := CAt.src (unhide HL _ ((unhide HF).trans (unhide HFA) (fun _ _ t => t))) 51 54 3 l.length cap1 (by omega) Try.underlying51 (ouV_length _) (ouV_one _)
  have HSR := hide hsr
  clear hsr HM0
  go_wp2_with (at_builtin; refine wpList_append_krow _ rfl (.tmp 33) (.tmp 34) 51 51 rfl 54 info _ 3 (by omega) Try.underlying51 (unhide HIN).1 (unhide HIN).2.1 (unhide HIN).2.2.1 (unhide HIN).2.2.2.1 rfl (unhide HIA) rfl _ (ouV l) l.length rfl (unhide HSR) (by rw [(unhide HIN).2.2.2.2]; have := unhide HLN; omega) (by have := unhide HLN; omega) ?_)
  intro aq cq wq gq hK hG
  have hF : Fr (fun _ => False) v2 wq := by
    rcases hG with ⟨_, _, f⟩ | ⟨_, _, f⟩
    · exact (unhide HFA).trans f (fun q hq e => by have := e.1; omega)
    · exact (unhide HFA).trans f (fun _ _ t => t)
  have HG1 : Hid (v2.heap.size ≤ gq ∧ 0 < cq) := hide (by
    have hs := (unhide HFA).size
    rcases hG with ⟨e1, e2, _⟩ | ⟨e1, e2, _⟩
    · exact ⟨by omega, by omega⟩
    · exact ⟨by omega, e2⟩)
  have HI0 : Hid (KRow wq aq cq gq 3 (ouV l)) := hide hK
  have HFQ := hide hF
  clear hK hG HIA HSR HFA hmk hln hF
  have HIA := hide ((unhide HI0).keep (by omega) ((Fr.refl (fun _ => False) wq).alloc (.cells #[.int .i64 (-7), .int .i64 0, .int .i64 0] 54)))
  have HFA : Hid (Fr (fun _ => False) wq (wq.alloc (.cells #[.int .i64 (-7), .int .i64 0, .int .i64 0] 54))) := hide ((Fr.refl _ wq).alloc _)
  have HSR := hide (src_new' wq (ouL mkO) 51 54 3 Try.underlying51 rfl (ouL_one _) (W := wq.alloc (.cells #[.int .i64 (-7), .int .i64 0, .int .i64 0] 54)) (fun j => by rw [World.cell?_alloc_new]; exact List.getElem?_toArray.symm ▸ rfl))
  have HI0' := HI0
  clear HI0
  go_wp2_with (at_builtin; refine wpList_append_krow _ rfl (.tmp 35) (.tmp 37) 51 51 rfl 54 info _ 3 (by omega) Try.underlying51 (unhide HIN).1 (unhide HIN).2.1 (unhide HIN).2.2.1 (unhide HIN).2.2.2.1 rfl (unhide HIA) (ouV_length l) _ (ouL mkO) 1 rfl (unhide HSR) (by rw [(unhide HIN).2.2.2.2]; have := unhide HLN; omega) (by have := unhide HLN; omega) ?_)
  intro ai ci w3 gi hK hG
  have hF : Fr (fun _ => False) v2 w3 := by
    have h1 := (unhide HG1).1
    rcases hG with ⟨_, _, f⟩ | ⟨_, _, f⟩
    · exact (unhide HFQ).trans (((unhide HFA).mono (fun _ _ t => t.elim)).trans f (fun _ _ t => t)) (fun q hq e => by have := e.1; omega)
    · exact (unhide HFQ).trans ((unhide HFA).trans f (fun _ _ t => t)) (fun _ _ t => t)
  have HGi : Hid (v2.heap.size ≤ gi ∧ 0 < ci) := hide (by
    have hs := (unhide HFA).size
    have h1 := unhide HG1
    have h2 := (unhide HI0').lt (by omega) h1.2
    rcases hG with ⟨e1, e2, _⟩ | ⟨e1, e2, _⟩
    · exact ⟨by omega, by omega⟩
    · exact ⟨by omega, e2⟩)
  have HI : Hid (KRow w3 ai ci gi 3 (ouV (l ++ [mkO]))) := hide (by rw [ouV_snoc]; exact hK)
  have HSi : Hid (gi < w3.heap.size) := hide ((unhide HI).lt (by omega) (unhide HGi).2)
  clear hK hG HIA HSR HFA HI0' HG1 HIN HFQ
  clear z info
  replace HF := hide ((unhide HF).trans hF (fun _ _ t => t))
  replace HTB := hide ((unhide HTB).keep hF)
  replace HJ := hide ((unhide HJ).keep hF)
  replace HT := hide ((unhide HT).keep hF)
  replace HK := hide ((unhide HK).keep hF)
  replace HM := hide ((unhide HM).keep hF)
  clear hF
  obtain rfl : ai = some ⟨gi, 0, none⟩ := (unhide HI).ad (unhide HGi).2
  obtain ⟨info, hi, hzz⟩ := Option.map_eq_some_iff.1 pInfo
  simp only [Prod.mk.injEq] at hzz
  obtain ⟨hz0, hs, hy⟩ := hzz
  obtain ⟨z, hz, hzc⟩ := Option.map_eq_some_iff.1 hz0
  have HIN : Hid (Try.prog.info? 48 = some info ∧ info.zero = some z ∧ z.cells.size = 7 ∧ info.size = 7 ∧ info.bytes = 56) := hide ⟨hi, hz, by rw [hzc]; rfl, hs, hy⟩
  have hmk : ∀ u : World, (Instr.makeSlice 49 (.int .i64 0) (.int .i64 ((p.length : Int) + 1))).run Try.prog u = .ok (.slice (some ⟨u.heap.size, 0, none⟩) 0 (p.length + 1)) (u.alloc (.cells (madeCells z.cells ((p.length + 1) * info.size)) 48)) := fun u => by
    have hbb := unhide HPN
    have := run_make (P := Try.prog) u 49 48 info z Try.underlying49 hi hz .i64 .i64 0 ((p.length : Int) + 1) (by omega) (by omega) (by rw [hy]; omega) (by omega)
    rw [show ((p.length : Int) + 1).toNat = p.length + 1 by omega, show (0 : Int).toNat = 0 from rfl] at this
    exact this
  have HM0 := hide (fun (u : World) => KRow.made0 u z.cells (p.length + 1) 7 ((p.length + 1) * info.size) (by rw [hs]) (by have hbb := unhide HPN; simp only [maxLen]; omega) 48)
  have hln : (p.length : Int) + 1 ≤ 140737488355328 := by have := unhide HPN; omega
  generalize madeCells z.cells ((p.length + 1) * info.size) = mc at *
  clear hz0 hs hy hz hzc hi
  have HIA := hide (unhide HM0 w3)
  have HFA : Hid (Fr (fun _ => False) w3 (w3.alloc (.cells mc 48))) := hide ((Fr.refl _ w3).alloc _)
  have hsr := CAt.src (unhide HP _ ((unhide HF).trans (unhide HFA) (fun _ _ t => t))) 49 48 7 p.length cap0 (by omega) Try.underlying49 (pV_length _) (pV_one _)
  have HSR := hide hsr
  clear hsr HM0
  go_wp2_with (at_builtin; refine wpList_append_krow _ rfl (.tmp 42) (.tmp 43) 49 49 rfl 48 info _ 7 (by omega) Try.underlying49 (unhide HIN).1 (unhide HIN).2.1 (unhide HIN).2.2.1 (unhide HIN).2.2.2.1 rfl (unhide HIA) rfl _ (pV p) p.length rfl (unhide HSR) (by rw [(unhide HIN).2.2.2.2]; have := unhide HPN; omega) (by have := unhide HPN; omega) ?_)
  intro aq cq wq gq hK hG
  have hF : Fr (fun _ => False) w3 wq := by
    rcases hG with ⟨_, _, f⟩ | ⟨_, _, f⟩
    · exact (unhide HFA).trans f (fun q hq e => by have := e.1; omega)
    · exact (unhide HFA).trans f (fun _ _ t => t)
  have HG1 : Hid (w3.heap.size ≤ gq ∧ 0 < cq) := hide (by
    have hs := (unhide HFA).size
    rcases hG with ⟨e1, e2, _⟩ | ⟨e1, e2, _⟩
    · exact ⟨by omega, by omega⟩
    · exact ⟨by omega, e2⟩)
  have HI0 : Hid (KRow wq aq cq gq 7 (pV p)) := hide hK
  have HFQ := hide hF
  clear hK hG HIA HSR HFA hmk hln hF
  have HIA := hide ((unhide HI0).keep (by omega) ((Fr.refl (fun _ => False) wq).alloc (.cells #[.int .i64 0, .int .i64 0, .int .i64 0, .int .i64 0, .int .i64 0, .bool false, .int .i64 (-7)] 48)))
  have HFA : Hid (Fr (fun _ => False) wq (wq.alloc (.cells #[.int .i64 0, .int .i64 0, .int .i64 0, .int .i64 0, .int .i64 0, .bool false, .int .i64 (-7)] 48))) := hide ((Fr.refl _ wq).alloc _)
  have HSR := hide (src_new' wq (pL mkQ) 49 48 7 Try.underlying49 rfl (pL_one _) (W := wq.alloc (.cells #[.int .i64 0, .int .i64 0, .int .i64 0, .int .i64 0, .int .i64 0, .bool false, .int .i64 (-7)] 48)) (fun j => by rw [World.cell?_alloc_new]; exact List.getElem?_toArray.symm ▸ rfl))
  have HI0' := HI0
  clear HI0
  go_wp2_with (at_builtin; refine wpList_append_krow _ rfl (.tmp 44) (.tmp 46) 49 49 rfl 48 info _ 7 (by omega) Try.underlying49 (unhide HIN).1 (unhide HIN).2.1 (unhide HIN).2.2.1 (unhide HIN).2.2.2.1 rfl (unhide HIA) (pV_length p) _ (pL mkQ) 1 rfl (unhide HSR) (by rw [(unhide HIN).2.2.2.2]; have := unhide HPN; omega) (by have := unhide HPN; omega) ?_)
  intro ar cr w4 gr hK hG
  have hF : Fr (fun _ => False) w3 w4 := by
    have h1 := (unhide HG1).1
    rcases hG with ⟨_, _, f⟩ | ⟨_, _, f⟩
    · exact (unhide HFQ).trans (((unhide HFA).mono (fun _ _ t => t.elim)).trans f (fun _ _ t => t)) (fun q hq e => by have := e.1; omega)
    · exact (unhide HFQ).trans ((unhide HFA).trans f (fun _ _ t => t)) (fun _ _ t => t)
  have HGr : Hid (w3.heap.size ≤ gr ∧ 0 < cr) := hide (by
    have hs := (unhide HFA).size
    have h1 := unhide HG1
    have h2 := (unhide HI0').lt (by omega) h1.2
    rcases hG with ⟨e1, e2, _⟩ | ⟨e1, e2, _⟩
    · exact ⟨by omega, by omega⟩
    · exact ⟨by omega, e2⟩)
  have HR : Hid (KRow w4 ar cr gr 7 (pV (p ++ [mkQ]))) := hide (by rw [pV_snocR]; exact hK)
  have HSr : Hid (gr < w4.heap.size) := hide ((unhide HR).lt (by omega) (unhide HGr).2)
  clear hK hG HIA HSR HFA HI0' HG1 HIN HFQ
  clear z info
  replace HF := hide ((unhide HF).trans hF (fun _ _ t => t))
  replace HTB := hide ((unhide HTB).keep hF)
  replace HJ := hide ((unhide HJ).keep hF)
  replace HT := hide ((unhide HT).keep hF)
  replace HK := hide ((unhide HK).keep hF)
  replace HM := hide ((unhide HM).keep hF)
  replace HI := hide ((unhide HI).keep (by omega) hF)
  clear hF
  obtain rfl : ar = some ⟨gr, 0, none⟩ := (unhide HR).ad (unhide HGr).2
  have HGQ : Hid (M < gi ∧ gi < gr ∧ gr < w4.heap.size) := hide (by
    have a := unhide HMQ; have b := (unhide HGi).1; have c := (unhide HGr).1; have d := unhide HSi; have e := unhide HSr
    omega)
  have HCI : Hid (0 < ci) := hide (unhide HGi).2
  have HCR : Hid (0 < cr) := hide (unhide HGr).2
  clear HSi HSr HGi HGr
  have HIF : Hid (∀ u, Fr (fun _ => False) w4 u → CAt u (some ⟨gi, 0, none⟩) (ouV l)) := hide (fun u hu => (KRow.front (us := ouL mkO) (by rw [← ouV_snoc]; exact unhide HI) (unhide HCI)).keep hu)
  have HRF : Hid (∀ u, Fr (fun _ => False) w4 u → CAt u (some ⟨gr, 0, none⟩) (pV p)) := hide (fun u hu => (KRow.front (us := pL mkQ) (by rw [← pV_snocR]; exact unhide HR) (unhide HCR)).keep hu)
  have hsl := fun u => slice_uptoO gi l.length (l.length + 1) ci (by have a := (unhide HI).le; rw [ouV_length, List.length_append, List.length_singleton] at a; omega) (unhide HCI) u
  have hsp := fun u => slice_uptoQ gr p.length (p.length + 1) cr (by have a := (unhide HR).le; rw [pV_length, List.length_append, List.length_singleton] at a; omega) (unhide HCR) u
  have hln : l.length ≤ 140737488355228 := by have := unhide HLN; omega
  have hpn : p.length ≤ 140737488355328 := by have := unhide HPN; omega
  have R5 := rright_any w4 (some ⟨gi, 0, none⟩) ci l (unhide HIF w4 (Fr.refl _ _)) (by omega)
  go_wp2_with fail
  refine R5.mono ?_
  rintro e w5 ⟨rfl, hF⟩
  have HF45 := hide hF
  clear R5
  replace HF := hide ((unhide HF).trans hF (fun _ _ t => t))
  replace HTB := hide ((unhide HTB).keep hF)
  replace HJ := hide ((unhide HJ).keep hF)
  replace HT := hide ((unhide HT).keep hF)
  replace HK := hide ((unhide HK).keep hF)
  replace HM := hide ((unhide HM).keep hF)
  replace HI := hide ((unhide HI).keep (by omega) hF)
  replace HR := hide ((unhide HR).keep (by omega) hF)
  clear hF
  have RH : Hid (∀ u, Fr (fun _ => False) w5 u → Calls Try.prog 16 #[.agg (tc A' t), .slice (some ⟨gi, 0, none⟩) l.length ci, .agg #[.int .i64 jk, .int .i64 jf, .int .i64 jo, .int .i64 js, .int .i64 jn, .bool jr]] u fun e w' => e = .returned (.bool y) ∧ Fr (fun _ => False) u w') := hide (fun u hu => by
    have := held_any u A' t (some ⟨gi, 0, none⟩) ci l (unhide HIF u ((unhide HF45).trans hu (fun _ _ t => t))) (by have := unhide HLN; omega) l.length rfl ⟨jk, jf, jo, js, jn, jr⟩
    rw [unhide HY] at this
    exact this)
  unfold tc at RH
  have HCB : Hid (∀ u, Fr (fun _ => False) w5 u → u.cell? ⟨M, 0, none⟩ = some (.slice A'.aS t.st.length A'.cS) ∧ u.cell? ⟨M, 1, none⟩ = some (.slice A'.aP t.sp.length A'.cP) ∧ u.cell? ⟨M, 2, none⟩ = some (.slice A'.aB t.bd.length A'.cB) ∧ u.cell? ⟨M, 3, none⟩ = some (.float .f64 t.off) ∧ u.cell? ⟨M, 4, none⟩ = some (.int .i64 t.bus) ∧ u.cell? ⟨M, 5, none⟩ = some (.int .i64 t.busDaily) ∧ u.cell? ⟨M, 6, none⟩ = some (.int .i64 t.busWeekly) ∧ u.cell? ⟨M, 7, none⟩ = some (.int .i64 t.hopper) ∧ u.cell? ⟨M, 8, none⟩ = some (.int .i64 t.most) ∧ u.cell? ⟨M, 9, none⟩ = some (.int .i64 t.longest) ∧ u.cell? ⟨M, 10, none⟩ = some (.int .i64 t.change) ∧ u.cell? ⟨M, 11, none⟩ = some (.int .i64 t.passback) ∧ u.cell? ⟨M, 12, none⟩ = some (.int .i64 t.delay) ∧ u.cell? ⟨M, 13, none⟩ = some (.int .i64 t.threshold) ∧ u.cell? ⟨B + 1, 0, none⟩ = some (.int .i64 jk) ∧ u.cell? ⟨B + 1, 1, none⟩ = some (.int .i64 jf) ∧ u.cell? ⟨B + 1, 2, none⟩ = some (.int .i64 jo) ∧ u.cell? ⟨B + 1, 3, none⟩ = some (.int .i64 js) ∧ u.cell? ⟨B + 1, 4, none⟩ = some (.int .i64 jn) ∧ u.cell? ⟨B + 1, 5, none⟩ = some (.bool jr)) := hide (fun u hf => by
    have h1 := (unhide HM).keep hf
    have h2 := (unhide HJ).keep hf
    exact ⟨h1.cell 0, h1.cell 1, h1.cell 2, h1.cell 3, h1.cell 4, h1.cell 5, h1.cell 6, h1.cell 7, h1.cell 8, h1.cell 9, h1.cell 10, h1.cell 11, h1.cell 12, h1.cell 13, h2.cell 0, h2.cell 1, h2.cell 2, h2.cell 3, h2.cell 4, h2.cell 5⟩)
  obtain ⟨d0, d1, d2, d3, d4, d5, d6, d7, d8, d9, d10, d11, d12, d13, e0, e1, e2, e3, e4, e5⟩ := unhide HCB w5 (Fr.refl _ _)
  go_upto_region 6 with (fail)
  go_cut [14] from 53 to 59 (fun ev wd => ev = .bool y ∧ Hid (Fr (fun _ => False) w5 wd))
  case first => as_aux_lemma =>
    go_region_held3 (fun u => u.cell? ⟨M, 0, none⟩ = some (.slice A'.aS t.st.length A'.cS) ∧ u.cell? ⟨M, 1, none⟩ = some (.slice A'.aP t.sp.length A'.cP) ∧ u.cell? ⟨M, 2, none⟩ = some (.slice A'.aB t.bd.length A'.cB) ∧ u.cell? ⟨M, 3, none⟩ = some (.float .f64 t.off) ∧ u.cell? ⟨M, 4, none⟩ = some (.int .i64 t.bus) ∧ u.cell? ⟨M, 5, none⟩ = some (.int .i64 t.busDaily) ∧ u.cell? ⟨M, 6, none⟩ = some (.int .i64 t.busWeekly) ∧ u.cell? ⟨M, 7, none⟩ = some (.int .i64 t.hopper) ∧ u.cell? ⟨M, 8, none⟩ = some (.int .i64 t.most) ∧ u.cell? ⟨M, 9, none⟩ = some (.int .i64 t.longest) ∧ u.cell? ⟨M, 10, none⟩ = some (.int .i64 t.change) ∧ u.cell? ⟨M, 11, none⟩ = some (.int .i64 t.passback) ∧ u.cell? ⟨M, 12, none⟩ = some (.int .i64 t.delay) ∧ u.cell? ⟨M, 13, none⟩ = some (.int .i64 t.threshold) ∧ u.cell? ⟨B + 1, 0, none⟩ = some (.int .i64 jk) ∧ u.cell? ⟨B + 1, 1, none⟩ = some (.int .i64 jf) ∧ u.cell? ⟨B + 1, 2, none⟩ = some (.int .i64 jo) ∧ u.cell? ⟨B + 1, 3, none⟩ = some (.int .i64 js) ∧ u.cell? ⟨B + 1, 4, none⟩ = some (.int .i64 jn) ∧ u.cell? ⟨B + 1, 5, none⟩ = some (.bool jr))
      ((refine unhide HCB _ ?_; repeat (first | (with_reducible exact Fr.refl _ _) | (with_reducible exact unhide HA) | (with_reducible refine Fr.drew ?_))))
      ((go_at_call 16; refine (unhide RH _ (by repeat (first | (with_reducible exact Fr.refl _ _) | (with_reducible exact unhide HA) | (with_reducible refine Fr.drew ?_)))).mono ?_; rintro e wa ⟨rfl, hA⟩; have HA := hide (Fr.trans (by repeat (first | (with_reducible exact Fr.refl _ _) | (with_reducible exact unhide HA) | (with_reducible refine Fr.drew ?_)) : Fr (fun _ => False) w5 _) hA (fun _ _ t => t)); clear hA))
    all_goals
      go_wp2_with fail
      go_meet
      exact ⟨rfl, hide (by repeat (first | (with_reducible exact Fr.refl _ _) | (with_reducible exact unhide HA) | (with_reducible refine Fr.drew ?_)))⟩
  case rest =>
    obtain ⟨w6, hw6⟩ : ∃ x, x = wc := ⟨_, rfl⟩
    subst hw6
    obtain ⟨rfl, HFC⟩ := hcut
    have hF := unhide HFC
    have HF46 := hide ((unhide HF45).trans hF (fun _ _ t => t))
    clear d0 d1 d2 d3 d4 d5 d6 d7 d8 d9 d10 d11 d12 d13 e0 e1 e2 e3 e4 e5 HCB RH HFC HF45
    replace HF := hide ((unhide HF).trans hF (fun _ _ t => t))
    replace HTB := hide ((unhide HTB).keep hF)
    replace HJ := hide ((unhide HJ).keep hF)
    replace HT := hide ((unhide HT).keep hF)
    replace HK := hide ((unhide HK).keep hF)
    replace HM := hide ((unhide HM).keep hF)
    replace HI := hide ((unhide HI).keep (by omega) hF)
    replace HR := hide ((unhide HR).keep (by omega) hF)
    clear hF
    obtain ⟨a, HAE⟩ : ∃ a, Hid (appL t l p = a) := ⟨_, hide rfl⟩
    obtain ⟨be, HBE⟩ : ∃ be, Hid (backE t l p.length = be) := ⟨_, hide rfl⟩
    have HA2 : Hid (a.length ≤ 2000) := hide (by
      rw [← unhide HAE]
      by_cases q : backE t l p.length = 0
      · rw [appL_length q]; exact (backE_zero q).2.2
      · rw [appL_none q]; simp)
    have RA : Hid (∀ u, Fr (fun _ => False) w6 u → Calls Try.prog 17 #[.agg (tc A' t), .slice (some ⟨gi, 0, none⟩) l.length ci, .slice (some ⟨gr, 0, none⟩) p.length cr] u fun e w' => ∃ ao cap g, e = .returned (.tuple #[.slice ao a.length cap, .int .i64 be]) ∧ KRow w' ao cap g 7 (pV a) ∧ (0 < cap → u.heap.size ≤ g) ∧ Fr (fun _ => False) u w') := hide (fun u hu => by
      have := apply_any u A' t ((unhide HT).keep hu) (some ⟨gi, 0, none⟩) ci l (unhide HIF u ((unhide HF46).trans hu (fun _ _ t => t))) (by have := unhide HLN; omega) l.length rfl (some ⟨gr, 0, none⟩) cr p (unhide HRF u ((unhide HF46).trans hu (fun _ _ t => t))) p.length rfl
      unfold AppPost at this
      rw [unhide HAE, unhide HBE] at this
      exact this)
    unfold tc at RA
    have HCB : Hid (∀ u, Fr (fun _ => False) w6 u → u.cell? ⟨M, 0, none⟩ = some (.slice A'.aS t.st.length A'.cS) ∧ u.cell? ⟨M, 1, none⟩ = some (.slice A'.aP t.sp.length A'.cP) ∧ u.cell? ⟨M, 2, none⟩ = some (.slice A'.aB t.bd.length A'.cB) ∧ u.cell? ⟨M, 3, none⟩ = some (.float .f64 t.off) ∧ u.cell? ⟨M, 4, none⟩ = some (.int .i64 t.bus) ∧ u.cell? ⟨M, 5, none⟩ = some (.int .i64 t.busDaily) ∧ u.cell? ⟨M, 6, none⟩ = some (.int .i64 t.busWeekly) ∧ u.cell? ⟨M, 7, none⟩ = some (.int .i64 t.hopper) ∧ u.cell? ⟨M, 8, none⟩ = some (.int .i64 t.most) ∧ u.cell? ⟨M, 9, none⟩ = some (.int .i64 t.longest) ∧ u.cell? ⟨M, 10, none⟩ = some (.int .i64 t.change) ∧ u.cell? ⟨M, 11, none⟩ = some (.int .i64 t.passback) ∧ u.cell? ⟨M, 12, none⟩ = some (.int .i64 t.delay) ∧ u.cell? ⟨M, 13, none⟩ = some (.int .i64 t.threshold)) := hide (fun u hf => by
      have h1 := (unhide HM).keep hf
      exact ⟨h1.cell 0, h1.cell 1, h1.cell 2, h1.cell 3, h1.cell 4, h1.cell 5, h1.cell 6, h1.cell 7, h1.cell 8, h1.cell 9, h1.cell 10, h1.cell 11, h1.cell 12, h1.cell 13⟩)
    obtain ⟨d0, d1, d2, d3, d4, d5, d6, d7, d8, d9, d10, d11, d12, d13⟩ := unhide HCB w6 (Fr.refl _ _)
    go_upto_region 7 with (fail)
    go_cut [60, 15, 16] from 61 to 72 (fun _ av ev wd => ∃ aa ca ga, av = .slice aa a.length ca ∧ ev = .int .i64 be ∧ Hid (KRow wd aa ca ga 7 (pV a) ∧ (0 < ca → w6.heap.size ≤ ga) ∧ Fr (fun _ => False) w6 wd))
    case first => as_aux_lemma =>
      go_region_held3 (fun u => u.cell? ⟨M, 0, none⟩ = some (.slice A'.aS t.st.length A'.cS) ∧ u.cell? ⟨M, 1, none⟩ = some (.slice A'.aP t.sp.length A'.cP) ∧ u.cell? ⟨M, 2, none⟩ = some (.slice A'.aB t.bd.length A'.cB) ∧ u.cell? ⟨M, 3, none⟩ = some (.float .f64 t.off) ∧ u.cell? ⟨M, 4, none⟩ = some (.int .i64 t.bus) ∧ u.cell? ⟨M, 5, none⟩ = some (.int .i64 t.busDaily) ∧ u.cell? ⟨M, 6, none⟩ = some (.int .i64 t.busWeekly) ∧ u.cell? ⟨M, 7, none⟩ = some (.int .i64 t.hopper) ∧ u.cell? ⟨M, 8, none⟩ = some (.int .i64 t.most) ∧ u.cell? ⟨M, 9, none⟩ = some (.int .i64 t.longest) ∧ u.cell? ⟨M, 10, none⟩ = some (.int .i64 t.change) ∧ u.cell? ⟨M, 11, none⟩ = some (.int .i64 t.passback) ∧ u.cell? ⟨M, 12, none⟩ = some (.int .i64 t.delay) ∧ u.cell? ⟨M, 13, none⟩ = some (.int .i64 t.threshold))
        ((refine unhide HCB _ ?_; repeat (first | (with_reducible exact Fr.refl _ _) | (with_reducible exact unhide HA) | (with_reducible refine Fr.drew ?_))))
        ((go_at_call 17; refine (unhide RA _ (by repeat (first | (with_reducible exact Fr.refl _ _) | (with_reducible exact unhide HA) | (with_reducible refine Fr.drew ?_)))).mono ?_; rintro e wa ⟨aa, ca, ga, rfl, hKA, hga, hA⟩; have HGS := hide (fun hc => Nat.le_trans (Fr.size (by repeat (first | (with_reducible exact Fr.refl _ _) | (with_reducible exact unhide HA) | (with_reducible refine Fr.drew ?_)) : Fr (fun _ => False) w6 _)) (hga hc)); have HKA := hide hKA; have HA := hide (Fr.trans (by repeat (first | (with_reducible exact Fr.refl _ _) | (with_reducible exact unhide HA) | (with_reducible refine Fr.drew ?_)) : Fr (fun _ => False) w6 _) hA (fun _ _ t => t)); clear hA hga hKA))
      all_goals
        go_wp2_with fail
        go_meet
        exact ⟨_, _, _, rfl, rfl, hide ⟨(unhide HKA).keep (by omega) (by repeat (first | (with_reducible exact Fr.refl _ _) | (with_reducible refine Fr.drew ?_))), unhide HGS, by repeat (first | (with_reducible exact Fr.refl _ _) | (with_reducible exact unhide HA) | (with_reducible refine Fr.drew ?_))⟩⟩
    case rest =>
      obtain ⟨w7, hw7⟩ : ∃ x, x = wc := ⟨_, rfl⟩
      subst hw7
      obtain ⟨aa, ca, ga, rfl, rfl, HC⟩ := hcut
      obtain ⟨hKa, hga, hF⟩ := unhide HC
      have HAa := hide hKa
      have HGA : Hid (0 < ca → gr < ga ∧ ga < w7.heap.size) := hide (fun hc => by have := hga hc; have := unhide HGQ; have := (unhide HF46).size; exact ⟨by omega, hKa.lt (by omega) hc⟩)
      have HF67 := hide hF
      have HF47 := hide ((unhide HF46).trans hF (fun _ _ t => t))
      clear d0 d1 d2 d3 d4 d5 d6 d7 d8 d9 d10 d11 d12 d13 HCB HC hKa hga
      replace HF := hide ((unhide HF).trans hF (fun _ _ t => t))
      replace HTB := hide ((unhide HTB).keep hF)
      replace HJ := hide ((unhide HJ).keep hF)
      replace HT := hide ((unhide HT).keep hF)
      replace HK := hide ((unhide HK).keep hF)
      replace HM := hide ((unhide HM).keep hF)
      replace HI := hide ((unhide HI).keep (by omega) hF)
      replace HR := hide ((unhide HR).keep (by omega) hF)
      clear hF
      have HCB : Hid (∀ u, Fr (fun _ => False) w7 u → u.cell? ⟨M, 0, none⟩ = some (.slice A'.aS t.st.length A'.cS) ∧ u.cell? ⟨M, 1, none⟩ = some (.slice A'.aP t.sp.length A'.cP) ∧ u.cell? ⟨M, 2, none⟩ = some (.slice A'.aB t.bd.length A'.cB) ∧ u.cell? ⟨M, 3, none⟩ = some (.float .f64 t.off) ∧ u.cell? ⟨M, 4, none⟩ = some (.int .i64 t.bus) ∧ u.cell? ⟨M, 5, none⟩ = some (.int .i64 t.busDaily) ∧ u.cell? ⟨M, 6, none⟩ = some (.int .i64 t.busWeekly) ∧ u.cell? ⟨M, 7, none⟩ = some (.int .i64 t.hopper) ∧ u.cell? ⟨M, 8, none⟩ = some (.int .i64 t.most) ∧ u.cell? ⟨M, 9, none⟩ = some (.int .i64 t.longest) ∧ u.cell? ⟨M, 10, none⟩ = some (.int .i64 t.change) ∧ u.cell? ⟨M, 11, none⟩ = some (.int .i64 t.passback) ∧ u.cell? ⟨M, 12, none⟩ = some (.int .i64 t.delay) ∧ u.cell? ⟨M, 13, none⟩ = some (.int .i64 t.threshold)) := hide (fun u hf => by
        have h1 := (unhide HM).keep hf
        exact ⟨h1.cell 0, h1.cell 1, h1.cell 2, h1.cell 3, h1.cell 4, h1.cell 5, h1.cell 6, h1.cell 7, h1.cell 8, h1.cell 9, h1.cell 10, h1.cell 11, h1.cell 12, h1.cell 13⟩)
      obtain ⟨d0, d1, d2, d3, d4, d5, d6, d7, d8, d9, d10, d11, d12, d13⟩ := unhide HCB w7 (Fr.refl _ _)
      go_upto_region 8 with (fail)
      go_cut [73, 17, 18] from 74 to 85 (fun _ av ev wd => ∃ ab cb gb, av = .slice ab a.length cb ∧ ev = .int .i64 be ∧ Hid (KRow wd ab cb gb 7 (pV a) ∧ (0 < cb → w7.heap.size ≤ gb) ∧ Fr (fun _ => False) w7 wd))
      case first => as_aux_lemma =>
        go_region_held3 (fun u => u.cell? ⟨M, 0, none⟩ = some (.slice A'.aS t.st.length A'.cS) ∧ u.cell? ⟨M, 1, none⟩ = some (.slice A'.aP t.sp.length A'.cP) ∧ u.cell? ⟨M, 2, none⟩ = some (.slice A'.aB t.bd.length A'.cB) ∧ u.cell? ⟨M, 3, none⟩ = some (.float .f64 t.off) ∧ u.cell? ⟨M, 4, none⟩ = some (.int .i64 t.bus) ∧ u.cell? ⟨M, 5, none⟩ = some (.int .i64 t.busDaily) ∧ u.cell? ⟨M, 6, none⟩ = some (.int .i64 t.busWeekly) ∧ u.cell? ⟨M, 7, none⟩ = some (.int .i64 t.hopper) ∧ u.cell? ⟨M, 8, none⟩ = some (.int .i64 t.most) ∧ u.cell? ⟨M, 9, none⟩ = some (.int .i64 t.longest) ∧ u.cell? ⟨M, 10, none⟩ = some (.int .i64 t.change) ∧ u.cell? ⟨M, 11, none⟩ = some (.int .i64 t.passback) ∧ u.cell? ⟨M, 12, none⟩ = some (.int .i64 t.delay) ∧ u.cell? ⟨M, 13, none⟩ = some (.int .i64 t.threshold))
          ((refine unhide HCB _ ?_; repeat (first | (with_reducible exact Fr.refl _ _) | (with_reducible exact unhide HA) | (with_reducible refine Fr.drew ?_))))
          ((go_at_call 17; refine (unhide RA _ (Fr.trans (unhide HF67) (by repeat (first | (with_reducible exact Fr.refl _ _) | (with_reducible exact unhide HA) | (with_reducible refine Fr.drew ?_))) (fun _ _ t => t))).mono ?_; rintro e wa ⟨ab, cb, gb, rfl, hKA, hga, hA⟩; have HGS := hide (fun hc => Nat.le_trans (Fr.size (by repeat (first | (with_reducible exact Fr.refl _ _) | (with_reducible exact unhide HA) | (with_reducible refine Fr.drew ?_)) : Fr (fun _ => False) w7 _)) (hga hc)); have HKA := hide hKA; have HA := hide (Fr.trans (by repeat (first | (with_reducible exact Fr.refl _ _) | (with_reducible exact unhide HA) | (with_reducible refine Fr.drew ?_)) : Fr (fun _ => False) w7 _) hA (fun _ _ t => t)); clear hA hga hKA))
        all_goals
          go_wp2_with fail
          go_meet
          exact ⟨_, _, _, rfl, rfl, hide ⟨(unhide HKA).keep (by omega) (by repeat (first | (with_reducible exact Fr.refl _ _) | (with_reducible refine Fr.drew ?_))), unhide HGS, by repeat (first | (with_reducible exact Fr.refl _ _) | (with_reducible exact unhide HA) | (with_reducible refine Fr.drew ?_))⟩⟩
      case rest =>
        obtain ⟨w8, hw8⟩ : ∃ x, x = wc := ⟨_, rfl⟩
        subst hw8
        obtain ⟨ab, cb, gb, rfl, rfl, HC⟩ := hcut
        obtain ⟨hKb, hgb, hF⟩ := unhide HC
        have HBb := hide hKb
        have HGB : Hid (0 < cb → gr < gb ∧ gb < w8.heap.size ∧ (0 < ca → ga < gb)) := hide (fun hc => by have := hgb hc; have := unhide HGQ; have := (unhide HF47).size; exact ⟨by omega, hKb.lt (by omega) hc, fun h2 => by have := (unhide HGA h2).2; omega⟩)
        clear d0 d1 d2 d3 d4 d5 d6 d7 d8 d9 d10 d11 d12 d13 HCB HC hKb hgb RA HF67 HF46 HIF HRF hsl hsp
        replace HF := hide ((unhide HF).trans hF (fun _ _ t => t))
        replace HTB := hide ((unhide HTB).keep hF)
        replace HJ := hide ((unhide HJ).keep hF)
        replace HT := hide ((unhide HT).keep hF)
        replace HK := hide ((unhide HK).keep hF)
        replace HM := hide ((unhide HM).keep hF)
        replace HI := hide ((unhide HI).keep (by omega) hF)
        replace HR := hide ((unhide HR).keep (by omega) hF)
        replace HAa := hide ((unhide HAa).keep (by omega) hF)
        have HF48 := hide ((unhide HF47).trans hF (fun _ _ t => t))
        clear hF HF47
        have RK := kept_anyT w8 A' A t gS gP gB (unhide HT) ((unhide H).keep (unhide HF)) (unhide HK)
        go_wp2_with (first | refine wpList_load_tariff rfl (.tmp 10) rfl (g := M) (A := A') (t := t) rfl (unhide HM) ?_ | refine wpList_load_tariff rfl (.tmp 4) rfl (g := B) (A := A) (t := t) rfl (unhide HTB) ?_)
        refine RK.mono ?_
        rintro e w9 ⟨rfl, hF⟩
        have hq := unhide HQ
        have hmq := unhide HMQ
        have hgq := unhide HGQ
        have hbw := unhide HB
        have HV0 : Hid (Fr (fun _ => False) w w9 ∧ TB w9 B A t ∧ Bx w9 (B + 1) (jC ⟨jk, jf, jo, js, jn, jr⟩) 46 ∧ KRow w9 (some ⟨gi, 0, none⟩) ci gi 3 (ouV (l ++ [mkO])) ∧ KRow w9 (some ⟨gr, 0, none⟩) cr gr 7 (pV (p ++ [mkQ])) ∧ KRow w9 aa ca ga 7 (pV a) ∧ KRow w9 ab cb gb 7 (pV a)) := hide
          ⟨(unhide HF).trans hF (fun q hq' e => by omega), (unhide HTB).frame hF (by omega), (unhide HJ).frame hF (by omega), (unhide HI).stay (fun hc => hF.block _ ((unhide HI).lt (by omega) hc) (by omega)), (unhide HR).stay (fun hc => hF.block _ ((unhide HR).lt (by omega) hc) (by omega)), (unhide HAa).stay (fun hc => hF.block _ ((unhide HAa).lt (by omega) hc) (by have := unhide HGA hc; omega)), (unhide HBb).stay (fun hc => hF.block _ ((unhide HBb).lt (by omega) hc) (by have := unhide HGB hc; omega))⟩
        have HVK : Hid (∀ u u', Fr (fun _ => False) u u' → (Fr (fun _ => False) w u ∧ TB u B A t ∧ Bx u (B + 1) (jC ⟨jk, jf, jo, js, jn, jr⟩) 46 ∧ KRow u (some ⟨gi, 0, none⟩) ci gi 3 (ouV (l ++ [mkO])) ∧ KRow u (some ⟨gr, 0, none⟩) cr gr 7 (pV (p ++ [mkQ])) ∧ KRow u aa ca ga 7 (pV a) ∧ KRow u ab cb gb 7 (pV a)) → (Fr (fun _ => False) w u' ∧ TB u' B A t ∧ Bx u' (B + 1) (jC ⟨jk, jf, jo, js, jn, jr⟩) 46 ∧ KRow u' (some ⟨gi, 0, none⟩) ci gi 3 (ouV (l ++ [mkO])) ∧ KRow u' (some ⟨gr, 0, none⟩) cr gr 7 (pV (p ++ [mkQ])) ∧ KRow u' aa ca ga 7 (pV a) ∧ KRow u' ab cb gb 7 (pV a))) := hide (fun u u' hf hh => by
          obtain ⟨i1, i2, i3, i4, i5, i6, i7⟩ := hh
          exact ⟨i1.trans hf (fun _ _ t => t), i2.keep hf, i3.keep hf, i4.keep (by omega) hf, i5.keep (by omega) hf, i6.keep (by omega) hf, i7.keep (by omega) hf⟩)
        have HWG : Hid (w.heap.size ≤ gr ∧ B + 1 < gr) := hide (by omega)
        clear hF hq hmq hgq hbw HF HTB HJ HM HT HK HI HR HAa HBb HQ HMQ RK
        have m7 : w9.cell? ⟨gi, l.length * 3, none⟩ = some (.int .i64 (-7)) := ouV_cell (unhide HV0).2.2.2.1 (k := l.length) (b := mkO) (by rw [List.getElem?_append_right (Nat.le_refl _), Nat.sub_self]; rfl) 0 (by omega) _ rfl
        have m8 : w9.cell? ⟨gr, p.length * 7 + 6, none⟩ = some (.int .i64 (-7)) := (pV_cell (unhide HV0).2.2.2.2.1 (k := p.length) (b := mkQ) (by rw [List.getElem?_append_right (Nat.le_refl _), Nat.sub_self]; rfl)).2.2 6 (by omega) _ rfl
        have hlt2 : (l.length : Int) < (l.length : Int) + 1 := by omega
        have hlt3 : (p.length : Int) < (p.length : Int) + 1 := by omega
        have q1 := egO
        have q2 := eqO
        go_wp2
        go_loopw [19, 20] (fun sv iv wr => ∃ i : Nat, i ≤ l.length ∧ sv = .bool true ∧ iv = .int .i64 i ∧ Hid (Fr (fun _ => False) w wr ∧ TB wr B A t ∧ Bx wr (B + 1) (jC ⟨jk, jf, jo, js, jn, jr⟩) 46 ∧ KRow wr (some ⟨gi, 0, none⟩) ci gi 3 (ouV (l ++ [mkO])) ∧ KRow wr (some ⟨gr, 0, none⟩) cr gr 7 (pV (p ++ [mkQ])) ∧ KRow wr aa ca ga 7 (pV a) ∧ KRow wr ab cb gb 7 (pV a))) (fun _ iv _ => l.length - (intOf iv).toNat)
        case atStart => exact ⟨0, Nat.zero_le _, rfl, rfl, HV0⟩
        case round =>
          obtain ⟨i, hi, rfl, rfl, HI⟩ := hrel
          clear HV0 m7 m8 hlt2 hlt3
          by_cases hil : i < l.length
          · as_aux_lemma =>
            have hlt : (i : Int) < (l.length : Int) := by omega
            have hlt2 : (i : Int) < (l.length : Int) + 1 := by omega
            obtain ⟨b0, off0, hao, k0, k1, k2⟩ := (unhide HL wr (unhide HI).1).ou hil
            subst hao
            have hga := ouV_cell (unhide HI).2.2.2.1 (k := i) (b := l[i]) (by rw [List.getElem?_append_left hil]; exact List.getElem?_eq_getElem hil)
            generalize hq : l[i] = q at *
            obtain ⟨x0, x1, x2⟩ := q
            simp only at k0 k1 k2
            have a0 : wr.cell? ⟨gi, i * 3, none⟩ = some (.int .i64 x0) := hga 0 (by omega) _ rfl
            have a1 : wr.cell? ⟨gi, i * 3 + 1, none⟩ = some (.int .i64 x1) := hga 1 (by omega) _ rfl
            have a2 : wr.cell? ⟨gi, i * 3 + 2, none⟩ = some (.int .i64 x2) := hga 2 (by omega) _ rfl
            clear hga hq
            go_upto_region 13 with (fail)
            have HSX : Hid (∀ u, Fr (fun _ => False) wr u → Hid (Fr (fun _ => False) w u ∧ TB u B A t ∧ Bx u (B + 1) (jC ⟨jk, jf, jo, js, jn, jr⟩) 46 ∧ KRow u (some ⟨gi, 0, none⟩) ci gi 3 (ouV (l ++ [mkO])) ∧ KRow u (some ⟨gr, 0, none⟩) cr gr 7 (pV (p ++ [mkQ])) ∧ KRow u aa ca ga 7 (pV a) ∧ KRow u ab cb gb 7 (pV a))) := hide (fun u hf => hide (unhide HVK wr u hf (unhide HI)))
            go_region_held3 (fun u => u.cell? ⟨gi, i * 3, none⟩ = some (.int .i64 x0) ∧ u.cell? ⟨gi, i * 3 + 1, none⟩ = some (.int .i64 x1) ∧ u.cell? ⟨gi, i * 3 + 2, none⟩ = some (.int .i64 x2) ∧ u.cell? ⟨b0, off0 + i * 3, none⟩ = some (.int .i64 x0) ∧ u.cell? ⟨b0, off0 + i * 3 + 1, none⟩ = some (.int .i64 x1) ∧ u.cell? ⟨b0, off0 + i * 3 + 2, none⟩ = some (.int .i64 x2)) (go_keep) (fail)
            clear a0 a1 a2 k0 k1 k2 HI
            go_wp2
            exact ⟨⟨i + 1, by omega, rfl, by go_num, unhide HSX _ (by repeat (first | (with_reducible exact Fr.refl _ _) | (with_reducible refine Fr.drew ?_) | (with_reducible refine Fr.drewN ?_ _)))⟩, by simp [intOf] <;> omega⟩
          · obtain rfl : i = l.length := by omega
            have hlt : ¬ (l.length : Int) < (l.length : Int) := by omega
            have HV0 : Hid (Fr (fun _ => False) w wr ∧ TB wr B A t ∧ Bx wr (B + 1) (jC ⟨jk, jf, jo, js, jn, jr⟩) 46 ∧ KRow wr (some ⟨gi, 0, none⟩) ci gi 3 (ouV (l ++ [mkO])) ∧ KRow wr (some ⟨gr, 0, none⟩) cr gr 7 (pV (p ++ [mkQ])) ∧ KRow wr aa ca ga 7 (pV a) ∧ KRow wr ab cb gb 7 (pV a)) := HI
            clear HI q1 q2 hi
            have q1 := egP
            have q2 := eqP
            go_wp2
            go_loopw [19, 21] (fun sv iv wr => ∃ i : Nat, i ≤ p.length ∧ sv = .bool true ∧ iv = .int .i64 i ∧ Hid (Fr (fun _ => False) w wr ∧ TB wr B A t ∧ Bx wr (B + 1) (jC ⟨jk, jf, jo, js, jn, jr⟩) 46 ∧ KRow wr (some ⟨gi, 0, none⟩) ci gi 3 (ouV (l ++ [mkO])) ∧ KRow wr (some ⟨gr, 0, none⟩) cr gr 7 (pV (p ++ [mkQ])) ∧ KRow wr aa ca ga 7 (pV a) ∧ KRow wr ab cb gb 7 (pV a))) (fun _ iv _ => p.length - (intOf iv).toNat)
            case atStart => exact ⟨0, Nat.zero_le _, rfl, rfl, HV0⟩
            case round =>
              obtain ⟨i, hi, rfl, rfl, HI⟩ := hrel
              clear HV0 hlt
              by_cases hil : i < p.length
              · as_aux_lemma =>
                have hlt : (i : Int) < (p.length : Int) := by omega
                have hlt2 : (i : Int) < (p.length : Int) + 1 := by omega
                obtain ⟨b0, off0, hao, kk⟩ := (unhide HP wr (unhide HI).1).pj hil
                subst hao
                have hga := (pV_cell (unhide HI).2.2.2.2.1 (k := i) (b := p[i]) (by rw [List.getElem?_append_left hil]; exact List.getElem?_eq_getElem hil)).2.2
                generalize hq : p[i] = q at *
                obtain ⟨⟨k, f, o, s, n, r⟩, m⟩ := q
                have k0 : wr.cell? ⟨b0, off0 + i * 7, none⟩ = some (.int .i64 k) := kk 0 (by omega) _ rfl
                have k1 : wr.cell? ⟨b0, off0 + i * 7 + 1, none⟩ = some (.int .i64 f) := kk 1 (by omega) _ rfl
                have k2 : wr.cell? ⟨b0, off0 + i * 7 + 2, none⟩ = some (.int .i64 o) := kk 2 (by omega) _ rfl
                have k3 : wr.cell? ⟨b0, off0 + i * 7 + 3, none⟩ = some (.int .i64 s) := kk 3 (by omega) _ rfl
                have k4 : wr.cell? ⟨b0, off0 + i * 7 + 4, none⟩ = some (.int .i64 n) := kk 4 (by omega) _ rfl
                have k5 : wr.cell? ⟨b0, off0 + i * 7 + 5, none⟩ = some (.bool r) := kk 5 (by omega) _ rfl
                have k6 : wr.cell? ⟨b0, off0 + i * 7 + 6, none⟩ = some (.int .i64 m) := kk 6 (by omega) _ rfl
                have a0 : wr.cell? ⟨gr, i * 7, none⟩ = some (.int .i64 k) := hga 0 (by omega) _ rfl
                have a1 : wr.cell? ⟨gr, i * 7 + 1, none⟩ = some (.int .i64 f) := hga 1 (by omega) _ rfl
                have a2 : wr.cell? ⟨gr, i * 7 + 2, none⟩ = some (.int .i64 o) := hga 2 (by omega) _ rfl
                have a3 : wr.cell? ⟨gr, i * 7 + 3, none⟩ = some (.int .i64 s) := hga 3 (by omega) _ rfl
                have a4 : wr.cell? ⟨gr, i * 7 + 4, none⟩ = some (.int .i64 n) := hga 4 (by omega) _ rfl
                have a5 : wr.cell? ⟨gr, i * 7 + 5, none⟩ = some (.bool r) := hga 5 (by omega) _ rfl
                have a6 : wr.cell? ⟨gr, i * 7 + 6, none⟩ = some (.int .i64 m) := hga 6 (by omega) _ rfl
                clear hga hq kk
                go_upto_region 17 with (fail)
                have HSX : Hid (∀ u, Fr (fun _ => False) wr u → Hid (Fr (fun _ => False) w u ∧ TB u B A t ∧ Bx u (B + 1) (jC ⟨jk, jf, jo, js, jn, jr⟩) 46 ∧ KRow u (some ⟨gi, 0, none⟩) ci gi 3 (ouV (l ++ [mkO])) ∧ KRow u (some ⟨gr, 0, none⟩) cr gr 7 (pV (p ++ [mkQ])) ∧ KRow u aa ca ga 7 (pV a) ∧ KRow u ab cb gb 7 (pV a))) := hide (fun u hf => hide (unhide HVK wr u hf (unhide HI)))
                go_region_held3 (fun u => u.cell? ⟨gr, i * 7, none⟩ = some (.int .i64 k) ∧ u.cell? ⟨gr, i * 7 + 1, none⟩ = some (.int .i64 f) ∧ u.cell? ⟨gr, i * 7 + 2, none⟩ = some (.int .i64 o) ∧ u.cell? ⟨gr, i * 7 + 3, none⟩ = some (.int .i64 s) ∧ u.cell? ⟨gr, i * 7 + 4, none⟩ = some (.int .i64 n) ∧ u.cell? ⟨gr, i * 7 + 5, none⟩ = some (.bool r) ∧ u.cell? ⟨gr, i * 7 + 6, none⟩ = some (.int .i64 m) ∧ u.cell? ⟨b0, off0 + i * 7, none⟩ = some (.int .i64 k) ∧ u.cell? ⟨b0, off0 + i * 7 + 1, none⟩ = some (.int .i64 f) ∧ u.cell? ⟨b0, off0 + i * 7 + 2, none⟩ = some (.int .i64 o) ∧ u.cell? ⟨b0, off0 + i * 7 + 3, none⟩ = some (.int .i64 s) ∧ u.cell? ⟨b0, off0 + i * 7 + 4, none⟩ = some (.int .i64 n) ∧ u.cell? ⟨b0, off0 + i * 7 + 5, none⟩ = some (.bool r) ∧ u.cell? ⟨b0, off0 + i * 7 + 6, none⟩ = some (.int .i64 m)) (go_keep) (fail)
                clear a0 a1 a2 a3 a4 a5 a6 k0 k1 k2 k3 k4 k5 k6 HI
                go_wp2
                exact ⟨⟨i + 1, by omega, rfl, by go_num, unhide HSX _ (by repeat (first | (with_reducible exact Fr.refl _ _) | (with_reducible refine Fr.drew ?_) | (with_reducible refine Fr.drewN ?_ _)))⟩, by simp [intOf] <;> omega⟩
              · obtain rfl : i = p.length := by omega
                have hlt : ¬ (p.length : Int) < (p.length : Int) := by omega
                obtain ⟨i1, i2, i3, i4, i5, i6, i7⟩ := unhide HI
                have R18 := rapply_any wr A t ((unhide H).keep i1) ao1 cap1 l (unhide HL wr i1) (by omega) l.length rfl ao0 cap0 p (unhide HP wr i1) p.length rfl
                have HF := hide i1
                have HTB := hide i2
                have HJ := hide i3
                have HAa := hide i6
                have HBb := hide i7
                have HXA : Hid (0 < ca → ga < wr.heap.size) := hide (fun hc => i6.lt (by omega) hc)
                clear i1 i2 i3 i4 i5 i6 i7 HI q1 q2 HVK
                go_wp2_with (refine wpList_load_tariff rfl (.tmp 4) rfl (g := B) (A := A) (t := t) rfl (unhide HTB) ?_)
                refine R18.mono ?_
                rintro e wa ⟨aw, cw, gw, rfl, hKw, hgw, hF⟩
                rw [unhide HAE] at hKw ⊢
                rw [unhide HBE]
                replace HF := hide ((unhide HF).trans hF (fun _ _ t => t))
                replace HTB := hide ((unhide HTB).keep hF)
                replace HJ := hide ((unhide HJ).keep hF)
                replace HAa := hide ((unhide HAa).keep (by omega) hF)
                replace HBb := hide ((unhide HBb).keep (by omega) hF)
                have HW := hide hKw
                have HGW : Hid (0 < cw → 0 < ca → ga < gw) := hide (fun hc h2 => by have := hgw hc; have := unhide HXA h2; omega)
                clear hF hKw hgw R18 HXA
                have S1 := same_catP wa aa aw ca cw a (unhide HAa).cat (unhide HW).cat (by have := unhide HA2; omega) a.length a.length rfl rfl
                go_wp2_with fail
                refine S1.mono ?_
                rintro e wb ⟨rfl, hF⟩
                have HV1 : Hid (∃ vs : List Value, vs.length = a.length * 7 ∧ KRow wb aa ca ga 7 vs ∧ Fr (fun _ => False) w wb ∧ TB wb B A t ∧ Bx wb (B + 1) (jC ⟨jk, jf, jo, js, jn, jr⟩) 46 ∧ KRow wb ab cb gb 7 (pV a) ∧ KRow wb aw cw gw 7 (pV a)) := hide ⟨pV a, pV_length a, (unhide HAa).keep (by omega) hF, (unhide HF).trans hF (fun _ _ t => t), (unhide HTB).keep hF, (unhide HJ).keep hF, (unhide HBb).keep (by omega) hF, (unhide HW).keep (by omega) hF⟩
                clear hF S1 HF HTB HJ HAa HBb HW
                have hal := unhide HA2
                go_wp2
                go_loopw [25] (fun iv wr => ∃ i : Nat, i ≤ a.length ∧ iv = .int .i64 i ∧ Hid (∃ vs : List Value, vs.length = a.length * 7 ∧ KRow wr aa ca ga 7 vs ∧ Fr (fun _ => False) w wr ∧ TB wr B A t ∧ Bx wr (B + 1) (jC ⟨jk, jf, jo, js, jn, jr⟩) 46 ∧ KRow wr ab cb gb 7 (pV a) ∧ KRow wr aw cw gw 7 (pV a))) (fun iv _ => a.length - (intOf iv).toNat)
                case atStart => exact ⟨0, Nat.zero_le _, rfl, HV1⟩
                case round =>
                  obtain ⟨i, hi, rfl, HI⟩ := hrel
                  clear HV1 hlt
                  by_cases hil : i < a.length
                  · as_aux_lemma =>
                    have hlt : (i : Int) < (a.length : Int) := by omega
                    obtain ⟨vs, hvl, i0, i1, i2, i3, i4, i5⟩ := unhide HI
                    have hle := i0.le
                    have hcp : 0 < ca := by
                      rcases Nat.eq_zero_or_pos ca with q | q
                      · subst q; omega
                      · exact q
                    obtain rfl : aa = some ⟨ga, 0, none⟩ := i0.ad hcp
                    have hroom := i0.room (i * 7 + 6) (by omega)
                    obtain ⟨x6, r6⟩ := Option.isSome_iff_exists.1 hroom.1
                    have f6 := hroom.2
                    have HH := hide i0
                    have HI1 := hide i1
                    have HI2 := hide i2
                    have HI3 := hide i3
                    have HI4 := hide i4
                    have HI5 := hide i5
                    have HVL := hide hvl
                    have hgg := unhide HGA hcp
                    have hgq := unhide HWG
                    have hgb := fun hc => (unhide HGB hc).2.2 hcp
                    have hgw := fun hc => unhide HGW hc hcp
                    have hgal := i0.lt (by omega) hcp
                    have HSX : Hid (∀ u, u = wr.setCell ⟨ga, i * 7 + 6, none⟩ (.int .i64 (-5)) → Hid (∃ vs : List Value, vs.length = a.length * 7 ∧ KRow u (some ⟨ga, 0, none⟩) ca ga 7 vs ∧ Fr (fun _ => False) w u ∧ TB u B A t ∧ Bx u (B + 1) (jC ⟨jk, jf, jo, js, jn, jr⟩) 46 ∧ KRow u ab cb gb 7 (pV a) ∧ KRow u aw cw gw 7 (pV a))) := hide (fun u hu => by
                      have hf : Fr (fun q => q = ga) wr u := by rw [hu]; exact Fr.setOwn (Fr.refl _ _) _ _
                      have hB1 := unhide HB
                      exact hide ⟨vs.set (i * 7 + 6) (.int .i64 (-5)), by rw [List.length_set]; exact hvl, by rw [hu]; exact i0.setF (i * 7 + 6) (by omega) _ rfl, i1.trans hf (fun q hq e => by omega), i2.frame hf (by omega), i3.frame hf (by omega), i4.stay (fun hc => hf.block _ (i4.lt (by omega) hc) (by have := hgb hc; omega)), i5.stay (fun hc => hf.block _ (i5.lt (by omega) hc) (by have := hgw hc; omega))⟩)
                    clear i0 i1 i2 i3 i4 i5 hroom hvl hle hgg hgq hgb hgw hgal HI HH HI1 HI2 HI3 HI4 HI5 HVL
                    go_wp2
                    exact ⟨⟨i + 1, by omega, by go_num, unhide HSX _ rfl⟩, by simp [intOf] <;> omega⟩
                  · obtain rfl : i = a.length := by omega
                    have hlt : ¬ (a.length : Int) < (a.length : Int) := by omega
                    obtain ⟨vs, hvl, i0, i1, i2, i3, i4, i5⟩ := unhide HI
                    have HVL := hide hvl
                    have HAa := hide i0
                    have HF := hide i1
                    have HTB := hide i2
                    have HJ := hide i3
                    have HBb := hide i4
                    have HW := hide i5
                    clear HI i0 i1 i2 i3 i4 i5 hvl
                    obtain ⟨info, hi, hzz⟩ := Option.map_eq_some_iff.1 pInfo
                    simp only [Prod.mk.injEq] at hzz
                    obtain ⟨hz0, hs, hy⟩ := hzz
                    obtain ⟨z, hz, hzc⟩ := Option.map_eq_some_iff.1 hz0
                    have HIN : Hid (Try.prog.info? 48 = some info ∧ info.zero = some z ∧ z.cells.size = 7 ∧ info.size = 7 ∧ info.bytes = 56) := hide ⟨hi, hz, by rw [hzc]; rfl, hs, hy⟩
                    clear hz0 hs hy hz hzc hi
                    have HIA := hide ((unhide HAa).keep (by omega) ((Fr.refl (fun _ => False) wr).alloc (.cells #[.int .i64 0, .int .i64 0, .int .i64 0, .int .i64 0, .int .i64 0, .bool false, .int .i64 (-6)] 48)))
                    have HFA : Hid (Fr (fun _ => False) wr (wr.alloc (.cells #[.int .i64 0, .int .i64 0, .int .i64 0, .int .i64 0, .int .i64 0, .bool false, .int .i64 (-6)] 48))) := hide ((Fr.refl _ wr).alloc _)
                    have HSR := hide (src_new' wr (pL (jz, -6)) 49 48 7 Try.underlying49 rfl (pL_one _) (W := wr.alloc (.cells #[.int .i64 0, .int .i64 0, .int .i64 0, .int .i64 0, .int .i64 0, .bool false, .int .i64 (-6)] 48)) (fun j => by rw [World.cell?_alloc_new]; exact List.getElem?_toArray.symm ▸ rfl))
                    go_wp2_with (at_builtin; refine wpList_append_krow _ rfl (.tmp 163) (.tmp 165) 49 49 rfl 48 info _ 7 (by omega) Try.underlying49 (unhide HIN).1 (unhide HIN).2.1 (unhide HIN).2.2.1 (unhide HIN).2.2.2.1 rfl (unhide HIA) (unhide HVL) _ (pL (jz, -6)) 1 rfl (unhide HSR) (by rw [(unhide HIN).2.2.2.2]; omega) (by omega) ?_)
                    intro a3 c3 wc g3 hK hG
                    have hS : Fr (fun q => q = ga ∧ 0 < ca) wr wc := by
                      rcases hG with ⟨_, _, f⟩ | ⟨_, _, f⟩
                      · exact ((unhide HFA).mono (fun _ _ t => t.elim)).trans f (fun q _ e => e)
                      · exact ((unhide HFA).trans f (fun _ _ t => t)).mono (fun _ _ t => t.elim)
                    have hB1 := unhide HB
                    have hwg := unhide HWG
                    replace HF : Hid (Fr (fun _ => False) w wc) := hide ((unhide HF).trans hS (fun q hq e => by have := unhide HGA e.2; have := e.1; omega))
                    replace HTB := hide ((unhide HTB).frame hS (fun e => by have := unhide HGA e.2; have := e.1; omega))
                    replace HJ := hide ((unhide HJ).frame hS (fun e => by have := unhide HGA e.2; have := e.1; omega))
                    replace HBb := hide ((unhide HBb).stay (fun hc => hS.block _ ((unhide HBb).lt (by omega) hc) (fun e => by have := (unhide HGB hc).2.2 e.2; have := e.1; omega)))
                    replace HW := hide ((unhide HW).stay (fun hc => hS.block _ ((unhide HW).lt (by omega) hc) (fun e => by have := unhide HGW hc e.2; have := e.1; omega)))
                    clear hK hG hS hB1 hwg HIA HSR HFA HAa HIN HVL
                    clear z info
                    have S2 := same_catP wc ab aw cb cw a (unhide HBb).cat (unhide HW).cat (by omega) a.length a.length rfl rfl
                    go_wp2_with fail
                    refine S2.mono ?_
                    rintro e wd ⟨rfl, hF⟩
                    replace HF := hide ((unhide HF).trans hF (fun _ _ t => t))
                    replace HTB := hide ((unhide HTB).keep hF)
                    replace HJ := hide ((unhide HJ).keep hF)
                    clear hF S2 HBb HW
                    have R26 := rright20_any wd ao1 cap1 l (unhide HL wd (unhide HF)) (by omega)
                    go_wp2_with fail
                    refine R26.mono ?_
                    rintro e we ⟨rfl, hF⟩
                    replace HF := hide ((unhide HF).trans hF (fun _ _ t => t))
                    replace HTB := hide ((unhide HTB).keep hF)
                    replace HJ := hide ((unhide HJ).keep hF)
                    clear hF R26
                    have R27 := rheld_any we A t ao1 cap1 l (unhide HL we (unhide HF)) (by omega) l.length rfl ⟨jk, jf, jo, js, jn, jr⟩
                    rw [unhide HY] at R27
                    unfold tv tc at R27
                    simp only [jC] at R27
                    have HCB : Hid (∀ u, Fr (fun _ => False) we u → u.cell? ⟨B, 0, none⟩ = some (.slice A.aS t.st.length A.cS) ∧ u.cell? ⟨B, 1, none⟩ = some (.slice A.aP t.sp.length A.cP) ∧ u.cell? ⟨B, 2, none⟩ = some (.slice A.aB t.bd.length A.cB) ∧ u.cell? ⟨B, 3, none⟩ = some (.float .f64 t.off) ∧ u.cell? ⟨B, 4, none⟩ = some (.int .i64 t.bus) ∧ u.cell? ⟨B, 5, none⟩ = some (.int .i64 t.busDaily) ∧ u.cell? ⟨B, 6, none⟩ = some (.int .i64 t.busWeekly) ∧ u.cell? ⟨B, 7, none⟩ = some (.int .i64 t.hopper) ∧ u.cell? ⟨B, 8, none⟩ = some (.int .i64 t.most) ∧ u.cell? ⟨B, 9, none⟩ = some (.int .i64 t.longest) ∧ u.cell? ⟨B, 10, none⟩ = some (.int .i64 t.change) ∧ u.cell? ⟨B, 11, none⟩ = some (.int .i64 t.passback) ∧ u.cell? ⟨B, 12, none⟩ = some (.int .i64 t.delay) ∧ u.cell? ⟨B, 13, none⟩ = some (.int .i64 t.threshold) ∧ u.cell? ⟨B + 1, 0, none⟩ = some (.int .i64 jk) ∧ u.cell? ⟨B + 1, 1, none⟩ = some (.int .i64 jf) ∧ u.cell? ⟨B + 1, 2, none⟩ = some (.int .i64 jo) ∧ u.cell? ⟨B + 1, 3, none⟩ = some (.int .i64 js) ∧ u.cell? ⟨B + 1, 4, none⟩ = some (.int .i64 jn) ∧ u.cell? ⟨B + 1, 5, none⟩ = some (.bool jr)) := hide (fun u hf => by
                      have h1 := (unhide HTB).keep hf
                      have h2 := (unhide HJ).keep hf
                      exact ⟨h1.cell 0, h1.cell 1, h1.cell 2, h1.cell 3, h1.cell 4, h1.cell 5, h1.cell 6, h1.cell 7, h1.cell 8, h1.cell 9, h1.cell 10, h1.cell 11, h1.cell 12, h1.cell 13, h2.cell 0, h2.cell 1, h2.cell 2, h2.cell 3, h2.cell 4, h2.cell 5⟩)
                    obtain ⟨d0, d1, d2, d3, d4, d5, d6, d7, d8, d9, d10, d11, d12, d13, e0, e1, e2, e3, e4, e5⟩ := unhide HCB we (Fr.refl _ _)
                    go_wp2_with fail
                    refine R27.mono ?_
                    rintro e wf ⟨rfl, hF⟩
                    replace HF := hide ((unhide HF).trans hF (fun _ _ t => t))
                    clear hF R27 d0 d1 d2 d3 d4 d5 d6 d7 d8 d9 d10 d11 d12 d13 e0 e1 e2 e3 e4 e5 HCB HTB HJ
                    have hlen : ((a.length + 1 : Nat) : Int) = (a.length : Int) + 1 := by omega
                    generalize ousE l = oe at *
                    go_wp2
                    go_ret
                    exact ⟨by first | rfl | simp, unhide HF⟩

end Go.Proofs.Ytdbnppbfoohjjaa

