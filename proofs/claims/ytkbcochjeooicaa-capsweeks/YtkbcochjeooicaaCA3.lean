import Derived.Test.YtkbcochjeooicaaCA1
import Derived.Test.YtkbcochjeooicaaCR2
import Derived.Test.YtkbcochjeooicaaPK0
/- What a week comes to, asked of the program and of the document: the walk of CapsWeeks. -/
namespace Go.Proofs.Ytkbcochjeooicaa
open Go.RowKit

def mkD : Dy := ⟨-77, 0, 0, 0, 0, 0, 0⟩
theorem dInfo : (Try.prog.info? 36).map (fun i => (i.zero.map (·.cells), i.size, i.bytes)) = some (some (dyL dz).toArray, 7, 56) := by kernel_rfl

set_option maxRecDepth 20000 in
theorem slice_uptoD (g n m cap : Nat) (h : n ≤ cap) (hc : 0 < cap) (u : World) : (Instr.slice 42 (.slice (some ⟨g, 0, none⟩) m cap) none (some (.int .i64 (n : Int))) none).run Try.prog u = .ok (.slice (some ⟨g, 0, none⟩) n cap) u := by
  rw [run_slice_h (P := Try.prog) (w := u) 42 (some ⟨g, 0, none⟩) m cap Try.underlying42 .i64 (n : Int) (by omega) (by omega)]
  have e : (.slice (some ⟨g, 0, none⟩) n cap : Value) = sliced (some ⟨g, 0, none⟩) 0 n cap 7 := by
    unfold sliced
    rw [if_neg (by omega)]
    simp [Addr.add_lit]
  rw [e]
  rfl

theorem dyV_cell {w : World} {ao : Option Addr} {cap g : Nat} {l : List Dy} (h : KRow w ao cap g 7 (dyV l)) {k : Nat} {b : Dy} (hb : l[k]? = some b) :
    ao = some ⟨g, 0, none⟩ ∧ 0 < cap ∧ ∀ c (_ : c < 7) v, (dyL b)[c]? = some v → w.cell? ⟨g, k * 7 + c, none⟩ = some v := by
  have hk := (List.getElem?_eq_some_iff.1 hb).1
  have hl := dyV_length l
  have hle := h.le
  have hcap : 0 < cap := by
    rcases Nat.eq_zero_or_pos cap with rfl | h0
    · omega
    · exact h0
  refine ⟨h.ad hcap, hcap, fun c hc v hv => ?_⟩
  have h1 := h.cells (k * 7 + c) (by omega)
  have h2 := flat_get dyL 7 (fun _ => rfl) l k hk c hc
  have h3 : l[k] = b := by rw [List.getElem?_eq_getElem hk] at hb; exact Option.some.inj hb
  rw [h3, hv] at h2
  rw [h1]
  have h4 : (dyV l)[k * 7 + c]? = some v := h2
  rw [List.getElem?_eq_getElem (by omega)] at h4
  exact h4

set_option maxHeartbeats 8000000 in
set_option maxRecDepth 20000 in
theorem weeks_walkC (w : World) (A : Ad) (t : Tf) (h : TAt w A t) (ao0 : Option Addr) (cap0 : Nat) (l : List Dy) (hl : CAt w ao0 (dyV l)) (hn : (l.length + 1) * 56 ≤ 140737488355328) :
    Calls Try.prog 4 #[tv A t, .slice ao0 l.length cap0] w fun e w' => e = .returned (.bool true) ∧ Fr (fun _ => False) w w' := by
  have H := hide h
  have HL := hide (fun (u : World) (hu : Fr (fun _ => False) w u) => hl.keep hu)
  obtain ⟨v, hv⟩ : ∃ v, v = w.alloc (.cells (tc A t) 27) := ⟨_, rfl⟩
  have HF : Hid (Fr (fun _ => False) w v) := hide (by rw [hv]; exact (Fr.refl _ w).alloc _)
  have hTB : TB v w.heap.size A t := by rw [hv]; exact TB.new w A t
  obtain ⟨B, hB⟩ : ∃ B, B = w.heap.size := ⟨_, rfl⟩
  rw [← hB] at hTB
  have HTB := hide hTB
  have HV := hide hv
  have HB := hide hB
  have HNN := hide hn
  clear hv hB hTB h hl hn
  unfold tv
  unfold tc at HV ⊢
  go_enter Try.func4, Try.ntmps4
  go_upto_region 1 with (fail)
  rw [← unhide HV, ← unhide HB]
  clear HV
  go_wp2_with fail
  refine (awake_anyC v).mono ?_
  rintro e w1 ⟨rfl, hF⟩
  obtain ⟨v2, hv2⟩ : ∃ x, x = w1 := ⟨_, rfl⟩
  subst hv2
  replace HF := hide ((unhide HF).trans hF (fun _ _ t => t))
  replace HTB := hide ((unhide HTB).keep hF)
  clear hF
  obtain ⟨info, hi, hzz⟩ := Option.map_eq_some_iff.1 dInfo
  simp only [Prod.mk.injEq] at hzz
  obtain ⟨hz0, hs, hy⟩ := hzz
  obtain ⟨z, hz, hzc⟩ := Option.map_eq_some_iff.1 hz0
  have HIN : Hid (Try.prog.info? 36 = some info ∧ info.zero = some z ∧ z.cells.size = 7 ∧ info.size = 7 ∧ info.bytes = 56) := hide ⟨hi, hz, by rw [hzc]; rfl, hs, hy⟩
  have hmk : ∀ u : World, (Instr.makeSlice 42 (.int .i64 0) (.int .i64 ((l.length : Int) + 1))).run Try.prog u = .ok (.slice (some ⟨u.heap.size, 0, none⟩) 0 (l.length + 1)) (u.alloc (.cells (madeCells z.cells ((l.length + 1) * info.size)) 36)) := fun u => by
    have hbb := unhide HNN
    have := run_make (P := Try.prog) u 42 36 info z Try.underlying42 hi hz .i64 .i64 0 ((l.length : Int) + 1) (by omega) (by omega) (by rw [hy]; omega) (by omega)
    rw [show ((l.length : Int) + 1).toNat = l.length + 1 by omega, show (0 : Int).toNat = 0 from rfl] at this
    exact this
  have HM0 := hide (fun (u : World) => KRow.made0 u z.cells (l.length + 1) 7 ((l.length + 1) * info.size) (by rw [hs]) (by have hbb := unhide HNN; simp only [maxLen]; omega) 36)
  have HLN : Hid (l.length + 1 ≤ 140737488355328) := hide (by have := unhide HNN; omega)
  have hln : (l.length : Int) + 1 ≤ 140737488355328 := by have := unhide HLN; omega
  generalize madeCells z.cells ((l.length + 1) * info.size) = mc at *
  clear hz0 hs hy hz hzc hi
  have HIA := hide ((unhide HM0 v2))
  have HFA : Hid (Fr (fun _ => False) v2 (v2.alloc (.cells mc 36))) := hide ((Fr.refl _ v2).alloc _)
  have hsr := CAt.src (unhide HL _ ((unhide HF).trans (unhide HFA) (fun _ _ t => t))) 42 36 7 l.length cap0 (by omega) Try.underlying42 (dyV_length _) (dyV_one _)
  have HSR := hide hsr
  clear hsr HM0
  obtain ⟨gi, HGI⟩ : ∃ gi, Hid (gi = v2.heap.size) := ⟨_, hide rfl⟩
  go_wp2_with (at_builtin; refine wpList_append_krow _ rfl (.tmp 17) (.tmp 18) 42 42 rfl 36 info _ 7 (by omega) Try.underlying42 (unhide HIN).1 (unhide HIN).2.1 (unhide HIN).2.2.1 (unhide HIN).2.2.2.1 rfl (unhide HIA) rfl _ (dyV l) l.length rfl (unhide HSR) (by rw [(unhide HIN).2.2.2.2]; have := unhide HNN; omega) (by have := unhide HLN; omega) ?_)
  intro ao1 cap1 w3 g1 hK hG
  have hF : Fr (fun _ => False) v2 w3 := by
    rcases hG with ⟨_, _, f⟩ | ⟨_, _, f⟩
    · exact (unhide HFA).trans f (fun q hq e => by have := e.1; omega)
    · exact (unhide HFA).trans f (fun _ _ t => t)
  have HG1 : Hid (v2.heap.size ≤ g1 ∧ 0 < cap1) := hide (by
    have hs := (unhide HFA).size
    rcases hG with ⟨e1, e2, _⟩ | ⟨e1, e2, _⟩
    · exact ⟨by omega, by omega⟩
    · exact ⟨by omega, e2⟩)
  have HI0 := hide hK
  clear hK hG HIA HSR HFA hmk hln HGI gi
  have HQ2 : Hid (w.heap.size ≤ v2.heap.size ∧ B < v2.heap.size) := hide ⟨(unhide HF).size, (unhide HTB).lt⟩
  obtain ⟨S2, HS2⟩ : ∃ S2, Hid (S2 = v2.heap.size) := ⟨_, hide rfl⟩
  rw [← unhide HS2] at HG1 HQ2
  clear HS2
  replace HF := hide ((unhide HF).trans hF (fun _ _ t => t))
  replace HTB := hide ((unhide HTB).keep hF)
  clear hF
  have HIA := hide ((unhide HI0).keep (by omega) ((Fr.refl (fun _ => False) w3).alloc (.cells #[.int .i64 (-77), .int .i64 0, .int .i64 0, .int .i64 0, .int .i64 0, .int .i64 0, .int .i64 0] 36)))
  have HFA : Hid (Fr (fun _ => False) w3 (w3.alloc (.cells #[.int .i64 (-77), .int .i64 0, .int .i64 0, .int .i64 0, .int .i64 0, .int .i64 0, .int .i64 0] 36))) := hide ((Fr.refl _ w3).alloc _)
  have HSR := hide (src_new' w3 (dyL mkD) 42 36 7 Try.underlying42 rfl (dyL_one _) (W := w3.alloc (.cells #[.int .i64 (-77), .int .i64 0, .int .i64 0, .int .i64 0, .int .i64 0, .int .i64 0, .int .i64 0] 36)) (fun j => by rw [World.cell?_alloc_new]; exact List.getElem?_toArray.symm ▸ rfl))
  have HI0' := HI0
  clear HI0
  go_wp2_with (at_builtin; refine wpList_append_krow _ rfl (.tmp 19) (.tmp 21) 42 42 rfl 36 info _ 7 (by omega) Try.underlying42 (unhide HIN).1 (unhide HIN).2.1 (unhide HIN).2.2.1 (unhide HIN).2.2.2.1 rfl (unhide HIA) (dyV_length l) _ (dyL mkD) 1 rfl (unhide HSR) (by rw [(unhide HIN).2.2.2.2]; have := unhide HNN; omega) (by have := unhide HLN; omega) ?_)
  intro ao2 cap2 w4 g2 hK hG
  have hS : Fr (fun q => q = g1) w3 w4 := by
    rcases hG with ⟨_, _, f⟩ | ⟨_, _, f⟩
    · exact (((unhide HFA).mono (fun _ _ t => t.elim)).trans f (fun q _ e => e.1))
    · exact ((unhide HFA).trans f (fun _ _ t => t)).mono (fun _ _ t => t.elim)
  have HG2 : Hid (S2 ≤ g2 ∧ 0 < cap2) := hide (by
    have hs := (unhide HFA).size
    have := unhide HG1
    have := (unhide HI0').lt (by omega) this.2
    rcases hG with ⟨e1, e2, _⟩ | ⟨e1, e2, _⟩
    · exact ⟨by omega, by omega⟩
    · exact ⟨by omega, e2⟩)
  have HI : Hid (KRow w4 ao2 cap2 g2 7 (dyV (l ++ [mkD]))) := hide (by rw [dyV_snoc]; exact hK)
  have hq := unhide HQ2
  have hg := (unhide HG1).1
  have hB1 := unhide HB
  replace HF : Hid (Fr (fun _ => False) w w4) := hide ((unhide HF).trans hS (fun q hq' e => by omega))
  replace HTB := hide ((unhide HTB).frame hS (by omega))
  clear hS hK hG hq hg hB1  HIA HSR HFA HI0' HG1 HIN
  obtain rfl : ao2 = some ⟨g2, 0, none⟩ := (unhide HI).ad (unhide HG2).2
  have HIF : Hid (CAt w4 (some ⟨g2, 0, none⟩) (dyV l)) := hide (KRow.front (us := dyL mkD) (by rw [← dyV_snoc]; exact unhide HI) (unhide HG2).2)
  have hsl := fun u => slice_uptoD g2 l.length (l.length + 1) cap2 (by have a := (unhide HI).le; rw [dyV_length, List.length_append, List.length_singleton] at a; omega) (unhide HG2).2 u
  obtain ⟨D, hD⟩ : ∃ D, wkR t l = D := ⟨_, rfl⟩
  obtain ⟨E, hE⟩ : ∃ E, wkE t l = E := ⟨_, rfl⟩
  have HDE := hide (And.intro hD hE)
  have RA : Hid (∀ (u : World), Fr (fun _ => False) w4 u → Calls Try.prog 13 #[tv A t, .slice (some ⟨g2, 0, none⟩) l.length cap2] u fun e w' => e = .returned (.tuple #[.int .i64 D, .int .i64 E]) ∧ Fr (fun _ => False) u w') := hide (fun u hu => by
    have := capsWeek_any u A t ((unhide H).keep ((unhide HF).trans hu (fun _ _ t => t))) (some ⟨g2, 0, none⟩) cap2 l ((unhide HIF).keep hu)
    rw [hD, hE] at this
    exact this)
  clear hD hE
  have HCB : Hid (∀ u, Fr (fun _ => False) w4 u → u.cell? ⟨B, 0, none⟩ = some (.slice A.aS t.st.length A.cS) ∧ u.cell? ⟨B, 1, none⟩ = some (.slice A.aP t.sp.length A.cP) ∧ u.cell? ⟨B, 2, none⟩ = some (.slice A.aB t.bd.length A.cB) ∧ u.cell? ⟨B, 3, none⟩ = some (.float .f64 t.off) ∧ u.cell? ⟨B, 4, none⟩ = some (.int .i64 t.bus) ∧ u.cell? ⟨B, 5, none⟩ = some (.int .i64 t.busDaily) ∧ u.cell? ⟨B, 6, none⟩ = some (.int .i64 t.busWeekly) ∧ u.cell? ⟨B, 7, none⟩ = some (.int .i64 t.hopper) ∧ u.cell? ⟨B, 8, none⟩ = some (.int .i64 t.most) ∧ u.cell? ⟨B, 9, none⟩ = some (.int .i64 t.longest) ∧ u.cell? ⟨B, 10, none⟩ = some (.int .i64 t.change) ∧ u.cell? ⟨B, 11, none⟩ = some (.int .i64 t.passback) ∧ u.cell? ⟨B, 12, none⟩ = some (.int .i64 t.delay) ∧ u.cell? ⟨B, 13, none⟩ = some (.int .i64 t.threshold)) := hide (fun u hf => by
    have h1 := (unhide HTB).keep hf
    exact ⟨h1.cell 0, h1.cell 1, h1.cell 2, h1.cell 3, h1.cell 4, h1.cell 5, h1.cell 6, h1.cell 7, h1.cell 8, h1.cell 9, h1.cell 10, h1.cell 11, h1.cell 12, h1.cell 13⟩)
  obtain ⟨d0, d1, d2, d3, d4, d5, d6, d7, d8, d9, d10, d11, d12, d13⟩ := unhide HCB w4 (Fr.refl _ _)
  unfold tv tc at RA
  go_upto_region 3 with (fail)
  go_region_held3 (fun u => u.cell? ⟨B, 0, none⟩ = some (.slice A.aS t.st.length A.cS) ∧ u.cell? ⟨B, 1, none⟩ = some (.slice A.aP t.sp.length A.cP) ∧ u.cell? ⟨B, 2, none⟩ = some (.slice A.aB t.bd.length A.cB) ∧ u.cell? ⟨B, 3, none⟩ = some (.float .f64 t.off) ∧ u.cell? ⟨B, 4, none⟩ = some (.int .i64 t.bus) ∧ u.cell? ⟨B, 5, none⟩ = some (.int .i64 t.busDaily) ∧ u.cell? ⟨B, 6, none⟩ = some (.int .i64 t.busWeekly) ∧ u.cell? ⟨B, 7, none⟩ = some (.int .i64 t.hopper) ∧ u.cell? ⟨B, 8, none⟩ = some (.int .i64 t.most) ∧ u.cell? ⟨B, 9, none⟩ = some (.int .i64 t.longest) ∧ u.cell? ⟨B, 10, none⟩ = some (.int .i64 t.change) ∧ u.cell? ⟨B, 11, none⟩ = some (.int .i64 t.passback) ∧ u.cell? ⟨B, 12, none⟩ = some (.int .i64 t.delay) ∧ u.cell? ⟨B, 13, none⟩ = some (.int .i64 t.threshold))
    ((refine unhide HCB _ ?_; repeat (first | (with_reducible exact Fr.refl _ _) | (with_reducible refine Fr.drew ?_) | (with_reducible refine Fr.trans ?_ (unhide HA) (fun _ _ t => t)))))
    ((go_at_call 13; refine (unhide RA _ (by repeat (first | (with_reducible exact Fr.refl _ _) | (with_reducible refine Fr.drew ?_) | (with_reducible refine Fr.trans ?_ (unhide HA) (fun _ _ t => t))))).mono ?_; rintro e w5 ⟨rfl, hA⟩; have HA := hide hA; clear hA))
  have hF : Fr (fun _ => False) w4 w5 := by repeat (first | (with_reducible exact Fr.refl _ _) | (with_reducible refine Fr.drew ?_) | (with_reducible refine Fr.trans ?_ (unhide HA) (fun _ _ t => t)))
  have HV0 : Hid (Fr (fun _ => False) w w5 ∧ TB w5 B A t ∧ KRow w5 (some ⟨g2, 0, none⟩) cap2 g2 7 (dyV (l ++ [mkD]))) := hide ⟨(unhide HF).trans hF (fun _ _ t => t), (unhide HTB).keep hF, (unhide HI).keep (by omega) hF⟩
  clear hF HA HF HTB HI RA HCB HIF hsl HG2 d0 d1 d2 d3 d4 d5 d6 d7 d8 d9 d10 d11 d12 d13
  have m7 : w5.cell? ⟨g2, l.length * 7, none⟩ = some (.int .i64 (-77)) := (dyV_cell (unhide HV0).2.2 (k := l.length) (b := mkD) (by rw [List.getElem?_append_right (Nat.le_refl _), Nat.sub_self]; rfl)).2.2 0 (by omega) _ rfl
  have q1 := egD
  have q2 := eqD
  have hln : l.length ≤ 140737488355328 := by have := unhide HLN; omega
  have hlt2 : (l.length : Int) < (l.length : Int) + 1 := by omega
  go_wp2
  go_loopw [9, 10] (fun sv iv wr => ∃ i : Nat, i ≤ l.length ∧ sv = .bool true ∧ iv = .int .i64 i ∧ Hid (Fr (fun _ => False) w wr ∧ TB wr B A t ∧ KRow wr (some ⟨g2, 0, none⟩) cap2 g2 7 (dyV (l ++ [mkD])))) (fun _ iv _ => l.length - (intOf iv).toNat)
  case atStart => exact ⟨0, Nat.zero_le _, rfl, rfl, by first | exact HV0 | (obtain ⟨z1, z2, z3⟩ := unhide HV0; exact hide ⟨z1.drew, z2.keep ((Fr.refl _ _).drew), z3.keep (by omega) ((Fr.refl _ _).drew)⟩)⟩
  case round =>
    obtain ⟨i, hi, rfl, rfl, HI⟩ := hrel
    clear HV0 m7 hlt2
    by_cases hil : i < l.length
    · as_aux_lemma =>
      have hlt : (i : Int) < (l.length : Int) := by omega
      have hlt2 : (i : Int) < (l.length : Int) + 1 := by omega
      obtain ⟨b0, off0, hao, kk⟩ := (unhide HL wr (unhide HI).1).dy hil
      subst hao
      have hga := (dyV_cell (unhide HI).2.2 (k := i) (b := l[i]) (by rw [List.getElem?_append_left hil]; exact List.getElem?_eq_getElem hil)).2.2
      have k0 := kk 0 (by omega) _ rfl
      have k1 := kk 1 (by omega) _ rfl
      have k2 := kk 2 (by omega) _ rfl
      have k3 := kk 3 (by omega) _ rfl
      have k4 := kk 4 (by omega) _ rfl
      have k5 := kk 5 (by omega) _ rfl
      have k6 := kk 6 (by omega) _ rfl
      rw [Nat.add_zero] at k0
      rw [← Nat.add_assoc] at k1 k2 k3 k4 k5 k6
      clear kk
      generalize hq : l[i] = q at *
      obtain ⟨r0, r1, r2, r3, r4, r5, r6⟩ := q
      simp only at k0 k1 k2 k3 k4 k5 k6
      have a0 : wr.cell? ⟨g2, i * 7, none⟩ = some (.int .i64 r0) := hga 0 (by omega) _ rfl
      have a1 : wr.cell? ⟨g2, i * 7 + 1, none⟩ = some (.int .i64 r1) := hga 1 (by omega) _ rfl
      have a2 : wr.cell? ⟨g2, i * 7 + 2, none⟩ = some (.int .i64 r2) := hga 2 (by omega) _ rfl
      have a3 : wr.cell? ⟨g2, i * 7 + 3, none⟩ = some (.int .i64 r3) := hga 3 (by omega) _ rfl
      have a4 : wr.cell? ⟨g2, i * 7 + 4, none⟩ = some (.int .i64 r4) := hga 4 (by omega) _ rfl
      have a5 : wr.cell? ⟨g2, i * 7 + 5, none⟩ = some (.int .i64 r5) := hga 5 (by omega) _ rfl
      have a6 : wr.cell? ⟨g2, i * 7 + 6, none⟩ = some (.int .i64 r6) := hga 6 (by omega) _ rfl
      clear hga hq
      have HSX : Hid (∀ u, Fr (fun _ => False) wr u → Hid (Fr (fun _ => False) w u ∧ TB u B A t ∧ KRow u (some ⟨g2, 0, none⟩) cap2 g2 7 (dyV (l ++ [mkD])))) := hide (fun u hf => by
        obtain ⟨i1, i2, i3⟩ := unhide HI
        exact hide ⟨i1.trans hf (fun _ _ t => t), i2.keep hf, i3.keep (by omega) hf⟩)
      go_upto_region 8 with (fail)
      go_region_held3 (fun u => u.cell? ⟨g2, i * 7, none⟩ = some (.int .i64 r0) ∧ u.cell? ⟨g2, i * 7 + 1, none⟩ = some (.int .i64 r1) ∧ u.cell? ⟨g2, i * 7 + 2, none⟩ = some (.int .i64 r2) ∧ u.cell? ⟨g2, i * 7 + 3, none⟩ = some (.int .i64 r3) ∧ u.cell? ⟨g2, i * 7 + 4, none⟩ = some (.int .i64 r4) ∧ u.cell? ⟨g2, i * 7 + 5, none⟩ = some (.int .i64 r5) ∧ u.cell? ⟨g2, i * 7 + 6, none⟩ = some (.int .i64 r6) ∧ u.cell? ⟨b0, off0 + i * 7, none⟩ = some (.int .i64 r0) ∧ u.cell? ⟨b0, off0 + i * 7 + 1, none⟩ = some (.int .i64 r1) ∧ u.cell? ⟨b0, off0 + i * 7 + 2, none⟩ = some (.int .i64 r2) ∧ u.cell? ⟨b0, off0 + i * 7 + 3, none⟩ = some (.int .i64 r3) ∧ u.cell? ⟨b0, off0 + i * 7 + 4, none⟩ = some (.int .i64 r4) ∧ u.cell? ⟨b0, off0 + i * 7 + 5, none⟩ = some (.int .i64 r5) ∧ u.cell? ⟨b0, off0 + i * 7 + 6, none⟩ = some (.int .i64 r6)) (go_keep) (fail)
      clear a0 a1 a2 a3 a4 a5 a6 k0 k1 k2 k3 k4 k5 k6 HI
      go_wp2
      exact ⟨⟨i + 1, by omega, rfl, by go_num, unhide HSX _ (by repeat (first | (with_reducible exact Fr.refl _ _) | (with_reducible refine Fr.drew ?_) | (with_reducible refine Fr.drewN ?_ _)))⟩, by simp [intOf]; omega⟩
    · obtain rfl : i = l.length := by omega
      have hlt : ¬ (l.length : Int) < (l.length : Int) := by omega
      obtain ⟨i1, i2, i3⟩ := unhide HI
      have R4 := rcapsWeek_any wr A t ((unhide H).keep i1) ao0 cap0 l (unhide HL wr i1)
      rw [(unhide HDE).1, (unhide HDE).2] at R4
      have HB1 := hide i2
      have HF := hide i1
      clear HI i1 i2 i3 q1 q2
      go_wp2_with (refine wpList_load_tariff rfl (.tmp 2) rfl (g := B) (A := A) (t := t) rfl (unhide HB1) ?_)
      refine R4.mono ?_
      rintro e w7 ⟨rfl, hF⟩
      replace HF := hide ((unhide HF).trans hF (fun _ _ t => t))
      clear hF R4 HB1
      go_wp2
      go_ret
      exact ⟨by first | rfl | simp, unhide HF⟩

end Go.Proofs.Ytkbcochjeooicaa

