import Derived.Test.YtdbnppbfoohjjaaRF3
import Derived.Test.YtdbnppbfoohjjaaPK0
import Derived.Test.YtdbnppbfoohjjaaQLX
/- Who is held up does not hang on the order of the outages: the walk of RefundMixed. -/
namespace Go.Proofs.Ytdbnppbfoohjjaa
open Go.RowKit

set_option maxRecDepth 20000 in
theorem slice_midO (b off n cap i : Nat) (h : i + 1 ≤ cap) (u : World) : (Instr.slice 51 (.slice (some ⟨b, off, none⟩) n cap) (some (.int .i64 (i : Int))) (some (.int .i64 ((i : Int) + 1))) none).run Try.prog u = .ok (.slice (some ⟨b, off + i * 3, none⟩) 1 (cap - i)) u := by
  rw [run_slice_lh (P := Try.prog) (w := u) 51 (some ⟨b, off, none⟩) n cap Try.underlying51 .i64 .i64 (i : Int) ((i : Int) + 1) (by omega) (by omega) (by omega)]
  have e : (.slice (some ⟨b, off + i * 3, none⟩) 1 (cap - i) : Value) = sliced (some ⟨b, off, none⟩) i (i + 1) cap 3 := by
    unfold sliced
    rw [if_neg (by omega)]
    simp [Addr.add_lit]
  have e1 : ((i : Int)).toNat = i := by omega
  have e2 : ((i : Int) + 1).toNat = i + 1 := by omega
  rw [e, e1, e2]
  rfl

theorem CAt.ou1 {w : World} {b off : Nat} {l : List Ou} (h : CAt w (some ⟨b, off, none⟩) (ouV l)) {i : Nat} (hi : i < l.length) : CAt w (some ⟨b, off + i * 3, none⟩) (ouV [l[i]]) := by
  obtain ⟨b', off', e, c0, c1, c2⟩ := h.ou hi
  injection e with e
  injection e with e1 e2 e3
  subst e1 e2
  refine fun _ => ⟨_, _, rfl, fun j hj => ?_⟩
  match j, hj with
  | 0, _ => exact c0
  | 1, _ => exact c1
  | 2, _ => exact c2
  | j + 3, hj => simp [ouV, ouL] at hj; omega

theorem heldB_rev (dl : Int) (l : List Ou) (j : Jn) : heldB dl l.reverse j = heldB dl l j := by simp [heldB]
theorem rev_step (l : List Ou) (i : Nat) (hi : i < l.length) : (l.drop i).reverse = (l.drop (i + 1)).reverse ++ [l[i]] := by
  rw [List.drop_eq_getElem_cons hi, List.reverse_cons]

set_option maxHeartbeats 8000000 in
set_option maxRecDepth 20000 in
theorem mixed_walkR (w : World) (A : Ad) (t : Tf) (ao0 : Option Addr) (cap0 : Nat) (l : List Ou) (hl : CAt w ao0 (ouV l)) (hlc : l.length ≤ cap0) (hn : (l.length + 1) * 24 ≤ 140737488355328) (j : Jn) :
    Calls Try.prog 7 #[tv A t, .slice ao0 l.length cap0, .agg (jC j)] w fun e w' => e = .returned (.bool true) ∧ Fr (fun _ => False) w w' := by
  have HL := hide (fun (u : World) (hu : Fr (fun _ => False) w u) => hl.keep hu)
  have HNN := hide hn
  have HLC := hide hlc
  have RH := hide (fun (u : World) (ao : Option Addr) (cap : Nat) (m : List Ou) (hm : CAt u ao (ouV m)) (hmn : m.length ≤ 140737488355328) (n : Nat) (hn : n = m.length) => held_any u A t ao cap m hm hmn n hn j)
  obtain ⟨v, hv⟩ : ∃ v, v = (w.alloc (.cells (tc A t) 27)).alloc (.cells (jC j) 46) := ⟨_, rfl⟩
  have HFV : Hid (Fr (fun _ => False) w v) := hide (by rw [hv]; exact ((Fr.refl _ w).alloc _).alloc _)
  have HTB : Hid (TB v w.heap.size A t) := hide (by rw [hv]; exact (TB.new w A t).keep ((Fr.refl _ _).alloc _))
  have HJ : Hid (Bx v (w.heap.size + 1) (jC j) 46) := hide (by
    rw [hv, ← heap_alloc w (.cells (tc A t) 27)]; exact Bx.new _ _ _)
  obtain ⟨B, hB⟩ : ∃ B, B = w.heap.size := ⟨_, rfl⟩
  have HB := hide hB
  rw [← hB] at HTB HJ
  have HV := hide hv
  clear hv hB hl hn hlc
  obtain ⟨q, HQ⟩ : ∃ q, Hid (∀ o, holdB t.delay j o = q o) := ⟨fun o => holdB t.delay j o, hide (fun _ => rfl)⟩
  obtain ⟨y, HY⟩ : ∃ y, Hid (heldB t.delay l j = y) := ⟨_, hide rfl⟩
  have HYR : Hid (heldB t.delay l.reverse j = y) := hide (by rw [heldB_rev]; exact unhide HY)
  have HYA : Hid (l.any q = y) := hide (by rw [← unhide HY]; unfold heldB; congr 1; exact (funext (fun o => (unhide HQ o).symm)))
  have H1 : Hid (∀ o, heldB t.delay [o] j = q o) := hide (fun o => by rw [← unhide HQ o]; simp [heldB])
  clear HQ
  obtain ⟨k, f, o, s, n, r⟩ := j
  unfold tv
  unfold tc at HV ⊢
  simp only [jC] at HV
  unfold tv at RH
  simp only [jC]
  go_enter Try.func7, Try.ntmps7
  go_upto_region 1 with (fail)
  rw [← unhide HV, ← unhide HB]
  clear HV
  go_wp2_with fail
  refine (awake_anyR v).mono ?_
  rintro e w1 ⟨rfl, hF⟩
  replace HFV := hide ((unhide HFV).trans hF (fun _ _ t => t))
  replace HTB := hide ((unhide HTB).keep hF)
  replace HJ := hide ((unhide HJ).keep hF)
  clear hF
  have R1 := hide (unhide RH w1 ao0 cap0 l (unhide HL w1 (unhide HFV)) (by have := unhide HNN; omega) l.length rfl)
  rw [unhide HY] at R1
  go_wp2_with (first | refine wpList_load_tariff rfl (.tmp 3) rfl (g := B) (A := A) (t := t) rfl (unhide HTB) ?_ | refine wpList_load_jn rfl (.tmp 5) rfl (g := B + 1) (j := ⟨k, f, o, s, n, r⟩) rfl (unhide HJ) ?_)
  refine (unhide R1).mono ?_
  rintro e w2 ⟨rfl, hF⟩
  replace HFV := hide ((unhide HFV).trans hF (fun _ _ t => t))
  replace HTB := hide ((unhide HTB).keep hF)
  replace HJ := hide ((unhide HJ).keep hF)
  clear hF R1
  obtain ⟨info, hi, hzz⟩ := Option.map_eq_some_iff.1 ouInfo
  simp only [Prod.mk.injEq] at hzz
  obtain ⟨hz0, hs, hy⟩ := hzz
  obtain ⟨z, hz, hzc⟩ := Option.map_eq_some_iff.1 hz0
  have HIN : Hid (Try.prog.info? 54 = some info ∧ info.zero = some z ∧ z.cells.size = 3 ∧ info.size = 3 ∧ info.bytes = 24) := hide ⟨hi, hz, by rw [hzc]; rfl, hs, hy⟩
  clear hz0 hs hy hz hzc hi
  have HS0 : Hid (Fr (fun _ => False) w w2 ∧ TB w2 B A t ∧ Bx w2 (B + 1) (jC ⟨k, f, o, s, n, r⟩) 46 ∧ KRow w2 none 0 0 3 (ouV (l.drop l.length).reverse) ∧ ((0 : Nat) < 0 → w.heap.size ≤ 0 ∧ B + 1 < 0) ∧ (l.drop l.length).any q = false) := hide ⟨unhide HFV, unhide HTB, unhide HJ, by rw [List.drop_length]; exact KRow.nil _ _ _, fun h => absurd h (by omega), by rw [List.drop_length]; rfl⟩
  clear HFV HTB HJ
  have hll : l.length ≤ 140737488355328 := by have := unhide HNN; omega
  go_upto_region 6 with (fail)
  go_wp2
  go_loopw [9, 10, 11, 12] (fun bv ov iv _ wr => ∃ (m : Nat) (ob : Bool) (ao : Option Addr) (cap g : Nat), m ≤ l.length ∧ bv = .slice ao (l.length - m) cap ∧ ov = .bool ob ∧ iv = .int .i64 ((m : Int) - 1) ∧ Hid (Fr (fun _ => False) w wr ∧ TB wr B A t ∧ Bx wr (B + 1) (jC ⟨k, f, o, s, n, r⟩) 46 ∧ KRow wr ao cap g 3 (ouV (l.drop m).reverse) ∧ (0 < cap → w.heap.size ≤ g ∧ B + 1 < g) ∧ (l.drop m).any q = ob)) (fun _ _ iv _ _ => (intOf iv + 1).toNat)
  case atStart => exact ⟨l.length, false, none, 0, 0, Nat.le_refl _, by simp, rfl, rfl, HS0⟩
  case round =>
    obtain ⟨m, ob, ao, cap, g, hm, rfl, rfl, rfl, HI⟩ := hrel
    clear HS0
    by_cases hm0 : m = 0
    · subst hm0
      have hlt : ¬ (0 : Int) ≤ ((0 : Nat) : Int) - 1 := by omega
      obtain ⟨i1, i2, i3, i4, i5, i6⟩ := unhide HI
      rw [List.drop_zero] at i4 i6
      rw [unhide HYA] at i6
      subst i6
      have R1 := hide (unhide RH wr ao cap l.reverse i4.cat (by rw [List.length_reverse]; exact hll) (l.length - 0) (by simp))
      rw [unhide HYR] at R1
      have HF1 := hide i1
      have HTB := hide i2
      have HJ := hide i3
      clear i1 i2 i3 i4 i5 HI RH HYR HY HYA H1 HL
      go_wp2_with (first | refine wpList_load_tariff rfl (.tmp 3) rfl (g := B) (A := A) (t := t) rfl (unhide HTB) ?_ | refine wpList_load_jn rfl (.tmp 5) rfl (g := B + 1) (j := ⟨k, f, o, s, n, r⟩) rfl (unhide HJ) ?_)
      refine (unhide R1).mono ?_
      rintro e w3 ⟨rfl, hF⟩
      have HF3 := hide ((unhide HF1).trans hF (fun _ _ t => t))
      clear hF R1 HTB HJ HF1
      cases y
      all_goals
        go_wp2
        go_ret
        exact ⟨rfl, unhide HF3⟩
    · obtain ⟨i, rfl⟩ : ∃ i, m = i + 1 := ⟨m - 1, by omega⟩
      have hil : i < l.length := hm
      have hiv : ((i + 1 : Nat) : Int) - 1 = (i : Int) := by omega
      rw [hiv]
      have HN0 := hide hm0
      clear hm0 hiv
      have hlt : (0 : Int) ≤ (i : Int) := by omega
      have hlti : (i : Int) < (l.length : Int) := by omega
      obtain ⟨i1, i2, i3, i4, i5, i6⟩ := unhide HI
      obtain ⟨b0, off0, hao, c0, c1, c2⟩ := (unhide HL wr i1).ou hil
      subst hao
      have HCX := hide (fun (u : World) (hu : Fr (fun _ => False) w u) => (unhide HL u hu).ou1 hil)
      have HRV : Hid (∀ c, l[i] = c → (l.drop i).reverse = (l.drop (i + 1)).reverse ++ [c]) := hide (fun c hc => by rw [← hc]; exact rev_step l i hil)
      have HAN : Hid (∀ c, l[i] = c → (l.drop i).any q = (q c || (l.drop (i + 1)).any q)) := hide (fun c hc => by rw [← hc, List.drop_eq_getElem_cons hil, List.any_cons])
      have HXL : Hid ((ouV (l.drop (i + 1)).reverse).length = (l.length - (i + 1)) * 3) := hide (by rw [ouV_length]; simp)
      generalize l[i] = x at *
      replace HRV := hide (unhide HRV x rfl)
      replace HAN := hide (unhide HAN x rfl)
      have hsl := fun (u : World) => slice_midO b0 off0 l.length cap0 i (by have := unhide HLC; omega) u
      have hfit := hide (show ((l.length - (i + 1)) + 1) * 24 ≤ 140737488355328 from by have := unhide HNN; omega)
      have RX := hide (fun (u : World) (hu : Fr (fun _ => False) w u) => (by
        have := unhide RH u (some ⟨b0, off0 + i * 3, none⟩) (cap0 - i) [x] (unhide HCX u hu) (by simp) 1 rfl
        rw [unhide H1] at this
        exact this : Calls Try.prog 16 #[.agg (tc A t), .slice (some ⟨b0, off0 + i * 3, none⟩) 1 (cap0 - i), .agg (jC ⟨k, f, o, s, n, r⟩)] u fun e w' => e = .returned (.bool (q x)) ∧ Fr (fun _ => False) u w'))
      generalize hqx : q x = qb at *
      obtain ⟨x0, x1, x2⟩ := x
      simp only at c0 c1 c2
      have J1 := hide i1
      have J2 := hide i2
      have J3 := hide i3
      have J5 := hide i5
      have J6 := hide i6
      have HK3 := hide (i4.keep (by omega) ((Fr.refl (fun _ => False) wr).alloc (.cells #[.int .i64 x0, .int .i64 x1, .int .i64 x2] 54)))
      have HSR := hide (src_new' wr (ouL ⟨x0, x1, x2⟩) 51 54 3 Try.underlying51 rfl (ouL_one _) (W := wr.alloc (.cells #[.int .i64 x0, .int .i64 x1, .int .i64 x2] 54)) (fun j => by rw [World.cell?_alloc_new]; exact List.getElem?_toArray.symm ▸ rfl))
      clear i1 i2 i3 i4 i5 i6 HI HCX hqx
      go_wp2_with (at_builtin; refine wpList_append_krow _ rfl (.tmp 26) (.tmp 31) 51 51 rfl 54 info _ 3 (by omega) Try.underlying51 (unhide HIN).1 (unhide HIN).2.1 (unhide HIN).2.2.1 (unhide HIN).2.2.2.1 rfl (unhide HK3) (unhide HXL) _ _ 1 rfl (unhide HSR) (by rw [(unhide HIN).2.2.2.2]; exact unhide hfit) (by have := unhide hfit; omega) ?_)
      intro ao' cap' w3 g' hK hG
      have hwB : B + 1 < wr.heap.size := (unhide J3).lt
      have hal : Fr (fun _ => False) wr (wr.alloc (.cells #[.int .i64 x0, .int .i64 x1, .int .i64 x2] 54)) := (Fr.refl _ wr).alloc _
      have HS1 : Hid (Fr (fun _ => False) w w3 ∧ TB w3 B A t ∧ Bx w3 (B + 1) (jC ⟨k, f, o, s, n, r⟩) 46 ∧ KRow w3 ao' cap' g' 3 (ouV (l.drop i).reverse) ∧ (0 < cap' → w.heap.size ≤ g' ∧ B + 1 < g') ∧ (l.drop i).any q = (qb || ob)) := hide (by
        have hgf : Fr (fun q => q = g ∧ 0 < cap) wr w3 := by
          rcases hG with ⟨_, _, f⟩ | ⟨_, _, f⟩
          · exact (hal.mono (fun _ _ t => t.elim)).trans f (fun _ _ t => t)
          · exact (hal.trans f (fun _ _ t => t)).mono (fun _ _ t => t.elim)
        refine ⟨(unhide J1).trans hgf (fun q hq e => by have := (unhide J5 e.2).1; omega), (unhide J2).frame hgf (fun e => by have := (unhide J5 e.2).2; have := e.1; omega), (unhide J3).frame hgf (fun e => by have := (unhide J5 e.2).2; have := e.1; omega), ?_, fun hc' => ?_, by rw [unhide HAN, unhide J6]⟩
        · rw [unhide HRV, ouV_snoc]
          exact hK
        · have hs1 := (unhide J1).size
          have hs2 := hal.size
          rcases hG with ⟨e1, e2, _⟩ | ⟨e1, _, _⟩
          · rw [e1]; exact unhide J5 (by omega)
          · exact ⟨by omega, by omega⟩)
      have HCB : Hid (∀ u, Fr (fun _ => False) w3 u → u.cell? ⟨B, 0, none⟩ = some (.slice A.aS t.st.length A.cS) ∧ u.cell? ⟨B, 1, none⟩ = some (.slice A.aP t.sp.length A.cP) ∧ u.cell? ⟨B, 2, none⟩ = some (.slice A.aB t.bd.length A.cB) ∧ u.cell? ⟨B, 3, none⟩ = some (.float .f64 t.off) ∧ u.cell? ⟨B, 4, none⟩ = some (.int .i64 t.bus) ∧ u.cell? ⟨B, 5, none⟩ = some (.int .i64 t.busDaily) ∧ u.cell? ⟨B, 6, none⟩ = some (.int .i64 t.busWeekly) ∧ u.cell? ⟨B, 7, none⟩ = some (.int .i64 t.hopper) ∧ u.cell? ⟨B, 8, none⟩ = some (.int .i64 t.most) ∧ u.cell? ⟨B, 9, none⟩ = some (.int .i64 t.longest) ∧ u.cell? ⟨B, 10, none⟩ = some (.int .i64 t.change) ∧ u.cell? ⟨B, 11, none⟩ = some (.int .i64 t.passback) ∧ u.cell? ⟨B, 12, none⟩ = some (.int .i64 t.delay) ∧ u.cell? ⟨B, 13, none⟩ = some (.int .i64 t.threshold) ∧ u.cell? ⟨B + 1, 0, none⟩ = some (.int .i64 k) ∧ u.cell? ⟨B + 1, 1, none⟩ = some (.int .i64 f) ∧ u.cell? ⟨B + 1, 2, none⟩ = some (.int .i64 o) ∧ u.cell? ⟨B + 1, 3, none⟩ = some (.int .i64 s) ∧ u.cell? ⟨B + 1, 4, none⟩ = some (.int .i64 n) ∧ u.cell? ⟨B + 1, 5, none⟩ = some (.bool r)) := hide (fun u hf => by
        have h1 := (unhide HS1).2.1.keep hf
        have h2 := (unhide HS1).2.2.1.keep hf
        exact ⟨h1.cell 0, h1.cell 1, h1.cell 2, h1.cell 3, h1.cell 4, h1.cell 5, h1.cell 6, h1.cell 7, h1.cell 8, h1.cell 9, h1.cell 10, h1.cell 11, h1.cell 12, h1.cell 13, h2.cell 0, h2.cell 1, h2.cell 2, h2.cell 3, h2.cell 4, h2.cell 5⟩)
      have RX3 := hide (fun (u : World) (hu : Fr (fun _ => False) w3 u) => unhide RX u ((unhide HS1).1.trans hu (fun _ _ t => t)))
      have hw1 : IntKind.i64.wrap ((i : Int) + 1) = (i : Int) + 1 := by rw [IntKind.wrap_i64]; omega
      have hic : (i : Int) + 1 ≤ (cap0 : Int) := by have := unhide HLC; omega
      clear hK hG hal hwB J1 J2 J3 J5 J6 HK3 HSR HRV HAN HXL RX hfit c0 c1 c2
      obtain ⟨d0, d1, d2, d3, d4, d5, d6, d7, d8, d9, d10, d11, d12, d13, j0, j1, j2, j3, j4, j5⟩ := unhide HCB w3 (Fr.refl _ _)
      go_upto_region 9 with (fail)
      go_cut [12] from 33 to 40 (fun ev wd => ev = .bool qb ∧ Hid (Fr (fun _ => False) w3 wd))
      case first =>
        go_region_held3 (fun u => u.cell? ⟨B, 0, none⟩ = some (.slice A.aS t.st.length A.cS) ∧ u.cell? ⟨B, 1, none⟩ = some (.slice A.aP t.sp.length A.cP) ∧ u.cell? ⟨B, 2, none⟩ = some (.slice A.aB t.bd.length A.cB) ∧ u.cell? ⟨B, 3, none⟩ = some (.float .f64 t.off) ∧ u.cell? ⟨B, 4, none⟩ = some (.int .i64 t.bus) ∧ u.cell? ⟨B, 5, none⟩ = some (.int .i64 t.busDaily) ∧ u.cell? ⟨B, 6, none⟩ = some (.int .i64 t.busWeekly) ∧ u.cell? ⟨B, 7, none⟩ = some (.int .i64 t.hopper) ∧ u.cell? ⟨B, 8, none⟩ = some (.int .i64 t.most) ∧ u.cell? ⟨B, 9, none⟩ = some (.int .i64 t.longest) ∧ u.cell? ⟨B, 10, none⟩ = some (.int .i64 t.change) ∧ u.cell? ⟨B, 11, none⟩ = some (.int .i64 t.passback) ∧ u.cell? ⟨B, 12, none⟩ = some (.int .i64 t.delay) ∧ u.cell? ⟨B, 13, none⟩ = some (.int .i64 t.threshold) ∧ u.cell? ⟨B + 1, 0, none⟩ = some (.int .i64 k) ∧ u.cell? ⟨B + 1, 1, none⟩ = some (.int .i64 f) ∧ u.cell? ⟨B + 1, 2, none⟩ = some (.int .i64 o) ∧ u.cell? ⟨B + 1, 3, none⟩ = some (.int .i64 s) ∧ u.cell? ⟨B + 1, 4, none⟩ = some (.int .i64 n) ∧ u.cell? ⟨B + 1, 5, none⟩ = some (.bool r))
          ((refine unhide HCB _ ?_; repeat (first | (with_reducible exact Fr.refl _ _) | (with_reducible refine Fr.drew ?_) | (with_reducible refine Fr.trans ?_ (unhide HA) (fun _ _ t => t)))))
          ((go_at_call 16; refine (unhide RX3 _ (by repeat (first | (with_reducible exact Fr.refl _ _) | (with_reducible refine Fr.drew ?_)))).mono ?_; rintro e wa ⟨rfl, hA⟩; have HA := hide hA; clear hA))
        all_goals
          go_wp2_with fail
          go_meet
          exact ⟨rfl, hide (by repeat (first | (with_reducible exact Fr.refl _ _) | (with_reducible refine Fr.drew ?_) | (with_reducible refine Fr.trans ?_ (unhide HA) (fun _ _ t => t))))⟩
      case rest =>
        obtain ⟨rfl, HFC⟩ := hcut
        clear d0 d1 d2 d3 d4 d5 d6 d7 d8 d9 d10 d11 d12 d13 j0 j1 j2 j3 j4 j5 HCB RX3 hsl
        have HS2 : Hid (Fr (fun _ => False) w wc ∧ TB wc B A t ∧ Bx wc (B + 1) (jC ⟨k, f, o, s, n, r⟩) 46 ∧ KRow wc ao' cap' g' 3 (ouV (l.drop i).reverse) ∧ (0 < cap' → w.heap.size ≤ g' ∧ B + 1 < g') ∧ (l.drop i).any q = (qb || ob)) := hide ⟨(unhide HS1).1.trans (unhide HFC) (fun _ _ t => t), (unhide HS1).2.1.keep (unhide HFC), (unhide HS1).2.2.1.keep (unhide HFC), (unhide HS1).2.2.2.1.keep (by omega) (unhide HFC), (unhide HS1).2.2.2.2.1, (unhide HS1).2.2.2.2.2⟩
        have hlen : l.length - (i + 1) + 1 = l.length - i := by omega
        clear HS1 HFC
        rw [hlen]
        clear hlen
        cases ob
        · have HS3 := hide (show (qb || false) = qb by simp)
          rw [unhide HS3] at HS2
          clear HS3
          go_wp2
          exact ⟨⟨i, qb, ao', cap', g', by omega, rfl, rfl, by go_num, HS2⟩, by simp [intOf] <;> omega⟩
        · have HS3 := hide (show (qb || true) = true by simp)
          rw [unhide HS3] at HS2
          clear HS3
          go_wp2
          exact ⟨⟨i, true, ao', cap', g', by omega, rfl, rfl, by go_num, HS2⟩, by simp [intOf] <;> omega⟩

end Go.Proofs.Ytdbnppbfoohjjaa

