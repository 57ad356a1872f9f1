import Derived.Test.YtdbnppbfoohjjaaRR1
import Derived.Test.YtdbnppbfoohjjaaQVY
import Derived.Test.YtdbnppbfoohjjaaQLX
/- The document's refund.Apply. -/
namespace Go.Proofs.Ytdbnppbfoohjjaa
open Go.RowKit

set_option maxHeartbeats 4000000 in
set_option maxRecDepth 20000 in
theorem rapply_any (w : World) (A : Ad) (t : Tf) (h : TAt w A t) (ao1 : Option Addr) (cap1 : Nat) (l : List Ou) (hl : CAt w ao1 (ouV l)) (hln : l.length ≤ 140737488355328) (nl : Nat) (hnl : nl = l.length) (ao0 : Option Addr) (cap0 : Nat) (p : List (Jn × Int)) (hp : CAt w ao0 (pV p)) (np : Nat) (hnp : np = p.length) :
    Calls Try.prog 19 #[tv A t, .slice ao1 nl cap1, .slice ao0 np cap0] w fun e w' => AppPost t l p w e w' := by
  subst hnl hnp
  have RE := hide (fun (u : World) (hu : Fr (fun _ => False) w u) => rright_walk u A t (h.keep hu))
  have RR := hide (fun (u : World) (hu : Fr (fun _ => False) w u) => rright20_any u ao1 cap1 l (hl.keep hu) hln)
  have RH := hide (fun (u : World) (hu : Fr (fun _ => False) w u) (j : Jn) => rheld_any u A t ao1 cap1 l (hl.keep hu) hln l.length rfl j)
  have HL := hide (fun (u : World) (hu : Fr (fun _ => False) w u) => hp.keep hu)
  have HE : Hid (backE t l p.length = if rightE t = 0 then (if ousE l = 0 then (if 2000 < p.length then 2 else 0) else ousE l) else rightE t) := rfl
  obtain ⟨v, hv⟩ : ∃ v, v = w.alloc (.cells (tc A t) 27) := ⟨_, rfl⟩
  have HFV : Hid (Fr (fun _ => False) w v) := hide (by rw [hv]; exact (Fr.refl _ w).alloc _)
  have hTB : TB v w.heap.size A t := by rw [hv]; exact TB.new w A t
  obtain ⟨B, hB⟩ : ∃ B, B = w.heap.size := ⟨_, rfl⟩
  rw [← hB] at hTB
  have HTB := hide hTB
  have HV := hide hv
  have HB := hide hB
  clear hv hB hTB h hl hp
  unfold tv
  unfold tc at HV ⊢
  go_enter Try.func19, Try.ntmps19
  go_upto_region 1 with (fail)
  rw [← unhide HV, ← unhide HB]
  clear HV
  go_wp2_with (refine wpList_load_tariff rfl (.tmp 3) rfl (g := B) (A := A) (t := t) rfl (unhide HTB) ?_)
  refine (unhide RE v (unhide HFV)).mono ?_
  rintro e w1 ⟨rfl, hF⟩
  have HTB1 := hide ((unhide HTB).keep hF)
  have HF1 := hide ((unhide HFV).trans hF (fun _ _ t => t))
  clear hF HTB HFV RE
  by_cases h0 : rightE t = 0
  · rw [h0]
    go_wp2_with fail
    refine (unhide RR w1 (unhide HF1)).mono ?_
    rintro e wa ⟨rfl, hF⟩
    replace HTB1 := hide ((unhide HTB1).keep hF)
    replace HF1 := hide ((unhide HF1).trans hF (fun _ _ t => t))
    clear hF RR
    by_cases hr : ousE l = 0
    · rw [hr]
      by_cases h1 : 2000 < p.length
      · have HX : Hid (backE t l p.length = 2) := hide (by rw [unhide HE, if_pos h0, if_pos hr, if_pos h1])
        have h1i : (2000 : Int) < (p.length : Int) := by omega
        clear HE RH HL HTB1 h0 h1 hr
        go_wp2
        go_ret2
        exact AppPost.fail (unhide HF1) (unhide HX) (by decide)
      · have HX : Hid (backE t l p.length = 0) := hide (by rw [unhide HE, if_pos h0, if_pos hr, if_neg h1])
        have h1i : ¬ (2000 : Int) < (p.length : Int) := by omega
        have hn : p.length ≤ 2000 := by omega
        have HN := hide hn
        obtain ⟨info, hi, hzz⟩ := Option.map_eq_some_iff.1 pInfo
        simp only [Prod.mk.injEq] at hzz
        obtain ⟨hz0, hs, hy⟩ := hzz
        obtain ⟨z, hz, hzc⟩ := Option.map_eq_some_iff.1 hz0
        have HIN : Hid (Try.prog.info? 48 = some info ∧ info.zero = some z ∧ z.cells.size = 7 ∧ info.size = 7 ∧ info.bytes = 56) := hide ⟨hi, hz, by rw [hzc]; rfl, hs, hy⟩
        have HS0 : Hid (Fr (fun _ => False) w wa ∧ TB wa B A t ∧ KRow wa none 0 0 7 (pV (backL t.delay l (p.take 0))) ∧ ((0 : Nat) < 0 → w.heap.size ≤ 0 ∧ B < 0)) := hide ⟨unhide HF1, unhide HTB1, KRow.nil _ _ _, fun h => absurd h (by omega)⟩
        clear HE h0 h1 hr hn hz0 hs hy hz hzc hi HTB1 HF1
        go_upto_region 11 with (fail)
        clear h1i
        go_wp2
        go_loopw [9, 10, 11, 12] (fun rv iv _ _ wr => ∃ (i : Nat) (ao : Option Addr) (cap g : Nat), i ≤ p.length ∧ rv = .slice ao i cap ∧ iv = .int .i64 i ∧ Hid (Fr (fun _ => False) w wr ∧ TB wr B A t ∧ KRow wr ao cap g 7 (pV (backL t.delay l (p.take i))) ∧ (0 < cap → w.heap.size ≤ g ∧ B < g))) (fun _ iv _ _ _ => p.length - (intOf iv).toNat)
        case atStart => exact ⟨0, none, 0, 0, Nat.zero_le _, rfl, rfl, HS0⟩
        case round =>
          obtain ⟨i, ao, cap, g, hi, rfl, rfl, HI⟩ := hrel
          clear HS0
          by_cases hil : i < p.length
          · have hlt : (i : Int) < (p.length : Int) := by omega
            obtain ⟨b0, off0, hao, kk⟩ := (unhide HL wr (unhide HI).1).pj hil
            subst hao
            have k0 := kk 0 (by omega) _ rfl
            have k1 := kk 1 (by omega) _ rfl
            have k2 := kk 2 (by omega) _ rfl
            have k3 := kk 3 (by omega) _ rfl
            have k4 := kk 4 (by omega) _ rfl
            have k5 := kk 5 (by omega) _ rfl
            have k6 := kk 6 (by omega) _ rfl
            rw [Nat.add_zero] at k0
            rw [← Nat.add_assoc] at k1 k2 k3 k4 k5 k6
            have HST : Hid (∀ c, p[i] = c → backL t.delay l (p.take (i + 1)) = backL t.delay l (p.take i) ++ [back1 t.delay l c]) := hide (fun c hc => by rw [← hc, List.take_succ_eq_append_getElem hil]; simp only [backL, List.map_append, List.map_cons, List.map_nil])
            have HPL : Hid ((pV (backL t.delay l (p.take i))).length = i * 7) := hide (by rw [pV_length]; simp [backL]; omega)
            clear kk
            generalize p[i] = q at *
            replace HST := hide (unhide HST q rfl)
            obtain ⟨⟨k, f, o, s, n, r⟩, m⟩ := q
            simp only at k0 k1 k2 k3 k4 k5 k6
            go_upto_region 14 with (fail)
            obtain ⟨u2, hu2⟩ : ∃ u2, u2 = wr.alloc (.cells #[.int .i64 k, .int .i64 f, .int .i64 o, .int .i64 s, .int .i64 n, .bool r, .int .i64 m] 48) := ⟨_, rfl⟩
            obtain ⟨C, hC⟩ : ∃ C, C = wr.heap.size := ⟨_, rfl⟩
            rw [← hu2, ← hC]
            have hFa : Fr (fun _ => False) wr u2 := by rw [hu2]; exact (Fr.refl _ _).alloc _
            have hBX : Bx u2 C (pC (⟨k, f, o, s, n, r⟩, m)) 48 := by rw [hu2, hC]; exact Bx.new _ _ _
            obtain ⟨i1, i2, i3, i4⟩ := unhide HI
            have HF2 := hide (i1.trans hFa (fun _ _ t => t))
            have HTB2 := hide (i2.keep hFa)
            have HK2 := hide (i3.keep (by omega) hFa)
            have HJ := hide hBX
            have HGG := hide i4
            have HGC : Hid (0 < cap → g < C) := hide (fun hc => by rw [hC]; exact i3.lt (by omega) hc)
            have HWC : Hid (w.heap.size ≤ C) := hide (by rw [hC]; exact i1.size)
            have HBC : Hid (B < C) := hide (by rw [hC]; exact i2.lt)
            have j0 : u2.cell? ⟨C, 0, none⟩ = some (.int .i64 k) := hBX.cell 0
            have j1 : u2.cell? ⟨C, 1, none⟩ = some (.int .i64 f) := hBX.cell 1
            have j2 : u2.cell? ⟨C, 2, none⟩ = some (.int .i64 o) := hBX.cell 2
            have j3 : u2.cell? ⟨C, 3, none⟩ = some (.int .i64 s) := hBX.cell 3
            have j4 : u2.cell? ⟨C, 4, none⟩ = some (.int .i64 n) := hBX.cell 4
            have j5 : u2.cell? ⟨C, 5, none⟩ = some (.bool r) := hBX.cell 5
            have RH2 := unhide RH u2 (unhide HF2) ⟨k, f, o, s, n, r⟩
            have HQ : Hid (back1 t.delay l (⟨k, f, o, s, n, r⟩, m) = if heldB t.delay l ⟨k, f, o, s, n, r⟩ = true then (⟨k, f, o, s, n, r⟩, 0) else (⟨k, f, o, s, n, r⟩, m)) := rfl
            rw [unhide HQ] at HST
            clear HQ
            generalize heldB t.delay l ⟨k, f, o, s, n, r⟩ = y at *
            clear i1 i2 i3 i4 hFa hBX hu2 hC HI k0 k1 k2 k3 k4 k5 k6
            simp only [jC] at RH2
            go_wp2_with (refine wpList_load_tariff rfl (.tmp 3) rfl (g := B) (A := A) (t := t) rfl (unhide HTB2) ?_)
            refine RH2.mono ?_
            rintro e u3 ⟨rfl, hF⟩
            have HF3 := hide ((unhide HF2).trans hF (fun _ _ t => t))
            have HTB3 := hide ((unhide HTB2).keep hF)
            have HK3 := hide ((unhide HK2).keep (by omega) hF)
            have HJ3 := hide ((unhide HJ).keep hF)
            clear hF RH2 HF2 HTB2 HK2 HJ j0 j1 j2 j3 j4 j5
            cases y
            · have HST2 : Hid (backL t.delay l (p.take (i + 1)) = backL t.delay l (p.take i) ++ [(⟨k, f, o, s, n, r⟩, m)]) := hide (by have := unhide HST; simpa using this)
              clear HST
              have u4e : ∃ u4, u4 = u3 := ⟨_, rfl⟩
              obtain ⟨u4, hu4⟩ := u4e
              subst hu4
              have HF4 := HF3
              have HTB4 := HTB3
              have HK4 := HK3
              have HJ4 := HJ3
              clear HF3 HTB3 HK3 HJ3
              have HK5 := hide ((unhide HK4).keep (by omega) ((Fr.refl (fun _ => False) u4).alloc (.cells #[.int .i64 k, .int .i64 f, .int .i64 o, .int .i64 s, .int .i64 n, .bool r, .int .i64 m] 48)))
              have HSR := hide (src_new' u4 (pL (⟨k, f, o, s, n, r⟩, m)) 49 48 7 Try.underlying49 rfl (pL_one _) (W := u4.alloc (.cells #[.int .i64 k, .int .i64 f, .int .i64 o, .int .i64 s, .int .i64 n, .bool r, .int .i64 m] 48)) (fun j => by rw [World.cell?_alloc_new]; exact List.getElem?_toArray.symm ▸ rfl))
              have hi2 : i + 1 ≤ 2001 := by have := unhide HN; omega
              clear HK4
              have j0 : u4.cell? ⟨C, 0, none⟩ = some (.int .i64 k) := (unhide HJ4).cell 0
              have j1 : u4.cell? ⟨C, 1, none⟩ = some (.int .i64 f) := (unhide HJ4).cell 1
              have j2 : u4.cell? ⟨C, 2, none⟩ = some (.int .i64 o) := (unhide HJ4).cell 2
              have j3 : u4.cell? ⟨C, 3, none⟩ = some (.int .i64 s) := (unhide HJ4).cell 3
              have j4 : u4.cell? ⟨C, 4, none⟩ = some (.int .i64 n) := (unhide HJ4).cell 4
              have j5 : u4.cell? ⟨C, 5, none⟩ = some (.bool r) := (unhide HJ4).cell 5
              have j6 : u4.cell? ⟨C, 6, none⟩ = some (.int .i64 m) := (unhide HJ4).cell 6
              go_wp2_with (at_builtin; refine wpList_append_krow _ rfl (.tmp 43) (.tmp 45) 49 49 rfl 48 info _ 7 (by omega) Try.underlying49 (unhide HIN).1 (unhide HIN).2.1 (unhide HIN).2.2.1 (unhide HIN).2.2.2.1 rfl (unhide HK5) (unhide HPL) _ _ 1 rfl (unhide HSR) (by rw [(unhide HIN).2.2.2.2]; omega) (by omega) ?_)
              intro ao' cap' w3 g' hK hG
              have hwB : B < u4.heap.size := (unhide HTB4).lt
              have hal : Fr (fun _ => False) u4 (u4.alloc (.cells #[.int .i64 k, .int .i64 f, .int .i64 o, .int .i64 s, .int .i64 n, .bool r, .int .i64 m] 48)) := (Fr.refl _ u4).alloc _
              have HS1 : Hid (Fr (fun _ => False) w w3 ∧ TB w3 B A t ∧ KRow w3 ao' cap' g' 7 (pV (backL t.delay l (p.take (i + 1)))) ∧ (0 < cap' → w.heap.size ≤ g' ∧ B < g')) := hide (by
                have hgf : Fr (fun q => q = g ∧ 0 < cap) u4 w3 := by
                  rcases hG with ⟨_, _, f⟩ | ⟨_, _, f⟩
                  · exact (hal.mono (fun _ _ t => t.elim)).trans f (fun _ _ t => t)
                  · exact (hal.trans f (fun _ _ t => t)).mono (fun _ _ t => t.elim)
                refine ⟨(unhide HF4).trans hgf (fun q hq e => by have := (unhide HGG e.2).1; omega), (unhide HTB4).frame hgf (fun e => by have := (unhide HGG e.2).2; have := e.1; omega), ?_, fun hc' => ?_⟩
                · rw [unhide HST2]
                  have e2 : pV (backL t.delay l (List.take i p) ++ [(⟨k, f, o, s, n, r⟩, m)]) = pV (backL t.delay l (List.take i p)) ++ pL (⟨k, f, o, s, n, r⟩, m) := by simp [pV]
                  rw [e2]
                  exact hK
                · have hs1 := (unhide HF4).size
                  have hs2 := hal.size
                  rcases hG with ⟨e1, e2, _⟩ | ⟨e1, _, _⟩
                  · rw [e1]; exact unhide HGG (by omega)
                  · exact ⟨by omega, by omega⟩)
              clear hK hG hal hwB HF4 HTB4 HK5 HSR HST2 HJ4 j0 j1 j2 j3 j4 j5 j6
              go_wp2
              exact ⟨⟨i + 1, ao', cap', g', by omega, rfl, by go_num, HS1⟩, by simp [intOf] <;> omega⟩
            · have HST2 : Hid (backL t.delay l (p.take (i + 1)) = backL t.delay l (p.take i) ++ [(⟨k, f, o, s, n, r⟩, 0)]) := hide (by have := unhide HST; simpa using this)
              clear HST
              obtain ⟨j6, f6⟩ : u3.cell? ⟨C, 6, none⟩ = some (.int .i64 m) ∧ u3.frozen? ⟨C, 6, none⟩ = false := ⟨(unhide HJ3).cell 6, (unhide HJ3).frozen 6⟩
              go_upto_region 17 with (fail)
              obtain ⟨u4, hu4⟩ : ∃ u4, u4 = u3.setCell ⟨C, 6, none⟩ (.int .i64 0) := ⟨_, rfl⟩
              rw [← hu4]
              have hFc : Fr (fun q => q = C) u3 u4 := by rw [hu4]; exact Fr.setOwn (Fr.refl _ _) _ _
              have HF4 := hide ((unhide HF3).trans hFc (fun q hq e => by have := unhide HWC; omega))
              have HTB4 := hide ((unhide HTB3).frame hFc (fun e => by have := unhide HBC; omega))
              have HK4 := hide ((unhide HK3).stay (fun hc => hFc.block g ((unhide HK3).lt (by omega) hc) (fun e => by have := unhide HGC hc; omega)))
              have HJ4 : Hid (Bx u4 C (pC (⟨k, f, o, s, n, r⟩, 0)) 48) := hide (by rw [hu4]; exact (unhide HJ3).setCell 6 (.int .i64 0))
              clear hu4 hFc j6 f6 HF3 HTB3 HK3 HJ3
              have HK5 := hide ((unhide HK4).keep (by omega) ((Fr.refl (fun _ => False) u4).alloc (.cells #[.int .i64 k, .int .i64 f, .int .i64 o, .int .i64 s, .int .i64 n, .bool r, .int .i64 0] 48)))
              have HSR := hide (src_new' u4 (pL (⟨k, f, o, s, n, r⟩, 0)) 49 48 7 Try.underlying49 rfl (pL_one _) (W := u4.alloc (.cells #[.int .i64 k, .int .i64 f, .int .i64 o, .int .i64 s, .int .i64 n, .bool r, .int .i64 0] 48)) (fun j => by rw [World.cell?_alloc_new]; exact List.getElem?_toArray.symm ▸ rfl))
              have hi2 : i + 1 ≤ 2001 := by have := unhide HN; omega
              clear HK4
              have j0 : u4.cell? ⟨C, 0, none⟩ = some (.int .i64 k) := (unhide HJ4).cell 0
              have j1 : u4.cell? ⟨C, 1, none⟩ = some (.int .i64 f) := (unhide HJ4).cell 1
              have j2 : u4.cell? ⟨C, 2, none⟩ = some (.int .i64 o) := (unhide HJ4).cell 2
              have j3 : u4.cell? ⟨C, 3, none⟩ = some (.int .i64 s) := (unhide HJ4).cell 3
              have j4 : u4.cell? ⟨C, 4, none⟩ = some (.int .i64 n) := (unhide HJ4).cell 4
              have j5 : u4.cell? ⟨C, 5, none⟩ = some (.bool r) := (unhide HJ4).cell 5
              have j6 : u4.cell? ⟨C, 6, none⟩ = some (.int .i64 0) := (unhide HJ4).cell 6
              go_wp2_with (at_builtin; refine wpList_append_krow _ rfl (.tmp 43) (.tmp 45) 49 49 rfl 48 info _ 7 (by omega) Try.underlying49 (unhide HIN).1 (unhide HIN).2.1 (unhide HIN).2.2.1 (unhide HIN).2.2.2.1 rfl (unhide HK5) (unhide HPL) _ _ 1 rfl (unhide HSR) (by rw [(unhide HIN).2.2.2.2]; omega) (by omega) ?_)
              intro ao' cap' w3 g' hK hG
              have hwB : B < u4.heap.size := (unhide HTB4).lt
              have hal : Fr (fun _ => False) u4 (u4.alloc (.cells #[.int .i64 k, .int .i64 f, .int .i64 o, .int .i64 s, .int .i64 n, .bool r, .int .i64 0] 48)) := (Fr.refl _ u4).alloc _
              have HS1 : Hid (Fr (fun _ => False) w w3 ∧ TB w3 B A t ∧ KRow w3 ao' cap' g' 7 (pV (backL t.delay l (p.take (i + 1)))) ∧ (0 < cap' → w.heap.size ≤ g' ∧ B < g')) := hide (by
                have hgf : Fr (fun q => q = g ∧ 0 < cap) u4 w3 := by
                  rcases hG with ⟨_, _, f⟩ | ⟨_, _, f⟩
                  · exact (hal.mono (fun _ _ t => t.elim)).trans f (fun _ _ t => t)
                  · exact (hal.trans f (fun _ _ t => t)).mono (fun _ _ t => t.elim)
                refine ⟨(unhide HF4).trans hgf (fun q hq e => by have := (unhide HGG e.2).1; omega), (unhide HTB4).frame hgf (fun e => by have := (unhide HGG e.2).2; have := e.1; omega), ?_, fun hc' => ?_⟩
                · rw [unhide HST2]
                  have e2 : pV (backL t.delay l (List.take i p) ++ [(⟨k, f, o, s, n, r⟩, 0)]) = pV (backL t.delay l (List.take i p)) ++ pL (⟨k, f, o, s, n, r⟩, 0) := by simp [pV]
                  rw [e2]
                  exact hK
                · have hs1 := (unhide HF4).size
                  have hs2 := hal.size
                  rcases hG with ⟨e1, e2, _⟩ | ⟨e1, _, _⟩
                  · rw [e1]; exact unhide HGG (by omega)
                  · exact ⟨by omega, by omega⟩)
              clear hK hG hal hwB HF4 HTB4 HK5 HSR HST2 HJ4 j0 j1 j2 j3 j4 j5 j6
              go_wp2
              exact ⟨⟨i + 1, ao', cap', g', by omega, rfl, by go_num, HS1⟩, by simp [intOf] <;> omega⟩
          · obtain rfl : i = p.length := by omega
            have hlt : ¬ (p.length : Int) < (p.length : Int) := by omega
            have HR : Hid (AppPost t l p w (.returned (.tuple #[.slice ao p.length cap, .int .i64 0])) wr) := hide (by
              have e : appL t l p = backL t.delay l p := by unfold appL; rw [if_pos (unhide HX)]
              have k := (unhide HI).2.2.1
              rw [List.take_length] at k
              exact ⟨ao, cap, g, by rw [e, unhide HX, backL_length], by rw [e]; exact k, fun hc => ((unhide HI).2.2.2 hc).1, (unhide HI).1⟩)
            clear HI HX
            go_wp2
            go_ret2
            exact unhide HR
    · have HX : Hid (backE t l p.length = ousE l) := hide (by rw [unhide HE, if_pos h0, if_neg hr])
      have hb2 : (ousE l == 0) = false := by simp [hr]
      have hb3 : (ousE l != 0) = true := by simp [hr]
      have HXX : Hid (∀ w', Fr (fun _ => False) w w' → AppPost t l p w (.returned (.tuple #[.slice none 0 0, .int .i64 (ousE l)])) w') := hide (fun w' hf => AppPost.fail hf (unhide HX) hr)
      clear HE RH HL HTB1 HX hr h0
      generalize ousE l = rr at *
      go_wp2
      go_ret2
      exact unhide HXX _ (unhide HF1)
  · have HX : Hid (backE t l p.length = rightE t) := hide (by rw [unhide HE, if_neg h0])
    have hb2 : (rightE t == 0) = false := by simp [h0]
    have hb3 : (rightE t != 0) = true := by simp [h0]
    have HXX : Hid (∀ w', Fr (fun _ => False) w w' → AppPost t l p w (.returned (.tuple #[.slice none 0 0, .int .i64 (rightE t)])) w') := hide (fun w' hf => AppPost.fail hf (unhide HX) h0)
    clear HE RH RR HL HTB1 HX h0
    generalize rightE t = rr at *
    go_wp2
    go_ret2
    exact unhide HXX _ (unhide HF1)

end Go.Proofs.Ytdbnppbfoohjjaa

