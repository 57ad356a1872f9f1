import Derived.Test.YtmgejkenpfihmaaFA7
import Derived.Test.YtmgejkenpfihmaaFA5
import Derived.Test.YtmgejkenpfihmaaQVY
import Derived.Test.YtmgejkenpfihmaaQLX
import Derived.Deep.RegionHeld3
/- The document's own All: the journeys with their fares. -/
namespace Go.Proofs.Ytmgejkenpfihmaa
open Go.RowKit

set_option maxHeartbeats 4000000 in
set_option maxRecDepth 20000 in
theorem rfall_any (w : World) (A : Ad) (t : Tf) (h : TAt w A t) (ao0 : Option Addr) (cap0 : Nat) (l : List Jn) (hl : CAt w ao0 (jV l)) :
    Calls Try.prog 12 #[tv A t, .slice ao0 l.length cap0] w fun e w' => AllPost t l w e w' := by
  have RE := hide (fun (u : World) (hu : Fr (fun _ => False) w u) => rright_walk u A t (h.keep hu))
  have RC := hide (fun (u : World) (hu : Fr (fun _ => False) w u) (j : Jn) => rcost_any u A t (h.keep hu) j)
  have HL := hide (fun (u : World) (hu : Fr (fun _ => False) w u) => hl.keep hu)
  have HE : Hid (allE t l = if rightE t = 0 then (if 2000 < l.length then 2 else firstE t l) else rightE t) := rfl
  obtain ⟨v, hv⟩ : ∃ v, v = w.alloc (.cells (tc A t) 27) := ⟨_, rfl⟩
  have HFV : Hid (Fr (fun _ => False) w v) := hide (by rw [hv]; exact (Fr.refl _ w).alloc _)
  have hTB : TB v w.heap.size A t := by rw [hv]; exact TB.new w A t
  obtain ⟨B, hB⟩ : ∃ B, B = w.heap.size := ⟨_, rfl⟩
  rw [← hB] at hTB
  have HTB := hide hTB
  have HV := hide hv
  have HB := hide hB
  clear hv hB hTB h hl
  unfold tv tc at RC
  simp only [jC] at RC
  unfold tv
  unfold tc at HV ⊢
  go_enter Try.func12, Try.ntmps12
  go_upto_region 1 with (fail)
  rw [← unhide HV, ← unhide HB]
  clear HV
  go_wp2_with (refine wpList_load_tariff rfl (.tmp 2) rfl (g := B) (A := A) (t := t) rfl (unhide HTB) ?_)
  refine (unhide RE v (unhide HFV)).mono ?_
  rintro e w1 ⟨rfl, hF⟩
  have HTB1 := hide ((unhide HTB).keep hF)
  have HF1 := hide ((unhide HFV).trans hF (fun _ _ t => t))
  clear hF HTB HFV RE
  by_cases h0 : rightE t = 0
  · rw [h0]
    by_cases h1 : 2000 < l.length
    · have HX : Hid (allE t l = 2) := hide (by rw [unhide HE, if_pos h0, if_pos h1])
      have h1i : (2000 : Int) < (l.length : Int) := by omega
      clear HE RC HL HTB1 h0 h1
      go_wp2
      go_ret2
      exact AllPost.fail (unhide HF1) (unhide HX) (by decide)
    · have HX : Hid (allE t l = firstE t l) := hide (by rw [unhide HE, if_pos h0, if_neg h1])
      have h1i : ¬ (2000 : Int) < (l.length : Int) := by omega
      have hn : l.length ≤ 2000 := by omega
      have HN := hide hn
      obtain ⟨info, hi, hzz⟩ := Option.map_eq_some_iff.1 pInfo
      simp only [Prod.mk.injEq] at hzz
      obtain ⟨hz0, hs, hy⟩ := hzz
      obtain ⟨z, hz, hzc⟩ := Option.map_eq_some_iff.1 hz0
      have HIN : Hid (Try.prog.info? 42 = some info ∧ info.zero = some z ∧ z.cells.size = 7 ∧ info.size = 7 ∧ info.bytes = 56) := hide ⟨hi, hz, by rw [hzc]; rfl, hs, hy⟩
      have HS0 : Hid (Fr (fun _ => False) w w1 ∧ TB w1 B A t ∧ KRow w1 none 0 0 7 (pV (priced t (l.take 0))) ∧ (0 < 0 → w.heap.size ≤ 0 ∧ 0 ≠ B) ∧ firstE t (l.drop 0) = firstE t l) := hide ⟨unhide HF1, unhide HTB1, KRow.nil _ _ _, fun h => absurd h (by omega), rfl⟩
      clear HE h0 h1 hn hz0 hs hy hz hzc hi HTB1 HF1
      go_upto_region 7 with (fail)
      clear h1i
      go_wp2
      go_loopw [7, 8, 9, 10] (fun rv iv _ _ wr => ∃ (i : Nat) (ao : Option Addr) (cap g : Nat), i ≤ l.length ∧ rv = .slice ao i cap ∧ iv = .int .i64 i ∧ Hid (Fr (fun _ => False) w wr ∧ TB wr B A t ∧ KRow wr ao cap g 7 (pV (priced t (l.take i))) ∧ (0 < cap → w.heap.size ≤ g ∧ g ≠ B) ∧ firstE t (l.drop i) = firstE t l)) (fun _ iv _ _ _ => l.length - (intOf iv).toNat)
      case atStart => exact ⟨0, none, 0, 0, Nat.zero_le _, rfl, rfl, HS0⟩
      case round =>
        obtain ⟨i, ao, cap, g, hi, rfl, rfl, HI⟩ := hrel
        clear HS0
        by_cases hil : i < l.length
        · have hlt : (i : Int) < (l.length : Int) := by omega
          obtain ⟨b0, off0, hao, k0, k1, k2, k3, k4, k5⟩ := (unhide HL wr (unhide HI).1).jn hil
          subst hao
          have hfirst := (unhide HI).2.2.2.2
          rw [List.drop_eq_getElem_cons hil, firstE_cons] at hfirst
          have RC1 := hide (fun (u : World) (hu : Fr (fun _ => False) wr u) => unhide RC u ((unhide HI).1.trans hu (fun _ _ t => t)) l[i])
          have HPS : Hid (∀ c, l[i] = c → priced t (l.take (i + 1)) = priced t (l.take i) ++ [(c, (costV t c).1)]) := hide (fun c hc => by rw [← hc, List.take_succ_eq_append_getElem hil]; simp only [priced, List.map_append, List.map_cons, List.map_nil])
          have HPL : Hid ((pV (priced t (l.take i))).length = i * 7) := hide (by rw [pV_length]; simp [priced]; omega)
          generalize l[i] = q at *
          have HPS := hide (unhide HPS q rfl)
          obtain ⟨k, f, o, s, n, r⟩ := q
          simp only at k0 k1 k2 k3 k4 k5 RC1
          generalize hcv : costV t ⟨k, f, o, s, n, r⟩ = cv at *
          obtain ⟨c1, c2⟩ := cv
          simp only at hfirst HPS RC1
          have HFI := hide hfirst
          have hbl := World.block_lt_of_cell? _ _ k0
          have HCB : Hid (∀ u, Fr (fun _ => False) wr u → u.cell? ⟨b0, off0 + i * 6, none⟩ = some (.int .i64 k) ∧ u.cell? ⟨b0, off0 + i * 6 + 1, none⟩ = some (.int .i64 f) ∧ u.cell? ⟨b0, off0 + i * 6 + 2, none⟩ = some (.int .i64 o) ∧ u.cell? ⟨b0, off0 + i * 6 + 3, none⟩ = some (.int .i64 s) ∧ u.cell? ⟨b0, off0 + i * 6 + 4, none⟩ = some (.int .i64 n) ∧ u.cell? ⟨b0, off0 + i * 6 + 5, none⟩ = some (.bool r) ∧ u.cell? ⟨B, 0, none⟩ = some (.slice A.aS t.st.length A.cS) ∧ u.cell? ⟨B, 1, none⟩ = some (.slice A.aP t.sp.length A.cP) ∧ u.cell? ⟨B, 2, none⟩ = some (.slice A.aB t.bd.length A.cB) ∧ u.cell? ⟨B, 3, none⟩ = some (.float .f64 t.off) ∧ u.cell? ⟨B, 4, none⟩ = some (.int .i64 t.bus) ∧ u.cell? ⟨B, 5, none⟩ = some (.int .i64 t.busDaily) ∧ u.cell? ⟨B, 6, none⟩ = some (.int .i64 t.busWeekly) ∧ u.cell? ⟨B, 7, none⟩ = some (.int .i64 t.hopper) ∧ u.cell? ⟨B, 8, none⟩ = some (.int .i64 t.most) ∧ u.cell? ⟨B, 9, none⟩ = some (.int .i64 t.longest) ∧ u.cell? ⟨B, 10, none⟩ = some (.int .i64 t.change) ∧ u.cell? ⟨B, 11, none⟩ = some (.int .i64 t.passback) ∧ u.cell? ⟨B, 12, none⟩ = some (.int .i64 t.delay) ∧ u.cell? ⟨B, 13, none⟩ = some (.int .i64 t.threshold)) := hide (fun u hf => by
            have h1 := (unhide HI).2.1.keep hf
            have q : ∀ {c : Nat} {x : Value}, wr.cell? ⟨b0, c, none⟩ = some x → u.cell? ⟨b0, c, none⟩ = some x := fun {c x} e => (hf.cell (a := ⟨b0, c, none⟩) hbl (fun t => t)).trans e
            exact ⟨q k0, q k1, q k2, q k3, q k4, q k5, h1.cell 0, h1.cell 1, h1.cell 2, h1.cell 3, h1.cell 4, h1.cell 5, h1.cell 6, h1.cell 7, h1.cell 8, h1.cell 9, h1.cell 10, h1.cell 11, h1.cell 12, h1.cell 13⟩)
          clear hfirst hcv k0 k1 k2 k3 k4 k5 hbl
          obtain ⟨k0, k1, k2, k3, k4, k5, d0, d1, d2, d3, d4, d5, d6, d7, d8, d9, d10, d11, d12, d13⟩ := unhide HCB wr (Fr.refl _ _)
          go_upto_region 10 with (fail)
          go_cut [25, 9, 10] from 26 to 33 (fun _ nv ev wd => nv = .int .i64 c1 ∧ ev = .int .i64 c2 ∧ Hid (Fr (fun _ => False) wr wd))
          case first =>
            go_region_held3 (fun u => u.cell? ⟨b0, off0 + i * 6, none⟩ = some (.int .i64 k) ∧ u.cell? ⟨b0, off0 + i * 6 + 1, none⟩ = some (.int .i64 f) ∧ u.cell? ⟨b0, off0 + i * 6 + 2, none⟩ = some (.int .i64 o) ∧ u.cell? ⟨b0, off0 + i * 6 + 3, none⟩ = some (.int .i64 s) ∧ u.cell? ⟨b0, off0 + i * 6 + 4, none⟩ = some (.int .i64 n) ∧ u.cell? ⟨b0, off0 + i * 6 + 5, none⟩ = some (.bool r) ∧ u.cell? ⟨B, 0, none⟩ = some (.slice A.aS t.st.length A.cS) ∧ u.cell? ⟨B, 1, none⟩ = some (.slice A.aP t.sp.length A.cP) ∧ u.cell? ⟨B, 2, none⟩ = some (.slice A.aB t.bd.length A.cB) ∧ u.cell? ⟨B, 3, none⟩ = some (.float .f64 t.off) ∧ u.cell? ⟨B, 4, none⟩ = some (.int .i64 t.bus) ∧ u.cell? ⟨B, 5, none⟩ = some (.int .i64 t.busDaily) ∧ u.cell? ⟨B, 6, none⟩ = some (.int .i64 t.busWeekly) ∧ u.cell? ⟨B, 7, none⟩ = some (.int .i64 t.hopper) ∧ u.cell? ⟨B, 8, none⟩ = some (.int .i64 t.most) ∧ u.cell? ⟨B, 9, none⟩ = some (.int .i64 t.longest) ∧ u.cell? ⟨B, 10, none⟩ = some (.int .i64 t.change) ∧ u.cell? ⟨B, 11, none⟩ = some (.int .i64 t.passback) ∧ u.cell? ⟨B, 12, none⟩ = some (.int .i64 t.delay) ∧ u.cell? ⟨B, 13, none⟩ = some (.int .i64 t.threshold))
              ((refine unhide HCB _ ?_; repeat (first | (with_reducible exact Fr.refl _ _) | (with_reducible refine Fr.drew ?_) | (with_reducible refine Fr.trans ?_ (unhide HA) (fun _ _ t => t)))))
              ((go_at_call 21; refine (unhide RC1 _ (by repeat (first | (with_reducible exact Fr.refl _ _) | (with_reducible refine Fr.drew ?_)))).mono ?_; rintro e wa ⟨rfl, hA⟩; have HA := hide hA; clear hA))
            all_goals
              go_wp2_with fail
              go_meet
              exact ⟨rfl, rfl, hide (by repeat (first | (with_reducible exact Fr.refl _ _) | (with_reducible refine Fr.drew ?_) | (with_reducible refine Fr.trans ?_ (unhide HA) (fun _ _ t => t))))⟩
          case rest =>
            obtain ⟨rfl, rfl, HFC⟩ := hcut
            have HF3 := hide ((unhide HI).1.trans (unhide HFC) (fun _ _ t => t))
            have HTB3 := hide ((unhide HI).2.1.keep (unhide HFC))
            clear k0 k1 k2 k3 k4 k5 d0 d1 d2 d3 d4 d5 d6 d7 d8 d9 d10 d11 d12 d13 RC1
            by_cases hc : c2 = 0
            · subst hc
              obtain ⟨k0, k1, k2, k3, k4, k5, _, _, _, _, _, _, _, _, _, _, _, _, _, _⟩ := unhide HCB wc (unhide HFC)
              have HK3 := hide (((unhide HI).2.2.1.keep (by omega) (unhide HFC)).keep (by omega) ((Fr.refl (fun _ => False) wc).alloc (.cells #[.int .i64 k, .int .i64 f, .int .i64 o, .int .i64 s, .int .i64 n, .bool r, .int .i64 c1] 42)))
              have HGG := hide (unhide HI).2.2.2.1
              have HSR := hide (src_new' wc (pL (⟨k, f, o, s, n, r⟩, c1)) 36 42 7 Try.underlying36 rfl (pL_one _) (W := wc.alloc (.cells #[.int .i64 k, .int .i64 f, .int .i64 o, .int .i64 s, .int .i64 n, .bool r, .int .i64 c1] 42)) (fun j => by rw [World.cell?_alloc_new]; exact List.getElem?_toArray.symm ▸ rfl))
              have HFI2 : Hid (firstE t (l.drop (i + 1)) = firstE t l) := hide (by simpa using unhide HFI)
              have hi2 : i + 1 ≤ 2001 := by have := unhide HN; omega
              clear HI HCB HFC HFI
              go_wp2_with (at_builtin; refine wpList_append_krow _ rfl (.tmp 37) (.tmp 44) 36 36 rfl 42 info _ 7 (by omega) Try.underlying36 (unhide HIN).1 (unhide HIN).2.1 (unhide HIN).2.2.1 (unhide HIN).2.2.2.1 rfl (unhide HK3) (unhide HPL) _ _ 1 rfl (unhide HSR) (by rw [(unhide HIN).2.2.2.2]; omega) (by omega) ?_)
              intro ao' cap' w3 g' hK hG
              have hwB : B < wc.heap.size := (unhide HTB3).lt
              have hal : Fr (fun _ => False) wc (wc.alloc (.cells #[.int .i64 k, .int .i64 f, .int .i64 o, .int .i64 s, .int .i64 n, .bool r, .int .i64 c1] 42)) := (Fr.refl _ wc).alloc _
              have HS1 : Hid (Fr (fun _ => False) w w3 ∧ TB w3 B A t ∧ KRow w3 ao' cap' g' 7 (pV (priced t (l.take (i + 1)))) ∧ (0 < cap' → w.heap.size ≤ g' ∧ g' ≠ B) ∧ firstE t (l.drop (i + 1)) = firstE t l) := hide (by
                have hgf : Fr (fun q => q = g ∧ 0 < cap) wc w3 := by
                  rcases hG with ⟨_, _, f⟩ | ⟨_, _, f⟩
                  · exact (hal.mono (fun _ _ t => t.elim)).trans f (fun _ _ t => t)
                  · exact (hal.trans f (fun _ _ t => t)).mono (fun _ _ t => t.elim)
                refine ⟨(unhide HF3).trans hgf (fun q hq e => by have := (unhide HGG e.2).1; omega), (unhide HTB3).frame hgf (fun e => (unhide HGG e.2).2 e.1.symm), ?_, fun hc' => ?_, unhide HFI2⟩
                · rw [unhide HPS]
                  have e2 : pV (priced t (List.take i l) ++ [(⟨k, f, o, s, n, r⟩, c1)]) = pV (priced t (List.take i l)) ++ pL (⟨k, f, o, s, n, r⟩, c1) := by simp [pV]
                  rw [e2]
                  exact hK
                · have hs1 := (unhide HF3).size
                  have hs2 := hal.size
                  rcases hG with ⟨e1, e2, _⟩ | ⟨e1, _, _⟩
                  · rw [e1]; exact unhide HGG (by omega)
                  · exact ⟨by omega, by omega⟩)
              clear hK hG hal hwB HF3 HTB3 HK3 HSR HFI2 HPS k0 k1 k2 k3 k4 k5
              go_wp2
              exact ⟨⟨i + 1, ao', cap', g', by omega, rfl, by go_num, HS1⟩, by simp [intOf]; omega⟩
            · have HX2 : Hid (allE t l = c2) := hide (by rw [unhide HX, ← unhide HFI, if_neg hc])
              have hb2 : (c2 == 0) = false := by simp [hc]
              have hb3 : (c2 != 0) = true := by simp [hc]
              have HC := hide hc
              clear HX HPS HFI hc HTB3 HI HCB HFC HPL
              go_wp2
              go_ret2
              exact AllPost.fail (unhide HF3) (unhide HX2) (unhide HC)
        · obtain rfl : i = l.length := by omega
          have hlt : ¬ (l.length : Int) < (l.length : Int) := by omega
          have HX2 : Hid (allE t l = 0) := hide (by rw [unhide HX, ← (unhide HI).2.2.2.2, List.drop_length]; rfl)
          have HR : Hid (AllPost t l w (.returned (.tuple #[.slice ao l.length cap, .int .i64 0])) wr) := hide (by
            have e : allL t l = priced t l := by unfold allL; rw [if_pos (unhide HX2)]
            have k := (unhide HI).2.2.1
            rw [List.take_length] at k
            exact ⟨ao, cap, g, by rw [e, unhide HX2]; simp [priced], by rw [e]; exact k, fun hc => ((unhide HI).2.2.2.1 hc).1, (unhide HI).1⟩)
          clear HI HX HX2
          go_wp2
          go_ret2
          exact unhide HR
  · have HX : Hid (allE t l = rightE t) := hide (by rw [unhide HE, if_neg h0])
    have hb2 : (rightE t == 0) = false := by simp [h0]
    have hb3 : (rightE t != 0) = true := by simp [h0]
    have HXX : Hid (∀ w', Fr (fun _ => False) w w' → AllPost t l w (.returned (.tuple #[.slice none 0 0, .int .i64 (rightE t)])) w') := hide (fun w' hf => AllPost.fail hf (unhide HX) h0)
    clear HE RC HL HTB1 HX h0
    generalize rightE t = rr at *
    go_wp2
    go_ret2
    exact unhide HXX _ (unhide HF1)

end Go.Proofs.Ytmgejkenpfihmaa

