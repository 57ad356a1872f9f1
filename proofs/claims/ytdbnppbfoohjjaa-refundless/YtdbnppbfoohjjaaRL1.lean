import Derived.Test.YtdbnppbfoohjjaaRL0
import Derived.Test.YtdbnppbfoohjjaaRS1
import Derived.Test.YtdbnppbfoohjjaaRF3
import Derived.Test.YtdbnppbfoohjjaaPK0
import Derived.Test.YtdbnppbfoohjjaaQLX
/- More outages give back no less, twice is once: the walk of RefundLess. -/
namespace Go.Proofs.Ytdbnppbfoohjjaa
open Go.RowKit

theorem back_get (dl : Int) (l m : List Ou) (p : List (Jn × Int)) (i : Nat) (hi : i < p.length) : ∃ (j : Jn) (fp fa fb : Int), p[i] = (j, fp) ∧ (backL dl l p)[i]? = some (j, fa) ∧ (backL dl (l ++ m) p)[i]? = some (j, fb) ∧ (fa = fp ∨ (¬ fa = fp ∧ fa = 0)) ∧ (fb = fa ∨ (¬ fb = fa ∧ fb = 0)) := by
  obtain ⟨h1, h2, h3, h4⟩ := back_cases dl l m p[i]
  refine ⟨p[i].1, p[i].2, (back1 dl l p[i]).2, (back1 dl (l ++ m) p[i]).2, rfl, ?_, ?_, h3, h4⟩
  · rw [backL, List.getElem?_map, List.getElem?_eq_getElem hi, Option.map_some]
    congr 1
    exact Prod.ext h1 rfl
  · rw [backL, List.getElem?_map, List.getElem?_eq_getElem hi, Option.map_some]
    congr 1
    exact Prod.ext h2 rfl

set_option maxHeartbeats 8000000 in
set_option maxRecDepth 20000 in
theorem less_walkR (w : World) (A : Ad) (t : Tf) (h : TAt w A t) (ao1 : Option Addr) (cap1 : Nat) (l : List Ou) (hl : CAt w ao1 (ouV l)) (hln : (l.length + 100) * 24 ≤ 140737488355328) (ao2 : Option Addr) (cap2 : Nat) (m : List Ou) (hm : CAt w ao2 (ouV m)) (hmn : (m.length + 100) * 24 ≤ 140737488355328) (ao0 : Option Addr) (cap0 : Nat) (p : List (Jn × Int)) (hp : CAt w ao0 (pV p)) (hpn : (p.length + 1) * 56 ≤ 140737488355328) :
    Calls Try.prog 6 #[tv A t, .slice ao1 l.length cap1, .slice ao2 m.length cap2, .slice ao0 p.length cap0] w fun e w' => e = .returned (.bool true) ∧ Fr (fun _ => False) w w' := by
  have HL := hide (fun (u : World) (hu : Fr (fun _ => False) w u) => hl.keep hu)
  have HM := hide (fun (u : World) (hu : Fr (fun _ => False) w u) => hm.keep hu)
  have HP := hide (fun (u : World) (hu : Fr (fun _ => False) w u) => hp.keep hu)
  have HLN := hide hln
  have HMN := hide hmn
  have HPN := hide hpn
  have RA := hide (fun (u : World) (hu : Fr (fun _ => False) w u) (a : Option Addr) (c : Nat) (x : List Ou) (hx : CAt u a (ouV x)) (hxn : x.length ≤ 140737488355328) (n : Nat) (hn : n = x.length) (b : Option Addr) (d : Nat) (y : List (Jn × Int)) (hy : CAt u b (pV y)) (k : Nat) (hk : k = y.length) => apply_any u A t (h.keep hu) a c x hx hxn n hn b d y hy k hk)
  obtain ⟨v, hv⟩ : ∃ v, v = w.alloc (.cells (tc A t) 27) := ⟨_, rfl⟩
  have HF : Hid (Fr (fun _ => False) w v) := hide (by rw [hv]; exact (Fr.refl _ w).alloc _)
  have hTB : TB v w.heap.size A t := by rw [hv]; exact TB.new w A t
  obtain ⟨B, hB⟩ : ∃ B, B = w.heap.size := ⟨_, rfl⟩
  rw [← hB] at hTB
  have HTB := hide hTB
  have HV := hide hv
  have HB := hide hB
  clear hv hB hTB h hl hm hp hln hmn hpn
  unfold tv at RA
  unfold tv
  unfold tc at HV ⊢
  go_enter Try.func6, Try.ntmps6
  go_upto_region 1 with (fail)
  rw [← unhide HV, ← unhide HB]
  clear HV
  go_wp2_with fail
  refine (awake_anyR v).mono ?_
  rintro e w1 ⟨rfl, hF⟩
  replace HF := hide ((unhide HF).trans hF (fun _ _ t => t))
  replace HTB := hide ((unhide HTB).keep hF)
  clear hF
  have R1 := hide (unhide RA w1 (unhide HF) ao1 cap1 l (unhide HL w1 (unhide HF)) (by have := unhide HLN; omega) l.length rfl ao0 cap0 p (unhide HP w1 (unhide HF)) p.length rfl)
  go_wp2_with (refine wpList_load_tariff rfl (.tmp 4) rfl (g := B) (A := A) (t := t) rfl (unhide HTB) ?_)
  refine (unhide R1).mono ?_
  rintro e w2 ⟨aa, ca, ga, rfl, hKa, hga, hF⟩
  replace HF := hide ((unhide HF).trans hF (fun _ _ t => t))
  replace HTB := hide ((unhide HTB).keep hF)
  clear hF R1 hga
  by_cases h0 : backE t l p.length = 0
  · have HA3 : Hid (appL t l p = backL t.delay l p) := hide (appL_zero h0)
    have HAT := hide (appL_twice h0)
    have HNL : Hid (backE t [] p.length = 0 ∧ appL t [] p = p) := hide ⟨backE_nil h0, appL_nil h0⟩
    have HLS : Hid (l.length ≤ 100) := hide (by
      have h1 := (backE_zero h0).2.1
      unfold ousE ousOk at h1
      by_cases q : l.length ≤ 100
      · exact q
      · rw [decide_eq_false q] at h1; simp at h1)
    have HPL : Hid (p.length ≤ 2000) := hide (backE_zero h0).2.2
    have hal := appL_length h0
    rw [hal, h0]
    have HAL := hide hal
    clear hal h0
    generalize appL t l p = a at *
    have HKa := hide hKa
    clear hKa
    have R2 := hide (unhide RA w2 (unhide HF) none 0 [] (CAt.nil _ _) (by simp) 0 rfl ao0 cap0 p (unhide HP w2 (unhide HF)) p.length rfl)
    go_wp2_with (refine wpList_load_tariff rfl (.tmp 4) rfl (g := B) (A := A) (t := t) rfl (unhide HTB) ?_)
    refine (unhide R2).mono ?_
    rintro e w3 ⟨an, cn, gn, rfl, hKn, hgn, hF⟩
    rw [(unhide HNL).2] at hKn ⊢
    rw [(unhide HNL).1]
    replace HF := hide ((unhide HF).trans hF (fun _ _ t => t))
    replace HTB := hide ((unhide HTB).keep hF)
    replace HKa := hide ((unhide HKa).keep (by omega) hF)
    have HKn := hide hKn
    clear hF R2 hgn hKn HNL
    have R3 := hide (unhide RA w3 (unhide HF) ao1 cap1 l (unhide HL w3 (unhide HF)) (by have := unhide HLN; omega) l.length rfl aa ca a (unhide HKa).cat p.length (unhide HAL).symm)
    go_wp2_with (refine wpList_load_tariff rfl (.tmp 4) rfl (g := B) (A := A) (t := t) rfl (unhide HTB) ?_)
    refine (unhide R3).mono ?_
    rintro e w4 ⟨ag, cg, gg, rfl, hKg, hgg, hF⟩
    rw [(unhide HAT).1] at hKg ⊢
    rw [(unhide HAT).2, unhide HAL]
    replace HF := hide ((unhide HF).trans hF (fun _ _ t => t))
    replace HTB := hide ((unhide HTB).keep hF)
    replace HKa := hide ((unhide HKa).keep (by omega) hF)
    replace HKn := hide ((unhide HKn).keep (by omega) hF)
    have HKg := hide hKg
    clear hF R3 hgg hKg HAT
    obtain ⟨info, hi, hzz⟩ := Option.map_eq_some_iff.1 ouInfo
    simp only [Prod.mk.injEq] at hzz
    obtain ⟨hz0, hs, hy⟩ := hzz
    obtain ⟨z, hz, hzc⟩ := Option.map_eq_some_iff.1 hz0
    have HIN : Hid (Try.prog.info? 54 = some info ∧ info.zero = some z ∧ z.cells.size = 3 ∧ info.size = 3 ∧ info.bytes = 24) := hide ⟨hi, hz, by rw [hzc]; rfl, hs, hy⟩
    clear hz0 hs hy hz hzc hi
    have HSR := hide (CAt.src (unhide HL w4 (unhide HF)) 51 54 3 l.length cap1 (by omega) Try.underlying51 (ouV_length _) (ouV_one _))
    go_wp2_with (at_builtin; refine wpList_append_krow _ rfl (.tmp 55) (.tmp 56) 51 51 rfl 54 info _ 3 (by omega) Try.underlying51 (unhide HIN).1 (unhide HIN).2.1 (unhide HIN).2.2.1 (unhide HIN).2.2.2.1 rfl (KRow.nil w4 0 3) rfl _ (ouV l) l.length rfl (unhide HSR) (by rw [(unhide HIN).2.2.2.2]; have := unhide HLN; omega) (by have := unhide HLN; omega) ?_)
    intro a5 c5 w5 g5 hK5 hG
    have hF : Fr (fun _ => False) w4 w5 := by
      rcases hG with ⟨_, _, f⟩ | ⟨_, _, f⟩
      · exact f.mono (fun q hq e => by omega)
      · exact f
    have HG5 : Hid (0 < c5 → w4.heap.size ≤ g5) := hide (fun hc => by
      rcases hG with ⟨e1, e2, _⟩ | ⟨e1, e2, _⟩
      · omega
      · omega)
    have HF45 := hide hF
    have HK5 : Hid (KRow w5 a5 c5 g5 3 (ouV l)) := hide hK5
    have HLZ : Hid ((ouV l).length = l.length * 3) := hide (ouV_length l)
    have HSR2 := hide (CAt.src (unhide HM w5 ((unhide HF).trans hF (fun _ _ t => t))) 51 54 3 m.length cap2 (by omega) Try.underlying51 (ouV_length _) (ouV_one _))
    clear hF hG hK5 HSR
    go_wp2_with (at_builtin; refine wpList_append_krow _ rfl (.tmp 58) (.tmp 59) 51 51 rfl 54 info _ 3 (by omega) Try.underlying51 (unhide HIN).1 (unhide HIN).2.1 (unhide HIN).2.2.1 (unhide HIN).2.2.2.1 rfl (unhide HK5) (unhide HLZ) _ (ouV m) m.length rfl (unhide HSR2) (by rw [(unhide HIN).2.2.2.2]; have := unhide HMN; have := unhide HLS; omega) (by have := unhide HMN; have := unhide HLS; omega) ?_)
    intro a6 c6 w6 g6 hK6 hG
    have hF : Fr (fun _ => False) w4 w6 := by
      rcases hG with ⟨_, _, f⟩ | ⟨_, _, f⟩
      · exact (unhide HF45).trans f (fun q hq e => by have := unhide HG5 e.2; omega)
      · exact (unhide HF45).trans f (fun _ _ t => t)
    have HC6 : Hid (CAt w6 a6 (ouV (l ++ m))) := hide (by rw [ouV_append]; exact hK6.cat)
    replace HF := hide ((unhide HF).trans hF (fun _ _ t => t))
    replace HTB := hide ((unhide HTB).keep hF)
    replace HKa := hide ((unhide HKa).keep (by omega) hF)
    replace HKn := hide ((unhide HKn).keep (by omega) hF)
    replace HKg := hide ((unhide HKg).keep (by omega) hF)
    clear hF hG hK6 HK5 HLZ HSR2 HF45 HG5 HIN HM HL
    clear z info
    have R4 := hide (unhide RA w6 (unhide HF) a6 c6 (l ++ m) (unhide HC6) (by rw [List.length_append]; have := unhide HMN; have := unhide HLS; omega) (l.length + m.length) (by rw [List.length_append]) ao0 cap0 p (unhide HP w6 (unhide HF)) p.length rfl)
    clear HC6 RA
    go_wp2_with (refine wpList_load_tariff rfl (.tmp 4) rfl (g := B) (A := A) (t := t) rfl (unhide HTB) ?_)
    refine (unhide R4).mono ?_
    rintro e w7 ⟨ab, cb, gb, rfl, hKb, hgb, hF⟩
    replace HF := hide ((unhide HF).trans hF (fun _ _ t => t))
    replace HKa := hide ((unhide HKa).keep (by omega) hF)
    replace HKn := hide ((unhide HKn).keep (by omega) hF)
    replace HKg := hide ((unhide HKg).keep (by omega) hF)
    have HKb := hide hKb
    clear hF R4 hgb hKb HTB
    have S1 := same_catP w7 an ao0 cn cap0 p (unhide HKn).cat (unhide HP w7 (unhide HF)) (by have := unhide HPL; omega) p.length p.length rfl rfl
    go_wp2_with fail
    refine S1.mono ?_
    rintro e w8 ⟨rfl, hF⟩
    replace HF := hide ((unhide HF).trans hF (fun _ _ t => t))
    replace HKa := hide ((unhide HKa).keep (by omega) hF)
    replace HKg := hide ((unhide HKg).keep (by omega) hF)
    replace HKb := hide ((unhide HKb).keep (by omega) hF)
    clear hF S1 HKn
    have S2 := same_catP w8 ag aa cg ca a (unhide HKg).cat (unhide HKa).cat (by have := unhide HPL; have := unhide HAL; omega) p.length p.length (unhide HAL).symm (unhide HAL).symm
    go_wp2_with fail
    refine S2.mono ?_
    rintro e w9 ⟨rfl, hF⟩
    replace HF := hide ((unhide HF).trans hF (fun _ _ t => t))
    replace HKa := hide ((unhide HKa).keep (by omega) hF)
    replace HKb := hide ((unhide HKb).keep (by omega) hF)
    clear hF S2 HKg
    have hself : ((p.length : Int) != (p.length : Int)) = false := by simp
    go_upto_region 15 with (fail)
    clear hself
    have q1 := egJ
    have q2 := eqJ
    have HBL : Hid (backE t (l ++ m) p.length = 0 → appL t (l ++ m) p = backL t.delay (l ++ m) p) := hide appL_zero
    generalize hbe : backE t (l ++ m) p.length = be at *
    generalize hbl : appL t (l ++ m) p = bl at *
    clear hbe hbl
    go_wp2
    go_loopw [21] (fun iv wr => ∃ i : Nat, i ≤ p.length ∧ iv = .int .i64 i ∧ Hid (Fr (fun _ => False) w9 wr)) (fun iv _ => p.length - (intOf iv).toNat)
    case atStart => exact ⟨0, Nat.zero_le _, rfl, hide (Fr.refl _ _)⟩
    case round =>
      obtain ⟨i, hi, rfl, HI⟩ := hrel
      by_cases hil : i < p.length
      · have hlt : (i : Int) < (p.length : Int) := by omega
        have hpl : p.length ≤ 2000 := unhide HPL
        obtain ⟨j, fp, fa, fb, hpi, hai, hbi, hca, hcb⟩ := back_get t.delay l m p i hil
        obtain ⟨g0, off0, hao, kk⟩ := (unhide HP wr ((unhide HF).trans (unhide HI) (fun _ _ t => t))).pj hil
        subst hao
        rw [hpi] at kk
        have hka := (unhide HKa).keep (by omega) (unhide HI)
        rw [unhide HA3] at hka
        obtain ⟨hae, _, ka⟩ := pV_cell hka hai
        subst hae
        have HCB := hide hcb
        have HBI := hide hbi
        obtain ⟨k, f, o, s, n, r⟩ := j
        have k0 : wr.cell? ⟨g0, off0 + i * 7, none⟩ = some (.int .i64 k) := kk 0 (by omega) _ rfl
        have k1 : wr.cell? ⟨g0, off0 + i * 7 + 1, none⟩ = some (.int .i64 f) := kk 1 (by omega) _ rfl
        have k2 : wr.cell? ⟨g0, off0 + i * 7 + 2, none⟩ = some (.int .i64 o) := kk 2 (by omega) _ rfl
        have k3 : wr.cell? ⟨g0, off0 + i * 7 + 3, none⟩ = some (.int .i64 s) := kk 3 (by omega) _ rfl
        have k4 : wr.cell? ⟨g0, off0 + i * 7 + 4, none⟩ = some (.int .i64 n) := kk 4 (by omega) _ rfl
        have k5 : wr.cell? ⟨g0, off0 + i * 7 + 5, none⟩ = some (.bool r) := kk 5 (by omega) _ rfl
        have k6 : wr.cell? ⟨g0, off0 + i * 7 + 6, none⟩ = some (.int .i64 fp) := kk 6 (by omega) _ rfl
        have a0 : wr.cell? ⟨ga, i * 7, none⟩ = some (.int .i64 k) := ka 0 (by omega) _ rfl
        have a1 : wr.cell? ⟨ga, i * 7 + 1, none⟩ = some (.int .i64 f) := ka 1 (by omega) _ rfl
        have a2 : wr.cell? ⟨ga, i * 7 + 2, none⟩ = some (.int .i64 o) := ka 2 (by omega) _ rfl
        have a3 : wr.cell? ⟨ga, i * 7 + 3, none⟩ = some (.int .i64 s) := ka 3 (by omega) _ rfl
        have a4 : wr.cell? ⟨ga, i * 7 + 4, none⟩ = some (.int .i64 n) := ka 4 (by omega) _ rfl
        have a5 : wr.cell? ⟨ga, i * 7 + 5, none⟩ = some (.bool r) := ka 5 (by omega) _ rfl
        have a6 : wr.cell? ⟨ga, i * 7 + 6, none⟩ = some (.int .i64 fa) := ka 6 (by omega) _ rfl
        clear kk ka hka hpi hai hbi hcb
        by_cases hbe : be = 0
        · subst hbe
          have hkb := (unhide HKb).keep (by omega) (unhide HI)
          rw [unhide HBL rfl] at hkb
          obtain ⟨hbe, _, kb⟩ := pV_cell hkb (unhide HBI)
          subst hbe
          have b0 : wr.cell? ⟨gb, i * 7, none⟩ = some (.int .i64 k) := kb 0 (by omega) _ rfl
          have b1 : wr.cell? ⟨gb, i * 7 + 1, none⟩ = some (.int .i64 f) := kb 1 (by omega) _ rfl
          have b2 : wr.cell? ⟨gb, i * 7 + 2, none⟩ = some (.int .i64 o) := kb 2 (by omega) _ rfl
          have b3 : wr.cell? ⟨gb, i * 7 + 3, none⟩ = some (.int .i64 s) := kb 3 (by omega) _ rfl
          have b4 : wr.cell? ⟨gb, i * 7 + 4, none⟩ = some (.int .i64 n) := kb 4 (by omega) _ rfl
          have b5 : wr.cell? ⟨gb, i * 7 + 5, none⟩ = some (.bool r) := kb 5 (by omega) _ rfl
          have b6 : wr.cell? ⟨gb, i * 7 + 6, none⟩ = some (.int .i64 fb) := kb 6 (by omega) _ rfl
          have HLB : Hid (bl.length = p.length) := hide (by rw [unhide HBL rfl, backL_length])
          have hlb : (i : Int) < (bl.length : Int) := by have := unhide HLB; omega
          clear kb hkb HBI HBL HKb HKa
          rcases hca with rfl | ⟨hca, rfl⟩
          · rcases unhide HCB with rfl | ⟨hcb, rfl⟩
            · clear HA3 HAL HP HPL HPN HMN HLN HLS HCB
              go_wp2
              go_quiet (fail)
              go_wp2
              exact ⟨⟨i + 1, by omega, by go_num, hide (by with_reducible (first | exact unhide HI | exact (unhide HI).drew | exact (unhide HI).drewN _))⟩, by simp [intOf] <;> omega⟩
            · have x1 : ((0 : Int) != fa) = true := by simp; omega
              have x2 : ((0 : Int) == fa) = false := by simp; omega
              clear HA3 HAL HP HPL HPN HMN HLN HLS HCB
              go_wp2
              go_quiet (fail)
              go_wp2
              exact ⟨⟨i + 1, by omega, by go_num, hide (by with_reducible (first | exact unhide HI | exact (unhide HI).drew | exact (unhide HI).drewN _))⟩, by simp [intOf] <;> omega⟩
          · rcases unhide HCB with rfl | ⟨hcb, rfl⟩
            · have x1 : ((0 : Int) != fp) = true := by simp; omega
              have x2 : ((0 : Int) == fp) = false := by simp; omega
              clear HA3 HAL HP HPL HPN HMN HLN HLS HCB
              go_wp2
              go_quiet (fail)
              go_wp2
              exact ⟨⟨i + 1, by omega, by go_num, hide (by with_reducible (first | exact unhide HI | exact (unhide HI).drew | exact (unhide HI).drewN _))⟩, by simp [intOf] <;> omega⟩
            · exact absurd rfl hcb
        · have hb2 : (be == 0) = false := by simp [hbe]
          rcases hca with rfl | ⟨hca, rfl⟩
          · clear HA3 HAL HP HPL HPN HMN HLN HLS HCB
            go_wp2
            go_quiet (fail)
            go_wp2
            exact ⟨⟨i + 1, by omega, by go_num, hide (by with_reducible (first | exact unhide HI | exact (unhide HI).drew | exact (unhide HI).drewN _))⟩, by simp [intOf] <;> omega⟩
          · have x1 : ((0 : Int) != fp) = true := by simp; omega
            have x2 : ((0 : Int) == fp) = false := by simp; omega
            clear HA3 HAL HP HPL HPN HMN HLN HLS HCB
            go_wp2
            go_quiet (fail)
            go_wp2
            exact ⟨⟨i + 1, by omega, by go_num, hide (by with_reducible (first | exact unhide HI | exact (unhide HI).drew | exact (unhide HI).drewN _))⟩, by simp [intOf] <;> omega⟩
      · obtain rfl : i = p.length := by omega
        have hlt : ¬ (p.length : Int) < (p.length : Int) := by omega
        have HFF := hide ((unhide HF).trans (unhide HI) (fun _ _ t => t))
        go_wp2
        go_ret
        exact ⟨rfl, unhide HFF⟩
  · have hb2 : (backE t l p.length == 0) = false := by simp [h0]
    have hb3 : (backE t l p.length != 0) = true := by simp [h0]
    rw [appL_none h0]
    clear RA hKa h0
    generalize backE t l p.length = be at *
    go_wp2
    go_ret
    exact ⟨rfl, unhide HF⟩

end Go.Proofs.Ytdbnppbfoohjjaa

