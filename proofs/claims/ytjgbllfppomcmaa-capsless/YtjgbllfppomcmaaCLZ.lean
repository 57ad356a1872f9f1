/- Proved: the law CapsLess answers true for every tariff, week, slice of slices of priced journeys, slice of ints and priced journey, and its arguments read afterwards as they read before. No condition but the form's own reach. -/
import Derived.Test.YtjgbllfppomcmaaCLX
import Derived.Test.YtjgbllfppomcmaaOA
import Derived.Test.YtjgbllfppomcmaaQO1
import Derived.Test.YtjgbllfppomcmaaCOX
/- A fare less is no week more: the walk of CapsLess. -/
namespace Go.Proofs.Ytjgbllfppomcmaa
open Go.RowKit

theorem info_ofP {T : TypeId} {z : Value} {k b : Nat} (h : (Try.prog.info? T).map (fun i => (i.zero, i.size, i.bytes)) = some (some z, k, b)) : ∃ i, Try.prog.info? T = some i ∧ i.zero = some z ∧ i.size = k ∧ i.bytes = b := by
  obtain ⟨i, h1, h2⟩ := Option.map_eq_some_iff.1 h
  simp only [Prod.mk.injEq] at h2
  exact ⟨i, h1, h2.1, h2.2.1, h2.2.2⟩

set_option maxHeartbeats 16000000 in
set_option maxRecDepth 20000 in
theorem less_walkC (w : World) (A : Ad) (t : Tf) (h : TAt w A t) (week : Int) (ao : Option Addr) (cap : Nat) (ts : List PrA) (hp : PrsAt w ao ts) (hcap : ts.length ≤ cap) (htn : (ts.length + 100) * 24 ≤ 140737488355328) (ao1 : Option Addr) (cap1 : Nat) (os : List Int) (ho : CAt w ao1 (os.map (Value.int .i64))) (hon : os.length ≤ 140737488355328) (more : Jn × Int) :
    Calls Try.prog 3 #[tv A t, .int .i64 week, .slice ao ts.length cap, .slice ao1 os.length cap1, .agg (pC more)] w fun e w' => e = .returned (.bool true) ∧ Fr (fun _ => False) w w' := by
  have HT := hide (fun (u : World) (hu : Fr (fun _ => False) w u) => h.keep hu)
  have HP := hide (fun (u : World) (hu : Fr (fun _ => False) w u) => hp.keep hu)
  have HO := hide (fun (u : World) (hu : Fr (fun _ => False) w u) => ho.keep hu)
  have HTN := hide (And.intro hcap htn)
  have HON := hide hon
  obtain ⟨v, hv⟩ : ∃ v, v = (w.alloc (.cells (tc A t) 27)).alloc (.cells (pC more) 33) := ⟨_, rfl⟩
  have HF : Hid (Fr (fun _ => False) w v) := hide (by rw [hv]; exact ((Fr.refl _ w).alloc _).alloc _)
  have HTB : Hid (TB v w.heap.size A t) := hide (by rw [hv]; exact (TB.new w A t).keep ((Fr.refl _ _).alloc _))
  have HJ : Hid (Bx v (w.heap.size + 1) (pC more) 33) := hide (by
    rw [hv, ← heap_alloc w (.cells (tc A t) 27)]; exact Bx.new _ _ _)
  obtain ⟨B, hB⟩ : ∃ B, B = w.heap.size := ⟨_, rfl⟩
  rw [← hB] at HTB HJ
  have HV := hide hv
  have HB := hide hB
  clear hv hB h hp ho hcap htn hon
  unfold tv
  unfold tc at HV ⊢
  go_enter Try.func3, Try.ntmps3
  unfold pC at HV ⊢
  go_upto_region 1 with (fail)
  rw [← unhide HV, ← unhide HB]
  clear HV
  go_wp2_with fail
  refine (awake_anyC v).mono ?_
  rintro e w1 ⟨rfl, hF⟩
  replace HF := hide ((unhide HF).trans hF (fun _ _ t => t))
  replace HTB := hide ((unhide HTB).keep hF)
  replace HJ := hide ((unhide HJ).keep hF)
  clear hF
  rcases (by omega : week < 0 ∨ (¬ week < 0 ∧ 100000 < week) ∨ (¬ week < 0 ∧ ¬ 100000 < week)) with k1 | ⟨k1, k2⟩ | ⟨k1, k2⟩
  · go_wp2
    go_ret
    exact ⟨rfl, unhide HF⟩
  · go_wp2
    go_ret
    exact ⟨rfl, unhide HF⟩
  · have hw7 : IntKind.i64.wrap (7 * week) = 7 * week := by rw [IntKind.wrap_i64]; omega
    have HK : Hid (0 ≤ week ∧ week ≤ 100000) := hide (by omega)
    have RD := hide (days_anyC w1 A t (unhide HT w1 (unhide HF)) (7 * week) (by omega) (by omega) ao cap ts (unhide HP w1 (unhide HF)))
    unfold tv at RD
    go_wp2_with (refine wpList_load_tariff rfl (.tmp 5) rfl (g := B) (A := A) (t := t) rfl (unhide HTB) ?_)
    refine (unhide RD).mono ?_
    rintro e w2 ⟨hF, hno, hyes⟩
    replace HF := hide ((unhide HF).trans hF (fun _ _ t => t))
    replace HTB := hide ((unhide HTB).keep hF)
    replace HJ := hide ((unhide HJ).keep hF)
    clear hF RD hw7 k1 k2
    cases hb : daysB t (7 * week) (ts.take 7) with
    | false =>
      obtain rfl := hno hb
      clear hno hyes hb HK
      go_wp2
      go_ret
      exact ⟨rfl, unhide HF⟩
    | true =>
      obtain ⟨a2, c2, g2, rfl, hK, hg⟩ := hyes hb
      have HBT := hide hb
      have HL7 : Hid ((ts.take 7).length ≤ 7) := hide (by rw [List.length_take]; omega)
      have hdl := daysL_length t (ts.take 7) (7 * week)
      rw [← hdl]
      have HKR := hide hK
      have HDL := hide hdl
      clear hdl hno hyes hb hg hK
      obtain ⟨L, hL⟩ : ∃ L, daysL t (7 * week) (ts.take 7) = L := ⟨_, rfl⟩
      rw [hL] at HDL HKR ⊢
      have HLE := hide hL
      clear hL
      have RW := hide (capsWeek_any w2 A t (unhide HT w2 (unhide HF)) a2 c2 L (unhide HKR).cat)
      unfold tv at RW
      have HWE : Hid (wkE t L = rightE t) := hide (by
        by_cases q : rightE t = 0
        · rw [q, ← unhide HLE]
          exact (wk_good q (unhide HK).1 (unhide HK).2 (unhide HL7) (unhide HBT)).1
        · unfold wkE
          rw [if_neg q])
      rw [unhide HWE] at RW
      clear HWE
      go_wp2_with (refine wpList_load_tariff rfl (.tmp 5) rfl (g := B) (A := A) (t := t) rfl (unhide HTB) ?_)
      refine (unhide RW).mono ?_
      rintro e w3 ⟨rfl, hF⟩
      replace HF := hide ((unhide HF).trans hF (fun _ _ t => t))
      replace HTB := hide ((unhide HTB).keep hF)
      replace HJ := hide ((unhide HJ).keep hF)
      replace HKR := hide ((unhide HKR).keep (by omega) hF)
      clear hF RW
      by_cases hr : rightE t = 0
      case neg =>
        have hb2 : (rightE t == 0) = false := by simp [hr]
        have hb3 : (rightE t != 0) = true := by simp [hr]
        clear hr
        generalize rightE t = rr at *
        go_wp2
        go_ret
        exact ⟨rfl, unhide HF⟩
      case pos =>
        rw [hr]
        have HRT := hide hr
        have HWL : Hid (wkR t L = wkV t L) := hide (by rw [← unhide HLE]; exact (wk_good hr (unhide HK).1 (unhide HK).2 (unhide HL7) (unhide HBT)).2)
        rw [unhide HWL]
        clear hr HWL
        generalize hnn : wkV t L = nn at *
        have HNN := hide hnn
        clear hnn
        have HFEW : Hid (∀ i (hi : i < (ts.take 7).length), (ts.take 7)[i].ps.length ≤ 2000) := hide (fun i hi => by
          have hh : ∀ (l : List PrA) (f : Int), daysB t f l = true → ∀ i (h : i < l.length), l[i].ps.length ≤ 2000 := by
            intro l
            induction l with
            | nil => intro f _ i h; exact absurd h (by simp)
            | cons x r ih =>
              intro f hb i h
              rw [daysB, Bool.and_eq_true, decide_eq_true_eq] at hb
              cases i with
              | zero => exact (dE_zero.1 hb.1).2.1
              | succ i => exact ih (f + 1) hb.2 i (by simpa using h)
          exact hh _ _ (unhide HBT) i hi)
        obtain ⟨info, hi, hzz⟩ := Option.map_eq_some_iff.1 pInfo
        simp only [Prod.mk.injEq] at hzz
        obtain ⟨hz0, hs, hy⟩ := hzz
        obtain ⟨z, hz, hzc⟩ := Option.map_eq_some_iff.1 hz0
        have HIN : Hid (Try.prog.info? 33 = some info ∧ info.zero = some z ∧ z.cells.size = 7 ∧ info.size = 7 ∧ info.bytes = 56) := hide ⟨hi, hz, by rw [hzc]; rfl, hs, hy⟩
        obtain ⟨infs, hi2, hz2, hs2, hy2⟩ := info_ofP psInfo
        have HIS : Hid (Try.prog.info? 41 = some infs ∧ infs.zero = some (.slice none 0 0) ∧ infs.size = 1 ∧ infs.bytes = 24) := hide ⟨hi2, hz2, hs2, hy2⟩
        clear hz0 hs hy hz hzc hi hi2 hz2 hs2 hy2
        have HS0 : Hid (Fr (fun _ => False) w3 w3 ∧ PRs w3.heap.size w3 none 0 0 [] ∧ All2 (fun x y : PrA => All2 FallP x.ps y.ps) (ts.take 0) (([] : List PRo).map PRo.arg)) := hide ⟨Fr.refl _ _, PRs.nil _ _, trivial⟩
        have hl7 := unhide HL7
        have htl : ts.length ≤ 140737488355328 := by have := (unhide HTN).2; omega
        go_wp2
        go_loopw [16, 17, 18, 19, 20, 21] (fun fv kv iv _ _ _ wr => ∃ (i kk : Nat) (af : Option Addr) (cf gf : Nat) (ds : List PRo), i ≤ ts.length ∧ i ≤ 7 ∧ kk ≤ i * 2000 ∧ fv = .slice af i cf ∧ kv = .int .i64 kk ∧ iv = .int .i64 i ∧ Hid (ds.length = i) ∧ Hid (Fr (fun _ => False) w3 wr ∧ PRs w3.heap.size wr af cf gf ds ∧ All2 (fun x y : PrA => All2 FallP x.ps y.ps) (ts.take i) (ds.map PRo.arg))) (fun _ _ iv _ _ _ _ => 7 - (intOf iv).toNat)
        case atStart => exact ⟨0, 0, none, 0, 0, [], Nat.zero_le _, by omega, by omega, rfl, rfl, rfl, hide rfl, HS0⟩
        case round =>
          obtain ⟨i, kk, af, cf, gf, ds, hi, hi7, hkk, rfl, rfl, rfl, HDS, HI⟩ := hrel
          clear HS0
          by_cases hin : i < ts.length ∧ i < 7
          · skip
            obtain ⟨hil, h7⟩ := hin
            have hlt : (i : Int) < (ts.length : Int) := by omega
            have hlt7 : (i : Int) < 7 := by omega
            have HFW : Hid (Fr (fun _ => False) w wr) := hide ((unhide HF).trans (unhide HI).1 (fun _ _ t => t))
            obtain ⟨wi, hwi⟩ : ∃ x, x = wr := ⟨_, rfl⟩
            subst hwi
            obtain ⟨b0, off0, hao, kc⟩ := (unhide HP wi (unhide HFW)).cells (by omega)
            subst hao
            have d14 := kc i hil
            have HCR := hide ((unhide HP wi (unhide HFW)).each ts[i] (List.getElem_mem hil))
            have HTK : Hid (ts.take (i + 1) = ts.take i ++ [ts[i]]) := hide (List.take_succ_eq_append_getElem hil)
            have hfew := unhide HFEW i (by rw [List.length_take]; omega)
            rw [List.getElem_take] at hfew
            clear kc
            generalize ts[i] = x at *
            obtain ⟨io, ic, ps⟩ := x
            simp only at d14 hfew
            have HD14 : Hid (∀ u, Fr (fun _ => False) wi u → u.cell? ⟨b0, off0 + i, none⟩ = some (.slice io ps.length ic)) := hide (fun u hf => (hf.cell (World.block_lt_of_cell? _ _ d14) (fun t => t)).trans d14)
            have HR0 : Hid (Fr (fun _ => False) wi wi ∧ KRow wi none 0 0 7 (pV []) ∧ ((0 : Nat) < 0 → wi.heap.size ≤ 0) ∧ All2 FallP (ps.take 0) []) := hide ⟨Fr.refl _ _, KRow.nil _ _ _, fun h => absurd h (by omega), trivial⟩
            clear d14
            go_wp2
            go_loopw [17, 19, 20, 21] (fun kv rv mv _ wq => ∃ (q k2 : Nat) (ar : Option Addr) (cr gr : Nat) (qs : List (Jn × Int)), q ≤ ps.length ∧ k2 ≤ i * 2000 + q ∧ kv = .int .i64 k2 ∧ rv = .slice ar q cr ∧ mv = .int .i64 q ∧ Hid (qs.length = q) ∧ Hid (Fr (fun _ => False) wi wq ∧ KRow wq ar cr gr 7 (pV qs) ∧ (0 < cr → wi.heap.size ≤ gr) ∧ All2 FallP (ps.take q) qs)) (fun _ _ mv _ _ => ps.length - (intOf mv).toNat)
            case atStart => exact ⟨0, kk, none, 0, 0, [], Nat.zero_le _, by omega, rfl, rfl, rfl, hide rfl, HR0⟩
            case round =>
              obtain ⟨q, k2, ar, cr, gr, qs, hq, hk2, rfl, rfl, rfl, HQS, HQ⟩ := hrel
              clear HR0
              obtain ⟨w4, hw4⟩ : ∃ x, x = wr := ⟨_, rfl⟩
              subst hw4
              have d14 := unhide HD14 w4 (unhide HQ).1
              by_cases hql : q < ps.length
              · skip
                have hltq : (q : Int) < (ps.length : Int) := by omega
                have hi7 : (q : Int) ≤ 2000 := by omega
                obtain ⟨i1, i2, i3, i4⟩ := unhide HQ
                obtain ⟨b1, off1, hio, kk7⟩ := ((unhide HCR).keep i1).pj hql
                try simp only at hio
                subst hio
                have HPS : Hid (ps.take (q + 1) = ps.take q ++ [ps[q]]) := hide (List.take_succ_eq_append_getElem hql)
                generalize ps[q] = y at *
                obtain ⟨⟨k, f, o, s, n, r⟩, m⟩ := y
                have x0 : w4.cell? ⟨b1, off1 + q * 7, none⟩ = some (.int .i64 k) := kk7 0 (by omega) _ rfl
                have x1 : w4.cell? ⟨b1, off1 + q * 7 + 1, none⟩ = some (.int .i64 f) := kk7 1 (by omega) _ rfl
                have x2 : w4.cell? ⟨b1, off1 + q * 7 + 2, none⟩ = some (.int .i64 o) := kk7 2 (by omega) _ rfl
                have x3 : w4.cell? ⟨b1, off1 + q * 7 + 3, none⟩ = some (.int .i64 s) := kk7 3 (by omega) _ rfl
                have x4 : w4.cell? ⟨b1, off1 + q * 7 + 4, none⟩ = some (.int .i64 n) := kk7 4 (by omega) _ rfl
                have x5 : w4.cell? ⟨b1, off1 + q * 7 + 5, none⟩ = some (.bool r) := kk7 5 (by omega) _ rfl
                have x6 : w4.cell? ⟨b1, off1 + q * 7 + 6, none⟩ = some (.int .i64 m) := kk7 6 (by omega) _ rfl
                clear kk7
                go_upto_region 20 with (fail)
                obtain ⟨u1, hu1⟩ : ∃ u1, u1 = w4.alloc (.cells #[.int .i64 k, .int .i64 f, .int .i64 o, .int .i64 s, .int .i64 n, .bool r, .int .i64 m] 33) := ⟨_, rfl⟩
                obtain ⟨X, hX⟩ : ∃ X, X = w4.heap.size := ⟨_, rfl⟩
                rw [← hu1, ← hX]
                have hFa : Fr (fun _ => False) w4 u1 := by rw [hu1]; exact (Fr.refl _ _).alloc _
                have HBX : Hid (Bx u1 X (pC (⟨k, f, o, s, n, r⟩, m)) 33) := hide (by rw [hu1, hX]; exact Bx.new _ _ _)
                have HXN : Hid (wi.heap.size ≤ X ∧ (0 < cr → gr < X)) := hide (by rw [hX]; exact ⟨i1.size, fun hc => i2.lt (by omega) hc⟩)
                have J1 := hide (i1.trans hFa (fun _ _ t => t))
                have J2 := hide (i2.keep (by omega) hFa)
                have J3 := hide i3
                have J4 := hide i4
                have hw0 := unhide HFW
                have HOS := hide (fun (u : World) (hu : Fr (fun _ => False) wi u) => unhide HO u (hw0.trans hu (fun _ _ t => t)))
                clear i1 i2 i3 i4 HQ hFa hu1 hX x0 x1 x2 x3 x4 x5 x6 d14 hw0
                have y0 : u1.cell? ⟨X, 0, none⟩ = some (.int .i64 k) := (unhide HBX).cell 0
                have y6 : u1.cell? ⟨X, 6, none⟩ = some (.int .i64 m) := (unhide HBX).cell 6
                have f6 : u1.frozen? ⟨X, 6, none⟩ = false := (unhide HBX).frozen 6
                obtain ⟨le, hle⟩ : ∃ le : Int, ∀ (h : k2 < os.length), os[k2] = le := ⟨os[k2]?.getD 0, fun h => by simp [h]⟩
                have HLEQ := hide hle
                clear hle
                have HNO : Hid (false = true → k2 < os.length ∧ ¬ k = 4 ∧ 0 ≤ le ∧ le < m) := hide (fun h => absurd h Bool.false_ne_true)
                go_cut [111] from 86 to 111 (fun cv wd => ∃ bb : Bool, cv = .bool bb ∧ Hid ((bb = true → k2 < os.length ∧ ¬ k = 4 ∧ 0 ≤ le ∧ le < m) ∧ Fr (fun _ => False) u1 wd))
                case first => as_aux_lemma =>
                  by_cases hko : k2 < os.length
                  · have hlk : (k2 : Int) < (os.length : Int) := by omega
                    obtain ⟨b2, off2, hao2, c0⟩ := (unhide HOS u1 (unhide J1)).ints hko
                    subst hao2
                    rw [unhide HLEQ hko] at c0
                    by_cases hk4 : k = 4
                    · subst hk4
                      go_quiet (fail)
                      go_wp2
                      go_meet
                      exact ⟨false, rfl, hide ⟨unhide HNO, by with_reducible (first | exact Fr.refl _ _ | exact (Fr.refl _ _).drew | exact (Fr.refl _ _).drewN _)⟩⟩
                    · have hb4 : (k == 4) = false := by simp [hk4]
                      have hb5 : (k != 4) = true := by simp [hk4]
                      have HK4 := hide hk4
                      clear hk4
                      by_cases hl0 : 0 ≤ le
                      · by_cases hlm : le < m
                        · have HALL := hide (And.intro hko (And.intro (unhide HK4) (And.intro hl0 hlm)))
                          go_quiet (fail)
                          go_wp2
                          go_meet
                          exact ⟨true, rfl, hide ⟨fun _ => unhide HALL, by with_reducible (first | exact Fr.refl _ _ | exact (Fr.refl _ _).drew | exact (Fr.refl _ _).drewN _)⟩⟩
                        · go_quiet (fail)
                          go_wp2
                          go_meet
                          exact ⟨false, rfl, hide ⟨unhide HNO, by with_reducible (first | exact Fr.refl _ _ | exact (Fr.refl _ _).drew | exact (Fr.refl _ _).drewN _)⟩⟩
                      · go_quiet (fail)
                        go_wp2
                        go_meet
                        exact ⟨false, rfl, hide ⟨unhide HNO, by with_reducible (first | exact Fr.refl _ _ | exact (Fr.refl _ _).drew | exact (Fr.refl _ _).drewN _)⟩⟩
                  · have hlk : ¬ (k2 : Int) < (os.length : Int) := by omega
                    go_quiet (fail)
                    go_wp2
                    go_meet
                    exact ⟨false, rfl, hide ⟨unhide HNO, by with_reducible (first | exact Fr.refl _ _ | exact (Fr.refl _ _).drew | exact (Fr.refl _ _).drewN _)⟩⟩
                case rest =>
                  obtain ⟨bb, rfl, HC⟩ := hcut
                  obtain ⟨hbb, hf0⟩ := unhide HC
                  replace J1 := hide ((unhide J1).trans hf0 (fun _ _ t => t))
                  replace J2 := hide ((unhide J2).keep (by omega) hf0)
                  replace HBX := hide ((unhide HBX).keep hf0)
                  clear y0 y6 f6 HC hf0 HNO
                  obtain ⟨u1, hu1⟩ : ∃ x, x = wc := ⟨_, rfl⟩
                  subst hu1
                  cases bb with
                  | false =>
                    obtain ⟨m2, hm2⟩ : ∃ m2, m2 = m := ⟨_, rfl⟩
                    subst hm2
                    have hfp : FallP (⟨k, f, o, s, n, r⟩, m2) (⟨k, f, o, s, n, r⟩, m2) := ⟨rfl, .inl rfl⟩
                    have hbx := unhide HBX
                    have hf : Fr (fun q => q = X) u1 u1 := Fr.refl _ _
                    obtain ⟨wc, hwc⟩ : ∃ x, x = u1 := ⟨_, rfl⟩
                    have hf : Fr (fun q => q = X) u1 wc := by rw [hwc]; exact Fr.refl _ _
                    rw [← hwc] at hbx ⊢
                    clear hwc hbb
                    have hxn := unhide HXN
                    have K1 : Hid (Fr (fun _ => False) wi wc) := hide ((unhide J1).trans hf (fun q hq e => by omega))
                    have K2 : Hid (KRow wc ar cr gr 7 (pV qs)) := hide ((unhide J2).stay (fun hc => hf.block _ ((unhide J2).lt (by omega) hc) (by have := hxn.2 hc; omega)))
                    have HFP := hide hfp
                    have HBW := hide hbx
                    have HSR := hide (src_new' wc (pL (⟨k, f, o, s, n, r⟩, m2)) 41 33 7 Try.underlying41 rfl (pL_one _) (W := wc.alloc (.cells #[.int .i64 k, .int .i64 f, .int .i64 o, .int .i64 s, .int .i64 n, .bool r, .int .i64 m2] 33)) (fun j => by rw [World.cell?_alloc_new]; exact List.getElem?_toArray.symm ▸ rfl))
                    have K3 := hide ((unhide K2).keep (by omega) ((Fr.refl (fun _ => False) wc).alloc (.cells #[.int .i64 k, .int .i64 f, .int .i64 o, .int .i64 s, .int .i64 n, .bool r, .int .i64 m2] 33)))
                    have HQL : Hid ((pV qs).length = q * 7) := hide (by rw [pV_length, unhide HQS])
                    have hq2 : q ≤ 2000 := by omega
                    clear hbx hf hxn J1 J2 HBX hfp HOS HLEQ
                    have y0 : wc.cell? ⟨X, 0, none⟩ = some (.int .i64 k) := (unhide HBW).cell 0
                    have y1 : wc.cell? ⟨X, 1, none⟩ = some (.int .i64 f) := (unhide HBW).cell 1
                    have y2 : wc.cell? ⟨X, 2, none⟩ = some (.int .i64 o) := (unhide HBW).cell 2
                    have y3 : wc.cell? ⟨X, 3, none⟩ = some (.int .i64 s) := (unhide HBW).cell 3
                    have y4 : wc.cell? ⟨X, 4, none⟩ = some (.int .i64 n) := (unhide HBW).cell 4
                    have y5 : wc.cell? ⟨X, 5, none⟩ = some (.bool r) := (unhide HBW).cell 5
                    have y6 : wc.cell? ⟨X, 6, none⟩ = some (.int .i64 m2) := (unhide HBW).cell 6
                    go_wp2_with (at_builtin; refine wpList_append_krow _ rfl (.tmp 119) (.tmp 121) 41 41 rfl 33 info _ 7 (by omega) Try.underlying41 (unhide HIN).1 (unhide HIN).2.1 (unhide HIN).2.2.1 (unhide HIN).2.2.2.1 rfl (unhide K3) (unhide HQL) _ _ 1 rfl (unhide HSR) (by rw [(unhide HIN).2.2.2.2]; omega) (by omega) ?_)
                    intro ar' cr' w5 gr' hK hG
                    have hal : Fr (fun _ => False) wc (wc.alloc (.cells #[.int .i64 k, .int .i64 f, .int .i64 o, .int .i64 s, .int .i64 n, .bool r, .int .i64 m2] 33)) := (Fr.refl _ wc).alloc _
                    have HS1 : Hid (Fr (fun _ => False) wi w5 ∧ KRow w5 ar' cr' gr' 7 (pV (qs ++ [(⟨k, f, o, s, n, r⟩, m2)])) ∧ (0 < cr' → wi.heap.size ≤ gr') ∧ All2 FallP (ps.take (q + 1)) (qs ++ [(⟨k, f, o, s, n, r⟩, m2)])) := hide (by
                      have hgf : Fr (fun q => q = gr ∧ 0 < cr) wc w5 := by
                        rcases hG with ⟨_, _, f⟩ | ⟨_, _, f⟩
                        · exact (hal.mono (fun _ _ t => t.elim)).trans f (fun _ _ t => t)
                        · exact (hal.trans f (fun _ _ t => t)).mono (fun _ _ t => t.elim)
                      refine ⟨(unhide K1).trans hgf (fun q hq e => by have := unhide J3 e.2; have := e.1; omega), ?_, fun hc' => ?_, by rw [unhide HPS]; exact (unhide J4).snoc (unhide HFP)⟩
                      · have e2 : pV (qs ++ [(⟨k, f, o, s, n, r⟩, m2)]) = pV qs ++ pL (⟨k, f, o, s, n, r⟩, m2) := by simp [pV]
                        rw [e2]
                        exact hK
                      · have hs1 := (unhide K1).size
                        have hs2 := hal.size
                        rcases hG with ⟨e1, e2, _⟩ | ⟨e1, _, _⟩
                        · rw [e1]; exact unhide J3 (by omega)
                        · omega)
                    have HQ2 : Hid ((qs ++ [((⟨k, f, o, s, n, r⟩ : Jn), m2)]).length = q + 1) := hide (by rw [List.length_append, unhide HQS]; rfl)
                    clear hK hG hal K1 K2 K3 HSR HQL HFP HPS J3 J4 HBW HXN
                    go_wp2
                    exact ⟨⟨q + 1, k2 + 1, ar', cr', gr', _, by omega, by omega, by go_num, rfl, by go_num, HQ2, HS1⟩, by simp [intOf] <;> omega⟩
                  | true =>
                    obtain ⟨hko, hk4, hl0, hlm⟩ := hbb rfl
                    have hlk : (k2 : Int) < (os.length : Int) := by omega
                    obtain ⟨b2, off2, hao2, c0⟩ := (unhide HOS u1 (unhide J1)).ints hko
                    subst hao2
                    rw [unhide HLEQ hko] at c0
                    have y6 : u1.cell? ⟨X, 6, none⟩ = some (.int .i64 m) := (unhide HBX).cell 6
                    have f6 : u1.frozen? ⟨X, 6, none⟩ = false := (unhide HBX).frozen 6
                    have hfp : FallP (⟨k, f, o, s, n, r⟩, m) (⟨k, f, o, s, n, r⟩, le) := ⟨rfl, .inr ⟨hk4, hl0, hlm⟩⟩
                    have HFP0 := hide hfp
                    clear hk4 hl0 hlm hfp hbb
                    go_upto_region 22 with (fail)
                    obtain ⟨wc, hwc⟩ : ∃ x, x = u1.setCell ⟨X, 6, none⟩ (.int .i64 le) := ⟨_, rfl⟩
                    rw [← hwc]
                    have hf : Fr (fun q => q = X) u1 wc := by rw [hwc]; exact Fr.setOwn (Fr.refl _ _) _ _
                    have hbx : Bx wc X (pC (⟨k, f, o, s, n, r⟩, le)) 33 := by rw [hwc]; exact (unhide HBX).setCell 6 (.int .i64 le)
                    have hfp := unhide HFP0
                    clear hwc y6 f6 c0 hko hlk HFP0
                    obtain ⟨m2, hm2⟩ : ∃ m2, m2 = le := ⟨_, rfl⟩
                    subst hm2
                    have hxn := unhide HXN
                    have K1 : Hid (Fr (fun _ => False) wi wc) := hide ((unhide J1).trans hf (fun q hq e => by omega))
                    have K2 : Hid (KRow wc ar cr gr 7 (pV qs)) := hide ((unhide J2).stay (fun hc => hf.block _ ((unhide J2).lt (by omega) hc) (by have := hxn.2 hc; omega)))
                    have HFP := hide hfp
                    have HBW := hide hbx
                    have HSR := hide (src_new' wc (pL (⟨k, f, o, s, n, r⟩, m2)) 41 33 7 Try.underlying41 rfl (pL_one _) (W := wc.alloc (.cells #[.int .i64 k, .int .i64 f, .int .i64 o, .int .i64 s, .int .i64 n, .bool r, .int .i64 m2] 33)) (fun j => by rw [World.cell?_alloc_new]; exact List.getElem?_toArray.symm ▸ rfl))
                    have K3 := hide ((unhide K2).keep (by omega) ((Fr.refl (fun _ => False) wc).alloc (.cells #[.int .i64 k, .int .i64 f, .int .i64 o, .int .i64 s, .int .i64 n, .bool r, .int .i64 m2] 33)))
                    have HQL : Hid ((pV qs).length = q * 7) := hide (by rw [pV_length, unhide HQS])
                    have hq2 : q ≤ 2000 := by omega
                    clear hbx hf hxn J1 J2 HBX hfp HOS HLEQ
                    have y0 : wc.cell? ⟨X, 0, none⟩ = some (.int .i64 k) := (unhide HBW).cell 0
                    have y1 : wc.cell? ⟨X, 1, none⟩ = some (.int .i64 f) := (unhide HBW).cell 1
                    have y2 : wc.cell? ⟨X, 2, none⟩ = some (.int .i64 o) := (unhide HBW).cell 2
                    have y3 : wc.cell? ⟨X, 3, none⟩ = some (.int .i64 s) := (unhide HBW).cell 3
                    have y4 : wc.cell? ⟨X, 4, none⟩ = some (.int .i64 n) := (unhide HBW).cell 4
                    have y5 : wc.cell? ⟨X, 5, none⟩ = some (.bool r) := (unhide HBW).cell 5
                    have y6 : wc.cell? ⟨X, 6, none⟩ = some (.int .i64 m2) := (unhide HBW).cell 6
                    go_wp2_with (at_builtin; refine wpList_append_krow _ rfl (.tmp 119) (.tmp 121) 41 41 rfl 33 info _ 7 (by omega) Try.underlying41 (unhide HIN).1 (unhide HIN).2.1 (unhide HIN).2.2.1 (unhide HIN).2.2.2.1 rfl (unhide K3) (unhide HQL) _ _ 1 rfl (unhide HSR) (by rw [(unhide HIN).2.2.2.2]; omega) (by omega) ?_)
                    intro ar' cr' w5 gr' hK hG
                    have hal : Fr (fun _ => False) wc (wc.alloc (.cells #[.int .i64 k, .int .i64 f, .int .i64 o, .int .i64 s, .int .i64 n, .bool r, .int .i64 m2] 33)) := (Fr.refl _ wc).alloc _
                    have HS1 : Hid (Fr (fun _ => False) wi w5 ∧ KRow w5 ar' cr' gr' 7 (pV (qs ++ [(⟨k, f, o, s, n, r⟩, m2)])) ∧ (0 < cr' → wi.heap.size ≤ gr') ∧ All2 FallP (ps.take (q + 1)) (qs ++ [(⟨k, f, o, s, n, r⟩, m2)])) := hide (by
                      have hgf : Fr (fun q => q = gr ∧ 0 < cr) wc w5 := by
                        rcases hG with ⟨_, _, f⟩ | ⟨_, _, f⟩
                        · exact (hal.mono (fun _ _ t => t.elim)).trans f (fun _ _ t => t)
                        · exact (hal.trans f (fun _ _ t => t)).mono (fun _ _ t => t.elim)
                      refine ⟨(unhide K1).trans hgf (fun q hq e => by have := unhide J3 e.2; have := e.1; omega), ?_, fun hc' => ?_, by rw [unhide HPS]; exact (unhide J4).snoc (unhide HFP)⟩
                      · have e2 : pV (qs ++ [(⟨k, f, o, s, n, r⟩, m2)]) = pV qs ++ pL (⟨k, f, o, s, n, r⟩, m2) := by simp [pV]
                        rw [e2]
                        exact hK
                      · have hs1 := (unhide K1).size
                        have hs2 := hal.size
                        rcases hG with ⟨e1, e2, _⟩ | ⟨e1, _, _⟩
                        · rw [e1]; exact unhide J3 (by omega)
                        · omega)
                    have HQ2 : Hid ((qs ++ [((⟨k, f, o, s, n, r⟩ : Jn), m2)]).length = q + 1) := hide (by rw [List.length_append, unhide HQS]; rfl)
                    clear hK hG hal K1 K2 K3 HSR HQL HFP HPS J3 J4 HBW HXN
                    go_wp2
                    exact ⟨⟨q + 1, k2 + 1, ar', cr', gr', _, by omega, by omega, by go_num, rfl, by go_num, HQ2, HS1⟩, by simp [intOf] <;> omega⟩
              · obtain rfl : q = ps.length := by omega
                have hltq : ¬ (ps.length : Int) < (ps.length : Int) := by omega
                obtain ⟨i1, i2, i3, i4⟩ := unhide HQ
                obtain ⟨o1, o2, o3⟩ := unhide HI
                have hql := unhide HQS
                have HAW : Hid (Fr (fun _ => False) w4 (w4.alloc (.cells #[.slice ar ps.length cr] 41))) := hide ((Fr.refl _ w4).alloc _)
                have K1 := hide (i1.trans (unhide HAW) (fun _ _ t => t))
                have K2 := hide ((o2.row.keep (by omega) i1).keep (by omega) (unhide HAW))
                have K3 := hide (i2.keep (by omega) (unhide HAW))
                have HSR := hide (src_new' w4 [.slice ar ps.length cr] 28 41 1 Try.underlying28 rfl (fun u hu => by rw [List.mem_singleton] at hu; rw [hu]; rfl) (W := w4.alloc (.cells #[.slice ar ps.length cr] 41)) (fun j => by rw [World.cell?_alloc_new]; exact List.getElem?_toArray.symm ▸ rfl))
                have HDL2 : Hid ((ds.map PRo.val).length = i * 1) := hide (by rw [List.length_map, unhide HDS, Nat.mul_one])
                have hkb : k2 ≤ (i + 1) * 2000 := by omega
                have HKB := hide hkb
                have O1 := hide o1
                have O2 := hide o2
                have O3 := hide o3
                have I3 := hide i3
                have I4 := hide i4
                clear i1 i2 i3 i4 o1 o2 o3 HQ HI hql
                go_wp2_with (at_builtin; refine wpList_append_krow _ rfl (.tmp 123) (.tmp 125) 28 28 rfl 41 infs _ 1 (by omega) Try.underlying28 (unhide HIS).1 (unhide HIS).2.1 rfl (unhide HIS).2.2.1 rfl (unhide K2) (unhide HDL2) _ _ 1 rfl (unhide HSR) (by rw [(unhide HIS).2.2.2]; omega) (by omega) ?_)
                intro af' cf' w5 gf' hK hG
                have HS1 : Hid (Fr (fun _ => False) w3 w5 ∧ PRs w3.heap.size w5 af' cf' gf' (ds ++ [⟨ar, cr, gr, qs⟩]) ∧ All2 (fun x y : PrA => All2 FallP x.ps y.ps) (ts.take (i + 1)) ((ds ++ [(⟨ar, cr, gr, qs⟩ : PRo)]).map PRo.arg)) := hide (by
                  have hql := unhide HQS
                  have hgf : Fr (fun q => q = gf ∧ 0 < cf) (w4.alloc (.cells #[.slice ar ps.length cr] 41)) w5 := by
                    rcases hG with ⟨_, _, f⟩ | ⟨_, _, f⟩
                    · exact f
                    · exact f.mono (fun _ _ t => t.elim)
                  have hnew := (unhide O2).new
                  refine ⟨((unhide O1).trans (unhide K1) (fun _ _ t => t)).trans hgf (fun q hq e => by have := hnew e.2; have := e.1; omega), (unhide O2).app (unhide O1).size (unhide K1) ⟨ar, cr, gr, qs⟩ (unhide K3) (unhide I3) (by rw [show PRo.val ⟨ar, cr, gr, qs⟩ = .slice ar ps.length cr from by (unfold PRo.val; rw [hql])]; exact hK) hG, ?_⟩
                  rw [unhide HTK, List.map_append]
                  refine (unhide O3).snoc ?_
                  have := unhide I4
                  rw [List.take_length] at this
                  exact this)
                have HD2 : Hid ((ds ++ [(⟨ar, cr, gr, qs⟩ : PRo)]).length = i + 1) := hide (by rw [List.length_append, unhide HDS]; rfl)
                clear hK hG HAW K1 K2 K3 HSR HDL2 O1 O2 O3 I3 I4 hkb
                go_wp2
                exact ⟨⟨i + 1, k2, af', cf', gf', _, by omega, by omega, unhide HKB, rfl, rfl, by go_num, HD2, HS1⟩, by simp [intOf] <;> omega⟩
          · obtain ⟨o1, o2, o3⟩ := unhide HI
            have hcond : ¬ i < ts.length ∨ ¬ i < 7 := by omega
            have htk : ts.take i = ts.take 7 := by
              rcases hcond with q | q
              · rw [List.take_of_length_le (by omega), List.take_of_length_le (by omega)]
              · rw [show i = 7 by omega]
            rw [htk] at o3
            obtain ⟨us, hus⟩ : ∃ us, ds.map PRo.arg = us := ⟨_, rfl⟩
            rw [hus] at o3
            have hul : us.length = i := by rw [← hus, List.length_map, unhide HDS]
            have hpu := o2.prsAt
            rw [hus] at hpu
            have HPU := hide hpu
            have hfd := fall_days (ts.take 7) us (7 * week) o3 (unhide HBT)
            rw [unhide HLE] at hfd
            have HFD := hide hfd
            have HFW : Hid (Fr (fun _ => False) w wr) := hide ((unhide HF).trans o1 (fun _ _ t => t))
            have HTB3 := hide ((unhide HTB).keep o1)
            have HJ3 := hide ((unhide HJ).keep o1)
            have HKR3 := hide ((unhide HKR).keep (by omega) o1)
            have hu7 : us.length ≤ 7 := by omega
            have hut : us.take 7 = us := List.take_of_length_le (by omega)
            obtain ⟨w4, hw4⟩ : ∃ x, x = wr := ⟨_, rfl⟩
            subst hw4
            have hRD := days_anyC w4 A t (unhide HT w4 (unhide HFW)) (7 * week) (by have := unhide HK; omega) (by have := unhide HK; omega) af cf us hpu
            unfold DaysPost at hRD
            rw [hut, hul] at hRD
            unfold tv at hRD
            have RD := hide hRD
            have HUL := hide hul
            clear hpu hfd hRD htk hus hut o1 o2 o3 HI HKR HTB HDS hul hin hu7
            have hw7 : IntKind.i64.wrap (7 * week) = 7 * week := by have := unhide HK; rw [IntKind.wrap_i64]; omega
            have hw8 : wrap64 (7 * week) = 7 * week := by have := unhide HK; unfold wrap64; omega
            rcases (by omega : ¬ i < ts.length ∨ (i < ts.length ∧ ¬ i < 7)) with q | ⟨q0, q⟩
            · have q1 : ¬ (i : Int) < (ts.length : Int) := by omega
              have HI7 := hide hi7
              clear hcond hi hi7 q
              go_wp2_with (refine wpList_load_tariff rfl (.tmp 5) rfl (g := B) (A := A) (t := t) rfl (unhide HTB3) ?_)
              refine (unhide RD).mono ?_
              rintro e w5 ⟨hF, hno, hyes⟩
              obtain ⟨a3, c3, g3, rfl, hK3, hg3⟩ := hyes (unhide HFD).1
              replace HFW := hide ((unhide HFW).trans hF (fun _ _ t => t))
              have HTB5 := hide ((unhide HTB3).keep hF)
              have HJ5 := hide ((unhide HJ3).keep hF)
              have HKR5 := hide ((unhide HKR3).keep (by omega) hF)
              obtain ⟨M, hM⟩ : ∃ M, daysL t (7 * week) us = M := ⟨_, rfl⟩
              have hml : M.length = i := by rw [← hM, daysL_length, unhide HUL]
              rw [hM] at hK3
              have HM := hide hM
              have hall := (unhide HFD).2
              rw [hM] at hall
              have hll := hall.length
              have HAL := hide hall
              have HKM := hide hK3
              obtain ⟨ln, hln⟩ : ∃ ln, L.length = ln := ⟨_, rfl⟩
              have hli : i = ln := by rw [← hml, hll, hln]
              have HLN := hide hln
              rw [hln]
              subst hli
              have HML := hide hml
              clear hF hno hyes hK3 hg3 hM hall hll hml hln HTB3 HJ3 HKR3 RD hw7 hw8
              go_upto_region 28 with (fail)
              go_wp2
              go_loopw [23] (fun iv wr => ∃ j : Nat, j ≤ i ∧ iv = .int .i64 j ∧ Hid (Fr (fun _ => False) w5 wr)) (fun iv _ => i - (intOf iv).toNat)
              case atStart => exact ⟨0, Nat.zero_le _, rfl, hide (Fr.refl _ _)⟩
              case round =>
                obtain ⟨j, hj, rfl, HX⟩ := hrel
                by_cases hjl : j < i
                · have hltj : (j : Int) < (i : Int) := by omega
                  have hj7 : (j : Int) < 7 := by have q := unhide HI7; omega
                  have hjL : j < L.length := by rw [unhide HLN]; exact hjl
                  have hjM : j < M.length := by rw [unhide HML]; exact hjl
                  obtain ⟨b0, off0, hao, hc0⟩ := ((unhide HKR5).cat.keep (unhide HX)).dy hjL
                  obtain ⟨b1, off1, hbo, hc1⟩ := ((unhide HKM).cat.keep (unhide HX)).dy hjM
                  subst hao hbo
                  have hd := ((unhide HAL).at j hjM hjL).1
                  generalize L[j] = x at *
                  generalize M[j] = y at *
                  obtain ⟨x0, x1, x2, x3, x4, x5, x6⟩ := x
                  obtain ⟨y0, y1, y2, y3, y4, y5, y6⟩ := y
                  have p3 : wr.cell? ⟨b0, off0 + j * 7 + 3, none⟩ = some (.int .i64 x3) := hc0 3 (by omega) _ rfl
                  have p4 : wr.cell? ⟨b0, off0 + j * 7 + 4, none⟩ = some (.int .i64 x4) := hc0 4 (by omega) _ rfl
                  have r3 : wr.cell? ⟨b1, off1 + j * 7 + 3, none⟩ = some (.int .i64 y3) := hc1 3 (by omega) _ rfl
                  have r4 : wr.cell? ⟨b1, off1 + j * 7 + 4, none⟩ = some (.int .i64 y4) := hc1 4 (by omega) _ rfl
                  have v1 := hd.cap
                  have v2 := hd.most
                  simp only at v1 v2
                  have t1 : ¬ x3 < y3 := by omega
                  have t2 : ¬ x4 < y4 := by omega
                  have HIX := hide hjl
                  clear hd hc0 hc1 v1 v2 hjL hjM
                  go_upto_region 31 with (fail)
                  go_quiet (fail)
                  go_wp2
                  exact ⟨⟨j + 1, by have q := unhide HIX; omega, by go_num, hide ((unhide HX).trans ((Fr.refl _ _).drewN _) (fun _ _ t => t))⟩, by have q := unhide HIX; simp [intOf]; omega⟩
                · obtain rfl : j = i := by omega
                  have hltj : ¬ (j : Int) < (j : Int) := by omega
                  have HFZ := hide ((unhide HFW).trans (unhide HX) (fun _ _ t => t))
                  have HTB6 := hide ((unhide HTB5).keep (unhide HX))
                  have HJ6 := hide ((unhide HJ5).keep (unhide HX))
                  have hkm6 := (unhide HKM).cat.keep (unhide HX)
                  have hwkg := wk_good (unhide HRT) (unhide HK).1 (unhide HK).2 (l := us) (by have q1 := unhide HUL; have q2 := unhide HL7; have q3 := unhide HLN; have q4 : L.length = (ts.take 7).length := unhide HDL; omega) (unhide HFD).1
                  rw [unhide HM] at hwkg
                  have hRW := capsWeek_any wr A t (unhide HT wr (unhide HFZ)) a3 c3 M hkm6
                  rw [hwkg.1, hwkg.2, unhide HML] at hRW
                  have hle := week_le (unhide HRT) (unhide HAL)
                  rw [unhide HNN] at hle
                  obtain ⟨mm, hmm⟩ : ∃ mm, wkV t M = mm := ⟨_, rfl⟩
                  rw [hmm] at hRW hle
                  unfold tv at hRW
                  have RW6 := hide hRW
                  have hgt : ¬ nn < mm := by omega
                  clear hRW hle hmm hwkg hkm6 HTB5 HJ5 HFW HX HAL HKM HM HML
                  go_wp2_with (refine wpList_load_tariff rfl (.tmp 5) rfl (g := B) (A := A) (t := t) rfl (unhide HTB6) ?_)
                  refine (unhide RW6).mono ?_
                  rintro e w6 ⟨rfl, hF⟩
                  replace HFZ := hide ((unhide HFZ).trans hF (fun _ _ t => t))
                  replace HTB6 := hide ((unhide HTB6).keep hF)
                  replace HJ6 := hide ((unhide HJ6).keep hF)
                  clear hF RW6
                  go_upto_region 36 with (fail)
                  by_cases hts : ts.length = 0
                  · rw [hts]
                    clear HJ6 HTB6 HFD HKR5
                    go_wp2
                    go_ret
                    exact ⟨rfl, unhide HFZ⟩
                  · have htb : ((ts.length : Int) == 0) = false := by rw [beq_eq_false_iff_ne]; omega
                    have z0 : w6.cell? ⟨B + 1, 0, none⟩ = some (.int .i64 more.1.kind) := (unhide HJ6).cell 0
                    by_cases hk4 : more.1.kind = 4
                    · have kb : (more.1.kind == 4) = true := by simp [hk4]
                      clear hk4
                      go_wp2
                      go_ret
                      exact ⟨rfl, unhide HFZ⟩
                    · have kb : (more.1.kind == 4) = false := by simp [hk4]
                      have HK4 := hide hk4
                      clear hk4
                      obtain ⟨x, tl, hxt⟩ : ∃ x tl, ts = x :: tl := by
                        cases ts with
                        | nil => exact absurd rfl hts
                        | cons x tl => exact ⟨x, tl, rfl⟩
                      have HXT := hide hxt
                      obtain ⟨b0, off0, hao, kc⟩ := (unhide HP w6 (unhide HFZ)).cells (by omega)
                      subst hao
                      have d0 := kc 0 (by omega)
                      simp only [hxt, List.getElem_cons_zero, Nat.add_zero] at d0
                      have HCX := hide ((unhide HP w6 (unhide HFZ)).each x (by rw [hxt]; exact List.mem_cons_self ..))
                      obtain ⟨io, ic, ps⟩ := x
                      simp only at d0
                      have HKC := hide kc
                      have hpos : (0 : Int) < (ts.length : Int) := by omega
                      have hpos2 : 0 < ts.length := by omega
                      clear hxt kc hts
                      have z1 : w6.cell? ⟨B + 1, 1, none⟩ = some (.int .i64 more.1.fr) := (unhide HJ6).cell 1
                      have z2 : w6.cell? ⟨B + 1, 2, none⟩ = some (.int .i64 more.1.to) := (unhide HJ6).cell 2
                      have z3 : w6.cell? ⟨B + 1, 3, none⟩ = some (.int .i64 more.1.st) := (unhide HJ6).cell 3
                      have z4 : w6.cell? ⟨B + 1, 4, none⟩ = some (.int .i64 more.1.en) := (unhide HJ6).cell 4
                      have z5 : w6.cell? ⟨B + 1, 5, none⟩ = some (.bool more.1.free) := (unhide HJ6).cell 5
                      have z6 : w6.cell? ⟨B + 1, 6, none⟩ = some (.int .i64 more.2) := (unhide HJ6).cell 6
                      have hlt0 : b0 < w6.heap.size := World.block_lt_of_cell? _ _ d0
                      have hltB : B + 1 < w6.heap.size := World.block_lt_of_cell? _ _ z0
                      go_upto_region 39 with (fail)
                      have hps : ps.length ≤ 2000 := by
                        have q := unhide HFEW 0 (by rw [List.length_take]; omega)
                        simpa [unhide HXT] using q
                      have HPS := hide hps
                      clear hps
                      go_cut [26] from 196 to 206 (fun rv wd => ∃ (d : PRo) (aw : Option Addr) (cw gw : Nat), rv = .slice aw 1 cw ∧ Hid (d.ps = ps ++ [more] ∧ Fr (fun _ => False) w6 wd ∧ PRs w6.heap.size wd aw cw gw [d]))
                      case first =>
                        refine wp_region_noPanic ?_
                        go_region_law (first
                          | (refine step_append_krow rfl (.tmp 197) (.tmp 200) 41 41 rfl 33 info _ 7 (by omega) Try.underlying41 (unhide HIN).1 (unhide HIN).2.1 (unhide HIN).2.2.1 (unhide HIN).2.2.2.1 (ao := some _) (cap := 0) (g := 0) (n := 0) (vs := []) rfl (KRow.nilA _ _ _ _) rfl _ (pV ps) ps.length rfl (((unhide HCX).keep (by repeat (first | (with_reducible exact Fr.refl _ _) | (with_reducible refine Fr.drew ?_) | (with_reducible refine Fr.alloc ?_ _)))).srcC 41 33 7 ps.length ic (by omega) Try.underlying41 (pV_length ps) (pV_one ps)) (by rw [(unhide HIN).2.2.2.2]; have := unhide HPS; omega) (by have := unhide HPS; omega) ?_; intro aq1 cq1 wa g1 hK1 hG1; rw [List.nil_append] at hK1; have HK1 : Hid (KRow wa aq1 cq1 g1 7 (pV ps) ∧ Fr (fun _ => False) w6 wa ∧ (0 < cq1 → w6.heap.size ≤ g1)) := hide (And.intro hK1 (Grew.fresh0 (w0 := w6) (by repeat (first | (with_reducible exact Fr.refl _ _) | (with_reducible refine Fr.drew ?_) | (with_reducible refine Fr.alloc ?_ _))) hG1)); (first | (have HBX := hide (boxB (hG1.frC.mono (fun _ _ t => absurd t.2 (by omega))))) | (have HBX := hide (boxC (hG1.frC.mono (fun _ _ t => absurd t.2 (by omega))))) | skip); have ha := (unhide HJ6).keep (unhide HK1).2.1; have y0 : wa.cell? ⟨B + 1, 0, none⟩ = some (.int .i64 more.1.kind) := ha.cell 0; have y1 : wa.cell? ⟨B + 1, 1, none⟩ = some (.int .i64 more.1.fr) := ha.cell 1; have y2 : wa.cell? ⟨B + 1, 2, none⟩ = some (.int .i64 more.1.to) := ha.cell 2; have y3 : wa.cell? ⟨B + 1, 3, none⟩ = some (.int .i64 more.1.st) := ha.cell 3; have y4 : wa.cell? ⟨B + 1, 4, none⟩ = some (.int .i64 more.1.en) := ha.cell 4; have y5 : wa.cell? ⟨B + 1, 5, none⟩ = some (.bool more.1.free) := ha.cell 5; have y6 : wa.cell? ⟨B + 1, 6, none⟩ = some (.int .i64 more.2) := ha.cell 6; have hltA : B + 1 < wa.heap.size := ha.lt; clear ha hK1 hG1)
                          | (refine step_append_krow rfl (.tmp 201) (.tmp 203) 41 41 rfl 33 info _ 7 (by omega) Try.underlying41 (unhide HIN).1 (unhide HIN).2.1 (unhide HIN).2.2.1 (unhide HIN).2.2.2.1 (ao := aq1) (cap := cq1) (g := g1) (n := ps.length) (vs := pV ps) rfl ((unhide HK1).1.keep (by omega) (by repeat (first | (with_reducible exact Fr.refl _ _) | (with_reducible refine Fr.drew ?_) | (with_reducible refine Fr.alloc ?_ _)))) (pV_length ps) _ (pL more) 1 rfl (srcBx 41 33 7 (T := 33) (by first | exact unhide HBX | exact Bx.new _ _ _) Try.underlying41 rfl (pL_one more)) (by rw [(unhide HIN).2.2.2.2]; have := unhide HPS; omega) (by have := unhide HPS; omega) ?_; intro ao2 cap2 wb g2 hK2 hG2; have HK2 : Hid (KRow wb ao2 cap2 g2 7 (pV ps ++ pL more) ∧ Fr (fun _ => False) w6 wb ∧ (0 < cap2 → w6.heap.size ≤ g2)) := hide (And.intro hK2 (Grew.more (by repeat (first | (with_reducible exact (unhide HK1).2.1) | (with_reducible refine Fr.drew ?_) | (with_reducible refine Fr.alloc ?_ _))) (unhide HK1).2.2 hG2)); clear hK2 hG2)
                          | (refine step_append_krow rfl (.tmp 196) (.tmp 205) 28 28 rfl 41 infs _ 1 (by omega) Try.underlying28 (unhide HIS).1 (unhide HIS).2.1 rfl (unhide HIS).2.2.1 (ao := none) (cap := 0) (g := 0) (n := 0) (vs := []) rfl (KRow.nil _ _ _) rfl _ [.slice ao2 (ps.length + 1) cap2] 1 rfl (srcBx 28 41 1 (T := 41) (Bx.new _ _ _) Try.underlying28 rfl (fun u hu => by rw [List.mem_singleton] at hu; rw [hu]; rfl)) (by rw [(unhide HIS).2.2.2]; omega) (by omega) ?_; intro aw cw wz gw hK3 hG3; have HFIN := hide (withRow (unhide HK2).1 (unhide HK2).2.1 (unhide HK2).2.2 hK3 hG3); clear hK3 hG3))
                        all_goals
                          refine NoPanic.normal ?_
                          go_wp2_with fail
                          go_meet
                          exact ⟨⟨ao2, cap2, g2, ps ++ [more]⟩, aw, cw, gw, rfl, hide ⟨rfl, (unhide HFIN).1, (unhide HFIN).2⟩⟩
                      case rest =>
                        obtain ⟨w7, hw7⟩ : ∃ x, x = wc := ⟨_, rfl⟩
                        subst hw7
                        obtain ⟨d, aw, cw, gw, rfl, HDD⟩ := hcut
                        clear z0 z1 z2 z3 z4 z5 z6 hlt0 hltB HCX d0
                        obtain ⟨hdps, hF67, hPR⟩ := unhide HDD
                        have hdy : ∀ q, (d.arg : PrA).ps = q ↔ d.ps = q := fun q => Iff.rfl
                        have HTLC : Hid (∀ x ∈ tl, CAt w6 x.io (pV x.ps)) := hide (fun x hx => (unhide HP w6 (unhide HFZ)).each x (by rw [unhide HXT]; exact List.mem_cons_of_mem _ hx))
                        have HRV : Hid ((tl.map (fun x : PrA => Value.slice x.io x.ps.length x.ic)).length = (ts.length - 1) * 1) := hide (by rw [List.length_map, unhide HXT]; simp)
                        obtain ⟨aR, hslice, hcatR⟩ : ∃ aR : Option Addr, (∀ u : World, (Instr.slice 28 (.slice (some ⟨b0, off0, none⟩) ts.length cap) (some (.int .i64 1)) none none).run Try.prog u = .ok (.slice aR (ts.length - 1) (cap - 1)) u) ∧ (∀ u : World, Fr (fun _ => False) w6 u → CAt u aR (tl.map (fun x : PrA => Value.slice x.io x.ps.length x.ic))) := by
                          refine ⟨if cap = 1 then some ⟨b0, off0, none⟩ else some ⟨b0, off0 + 1, none⟩, fun u => ?_, fun u hu h0 => ?_⟩
                          · rw [run_slice_l (P := Try.prog) (w := u) 28 (some ⟨b0, off0, none⟩) ts.length cap Try.underlying28 .i64 1 (by omega) (by omega)]
                            have e : (.slice (if cap = 1 then some ⟨b0, off0, none⟩ else some ⟨b0, off0 + 1, none⟩) (ts.length - 1) (cap - 1) : Value) = sliced (some ⟨b0, off0, none⟩) (1 : Int).toNat ts.length cap 1 := by
                              unfold sliced
                              rw [show (1 : Int).toNat = 1 from rfl]
                              by_cases hc1 : cap = 1
                              · rw [if_pos hc1, if_pos hc1]
                              · rw [if_neg hc1, if_neg hc1]
                                simp [Addr.add_lit]
                            rw [e]
                            rfl
                          · have hlen : 1 < ts.length := by
                              have q := unhide HRV
                              omega
                            have hcp := (unhide HTN).1
                            rw [if_neg (by omega)]
                            refine ⟨b0, off0 + 1, rfl, fun k hk => ?_⟩
                            have hk2 : k < ts.length - 1 := by have q := unhide HRV; omega
                            have q1 := unhide HKC (k + 1) (by omega)
                            rw [show off0 + 1 + k = off0 + (k + 1) by omega]
                            have q2 := (hu.cell (World.block_lt_of_cell? _ _ q1) (fun t => t)).trans q1
                            rw [q2]
                            simp [unhide HXT]
                        have HSR : Hid (Src Try.prog 1 28 (.slice aR (ts.length - 1) (cap - 1)) (ts.length - 1) (tl.map (fun x : PrA => Value.slice x.io x.ps.length x.ic)) w7) := hide (CAt.srcC (hcatR w7 hF67) 28 41 1 (ts.length - 1) (cap - 1) (by omega) Try.underlying28 (unhide HRV) (fun u hu => by obtain ⟨x, _, rfl⟩ := List.mem_map.1 hu; rfl))
                        have HPR := hide hPR
                        have HF67 := hide hF67
                        have HDP := hide hdps
                        have hone : (1 : Int) ≤ (ts.length : Int) := by omega
                        have hM6 : w6.heap.size ≤ w6.heap.size := Nat.le_refl _
                        have htl2 : ts.length ≤ 140737488355328 := by have q := (unhide HTN).2; omega
                        clear hcatR hPR hF67 hdps HDD hdy
                        go_wp2_with (at_builtin; refine wpList_append_krow _ rfl (.tmp 207) (.tmp 209) 28 28 rfl 41 infs _ 1 (by omega) Try.underlying28 (unhide HIS).1 (unhide HIS).2.1 rfl (unhide HIS).2.2.1 rfl (unhide HPR).row rfl _ _ (ts.length - 1) rfl (unhide HSR) (by rw [(unhide HIS).2.2.2]; have q := (unhide HTN).2; omega) (by omega) ?_)
                        intro ax cx w8 gx hK hG
                        obtain ⟨f8, hP8⟩ := (unhide HPR).with hM6 hM6 (unhide HF67) (unhide HTLC) hK hG
                        have HF8 := hide ((unhide HFZ).trans f8 (fun _ _ t => t))
                        have HTB8 := hide ((unhide HTB6).keep f8)
                        have hyl : (d.arg :: tl).length = 1 + (ts.length - 1) := by rw [unhide HXT]; simp; omega
                        have hRD := days_anyC w8 A t (unhide HT w8 (unhide HF8)) (7 * week) (by have q := unhide HK; omega) (by have q := unhide HK; omega) ax cx (d.arg :: tl) hP8
                        unfold DaysPost at hRD
                        rw [hyl] at hRD
                        unfold tv at hRD
                        obtain ⟨us2, hus2⟩ : ∃ us2, (d.arg :: tl).take 7 = us2 := ⟨_, rfl⟩
                        rw [hus2] at hRD
                        have HU2 := hide hus2
                        have RD2 := hide hRD
                        have hw7 : IntKind.i64.wrap (7 * week) = 7 * week := by have q := unhide HK; rw [IntKind.wrap_i64]; omega
                        have hw8 : wrap64 (7 * week) = 7 * week := by have q := unhide HK; unfold wrap64; omega
                        clear hK hG f8 hP8 hyl hRD hus2 hslice HSR HPR HF67 HRV HTLC HTB6 HJ6 HKC hpos hpos2 hone hM6 HPS
                        go_wp2_with (refine wpList_load_tariff rfl (.tmp 5) rfl (g := B) (A := A) (t := t) rfl (unhide HTB8) ?_)
                        refine (unhide RD2).mono ?_
                        rintro e w9 ⟨hF, hno, hyes⟩
                        replace HF8 := hide ((unhide HF8).trans hF (fun _ _ t => t))
                        replace HTB8 := hide ((unhide HTB8).keep hF)
                        cases hb2 : daysB t (7 * week) us2 with
                        | false =>
                          obtain rfl := hno hb2
                          clear hno hyes hb2 hF RD2
                          go_wp2
                          go_ret
                          exact ⟨rfl, unhide HF8⟩
                        | true =>
                          obtain ⟨a9, c9, g9, rfl, hK9, hg9⟩ := hyes hb2
                          have h7 : us2.length ≤ 7 := by rw [← unhide HU2, List.length_take]; omega
                          have e1 : ts.take 7 = ⟨io, ic, ps⟩ :: tl.take 6 := by rw [unhide HXT]; rfl
                          have e2 : us2 = d.arg :: tl.take 6 := by rw [← unhide HU2]; rfl
                          have hbt := unhide HBT
                          have hle0 := unhide HLE
                          rw [e1] at hbt hle0
                          have hb3 := hb2
                          rw [e2] at hb3
                          have hmd := more_days (t := t) (f := 7 * week) (x := ⟨io, ic, ps⟩) (y := d.arg) (ts := tl.take 6) (p := more) (unhide HDP) (unhide HK4) hbt hb3
                          rw [hle0, ← e2] at hmd
                          have hlew := week_le (unhide HRT) hmd
                          rw [unhide HNN] at hlew
                          have hwkg := wk_good (unhide HRT) (unhide HK).1 (unhide HK).2 (l := us2) h7 hb2
                          have hRW := capsWeek_any w9 A t (unhide HT w9 (unhide HF8)) a9 c9 (daysL t (7 * week) us2) hK9.cat
                          rw [hwkg.1, hwkg.2, daysL_length] at hRW
                          obtain ⟨oo, hoo⟩ : ∃ oo, wkV t (daysL t (7 * week) us2) = oo := ⟨_, rfl⟩
                          rw [hoo] at hRW hlew
                          unfold tv at hRW
                          have RW9 := hide hRW
                          obtain ⟨n9, hn9⟩ : ∃ n9, us2.length = n9 := ⟨_, rfl⟩
                          rw [hn9] at RW9 ⊢
                          clear hno hyes hb2 hF RD2 hK9 hg9 h7 e1 e2 hbt hle0 hb3 hmd hwkg hRW hoo hn9
                          go_wp2_with (refine wpList_load_tariff rfl (.tmp 5) rfl (g := B) (A := A) (t := t) rfl (unhide HTB8) ?_)
                          refine (unhide RW9).mono ?_
                          rintro e wf ⟨rfl, hF⟩
                          have HFE := hide ((unhide HF8).trans hF (fun _ _ t => t))
                          clear hF RW9 HTB8 HF8
                          go_wp2
                          go_ret
                          exact ⟨by first | rfl | simp [*], unhide HFE⟩
            · have q1 : ¬ (i : Int) < 7 := by omega
              have q3 : (i : Int) < (ts.length : Int) := by omega
              have HI7 := hide hi7
              clear hcond hi hi7 q
              go_wp2_with (refine wpList_load_tariff rfl (.tmp 5) rfl (g := B) (A := A) (t := t) rfl (unhide HTB3) ?_)
              refine (unhide RD).mono ?_
              rintro e w5 ⟨hF, hno, hyes⟩
              obtain ⟨a3, c3, g3, rfl, hK3, hg3⟩ := hyes (unhide HFD).1
              replace HFW := hide ((unhide HFW).trans hF (fun _ _ t => t))
              have HTB5 := hide ((unhide HTB3).keep hF)
              have HJ5 := hide ((unhide HJ3).keep hF)
              have HKR5 := hide ((unhide HKR3).keep (by omega) hF)
              obtain ⟨M, hM⟩ : ∃ M, daysL t (7 * week) us = M := ⟨_, rfl⟩
              have hml : M.length = i := by rw [← hM, daysL_length, unhide HUL]
              rw [hM] at hK3
              have HM := hide hM
              have hall := (unhide HFD).2
              rw [hM] at hall
              have hll := hall.length
              have HAL := hide hall
              have HKM := hide hK3
              obtain ⟨ln, hln⟩ : ∃ ln, L.length = ln := ⟨_, rfl⟩
              have hli : i = ln := by rw [← hml, hll, hln]
              have HLN := hide hln
              rw [hln]
              subst hli
              have HML := hide hml
              clear hF hno hyes hK3 hg3 hM hall hll hml hln HTB3 HJ3 HKR3 RD hw7 hw8
              go_upto_region 28 with (fail)
              go_wp2
              go_loopw [23] (fun iv wr => ∃ j : Nat, j ≤ i ∧ iv = .int .i64 j ∧ Hid (Fr (fun _ => False) w5 wr)) (fun iv _ => i - (intOf iv).toNat)
              case atStart => exact ⟨0, Nat.zero_le _, rfl, hide (Fr.refl _ _)⟩
              case round =>
                obtain ⟨j, hj, rfl, HX⟩ := hrel
                by_cases hjl : j < i
                · have hltj : (j : Int) < (i : Int) := by omega
                  have hj7 : (j : Int) < 7 := by have q := unhide HI7; omega
                  have hjL : j < L.length := by rw [unhide HLN]; exact hjl
                  have hjM : j < M.length := by rw [unhide HML]; exact hjl
                  obtain ⟨b0, off0, hao, hc0⟩ := ((unhide HKR5).cat.keep (unhide HX)).dy hjL
                  obtain ⟨b1, off1, hbo, hc1⟩ := ((unhide HKM).cat.keep (unhide HX)).dy hjM
                  subst hao hbo
                  have hd := ((unhide HAL).at j hjM hjL).1
                  generalize L[j] = x at *
                  generalize M[j] = y at *
                  obtain ⟨x0, x1, x2, x3, x4, x5, x6⟩ := x
                  obtain ⟨y0, y1, y2, y3, y4, y5, y6⟩ := y
                  have p3 : wr.cell? ⟨b0, off0 + j * 7 + 3, none⟩ = some (.int .i64 x3) := hc0 3 (by omega) _ rfl
                  have p4 : wr.cell? ⟨b0, off0 + j * 7 + 4, none⟩ = some (.int .i64 x4) := hc0 4 (by omega) _ rfl
                  have r3 : wr.cell? ⟨b1, off1 + j * 7 + 3, none⟩ = some (.int .i64 y3) := hc1 3 (by omega) _ rfl
                  have r4 : wr.cell? ⟨b1, off1 + j * 7 + 4, none⟩ = some (.int .i64 y4) := hc1 4 (by omega) _ rfl
                  have v1 := hd.cap
                  have v2 := hd.most
                  simp only at v1 v2
                  have t1 : ¬ x3 < y3 := by omega
                  have t2 : ¬ x4 < y4 := by omega
                  have HIX := hide hjl
                  clear hd hc0 hc1 v1 v2 hjL hjM
                  go_upto_region 31 with (fail)
                  go_quiet (fail)
                  go_wp2
                  exact ⟨⟨j + 1, by have q := unhide HIX; omega, by go_num, hide ((unhide HX).trans ((Fr.refl _ _).drewN _) (fun _ _ t => t))⟩, by have q := unhide HIX; simp [intOf]; omega⟩
                · obtain rfl : j = i := by omega
                  have hltj : ¬ (j : Int) < (j : Int) := by omega
                  have HFZ := hide ((unhide HFW).trans (unhide HX) (fun _ _ t => t))
                  have HTB6 := hide ((unhide HTB5).keep (unhide HX))
                  have HJ6 := hide ((unhide HJ5).keep (unhide HX))
                  have hkm6 := (unhide HKM).cat.keep (unhide HX)
                  have hwkg := wk_good (unhide HRT) (unhide HK).1 (unhide HK).2 (l := us) (by have q1 := unhide HUL; have q2 := unhide HL7; have q3 := unhide HLN; have q4 : L.length = (ts.take 7).length := unhide HDL; omega) (unhide HFD).1
                  rw [unhide HM] at hwkg
                  have hRW := capsWeek_any wr A t (unhide HT wr (unhide HFZ)) a3 c3 M hkm6
                  rw [hwkg.1, hwkg.2, unhide HML] at hRW
                  have hle := week_le (unhide HRT) (unhide HAL)
                  rw [unhide HNN] at hle
                  obtain ⟨mm, hmm⟩ : ∃ mm, wkV t M = mm := ⟨_, rfl⟩
                  rw [hmm] at hRW hle
                  unfold tv at hRW
                  have RW6 := hide hRW
                  have hgt : ¬ nn < mm := by omega
                  clear hRW hle hmm hwkg hkm6 HTB5 HJ5 HFW HX HAL HKM HM HML
                  go_wp2_with (refine wpList_load_tariff rfl (.tmp 5) rfl (g := B) (A := A) (t := t) rfl (unhide HTB6) ?_)
                  refine (unhide RW6).mono ?_
                  rintro e w6 ⟨rfl, hF⟩
                  replace HFZ := hide ((unhide HFZ).trans hF (fun _ _ t => t))
                  replace HTB6 := hide ((unhide HTB6).keep hF)
                  replace HJ6 := hide ((unhide HJ6).keep hF)
                  clear hF RW6
                  go_upto_region 36 with (fail)
                  by_cases hts : ts.length = 0
                  · rw [hts]
                    clear HJ6 HTB6 HFD HKR5
                    go_wp2
                    go_ret
                    exact ⟨rfl, unhide HFZ⟩
                  · have htb : ((ts.length : Int) == 0) = false := by rw [beq_eq_false_iff_ne]; omega
                    have z0 : w6.cell? ⟨B + 1, 0, none⟩ = some (.int .i64 more.1.kind) := (unhide HJ6).cell 0
                    by_cases hk4 : more.1.kind = 4
                    · have kb : (more.1.kind == 4) = true := by simp [hk4]
                      clear hk4
                      go_wp2
                      go_ret
                      exact ⟨rfl, unhide HFZ⟩
                    · have kb : (more.1.kind == 4) = false := by simp [hk4]
                      have HK4 := hide hk4
                      clear hk4
                      obtain ⟨x, tl, hxt⟩ : ∃ x tl, ts = x :: tl := by
                        cases ts with
                        | nil => exact absurd rfl hts
                        | cons x tl => exact ⟨x, tl, rfl⟩
                      have HXT := hide hxt
                      obtain ⟨b0, off0, hao, kc⟩ := (unhide HP w6 (unhide HFZ)).cells (by omega)
                      subst hao
                      have d0 := kc 0 (by omega)
                      simp only [hxt, List.getElem_cons_zero, Nat.add_zero] at d0
                      have HCX := hide ((unhide HP w6 (unhide HFZ)).each x (by rw [hxt]; exact List.mem_cons_self ..))
                      obtain ⟨io, ic, ps⟩ := x
                      simp only at d0
                      have HKC := hide kc
                      have hpos : (0 : Int) < (ts.length : Int) := by omega
                      have hpos2 : 0 < ts.length := by omega
                      clear hxt kc hts
                      have z1 : w6.cell? ⟨B + 1, 1, none⟩ = some (.int .i64 more.1.fr) := (unhide HJ6).cell 1
                      have z2 : w6.cell? ⟨B + 1, 2, none⟩ = some (.int .i64 more.1.to) := (unhide HJ6).cell 2
                      have z3 : w6.cell? ⟨B + 1, 3, none⟩ = some (.int .i64 more.1.st) := (unhide HJ6).cell 3
                      have z4 : w6.cell? ⟨B + 1, 4, none⟩ = some (.int .i64 more.1.en) := (unhide HJ6).cell 4
                      have z5 : w6.cell? ⟨B + 1, 5, none⟩ = some (.bool more.1.free) := (unhide HJ6).cell 5
                      have z6 : w6.cell? ⟨B + 1, 6, none⟩ = some (.int .i64 more.2) := (unhide HJ6).cell 6
                      have hlt0 : b0 < w6.heap.size := World.block_lt_of_cell? _ _ d0
                      have hltB : B + 1 < w6.heap.size := World.block_lt_of_cell? _ _ z0
                      go_upto_region 39 with (fail)
                      have hps : ps.length ≤ 2000 := by
                        have q := unhide HFEW 0 (by rw [List.length_take]; omega)
                        simpa [unhide HXT] using q
                      have HPS := hide hps
                      clear hps
                      go_cut [26] from 196 to 206 (fun rv wd => ∃ (d : PRo) (aw : Option Addr) (cw gw : Nat), rv = .slice aw 1 cw ∧ Hid (d.ps = ps ++ [more] ∧ Fr (fun _ => False) w6 wd ∧ PRs w6.heap.size wd aw cw gw [d]))
                      case first =>
                        refine wp_region_noPanic ?_
                        go_region_law (first
                          | (refine step_append_krow rfl (.tmp 197) (.tmp 200) 41 41 rfl 33 info _ 7 (by omega) Try.underlying41 (unhide HIN).1 (unhide HIN).2.1 (unhide HIN).2.2.1 (unhide HIN).2.2.2.1 (ao := some _) (cap := 0) (g := 0) (n := 0) (vs := []) rfl (KRow.nilA _ _ _ _) rfl _ (pV ps) ps.length rfl (((unhide HCX).keep (by repeat (first | (with_reducible exact Fr.refl _ _) | (with_reducible refine Fr.drew ?_) | (with_reducible refine Fr.alloc ?_ _)))).srcC 41 33 7 ps.length ic (by omega) Try.underlying41 (pV_length ps) (pV_one ps)) (by rw [(unhide HIN).2.2.2.2]; have := unhide HPS; omega) (by have := unhide HPS; omega) ?_; intro aq1 cq1 wa g1 hK1 hG1; rw [List.nil_append] at hK1; have HK1 : Hid (KRow wa aq1 cq1 g1 7 (pV ps) ∧ Fr (fun _ => False) w6 wa ∧ (0 < cq1 → w6.heap.size ≤ g1)) := hide (And.intro hK1 (Grew.fresh0 (w0 := w6) (by repeat (first | (with_reducible exact Fr.refl _ _) | (with_reducible refine Fr.drew ?_) | (with_reducible refine Fr.alloc ?_ _))) hG1)); (first | (have HBX := hide (boxB (hG1.frC.mono (fun _ _ t => absurd t.2 (by omega))))) | (have HBX := hide (boxC (hG1.frC.mono (fun _ _ t => absurd t.2 (by omega))))) | skip); have ha := (unhide HJ6).keep (unhide HK1).2.1; have y0 : wa.cell? ⟨B + 1, 0, none⟩ = some (.int .i64 more.1.kind) := ha.cell 0; have y1 : wa.cell? ⟨B + 1, 1, none⟩ = some (.int .i64 more.1.fr) := ha.cell 1; have y2 : wa.cell? ⟨B + 1, 2, none⟩ = some (.int .i64 more.1.to) := ha.cell 2; have y3 : wa.cell? ⟨B + 1, 3, none⟩ = some (.int .i64 more.1.st) := ha.cell 3; have y4 : wa.cell? ⟨B + 1, 4, none⟩ = some (.int .i64 more.1.en) := ha.cell 4; have y5 : wa.cell? ⟨B + 1, 5, none⟩ = some (.bool more.1.free) := ha.cell 5; have y6 : wa.cell? ⟨B + 1, 6, none⟩ = some (.int .i64 more.2) := ha.cell 6; have hltA : B + 1 < wa.heap.size := ha.lt; clear ha hK1 hG1)
                          | (refine step_append_krow rfl (.tmp 201) (.tmp 203) 41 41 rfl 33 info _ 7 (by omega) Try.underlying41 (unhide HIN).1 (unhide HIN).2.1 (unhide HIN).2.2.1 (unhide HIN).2.2.2.1 (ao := aq1) (cap := cq1) (g := g1) (n := ps.length) (vs := pV ps) rfl ((unhide HK1).1.keep (by omega) (by repeat (first | (with_reducible exact Fr.refl _ _) | (with_reducible refine Fr.drew ?_) | (with_reducible refine Fr.alloc ?_ _)))) (pV_length ps) _ (pL more) 1 rfl (srcBx 41 33 7 (T := 33) (by first | exact unhide HBX | exact Bx.new _ _ _) Try.underlying41 rfl (pL_one more)) (by rw [(unhide HIN).2.2.2.2]; have := unhide HPS; omega) (by have := unhide HPS; omega) ?_; intro ao2 cap2 wb g2 hK2 hG2; have HK2 : Hid (KRow wb ao2 cap2 g2 7 (pV ps ++ pL more) ∧ Fr (fun _ => False) w6 wb ∧ (0 < cap2 → w6.heap.size ≤ g2)) := hide (And.intro hK2 (Grew.more (by repeat (first | (with_reducible exact (unhide HK1).2.1) | (with_reducible refine Fr.drew ?_) | (with_reducible refine Fr.alloc ?_ _))) (unhide HK1).2.2 hG2)); clear hK2 hG2)
                          | (refine step_append_krow rfl (.tmp 196) (.tmp 205) 28 28 rfl 41 infs _ 1 (by omega) Try.underlying28 (unhide HIS).1 (unhide HIS).2.1 rfl (unhide HIS).2.2.1 (ao := none) (cap := 0) (g := 0) (n := 0) (vs := []) rfl (KRow.nil _ _ _) rfl _ [.slice ao2 (ps.length + 1) cap2] 1 rfl (srcBx 28 41 1 (T := 41) (Bx.new _ _ _) Try.underlying28 rfl (fun u hu => by rw [List.mem_singleton] at hu; rw [hu]; rfl)) (by rw [(unhide HIS).2.2.2]; omega) (by omega) ?_; intro aw cw wz gw hK3 hG3; have HFIN := hide (withRow (unhide HK2).1 (unhide HK2).2.1 (unhide HK2).2.2 hK3 hG3); clear hK3 hG3))
                        all_goals
                          refine NoPanic.normal ?_
                          go_wp2_with fail
                          go_meet
                          exact ⟨⟨ao2, cap2, g2, ps ++ [more]⟩, aw, cw, gw, rfl, hide ⟨rfl, (unhide HFIN).1, (unhide HFIN).2⟩⟩
                      case rest =>
                        obtain ⟨w7, hw7⟩ : ∃ x, x = wc := ⟨_, rfl⟩
                        subst hw7
                        obtain ⟨d, aw, cw, gw, rfl, HDD⟩ := hcut
                        clear z0 z1 z2 z3 z4 z5 z6 hlt0 hltB HCX d0
                        obtain ⟨hdps, hF67, hPR⟩ := unhide HDD
                        have hdy : ∀ q, (d.arg : PrA).ps = q ↔ d.ps = q := fun q => Iff.rfl
                        have HTLC : Hid (∀ x ∈ tl, CAt w6 x.io (pV x.ps)) := hide (fun x hx => (unhide HP w6 (unhide HFZ)).each x (by rw [unhide HXT]; exact List.mem_cons_of_mem _ hx))
                        have HRV : Hid ((tl.map (fun x : PrA => Value.slice x.io x.ps.length x.ic)).length = (ts.length - 1) * 1) := hide (by rw [List.length_map, unhide HXT]; simp)
                        obtain ⟨aR, hslice, hcatR⟩ : ∃ aR : Option Addr, (∀ u : World, (Instr.slice 28 (.slice (some ⟨b0, off0, none⟩) ts.length cap) (some (.int .i64 1)) none none).run Try.prog u = .ok (.slice aR (ts.length - 1) (cap - 1)) u) ∧ (∀ u : World, Fr (fun _ => False) w6 u → CAt u aR (tl.map (fun x : PrA => Value.slice x.io x.ps.length x.ic))) := by
                          refine ⟨if cap = 1 then some ⟨b0, off0, none⟩ else some ⟨b0, off0 + 1, none⟩, fun u => ?_, fun u hu h0 => ?_⟩
                          · rw [run_slice_l (P := Try.prog) (w := u) 28 (some ⟨b0, off0, none⟩) ts.length cap Try.underlying28 .i64 1 (by omega) (by omega)]
                            have e : (.slice (if cap = 1 then some ⟨b0, off0, none⟩ else some ⟨b0, off0 + 1, none⟩) (ts.length - 1) (cap - 1) : Value) = sliced (some ⟨b0, off0, none⟩) (1 : Int).toNat ts.length cap 1 := by
                              unfold sliced
                              rw [show (1 : Int).toNat = 1 from rfl]
                              by_cases hc1 : cap = 1
                              · rw [if_pos hc1, if_pos hc1]
                              · rw [if_neg hc1, if_neg hc1]
                                simp [Addr.add_lit]
                            rw [e]
                            rfl
                          · have hlen : 1 < ts.length := by
                              have q := unhide HRV
                              omega
                            have hcp := (unhide HTN).1
                            rw [if_neg (by omega)]
                            refine ⟨b0, off0 + 1, rfl, fun k hk => ?_⟩
                            have hk2 : k < ts.length - 1 := by have q := unhide HRV; omega
                            have q1 := unhide HKC (k + 1) (by omega)
                            rw [show off0 + 1 + k = off0 + (k + 1) by omega]
                            have q2 := (hu.cell (World.block_lt_of_cell? _ _ q1) (fun t => t)).trans q1
                            rw [q2]
                            simp [unhide HXT]
                        have HSR : Hid (Src Try.prog 1 28 (.slice aR (ts.length - 1) (cap - 1)) (ts.length - 1) (tl.map (fun x : PrA => Value.slice x.io x.ps.length x.ic)) w7) := hide (CAt.srcC (hcatR w7 hF67) 28 41 1 (ts.length - 1) (cap - 1) (by omega) Try.underlying28 (unhide HRV) (fun u hu => by obtain ⟨x, _, rfl⟩ := List.mem_map.1 hu; rfl))
                        have HPR := hide hPR
                        have HF67 := hide hF67
                        have HDP := hide hdps
                        have hone : (1 : Int) ≤ (ts.length : Int) := by omega
                        have hM6 : w6.heap.size ≤ w6.heap.size := Nat.le_refl _
                        have htl2 : ts.length ≤ 140737488355328 := by have q := (unhide HTN).2; omega
                        clear hcatR hPR hF67 hdps HDD hdy
                        go_wp2_with (at_builtin; refine wpList_append_krow _ rfl (.tmp 207) (.tmp 209) 28 28 rfl 41 infs _ 1 (by omega) Try.underlying28 (unhide HIS).1 (unhide HIS).2.1 rfl (unhide HIS).2.2.1 rfl (unhide HPR).row rfl _ _ (ts.length - 1) rfl (unhide HSR) (by rw [(unhide HIS).2.2.2]; have q := (unhide HTN).2; omega) (by omega) ?_)
                        intro ax cx w8 gx hK hG
                        obtain ⟨f8, hP8⟩ := (unhide HPR).with hM6 hM6 (unhide HF67) (unhide HTLC) hK hG
                        have HF8 := hide ((unhide HFZ).trans f8 (fun _ _ t => t))
                        have HTB8 := hide ((unhide HTB6).keep f8)
                        have hyl : (d.arg :: tl).length = 1 + (ts.length - 1) := by rw [unhide HXT]; simp; omega
                        have hRD := days_anyC w8 A t (unhide HT w8 (unhide HF8)) (7 * week) (by have q := unhide HK; omega) (by have q := unhide HK; omega) ax cx (d.arg :: tl) hP8
                        unfold DaysPost at hRD
                        rw [hyl] at hRD
                        unfold tv at hRD
                        obtain ⟨us2, hus2⟩ : ∃ us2, (d.arg :: tl).take 7 = us2 := ⟨_, rfl⟩
                        rw [hus2] at hRD
                        have HU2 := hide hus2
                        have RD2 := hide hRD
                        have hw7 : IntKind.i64.wrap (7 * week) = 7 * week := by have q := unhide HK; rw [IntKind.wrap_i64]; omega
                        have hw8 : wrap64 (7 * week) = 7 * week := by have q := unhide HK; unfold wrap64; omega
                        clear hK hG f8 hP8 hyl hRD hus2 hslice HSR HPR HF67 HRV HTLC HTB6 HJ6 HKC hpos hpos2 hone hM6 HPS
                        go_wp2_with (refine wpList_load_tariff rfl (.tmp 5) rfl (g := B) (A := A) (t := t) rfl (unhide HTB8) ?_)
                        refine (unhide RD2).mono ?_
                        rintro e w9 ⟨hF, hno, hyes⟩
                        replace HF8 := hide ((unhide HF8).trans hF (fun _ _ t => t))
                        replace HTB8 := hide ((unhide HTB8).keep hF)
                        cases hb2 : daysB t (7 * week) us2 with
                        | false =>
                          obtain rfl := hno hb2
                          clear hno hyes hb2 hF RD2
                          go_wp2
                          go_ret
                          exact ⟨rfl, unhide HF8⟩
                        | true =>
                          obtain ⟨a9, c9, g9, rfl, hK9, hg9⟩ := hyes hb2
                          have h7 : us2.length ≤ 7 := by rw [← unhide HU2, List.length_take]; omega
                          have e1 : ts.take 7 = ⟨io, ic, ps⟩ :: tl.take 6 := by rw [unhide HXT]; rfl
                          have e2 : us2 = d.arg :: tl.take 6 := by rw [← unhide HU2]; rfl
                          have hbt := unhide HBT
                          have hle0 := unhide HLE
                          rw [e1] at hbt hle0
                          have hb3 := hb2
                          rw [e2] at hb3
                          have hmd := more_days (t := t) (f := 7 * week) (x := ⟨io, ic, ps⟩) (y := d.arg) (ts := tl.take 6) (p := more) (unhide HDP) (unhide HK4) hbt hb3
                          rw [hle0, ← e2] at hmd
                          have hlew := week_le (unhide HRT) hmd
                          rw [unhide HNN] at hlew
                          have hwkg := wk_good (unhide HRT) (unhide HK).1 (unhide HK).2 (l := us2) h7 hb2
                          have hRW := capsWeek_any w9 A t (unhide HT w9 (unhide HF8)) a9 c9 (daysL t (7 * week) us2) hK9.cat
                          rw [hwkg.1, hwkg.2, daysL_length] at hRW
                          obtain ⟨oo, hoo⟩ : ∃ oo, wkV t (daysL t (7 * week) us2) = oo := ⟨_, rfl⟩
                          rw [hoo] at hRW hlew
                          unfold tv at hRW
                          have RW9 := hide hRW
                          obtain ⟨n9, hn9⟩ : ∃ n9, us2.length = n9 := ⟨_, rfl⟩
                          rw [hn9] at RW9 ⊢
                          clear hno hyes hb2 hF RD2 hK9 hg9 h7 e1 e2 hbt hle0 hb3 hmd hwkg hRW hoo hn9
                          go_wp2_with (refine wpList_load_tariff rfl (.tmp 5) rfl (g := B) (A := A) (t := t) rfl (unhide HTB8) ?_)
                          refine (unhide RW9).mono ?_
                          rintro e wf ⟨rfl, hF⟩
                          have HFE := hide ((unhide HF8).trans hF (fun _ _ t => t))
                          clear hF RW9 HTB8 HF8
                          go_wp2
                          go_ret
                          exact ⟨by first | rfl | simp [*], unhide HFE⟩

end Go.Proofs.Ytjgbllfppomcmaa

namespace Go.Proofs.Ytjgbllfppomcmaa
open Go.ChangeShapes Go.WideShapes Go.ChangeAt Go.RowKit Go.Deep

namespace capsLess

set_option maxRecDepth 100000 in
theorem lifted (os : Os) (started : os.Started) (H : Type) (enc : TypeId × Value → H) :
    ReturnsInHanded {} Try.checked os 3 .any (Rows.capsLessSpec.pre6 enc Try.prog Try.f3 Rows.capsLessRow.domain false) (Rows.capsLessSpec.post enc Try.prog Try.f3 false true false false) := by
  refine returnsInHanded_of_change_sized (C := Try.checked) own started (by kernel_rfl) Try.func3
    (ChangeSpec.witness6 (enc := enc) (C := Try.checked) false ⟨#[], #[.agg #[.slice none 0 0, .slice none 0 0, .slice none 0 0, .float .f64 0, .int .i64 0, .int .i64 0, .int .i64 0, .int .i64 0, .int .i64 0, .int .i64 0, .int .i64 0, .int .i64 0, .int .i64 0, .int .i64 0], .int .i64 0, .slice none 0 0, .slice none 0 0, .agg #[.int .i64 0, .int .i64 0, .int .i64 0, .int .i64 0, .int .i64 0, .bool false, .int .i64 0]], []⟩ 8 (by kernel_rfl) (by kernel_rfl) (by kernel_rfl) (by kernel_rfl)) ?_
  intro W base args ds gs before hval0 hW hcnd hsz0 _
  have hsz : (DataW.weightsEach Try.prog (Try.f3.params.toList ++ Rows.capsLessSpec.plain.varTypes Try.prog) (ds ++ gs)).all (· ≤ reachBytes) = true := hsz0
  have hval : ∀ (j : Nat) t v, Try.f3.params[j]? = some t → args[j]? = some v → Value.okWide Try.prog W .any base t v := hval0
  have hW' := hW
  obtain ⟨p, q, hA0, hV, rfl, hfz, hnd⟩ := hW
  have hA : DataW.TrodAll enc Try.prog W 0 (fun _ => true) true Try.f3.params.toList args.toList ds p := hA0
  rw [Try.params3] at hA hval hsz
  obtain ⟨v0, vs0, d0, ds0, p0, q0, hargs, rfl, rfl, h0, r0⟩ := trodAll_cons hA
  obtain ⟨v1, vs1, d1, ds1, p1, q1, rfl, rfl, rfl, h1, r1⟩ := trodAll_cons r0
  obtain ⟨v2, vs2, d2, ds2, p2, q2, rfl, rfl, rfl, h2, r2⟩ := trodAll_cons r1
  obtain ⟨v3, vs3, d3, ds3, p3, q3, rfl, rfl, rfl, h3, r3⟩ := trodAll_cons r2
  obtain ⟨v4, vs4, d4, ds4, p4, q4, rfl, rfl, rfl, h4, r4⟩ := trodAll_cons r3
  obtain ⟨rfl, rfl, rfl⟩ := trodAll_nil r4
  obtain rfl : args = #[v0, v1, v2, v3, v4] := by cases args; simp_all
  obtain ⟨rfl, rfl⟩ := trodVars_none hV
  have k0 := h0
  have lt0 : ∀ x ∈ p0, x.block < W.heap.size := by obtain ⟨m, hm⟩ := k0; exact DataW.trod_lt m _ _ _ hm
  obtain ⟨A0, t0, rfl, hT0⟩ := open_arg (j := 0) (okWide_struct Try.underlying27 (hval 0 27 v0 rfl rfl)) h0 hsz rfl rfl
  obtain ⟨n1, rfl, rfl, rfl, w1⟩ := open_int Try.underlying3 (hval 1 3 v1 rfl rfl) h1
  have k2 := h2
  have lt2 : ∀ x ∈ p2, x.block < W.heap.size := by obtain ⟨m, hm⟩ := k2; exact DataW.trod_lt m _ _ _ hm
  obtain ⟨a2, c2, l2, rfl, hb2, hc2, hn2⟩ := arg_pricedss (j := 2) (okWide_slice Try.underlying28 (hval 2 28 v2 rfl rfl)) h2 hsz rfl rfl
  have k3 := h3
  have lt3 : ∀ x ∈ p3, x.block < W.heap.size := by obtain ⟨m, hm⟩ := k3; exact DataW.trod_lt m _ _ _ hm
  obtain ⟨a3, c3, l3, rfl, hb3, hc3, hn3⟩ := arg_ints (j := 3) (okWide_slice Try.underlying29 (hval 3 29 v3 rfl rfl)) h3 hsz rfl rfl
  have k4 := h4
  have lt4 : ∀ x ∈ p4, x.block < W.heap.size := by obtain ⟨m, hm⟩ := k4; exact DataW.trod_lt m _ _ _ hm
  obtain ⟨t4, rfl⟩ := arg_priced (okWide_struct Try.underlying33 (hval 4 33 v4 rfl rfl)) h4
  clear hA0 hval0
  refine (less_walkC W A0 t0 hT0 n1 a2 c2 l2 hb2 hc2 hn2 a3 c3 l3 hb3 (by omega) t4).mono fun e W' ⟨he, hfr⟩ => ?_
  subst he
  have bel : Below W.heap.size W W' := hfr.below (Nat.le_refl _) (fun k t => t.elim)
  exact ⟨_, rfl, _, _, _, [], _, [], hW', trodAll_mk1 (shut_bool Try.underlying4 _), (trodAll_cons_mk (Below.trod laidOut (by kernel_rfl) (of_decide_eq_true (by kernel_rfl)) k0 bel lt0) (trodAll_cons_mk (shut_int Try.underlying3 w1) (trodAll_cons_mk (Below.trod laidOut (by kernel_rfl) (of_decide_eq_true (by kernel_rfl)) k2 bel lt2) (trodAll_cons_mk (Below.trod laidOut (by kernel_rfl) (of_decide_eq_true (by kernel_rfl)) k3 bel lt3) (trodAll_cons_mk (Below.trod laidOut (by kernel_rfl) (of_decide_eq_true (by kernel_rfl)) k4 bel lt4) trodAll_mk0))))), rfl, bel.frame _, fun h => by cases h⟩

theorem over : Rows.capsLessRow.holds Try.pinned (OpenSpec.ofChange Rows.capsLessSpec) :=
  OpenClaim.holds_of_wide 3 Try.f3 rfl rfl rfl rfl rfl rfl rfl ⟨rfl, rfl, rfl, rfl, rfl⟩ rfl rfl rfl rfl rfl (by kernel_rfl) Try.func3 (by kernel_rfl)
    (of_decide_eq_true (by kernel_rfl)) (by unfold Func.isWrapper; first | (rw [if_pos (by decide +kernel)]; kernel_rfl) | (rw [if_neg (by decide +kernel)]; exact ⟨rfl, rfl⟩))
    (fun os started H enc _ => lifted os started H enc)

end capsLess

/-- THE STATEMENT. -/
theorem capsLess_holds : Rows.CapsLessSaid := capsLess.over
#print axioms capsLess_holds
end Go.Proofs.Ytjgbllfppomcmaa

