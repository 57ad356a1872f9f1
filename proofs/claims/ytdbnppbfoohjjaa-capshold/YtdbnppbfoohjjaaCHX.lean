/- Proved: the law CapsHold answers true for every tariff, week and slice of slices of priced journeys, and its arguments read afterwards as they read before. No condition but the form's own reach. -/
import Derived.Test.YtdbnppbfoohjjaaCMX
import Derived.Test.YtdbnppbfoohjjaaOA
import Derived.Test.YtdbnppbfoohjjaaQO1
import Derived.Test.YtdbnppbfoohjjaaCO3
/- Caps hold: the walk of CapsHold. -/
namespace Go.Proofs.Ytdbnppbfoohjjaa
open Go.RowKit

set_option maxHeartbeats 8000000 in
set_option maxRecDepth 20000 in
theorem hold_walkC (w : World) (A : Ad) (t : Tf) (h : TAt w A t) (week : Int) (ao : Option Addr) (cap : Nat) (ts : List PrA) (hp : PrsAt w ao ts) :
    Calls Try.prog 3 #[tv A t, .int .i64 week, .slice ao ts.length cap] w fun e w' => e = .returned (.bool true) ∧ Fr (fun _ => False) w w' := by
  have HT := hide (fun (u : World) (hu : Fr (fun _ => False) w u) => h.keep hu)
  have HP := hide (fun (u : World) (hu : Fr (fun _ => False) w u) => hp.keep hu)
  obtain ⟨v, hv⟩ : ∃ v, v = w.alloc (.cells (tc A t) 27) := ⟨_, rfl⟩
  have HF : Hid (Fr (fun _ => False) w v) := hide (by rw [hv]; exact (Fr.refl _ w).alloc _)
  have hTB : TB v w.heap.size A t := by rw [hv]; exact TB.new w A t
  obtain ⟨B, hB⟩ : ∃ B, B = w.heap.size := ⟨_, rfl⟩
  rw [← hB] at hTB
  have HTB := hide hTB
  have HV := hide hv
  have HB := hide hB
  clear hv hB hTB h hp
  unfold tv
  unfold tc at HV ⊢
  go_enter Try.func3, Try.ntmps3
  go_upto_region 1 with (fail)
  rw [← unhide HV, ← unhide HB]
  clear HV
  go_wp2_with fail
  refine (awake_anyC v).mono ?_
  rintro e w1 ⟨rfl, hF⟩
  replace HF := hide ((unhide HF).trans hF (fun _ _ t => t))
  replace HTB := hide ((unhide HTB).keep hF)
  clear hF
  rcases (by omega : week < 0 ∨ (¬ week < 0 ∧ 100000 < week) ∨ (¬ week < 0 ∧ ¬ 100000 < week)) with k1 | ⟨k1, k2⟩ | ⟨k1, k2⟩
  · go_wp2
    go_ret
    exact ⟨rfl, unhide HF⟩
  · go_wp2
    go_ret
    exact ⟨rfl, unhide HF⟩
  · have hw7 : IntKind.i64.wrap (7 * week) = 7 * week := by rw [IntKind.wrap_i64]; omega
    have HK : Hid (0 ≤ week ∧ week ≤ 100000) := hide (by omega)
    have RD := hide (days_anyC w1 A t (unhide HT w1 (unhide HF)) (7 * week) (by omega) (by omega) ao cap ts (unhide HP w1 (unhide HF)))
    unfold tv at RD
    go_wp2_with (refine wpList_load_tariff rfl (.tmp 3) rfl (g := B) (A := A) (t := t) rfl (unhide HTB) ?_)
    refine (unhide RD).mono ?_
    rintro e w2 ⟨hF, hno, hyes⟩
    replace HF := hide ((unhide HF).trans hF (fun _ _ t => t))
    replace HTB := hide ((unhide HTB).keep hF)
    clear hF RD hw7 k1 k2
    cases hb : daysB t (7 * week) (ts.take 7) with
    | false =>
      obtain rfl := hno hb
      clear hno hyes hb HK
      go_wp2
      go_ret
      exact ⟨rfl, unhide HF⟩
    | true =>
      obtain ⟨a2, c2, g2, rfl, hK, hg⟩ := hyes hb
      have hlen : (ts.take 7).length = (daysL t (7 * week) (ts.take 7)).length := (daysL_length _ _ _).symm
      have HL7 : Hid ((daysL t (7 * week) (ts.take 7)).length ≤ 7) := hide (by rw [daysL_length, List.length_take]; omega)
      have HG : Hid (∀ i (hi : i < (daysL t (7 * week) (ts.take 7)).length), GoodD t (daysL t (7 * week) (ts.take 7))[i] ∧ (daysL t (7 * week) (ts.take 7))[i].day = 7 * week + i ∧ rightE t = 0) := hide (daysB_at t _ _ hb)
      rw [hlen]
      clear hlen hno hyes hb hg HP
      generalize daysL t (7 * week) (ts.take 7) = L at *
      have HKR := hide hK
      clear hK
      have HWE : Hid (wkE t L = rightE t) := hide (by
        unfold wkE
        by_cases q : rightE t = 0
        · rw [if_pos q, if_neg (by have := unhide HL7; omega), firstW_good q (unhide HK).1 (unhide HK).2 L (7 * week) none (by omega) (by have := unhide HL7; omega) (fun i hi => ⟨(unhide HG i hi).1, (unhide HG i hi).2.1⟩) (fun x hx => by cases hx), q]
        · rw [if_neg q])
      have HS0 : Hid (Fr (fun _ => False) w w2 ∧ TB w2 B A t ∧ KRow w2 a2 c2 g2 7 (dyV L) ∧ WkIn t dz ((0 : Nat) : Int)) := hide ⟨unhide HF, unhide HTB, unhide HKR, WkIn.zero t⟩
      have hl7 := unhide HL7
      clear HF HTB HKR HK
      go_wp2
      go_loopw [10, 11, 12, 13, 14, 15, 16, 17] (fun sv mv lv hv iv _ _ _ wr => ∃ (i : Nat) (s : Dy), i ≤ L.length ∧ Hid (s = sumW (L.take i)) ∧ sv = .int .i64 (s.rail + s.bus + s.most) ∧ mv = .int .i64 s.most ∧ lv = .int .i64 s.low ∧ hv = .int .i64 s.high ∧ iv = .int .i64 i ∧ Hid (Fr (fun _ => False) w wr ∧ TB wr B A t ∧ KRow wr a2 c2 g2 7 (dyV L) ∧ WkIn t s i)) (fun _ _ _ _ iv _ _ _ _ => L.length - (intOf iv).toNat)
      case atStart => exact ⟨0, dz, Nat.zero_le _, hide rfl, rfl, rfl, rfl, rfl, rfl, HS0⟩
      case round =>
        obtain ⟨i, s, hi, HSE, rfl, rfl, rfl, rfl, rfl, HI⟩ := hrel
        clear HS0
        by_cases hil : i < L.length
        · have hlt : (i : Int) < (L.length : Int) := by omega
          obtain ⟨i1, i2, i3, i4⟩ := unhide HI
          obtain ⟨b0, off0, hao, kk⟩ := i3.cat.dy hil
          subst hao
          have hG := unhide HG i hil
          have hrt := hG.2.2
          have HST : Hid (∀ c, L[i] = c → addW s c = sumW (L.take (i + 1))) := hide (fun c hc => by rw [← hc, unhide HSE]; exact (sumW_step L i hil).symm)
          generalize L[i] = q at *
          replace HST := hide (unhide HST q rfl)
          have HW := hide (i4.add hrt hG.1)
          have hg1 := hG.1
          have hbd := busDaily_of hrt
          have hzl := hg1.z.low
          have hsl := i4.z.low
          obtain ⟨d0, d1, d2, d3, d4, d5, d6⟩ := q
          obtain ⟨s0, s1, s2, s3, s4, s5, s6⟩ := s
          have k0 := kk 0 (by omega) _ rfl
          have k1 := kk 1 (by omega) _ rfl
          have k2 := kk 2 (by omega) _ rfl
          have k3 := kk 3 (by omega) _ rfl
          have k4 := kk 4 (by omega) _ rfl
          have k5 := kk 5 (by omega) _ rfl
          have k6 := kk 6 (by omega) _ rfl
          rw [Nat.add_zero] at k0
          rw [← Nat.add_assoc] at k1 k2 k3 k4 k5 k6
          obtain ⟨_, b1, b2, b3, _, b5, b6⟩ := hg1
          obtain ⟨_, r1, r2, r3, _⟩ := i4
          simp only at k0 k1 k2 k3 k4 k5 k6 b1 b2 b3 b5 b6 r1 r2 r3 hzl hsl
          have RS := hide (fun (u : World) (hu : Fr (fun _ => False) w u) => span_any u A t (unhide HT u hu) d5 d6)
          generalize hsp : (spanOf t d5 d6).getD ⟨0, 0, 0, 0, 0⟩ = sp at *
          generalize (spanOf t d5 d6).isSome = sb at *
          obtain ⟨p0, p1, p2, p3, p4⟩ := sp
          simp only [spA] at RS b3
          have HN : Hid (¬ d1 + d2 < d3 ∧ ¬ imax p3 t.busDaily < d3 ∧ ¬ t.busDaily < d2 ∧ ¬ d3 < d2) := hide ⟨by omega, by rw [imax_eq]; omega, by omega, by omega⟩
          have HQ : Hid (IntKind.i64.wrap (d1 + d2) = d1 + d2 ∧ IntKind.i64.wrap (s1 + s2 + s4 + d3) = s1 + s2 + s4 + d3 ∧ IntKind.i64.wrap (s1 + s2 + s4 + d3 + d4) = s1 + s2 + s4 + d3 + d4 ∧ IntKind.i64.wrap (s4 + d4) = s4 + d4) := hide (by
            refine ⟨?_, ?_, ?_, ?_⟩ <;> rw [IntKind.wrap_i64] <;> omega)
          have HZ : Hid (0 ≤ d5 ∧ 0 ≤ s5) := hide ⟨hzl, hsl⟩
          clear hG hrt hbd hzl hsl b1 b2 b3 b5 b6 r1 r2 r3 hsp kk
          go_upto_region 15 with (fail)
          obtain ⟨u1, hu1⟩ : ∃ u1, u1 = wr.alloc (.cells #[.int .i64 d0, .int .i64 d1, .int .i64 d2, .int .i64 d3, .int .i64 d4, .int .i64 d5, .int .i64 d6] 34) := ⟨_, rfl⟩
          obtain ⟨C, hC⟩ : ∃ C, C = wr.heap.size := ⟨_, rfl⟩
          rw [← hu1, ← hC]
          have hFa : Fr (fun _ => False) wr u1 := by rw [hu1]; exact (Fr.refl _ _).alloc _
          have HC1 : Hid (Bx u1 C (dyC ⟨d0, d1, d2, d3, d4, d5, d6⟩) 34) := hide (by rw [hu1, hC]; exact Bx.new _ _ _)
          have J1 := hide (i1.trans hFa (fun _ _ t => t))
          have J2 := hide (i2.keep hFa)
          have J3 := hide (i3.keep (by omega) hFa)
          clear i1 i2 i3 HI hFa hu1 hC k0 k1 k2 k3 k4 k5 k6
          have e5 : u1.cell? ⟨C, 5, none⟩ = some (.int .i64 d5) := (unhide HC1).cell 5
          have e6 : u1.cell? ⟨C, 6, none⟩ = some (.int .i64 d6) := (unhide HC1).cell 6
          have RS1 := unhide RS u1 (unhide J1)
          clear RS
          unfold tv at RS1
          go_wp2_with (refine wpList_load_tariff rfl (.tmp 3) rfl (g := B) (A := A) (t := t) rfl (unhide J2) ?_)
          refine RS1.mono ?_
          rintro e u2 ⟨rfl, hF⟩
          replace J1 := hide ((unhide J1).trans hF (fun _ _ t => t))
          replace J2 := hide ((unhide J2).keep hF)
          replace J3 := hide ((unhide J3).keep (by omega) hF)
          replace HC1 := hide ((unhide HC1).keep hF)
          clear hF RS1 e5 e6
          go_upto_region 16 with (fail)
          obtain ⟨u3, hu3⟩ : ∃ u3, u3 = u2.alloc (.cells #[.int .i64 p0, .int .i64 p1, .int .i64 p2, .int .i64 p3, .int .i64 p4] 36) := ⟨_, rfl⟩
          obtain ⟨D, hD⟩ : ∃ D, D = u2.heap.size := ⟨_, rfl⟩
          rw [← hu3, ← hD]
          have hF : Fr (fun _ => False) u2 u3 := by rw [hu3]; exact (Fr.refl _ _).alloc _
          have HD1 : Bx u3 D #[.int .i64 p0, .int .i64 p1, .int .i64 p2, .int .i64 p3, .int .i64 p4] 36 := by rw [hu3, hD]; exact Bx.new _ _ _
          have HV2 : Hid (Fr (fun _ => False) w u3 ∧ TB u3 B A t ∧ KRow u3 (some ⟨b0, off0, none⟩) c2 g2 7 (dyV L)) := hide ⟨(unhide J1).trans hF (fun _ _ t => t), (unhide J2).keep hF, (unhide J3).keep (by omega) hF⟩
          have hc := (unhide HC1).keep hF
          have x1 : u3.cell? ⟨C, 1, none⟩ = some (.int .i64 d1) := hc.cell 1
          have x2 : u3.cell? ⟨C, 2, none⟩ = some (.int .i64 d2) := hc.cell 2
          have x3 : u3.cell? ⟨C, 3, none⟩ = some (.int .i64 d3) := hc.cell 3
          have x4 : u3.cell? ⟨C, 4, none⟩ = some (.int .i64 d4) := hc.cell 4
          have x5 : u3.cell? ⟨C, 5, none⟩ = some (.int .i64 d5) := hc.cell 5
          have x6 : u3.cell? ⟨C, 6, none⟩ = some (.int .i64 d6) := hc.cell 6
          have y3 : u3.cell? ⟨D, 3, none⟩ = some (.int .i64 p3) := HD1.cell 3
          have z5 : u3.cell? ⟨B, 5, none⟩ = some (.int .i64 t.busDaily) := (unhide HV2).2.1.cell 5
          clear hF hu3 hD HD1 hc J1 J2 J3 HC1
          have qm := run_max
          obtain ⟨n1, n2, n3, n4⟩ := unhide HN
          obtain ⟨o1, o2, o3, o4⟩ := unhide HQ
          clear HN HQ
          go_upto_region 20 with (fail)
          clear n1 n2 n3 n4 o1 o2 o3 o4 x1 x2 x3 x4 y3 z5
          have HNX : Hid (∀ lo hi : Int, lo = lowW s5 d5 → hi = imax s6 d6 → ∃ (j : Nat) (s' : Dy), j ≤ L.length ∧ Hid (s' = sumW (L.take j)) ∧ (Value.int .i64 (s1 + s2 + s4 + d3 + d4)) = .int .i64 (s'.rail + s'.bus + s'.most) ∧ (Value.int .i64 (s4 + d4)) = .int .i64 s'.most ∧ (Value.int .i64 lo) = .int .i64 s'.low ∧ (Value.int .i64 hi) = .int .i64 s'.high ∧ (Value.int .i64 ((i : Int) + 1)) = .int .i64 (j : Int) ∧ Hid (Fr (fun _ => False) w u3 ∧ TB u3 B A t ∧ KRow u3 (some ⟨b0, off0, none⟩) c2 g2 7 (dyV L) ∧ WkIn t s' j)) := hide (fun lo hi h1 h2 => ⟨i + 1, addW ⟨s0, s1, s2, s3, s4, s5, s6⟩ ⟨d0, d1, d2, d3, d4, d5, d6⟩, by omega, HST, by simp only [addW, widD]; congr 1; omega, rfl, by rw [h1]; rfl, by rw [h2]; rfl, by rw [show ((i + 1 : Nat) : Int) = (i : Int) + 1 by omega], hide ⟨(unhide HV2).1, (unhide HV2).2.1, (unhide HV2).2.2, by have := unhide HW; rw [show ((i + 1 : Nat) : Int) = (i : Int) + 1 by omega]; exact this⟩⟩)
          have hnn := unhide HZ
          clear HST HW HV2 HSE HZ
          rcases (by omega : d5 = 0 ∨ (0 < d5 ∧ s5 = 0) ∨ (0 < d5 ∧ ¬ s5 = 0 ∧ d5 < s5) ∨ (0 < d5 ∧ ¬ s5 = 0 ∧ ¬ d5 < s5)) with m1 | ⟨m1, m2⟩ | ⟨m1, m2, m3⟩ | ⟨m1, m2, m3⟩
          · subst m1
            have HLW := hide (show s5 = lowW s5 0 by unfold lowW; split <;> omega)
            clear hnn
            go_wp2
            refine ⟨unhide HNX _ _ (unhide HLW) rfl, by simp [intOf] <;> omega⟩
          · subst m2
            have HLW := hide (show d5 = lowW 0 d5 by unfold lowW; rw [if_pos rfl])
            clear hnn
            go_wp2
            refine ⟨unhide HNX _ _ (unhide HLW) rfl, by simp [intOf] <;> omega⟩
          · have HLW := hide (show d5 = lowW s5 d5 by unfold lowW; rw [if_neg m2, if_pos ⟨m1, m3⟩])
            have hb2 : (s5 == 0) = false := by simp [m2]
            clear hnn
            go_wp2
            refine ⟨unhide HNX _ _ (unhide HLW) rfl, by simp [intOf] <;> omega⟩
          · have HLW := hide (show s5 = lowW s5 d5 by unfold lowW; rw [if_neg m2, if_neg (by omega)])
            have hb2 : (s5 == 0) = false := by simp [m2]
            clear hnn
            go_wp2
            refine ⟨unhide HNX _ _ (unhide HLW) rfl, by simp [intOf] <;> omega⟩
        · obtain rfl : i = L.length := by omega
          have hlt : ¬ (L.length : Int) < (L.length : Int) := by omega
          obtain ⟨i1, i2, i3, i4⟩ := unhide HI
          have hse := unhide HSE
          rw [List.take_length] at hse
          have HWW := hide i4
          have HF := hide i1
          have HTB := hide i2
          have RW := hide (capsWeek_any wr A t (unhide HT wr i1) a2 c2 L i3.cat)
          have HWR : Hid (wkR t L = if rightE t = 0 then capV t (heldW t s) (·.weekly) + s.most else 0) := hide (by unfold wkR wkV; rw [unhide HWE, hse])
          rw [unhide HWE, unhide HWR] at RW
          unfold tv at RW
          clear HI i1 i2 i3 i4 HSE hse HWR HWE HG
          go_wp2_with (refine wpList_load_tariff rfl (.tmp 3) rfl (g := B) (A := A) (t := t) rfl (unhide HTB) ?_)
          refine (unhide RW).mono ?_
          rintro e w3 ⟨rfl, hF⟩
          replace HF := hide ((unhide HF).trans hF (fun _ _ t => t))
          replace HTB := hide ((unhide HTB).keep hF)
          clear hF RW
          by_cases hr : rightE t = 0
          · rw [if_pos hr, hr]
            have hh := (unhide HWW).hold hr
            have hbw := busWeekly_of hr
            obtain ⟨_, r1, r2, r3, _⟩ := unhide HWW
            obtain ⟨s0, s1, s2, s3, s4, s5, s6⟩ := s
            have RS := hide (span_any w3 A t (unhide HT w3 (unhide HF)) s5 s6)
            have hsv : 0 ≤ ((spanOf t s5 s6).getD ⟨0, 0, 0, 0, 0⟩).weekly ∧ ((spanOf t s5 s6).getD ⟨0, 0, 0, 0, 0⟩).weekly ≤ 1048576 := by
              cases q : spanOf t s5 s6 with
              | none => simp
              | some x => exact (span_vals hr q).2
            simp only at hh r1 r2 r3
            generalize (spanOf t s5 s6).getD ⟨0, 0, 0, 0, 0⟩ = sp at *
            generalize (spanOf t s5 s6).isSome = sb at *
            generalize capV t (heldW t ⟨s0, s1, s2, s3, s4, s5, s6⟩) (·.weekly) = cv at *
            obtain ⟨p0, p1, p2, p3, p4⟩ := sp
            simp only [spA] at RS hh hsv
            unfold tv at RS
            have HN : Hid (cv + s4 ≤ s1 + s2 + s4 ∧ cv + s4 ≤ imax p4 t.busWeekly + s4 ∧ s4 ≤ cv + s4 ∧ IntKind.i64.wrap (imax p4 t.busWeekly + s4) = imax p4 t.busWeekly + s4) := hide (by
              refine ⟨by omega, by rw [imax_eq]; omega, by omega, ?_⟩
              rw [IntKind.wrap_i64, imax_eq]
              omega)
            clear hh hbw hsv r1 r2 r3 hr HWW
            go_wp2_with (refine wpList_load_tariff rfl (.tmp 3) rfl (g := B) (A := A) (t := t) rfl (unhide HTB) ?_)
            refine (unhide RS).mono ?_
            rintro e w4 ⟨rfl, hF⟩
            replace HF := hide ((unhide HF).trans hF (fun _ _ t => t))
            replace HTB := hide ((unhide HTB).keep hF)
            clear hF RS
            go_upto_region 28 with (fail)
            obtain ⟨u3, hu3⟩ : ∃ u3, u3 = w4.alloc (.cells #[.int .i64 p0, .int .i64 p1, .int .i64 p2, .int .i64 p3, .int .i64 p4] 36) := ⟨_, rfl⟩
            obtain ⟨D, hD⟩ : ∃ D, D = w4.heap.size := ⟨_, rfl⟩
            rw [← hu3, ← hD]
            have hF : Fr (fun _ => False) w4 u3 := by rw [hu3]; exact (Fr.refl _ _).alloc _
            have HD1 : Bx u3 D #[.int .i64 p0, .int .i64 p1, .int .i64 p2, .int .i64 p3, .int .i64 p4] 36 := by rw [hu3, hD]; exact Bx.new _ _ _
            replace HF := hide ((unhide HF).trans hF (fun _ _ t => t))
            have y4 : u3.cell? ⟨D, 4, none⟩ = some (.int .i64 p4) := HD1.cell 4
            have z6 : u3.cell? ⟨B, 6, none⟩ = some (.int .i64 t.busWeekly) := ((unhide HTB).keep hF).cell 6
            clear hF HD1 hu3 hD HTB
            have qm := run_max
            obtain ⟨n1, n2, n3, n4⟩ := unhide HN
            clear HN
            go_wp2
            go_ret
            exact ⟨rfl, unhide HF⟩
          · rw [if_neg hr]
            have hb2 : (rightE t == 0) = false := by simp [hr]
            have hb3 : (rightE t != 0) = true := by simp [hr]
            have RR := hide (right_walk w3 A t (unhide HT w3 (unhide HF)))
            unfold tv at RR
            clear HWW hr
            generalize rightE t = rr at *
            go_wp2_with (refine wpList_load_tariff rfl (.tmp 3) rfl (g := B) (A := A) (t := t) rfl (unhide HTB) ?_)
            refine (unhide RR).mono ?_
            rintro e w4 ⟨rfl, hF⟩
            replace HF := hide ((unhide HF).trans hF (fun _ _ t => t))
            clear hF RR
            go_wp2
            go_ret
            exact ⟨by first | rfl | simp, unhide HF⟩

end Go.Proofs.Ytdbnppbfoohjjaa

namespace Go.Proofs.Ytdbnppbfoohjjaa
open Go.ChangeShapes Go.WideShapes Go.ChangeAt Go.RowKit Go.Deep

namespace capsHold

set_option maxRecDepth 100000 in
theorem lifted (os : Os) (started : os.Started) (H : Type) (enc : TypeId × Value → H) :
    ReturnsInHanded {} Try.checked os 3 .any (Rows.capsHoldSpec.pre6 enc Try.prog Try.f3 Rows.capsHoldRow.domain false) (Rows.capsHoldSpec.post enc Try.prog Try.f3 false true false false) := by
  refine returnsInHanded_of_change_sized (C := Try.checked) own started (by kernel_rfl) Try.func3
    (ChangeSpec.witness6 (enc := enc) (C := Try.checked) false ⟨#[], #[.agg #[.slice none 0 0, .slice none 0 0, .slice none 0 0, .float .f64 0, .int .i64 0, .int .i64 0, .int .i64 0, .int .i64 0, .int .i64 0, .int .i64 0, .int .i64 0, .int .i64 0, .int .i64 0, .int .i64 0], .int .i64 0, .slice none 0 0], []⟩ 8 (by kernel_rfl) (by kernel_rfl) (by kernel_rfl) (by kernel_rfl)) ?_
  intro W base args ds gs before hval0 hW hcnd hsz0 _
  have hsz : (DataW.weightsEach Try.prog (Try.f3.params.toList ++ Rows.capsHoldSpec.plain.varTypes Try.prog) (ds ++ gs)).all (· ≤ reachBytes) = true := hsz0
  have hval : ∀ (j : Nat) t v, Try.f3.params[j]? = some t → args[j]? = some v → Value.okWide Try.prog W .any base t v := hval0
  have hW' := hW
  obtain ⟨p, q, hA0, hV, rfl, hfz, hnd⟩ := hW
  have hA : DataW.TrodAll enc Try.prog W 0 (fun _ => true) true Try.f3.params.toList args.toList ds p := hA0
  rw [Try.params3] at hA hval hsz
  obtain ⟨v0, vs0, d0, ds0, p0, q0, hargs, rfl, rfl, h0, r0⟩ := trodAll_cons hA
  obtain ⟨v1, vs1, d1, ds1, p1, q1, rfl, rfl, rfl, h1, r1⟩ := trodAll_cons r0
  obtain ⟨v2, vs2, d2, ds2, p2, q2, rfl, rfl, rfl, h2, r2⟩ := trodAll_cons r1
  obtain ⟨rfl, rfl, rfl⟩ := trodAll_nil r2
  obtain rfl : args = #[v0, v1, v2] := by cases args; simp_all
  obtain ⟨rfl, rfl⟩ := trodVars_none hV
  have k0 := h0
  have lt0 : ∀ x ∈ p0, x.block < W.heap.size := by obtain ⟨m, hm⟩ := k0; exact DataW.trod_lt m _ _ _ hm
  obtain ⟨A0, t0, rfl, hT0⟩ := open_arg (j := 0) (okWide_struct Try.underlying27 (hval 0 27 v0 rfl rfl)) h0 hsz rfl rfl
  obtain ⟨n1, rfl, rfl, rfl, w1⟩ := open_int Try.underlying3 (hval 1 3 v1 rfl rfl) h1
  have k2 := h2
  have lt2 : ∀ x ∈ p2, x.block < W.heap.size := by obtain ⟨m, hm⟩ := k2; exact DataW.trod_lt m _ _ _ hm
  obtain ⟨a2, c2, l2, rfl, hb2, hc2, hn2⟩ := arg_pricedss (j := 2) (okWide_slice Try.underlying28 (hval 2 28 v2 rfl rfl)) h2 hsz rfl rfl
  clear hA0 hval0
  refine (hold_walkC W A0 t0 hT0 n1 a2 c2 l2 hb2).mono fun e W' ⟨he, hfr⟩ => ?_
  subst he
  have bel : Below W.heap.size W W' := hfr.below (Nat.le_refl _) (fun k t => t.elim)
  exact ⟨_, rfl, _, _, _, [], _, [], hW', trodAll_mk1 (shut_bool Try.underlying4 _), (trodAll_cons_mk (Below.trod laidOut (by kernel_rfl) (of_decide_eq_true (by kernel_rfl)) k0 bel lt0) (trodAll_cons_mk (shut_int Try.underlying3 w1) (trodAll_cons_mk (Below.trod laidOut (by kernel_rfl) (of_decide_eq_true (by kernel_rfl)) k2 bel lt2) trodAll_mk0))), rfl, bel.frame _, fun h => by cases h⟩

theorem over : Rows.capsHoldRow.holds Try.pinned (OpenSpec.ofChange Rows.capsHoldSpec) :=
  OpenClaim.holds_of_wide 3 Try.f3 rfl rfl rfl rfl rfl rfl rfl ⟨rfl, rfl, rfl, rfl, rfl⟩ rfl rfl rfl rfl rfl (by kernel_rfl) Try.func3 (by kernel_rfl)
    (of_decide_eq_true (by kernel_rfl)) (by unfold Func.isWrapper; first | (rw [if_pos (by decide +kernel)]; kernel_rfl) | (rw [if_neg (by decide +kernel)]; exact ⟨rfl, rfl⟩))
    (fun os started H enc _ => lifted os started H enc)

end capsHold

/-- THE STATEMENT. -/
theorem capsHold_holds : Rows.CapsHoldSaid := capsHold.over
#print axioms capsHold_holds
end Go.Proofs.Ytdbnppbfoohjjaa

