import Derived.Test.YtjgbllfppomcmaaCP6
/- The program's caps.Week. -/
namespace Go.Proofs.Ytjgbllfppomcmaa
open Go.RowKit

def prevW (l : List Dy) (i : Nat) : Option Dy := if i = 0 then none else l[i - 1]?

set_option maxHeartbeats 2000000 in
set_option maxRecDepth 20000 in
theorem capsWeek_any (w : World) (A : Ad) (t : Tf) (h : TAt w A t) (ao0 : Option Addr) (cap0 : Nat) (l : List Dy) (hl : CAt w ao0 (dyV l)) :
    Calls Try.prog 6 #[tv A t, .slice ao0 l.length cap0] w fun e w' => e = .returned (.tuple #[.int .i64 (wkR t l), .int .i64 (wkE t l)]) ∧ Fr (fun _ => False) w w' := by
  have RE := hide (fun (u : World) (hu : Fr (fun _ => False) w u) => right_walk u A t (h.keep hu))
  have HT := hide (fun (u : World) (hu : Fr (fun _ => False) w u) => h.keep hu)
  have HL := hide (fun (u : World) (hu : Fr (fun _ => False) w u) => hl.keep hu)
  have HE : Hid (wkE t l = if rightE t = 0 then (if 7 < l.length then 2 else firstW t none l) else rightE t) := rfl
  have HR : Hid (wkR t l = if wkE t l = 0 then wkV t l else 0) := rfl
  obtain ⟨v, hv⟩ : ∃ v, v = w.alloc (.cells (tc A t) 27) := ⟨_, rfl⟩
  have HFV : Hid (Fr (fun _ => False) w v) := hide (by rw [hv]; exact (Fr.refl _ w).alloc _)
  have hTB : TB v w.heap.size A t := by rw [hv]; exact TB.new w A t
  obtain ⟨B, hB⟩ : ∃ B, B = w.heap.size := ⟨_, rfl⟩
  rw [← hB] at hTB
  have HTB := hide hTB
  have HV := hide hv
  have HB := hide hB
  clear hv hB hTB h hl
  unfold tv
  unfold tc at HV ⊢
  go_enter Try.func6, Try.ntmps6
  go_upto_region 1 with (fail)
  rw [← unhide HV, ← unhide HB]
  clear HV
  go_wp2_with (refine wpList_load_tariff rfl (.tmp 2) rfl (g := B) (A := A) (t := t) rfl (unhide HTB) ?_)
  refine (unhide RE v (unhide HFV)).mono ?_
  rintro e w1 ⟨rfl, hF⟩
  have HTB1 := hide ((unhide HTB).keep hF)
  have HF1 := hide ((unhide HFV).trans hF (fun _ _ t => t))
  clear hF HTB HFV RE
  by_cases h0 : rightE t = 0
  · rw [h0]
    by_cases h1 : 7 < l.length
    · have HX : Hid (wkE t l = 2) := hide (by rw [unhide HE, if_pos h0, if_pos h1])
      have HX2 : Hid (wkR t l = 0) := hide (by rw [unhide HR, if_neg (by rw [unhide HX]; decide)])
      have h1i : (7 : Int) < (l.length : Int) := by omega
      clear HE HR HL HT HTB1 h0 h1
      go_wp2
      go_ret2
      exact ⟨by rw [unhide HX, unhide HX2]; rfl, unhide HF1⟩
    · have HX : Hid (wkE t l = firstW t none l) := hide (by rw [unhide HE, if_pos h0, if_neg h1])
      have h1i : ¬ (7 : Int) < (l.length : Int) := by omega
      have hn : l.length ≤ 7 := by omega
      have HN7 := hide hn
      have HBD := hide (busWeekly_of h0)
      clear HE h0 h1 hn
      go_upto_region 7 with (fail)
      obtain ⟨u0, hu0⟩ : ∃ u0, u0 = w1.alloc (.cells (dyC dz) 43) := ⟨_, rfl⟩
      obtain ⟨g, hg⟩ : ∃ g, g = w1.heap.size := ⟨_, rfl⟩
      have hFa : Fr (fun _ => False) w1 u0 := by rw [hu0]; exact (Fr.refl _ _).alloc _
      have hD0 : Bx u0 g (dyC dz) 43 := by rw [hu0, hg]; exact Bx.new _ _ _
      have HGW : Hid (w.heap.size ≤ g) := hide (by rw [hg]; exact (unhide HF1).size)
      have HBG : Hid (B < g) := hide (by rw [hg]; exact (unhide HTB1).lt)
      have HS0 : Hid (Fr (fun _ => False) w u0 ∧ TB u0 B A t ∧ Bx u0 g (dyC (sumW (l.take 0))) 43 ∧ DyIn (sumW (l.take 0)) ((0 : Nat) * 1099511627776) ∧ firstW t (prevW l 0) (l.drop 0) = firstW t none l) := hide ⟨(unhide HF1).trans hFa (fun _ _ t => t), (unhide HTB1).keep hFa, hD0, by simp [DyIn, sumW, dz], rfl⟩
      simp only [dyC, dz] at hu0
      rw [← hu0, ← hg]
      clear hFa hu0 hg HTB1 HF1 h1i hD0
      go_wp2
      go_loopw [8, 9, 10, 21] (fun _ _ _ iv wr => ∃ i : Nat, i ≤ l.length ∧ iv = .int .i64 i ∧ Hid (Fr (fun _ => False) w wr ∧ TB wr B A t ∧ Bx wr g (dyC (sumW (l.take i))) 43 ∧ DyIn (sumW (l.take i)) ((i : Nat) * 1099511627776) ∧ firstW t (prevW l i) (l.drop i) = firstW t none l)) (fun _ _ _ iv _ => l.length - (intOf iv).toNat)
      case atStart => exact ⟨0, Nat.zero_le _, rfl, HS0⟩
      case round =>
        obtain ⟨i, hi, rfl, HI⟩ := hrel
        clear HS0
        by_cases hil : i < l.length
        · have hlt : (i : Int) < (l.length : Int) := by omega
          obtain ⟨b0, off0, hao, kk⟩ := (unhide HL wr (unhide HI).1).dy hil
          subst hao
          have k0 := kk 0 (by omega) _ rfl
          have k1 := kk 1 (by omega) _ rfl
          have k2 := kk 2 (by omega) _ rfl
          have k3 := kk 3 (by omega) _ rfl
          have k4 := kk 4 (by omega) _ rfl
          have k5 := kk 5 (by omega) _ rfl
          have k6 := kk 6 (by omega) _ rfl
          rw [Nat.add_zero] at k0
          rw [← Nat.add_assoc] at k1 k2 k3 k4 k5 k6
          have hfirst := (unhide HI).2.2.2.2
          rw [List.drop_eq_getElem_cons hil] at hfirst
          have HST : Hid (∀ c, l[i] = c → sumW (l.take (i + 1)) = addW (sumW (l.take i)) c) := hide (fun c hc => by rw [← hc]; exact sumW_step l i hil)
          have HPV : Hid (∀ c, l[i] = c → prevW l (i + 1) = some c) := hide (fun c hc => by unfold prevW; rw [if_neg (by omega), Nat.add_sub_cancel, List.getElem?_eq_getElem hil, hc])
          clear kk
          generalize l[i] = q at *
          have HST := hide (unhide HST q rfl)
          have HPV := hide (unhide HPV q rfl)
          obtain ⟨d0, d1, d2, d3, d4, d5, d6⟩ := q
          simp only at k0 k1 k2 k3 k4 k5 k6
          have HFI := hide hfirst
          have HIL := hide hil
          clear hfirst
          go_upto_region 10 with (fail)
          obtain ⟨u1, hu1⟩ : ∃ u1, u1 = wr.alloc (.cells #[.int .i64 d0, .int .i64 d1, .int .i64 d2, .int .i64 d3, .int .i64 d4, .int .i64 d5, .int .i64 d6] 43) := ⟨_, rfl⟩
          obtain ⟨C, hC⟩ : ∃ C, C = wr.heap.size := ⟨_, rfl⟩
          rw [← hu1, ← hC]
          have hFa : Fr (fun _ => False) wr u1 := by rw [hu1]; exact (Fr.refl _ _).alloc _
          obtain ⟨i1, i2, i3, i4, i5⟩ := unhide HI
          have HC1 : Hid (Bx u1 C (dyC ⟨d0, d1, d2, d3, d4, d5, d6⟩) 43) := hide (by rw [hu1, hC]; exact Bx.new _ _ _)
          have HGC : Hid (g < C) := hide (by rw [hC]; exact i3.lt)
          have HF1 := hide (i1.trans hFa (fun _ _ t => t))
          have HTB1 := hide (i2.keep hFa)
          have HG1 := hide (i3.keep hFa)
          have HIN := hide i4
          clear i1 i2 i3 i4 i5 hFa hu1 hC HI k0 k1 k2 k3 k4 k5 k6
          rcases Nat.eq_zero_or_pos i with hi0 | hi0
          · have HNX : Hid (dayRE t ⟨d0, d1, d2, d3, d4, d5, d6⟩ = 0 → firstW t (prevW l (i + 1)) (l.drop (i + 1)) = firstW t none l) := hide (fun hh => by
              rw [unhide HPV, ← unhide HFI]
              exact (firstW_cons t _ _ _ (fun x hx => by unfold prevW at hx; rw [if_pos hi0] at hx; cases hx) hh).symm)
            have HBAD : Hid (¬ dayRE t ⟨d0, d1, d2, d3, d4, d5, d6⟩ = 0 → firstW t none l = dayRE t ⟨d0, d1, d2, d3, d4, d5, d6⟩) := hide (fun hh => by
              rw [← unhide HFI]
              exact firstW_day t _ _ _ (fun x hx => by unfold prevW at hx; rw [if_pos hi0] at hx; cases hx) hh)
            clear HFI HPV hlt hil hi
            subst hi0
            go_wp2_with fail
            go_quiet (fail)
            go_upto_region 12 with (fail)
            generalize hu2 : u1.drewN _ = u2
            have hF : Fr (fun _ => False) u1 u2 := by rw [← hu2]; exact (Fr.refl _ _).drewN _
            have HF2 := hide ((unhide HF1).trans hF (fun _ _ t => t))
            have HTB2 := hide ((unhide HTB1).keep hF)
            have HC2 := hide ((unhide HC1).keep hF)
            have HG2 := hide ((unhide HG1).keep hF)
            clear hF hu2 HF1 HTB1 HC1 HG1
            have RR := hide (capsRight_any u2 A t (unhide HT u2 (unhide HF2)) ⟨d0, d1, d2, d3, d4, d5, d6⟩)
            have HDZ := hide (fun hh => dayRE_zero (t := t) (d := ⟨d0, d1, d2, d3, d4, d5, d6⟩) hh)
            have HWK := hide (fun hh => (unhide HIN).week (t := t) (d := ⟨d0, d1, d2, d3, d4, d5, d6⟩) hh)
            generalize dayRE t ⟨d0, d1, d2, d3, d4, d5, d6⟩ = pe at *
            go_wp2_with (first | refine wpList_load_tariff rfl (.tmp 2) rfl (g := B) (A := A) (t := t) rfl (unhide HTB2) ?_ | refine wpList_load_day rfl (.tmp 9) rfl (g := C) (d := ⟨d0, d1, d2, d3, d4, d5, d6⟩) rfl (unhide HC2) ?_)
            refine (unhide RR).mono ?_
            rintro e u3 ⟨rfl, hF3⟩
            have HF3 := hide ((unhide HF2).trans hF3 (fun _ _ t => t))
            have HTB3 := hide ((unhide HTB2).keep hF3)
            have HC3 := hide ((unhide HC2).keep hF3)
            have HG3 := hide ((unhide HG2).keep hF3)
            clear hF3 RR HF2 HTB2 HC2 HG2
            by_cases hc : pe = 0
            · subst hc
              have HN := hide (unhide HNX rfl)
              obtain ⟨q1, q2, q3, q4, q5, q6⟩ := unhide HDZ rfl
              try simp only at q1 q2 q3 q4 q5
              obtain ⟨s1, s2, s3⟩ := unhide HIN
              have hi7 : ((0 : Nat) : Int) ≤ 7 := by have := unhide HN7; have := unhide HIL; omega
              have HI2 := hide (unhide HWK rfl)
              clear HNX HDZ HWK HIN
              generalize sumW (l.take (0)) = sw at *
              obtain ⟨w0, w1', w2', w3', w4', w5', w6'⟩ := sw
              try simp only at s1 s2 s3
              have c1 : u3.cell? ⟨g, 1, none⟩ = some (.int .i64 w1') := (unhide HG3).cell 1
              have f1 := (unhide HG3).frozen 1
              have b3 : u3.cell? ⟨C, 3, none⟩ = some (.int .i64 d3) := (unhide HC3).cell 3
              have b2 : u3.cell? ⟨C, 2, none⟩ = some (.int .i64 d2) := (unhide HC3).cell 2
              have HW1 : Hid (wrap64 (d3 - d2) = d3 - d2) := hide (by unfold wrap64; omega)
              have HW2 : Hid (wrap64 (w1' + (d3 - d2)) = w1' + (d3 - d2)) := hide (by unfold wrap64; omega)
              have HW3 : Hid (wrap64 (w2' + d2) = w2' + d2) := hide (by unfold wrap64; omega)
              have HW4 : Hid (wrap64 (w4' + d4) = w4' + d4) := hide (by unfold wrap64; omega)
              clear q1 q2 q3 q4 q5 q6 s1 s2 s3 hi7
              go_upto_region 16 with (fail)
              rw [unhide HW1, unhide HW2]
              obtain ⟨u4, hu4⟩ : ∃ u4, u4 = u3.setCell ⟨g, 1, none⟩ (.int .i64 (w1' + (d3 - d2))) := ⟨_, rfl⟩
              rw [← hu4]
              have hf : Fr (fun q => q = g) u3 u4 := by rw [hu4]; exact (Fr.refl (fun q => q = g) u3).setCell (p := ⟨g, 1, none⟩) (fun _ => rfl) _
              have HG4 : Hid (Bx u4 g #[.int .i64 w0, .int .i64 (w1' + (d3 - d2)), .int .i64 w2', .int .i64 w3', .int .i64 w4', .int .i64 w5', .int .i64 w6'] 43) := hide (by rw [hu4]; exact (unhide HG3).setCell 1 _)
              have HF4 := hide ((unhide HF3).trans hf (fun q hq e => by have := unhide HGW; omega))
              have HTB4 := hide ((unhide HTB3).frame hf (fun e => by have := unhide HBG; omega))
              have HC4 := hide ((unhide HC3).frame hf (fun e => by have := unhide HGC; omega))
              clear hu4 hf c1 f1 b3 b2 HF3 HTB3 HC3 HG3 HW1 HW2
              have c2 : u4.cell? ⟨g, 2, none⟩ = some (.int .i64 w2') := (unhide HG4).cell 2
              have f2 := (unhide HG4).frozen 2
              have b2 : u4.cell? ⟨C, 2, none⟩ = some (.int .i64 d2) := (unhide HC4).cell 2
              go_upto_region 17 with (fail)
              rw [unhide HW3]
              obtain ⟨u5, hu5⟩ : ∃ u5, u5 = u4.setCell ⟨g, 2, none⟩ (.int .i64 (w2' + d2)) := ⟨_, rfl⟩
              rw [← hu5]
              have hf : Fr (fun q => q = g) u4 u5 := by rw [hu5]; exact (Fr.refl (fun q => q = g) u4).setCell (p := ⟨g, 2, none⟩) (fun _ => rfl) _
              have HG5 : Hid (Bx u5 g #[.int .i64 w0, .int .i64 (w1' + (d3 - d2)), .int .i64 (w2' + d2), .int .i64 w3', .int .i64 w4', .int .i64 w5', .int .i64 w6'] 43) := hide (by rw [hu5]; exact (unhide HG4).setCell 2 _)
              have HF5 := hide ((unhide HF4).trans hf (fun q hq e => by have := unhide HGW; omega))
              have HTB5 := hide ((unhide HTB4).frame hf (fun e => by have := unhide HBG; omega))
              have HC5 := hide ((unhide HC4).frame hf (fun e => by have := unhide HGC; omega))
              clear hu5 hf c2 f2 b2 HF4 HTB4 HC4 HG4 HW3
              have c4 : u5.cell? ⟨g, 4, none⟩ = some (.int .i64 w4') := (unhide HG5).cell 4
              have f4 := (unhide HG5).frozen 4
              have b4 : u5.cell? ⟨C, 4, none⟩ = some (.int .i64 d4) := (unhide HC5).cell 4
              go_upto_region 18 with (fail)
              rw [unhide HW4]
              obtain ⟨u6, hu6⟩ : ∃ u6, u6 = u5.setCell ⟨g, 4, none⟩ (.int .i64 (w4' + d4)) := ⟨_, rfl⟩
              rw [← hu6]
              have hf : Fr (fun q => q = g) u5 u6 := by rw [hu6]; exact (Fr.refl (fun q => q = g) u5).setCell (p := ⟨g, 4, none⟩) (fun _ => rfl) _
              have HG6 : Hid (Bx u6 g (dyC ⟨w0, w1' + (d3 - d2), w2' + d2, w3', w4' + d4, w5', w6'⟩) 43) := hide (by rw [hu6]; exact (unhide HG5).setCell 4 _)
              have HF6 := hide ((unhide HF5).trans hf (fun q hq e => by have := unhide HGW; omega))
              have HTB6 := hide ((unhide HTB5).frame hf (fun e => by have := unhide HBG; omega))
              have HC6 := hide ((unhide HC5).frame hf (fun e => by have := unhide HGC; omega))
              clear hu6 hf c4 f4 b4 HF5 HTB5 HC5 HG5 HW4
              have b5 : u6.cell? ⟨C, 5, none⟩ = some (.int .i64 d5) := (unhide HC6).cell 5
              have b6 : u6.cell? ⟨C, 6, none⟩ = some (.int .i64 d6) := (unhide HC6).cell 6
              go_wp2_with fail
              refine (widen_any u6 g _ (unhide HG6) d5 d6).mono ?_
              rintro e u7 ⟨rfl, hG7, hf⟩
              have HS1 : Hid (Fr (fun _ => False) w u7 ∧ TB u7 B A t ∧ Bx u7 g (dyC (sumW (l.take (0 + 1)))) 43 ∧ DyIn (sumW (l.take (0 + 1))) ((0 + 1 : Nat) * 1099511627776) ∧ firstW t (prevW l (0 + 1)) (l.drop (0 + 1)) = firstW t none l) := hide ⟨(unhide HF6).trans hf (fun q hq e => by have := unhide HGW; omega), (unhide HTB6).frame hf (fun e => by have := unhide HBG; omega), by rw [unhide HST]; exact hG7, by rw [unhide HST, show (((0 + 1 : Nat) : Int) * 1099511627776) = ((0 : Nat) : Int) * 1099511627776 + 1099511627776 by omega]; exact unhide HI2, unhide HN⟩
              clear hG7 hf HF6 HTB6 HC6 HG6 HI2 HN HST b5 b6
              have hil := unhide HIL
              have hn7 := unhide HN7
              go_wp2
              exact ⟨⟨0 + 1, by have := unhide HIL; omega, by go_num, HS1⟩, by have := unhide HIL; simp [intOf]; omega⟩
            · have HX2 : Hid (wkE t l = pe) := hide (by rw [unhide HX]; exact unhide HBAD hc)
              have HX3 : Hid (wkR t l = 0) := hide (by rw [unhide HR, if_neg (by rw [unhide HX2]; exact hc)])
              have hb2 : (pe == 0) = false := by simp [hc]
              have hb3 : (pe != 0) = true := by simp [hc]
              clear HX HR HBAD HNX hc HTB3 HC3 HG3 HST HIN HL HT HDZ HWK
              go_wp2
              go_ret2
              exact ⟨by rw [unhide HX2, unhide HX3]; rfl, unhide HF3⟩
          · obtain ⟨j, rfl⟩ : ∃ j, i = j + 1 := ⟨i - 1, by omega⟩
            have hjl : j < l.length := by omega
            obtain ⟨b0', off0', hao, kk⟩ := (unhide HL u1 (unhide HF1)).dy hjl
            injection hao with hao
            injection hao with hb' ho'
            subst hb' ho'
            have HJP : Hid (prevW l (j + 1) = some l[j]) := hide (by unfold prevW; rw [if_neg (by omega), Nat.add_sub_cancel, List.getElem?_eq_getElem hjl])
            generalize l[j] = q at *
            have HFOL := hide (fun (u : World) => capsFollows_any u ⟨d0, d1, d2, d3, d4, d5, d6⟩ q)
            have HNX : Hid (follB ⟨d0, d1, d2, d3, d4, d5, d6⟩ q = true → dayRE t ⟨d0, d1, d2, d3, d4, d5, d6⟩ = 0 → firstW t (prevW l (j + 1 + 1)) (l.drop (j + 1 + 1)) = firstW t none l) := hide (fun h1 hh => by
              rw [unhide HPV, ← unhide HFI, unhide HJP]
              exact (firstW_cons t _ _ _ (fun x hx => by injection hx with hx; rw [← hx]; exact h1) hh).symm)
            have HBAD : Hid (follB ⟨d0, d1, d2, d3, d4, d5, d6⟩ q = true → ¬ dayRE t ⟨d0, d1, d2, d3, d4, d5, d6⟩ = 0 → firstW t none l = dayRE t ⟨d0, d1, d2, d3, d4, d5, d6⟩) := hide (fun h1 hh => by
              rw [← unhide HFI, unhide HJP]
              exact firstW_day t _ _ _ (fun x hx => by injection hx with hx; rw [← hx]; exact h1) hh)
            have HTIM : Hid (follB ⟨d0, d1, d2, d3, d4, d5, d6⟩ q = false → firstW t none l = 60) := hide (fun h1 => by
              rw [← unhide HFI, unhide HJP]
              exact firstW_time t q _ _ h1)
            generalize follB ⟨d0, d1, d2, d3, d4, d5, d6⟩ q = fb at *
            have n0 := kk 0 (by omega) _ rfl
            have n1 := kk 1 (by omega) _ rfl
            have n2 := kk 2 (by omega) _ rfl
            have n3 := kk 3 (by omega) _ rfl
            have n4 := kk 4 (by omega) _ rfl
            have n5 := kk 5 (by omega) _ rfl
            have n6 := kk 6 (by omega) _ rfl
            rw [Nat.add_zero] at n0
            rw [← Nat.add_assoc] at n1 n2 n3 n4 n5 n6
            clear kk HFI HPV HJP
            obtain ⟨p0, p1, p2, p3, p4, p5, p6⟩ := q
            simp only at n0 n1 n2 n3 n4 n5 n6
            simp only [dyC] at HFOL
            obtain ⟨Z, hZ⟩ : ∃ Z : Int, ((j + 1 : Nat) : Int) = Z := ⟨_, rfl⟩
            have hw1 : IntKind.i64.wrap (Z - 1) = (j : Int) := by have := unhide HN7; rw [← hZ, IntKind.wrap_i64]; omega
            have hx0 : (0 : Int) ≤ (j : Int) := by omega
            have hx1 : (j : Int) < (l.length : Int) := by omega
            have hx2 : decide ((0 : Int) ≤ (j : Int)) = true := by simp
            have hx3 : decide ((j : Int) < (l.length : Int)) = true := by simp; omega
            have hx4 : ((j : Int)).toNat = j := by simp
            have hg : decide ((0 : Int) < Z) = true := by rw [← hZ]; simp
            rw [hZ]
            have HZZ := hide hZ
            clear hZ hi hil hlt hi0 hjl
            have HKP : Hid (∀ u, Fr (fun _ => False) u1 u → u.cell? ⟨C, 0, none⟩ = some (.int .i64 d0) ∧ u.cell? ⟨C, 1, none⟩ = some (.int .i64 d1) ∧ u.cell? ⟨C, 2, none⟩ = some (.int .i64 d2) ∧ u.cell? ⟨C, 3, none⟩ = some (.int .i64 d3) ∧ u.cell? ⟨C, 4, none⟩ = some (.int .i64 d4) ∧ u.cell? ⟨C, 5, none⟩ = some (.int .i64 d5) ∧ u.cell? ⟨C, 6, none⟩ = some (.int .i64 d6) ∧ u.cell? ⟨b0, off0 + j * 7, none⟩ = some (.int .i64 p0) ∧ u.cell? ⟨b0, off0 + j * 7 + 1, none⟩ = some (.int .i64 p1) ∧ u.cell? ⟨b0, off0 + j * 7 + 2, none⟩ = some (.int .i64 p2) ∧ u.cell? ⟨b0, off0 + j * 7 + 3, none⟩ = some (.int .i64 p3) ∧ u.cell? ⟨b0, off0 + j * 7 + 4, none⟩ = some (.int .i64 p4) ∧ u.cell? ⟨b0, off0 + j * 7 + 5, none⟩ = some (.int .i64 p5) ∧ u.cell? ⟨b0, off0 + j * 7 + 6, none⟩ = some (.int .i64 p6)) := hide (fun u hf => by
              have f : ∀ {a : Addr} {v : Value}, u1.cell? a = some v → u.cell? a = some v := fun {a v} e => (hf.cell (World.block_lt_of_cell? _ _ e) (fun t => t)).trans e
              have k := (unhide HC1).keep hf
              exact ⟨k.cell 0, k.cell 1, k.cell 2, k.cell 3, k.cell 4, k.cell 5, k.cell 6, f n0, f n1, f n2, f n3, f n4, f n5, f n6⟩)
            obtain ⟨e0, e1, e2, e3, e4, e5, e6, n0, n1, n2, n3, n4, n5, n6⟩ := unhide HKP u1 (Fr.refl _ _)
            go_wp2_with fail
            go_region_held3 (fun u => u.cell? ⟨C, 0, none⟩ = some (.int .i64 d0) ∧ u.cell? ⟨C, 1, none⟩ = some (.int .i64 d1) ∧ u.cell? ⟨C, 2, none⟩ = some (.int .i64 d2) ∧ u.cell? ⟨C, 3, none⟩ = some (.int .i64 d3) ∧ u.cell? ⟨C, 4, none⟩ = some (.int .i64 d4) ∧ u.cell? ⟨C, 5, none⟩ = some (.int .i64 d5) ∧ u.cell? ⟨C, 6, none⟩ = some (.int .i64 d6) ∧ u.cell? ⟨b0, off0 + j * 7, none⟩ = some (.int .i64 p0) ∧ u.cell? ⟨b0, off0 + j * 7 + 1, none⟩ = some (.int .i64 p1) ∧ u.cell? ⟨b0, off0 + j * 7 + 2, none⟩ = some (.int .i64 p2) ∧ u.cell? ⟨b0, off0 + j * 7 + 3, none⟩ = some (.int .i64 p3) ∧ u.cell? ⟨b0, off0 + j * 7 + 4, none⟩ = some (.int .i64 p4) ∧ u.cell? ⟨b0, off0 + j * 7 + 5, none⟩ = some (.int .i64 p5) ∧ u.cell? ⟨b0, off0 + j * 7 + 6, none⟩ = some (.int .i64 p6))
              ((refine unhide HKP _ ?_; repeat (first | (with_reducible exact Fr.refl _ _) | (with_reducible refine Fr.drew ?_) | (with_reducible refine Fr.trans ?_ (unhide HA) (fun _ _ t => t)))))
              ((go_at_call 12; refine (unhide HFOL _).mono ?_; rintro e u2 ⟨rfl, hA⟩; have HA := hide hA; clear hA))
            have hF : Fr (fun _ => False) u1 u2 := Fr.trans ((Fr.refl (fun _ => False) u1).drew) (unhide HA) (fun _ _ t => t)
            have HF2 := hide ((unhide HF1).trans hF (fun _ _ t => t))
            have HTB2 := hide ((unhide HTB1).keep hF)
            have HC2 := hide ((unhide HC1).keep hF)
            have HG2 := hide ((unhide HG1).keep hF)
            clear hF HA HF1 HTB1 HC1 HG1 HKP HFOL e0 e1 e2 e3 e4 e5 e6 n0 n1 n2 n3 n4 n5 n6
            obtain rfl := unhide HZZ
            clear HZZ hw1 hg hx0 hx1 hx2 hx3 hx4
            cases fb with
            | false =>
              have HX2 : Hid (wkE t l = 60) := hide (by rw [unhide HX]; exact unhide HTIM (by trivial))
              have HX3 : Hid (wkR t l = 0) := hide (by rw [unhide HR, if_neg (by rw [unhide HX2]; decide)])
              clear HX HR HBAD HNX HTIM HTB2 HC2 HG2 HST HIN HL HT
              go_wp2
              go_ret2
              exact ⟨by rw [unhide HX2, unhide HX3]; rfl, unhide HF2⟩
            | true =>
              replace HNX := hide (unhide HNX (by trivial))
              replace HBAD := hide (unhide HBAD (by trivial))
              clear HTIM
              go_upto_region 12 with (fail)
              have RR := hide (capsRight_any u2 A t (unhide HT u2 (unhide HF2)) ⟨d0, d1, d2, d3, d4, d5, d6⟩)
              have HDZ := hide (fun hh => dayRE_zero (t := t) (d := ⟨d0, d1, d2, d3, d4, d5, d6⟩) hh)
              have HWK := hide (fun hh => (unhide HIN).week (t := t) (d := ⟨d0, d1, d2, d3, d4, d5, d6⟩) hh)
              generalize dayRE t ⟨d0, d1, d2, d3, d4, d5, d6⟩ = pe at *
              go_wp2_with (first | refine wpList_load_tariff rfl (.tmp 2) rfl (g := B) (A := A) (t := t) rfl (unhide HTB2) ?_ | refine wpList_load_day rfl (.tmp 9) rfl (g := C) (d := ⟨d0, d1, d2, d3, d4, d5, d6⟩) rfl (unhide HC2) ?_)
              refine (unhide RR).mono ?_
              rintro e u3 ⟨rfl, hF3⟩
              have HF3 := hide ((unhide HF2).trans hF3 (fun _ _ t => t))
              have HTB3 := hide ((unhide HTB2).keep hF3)
              have HC3 := hide ((unhide HC2).keep hF3)
              have HG3 := hide ((unhide HG2).keep hF3)
              clear hF3 RR HF2 HTB2 HC2 HG2
              by_cases hc : pe = 0
              · subst hc
                have HN := hide (unhide HNX rfl)
                obtain ⟨q1, q2, q3, q4, q5, q6⟩ := unhide HDZ rfl
                try simp only at q1 q2 q3 q4 q5
                obtain ⟨s1, s2, s3⟩ := unhide HIN
                have hi7 : ((j + 1 : Nat) : Int) ≤ 7 := by have := unhide HN7; have := unhide HIL; omega
                have HI2 := hide (unhide HWK rfl)
                clear HNX HDZ HWK HIN
                generalize sumW (l.take (j + 1)) = sw at *
                obtain ⟨w0, w1', w2', w3', w4', w5', w6'⟩ := sw
                try simp only at s1 s2 s3
                have c1 : u3.cell? ⟨g, 1, none⟩ = some (.int .i64 w1') := (unhide HG3).cell 1
                have f1 := (unhide HG3).frozen 1
                have b3 : u3.cell? ⟨C, 3, none⟩ = some (.int .i64 d3) := (unhide HC3).cell 3
                have b2 : u3.cell? ⟨C, 2, none⟩ = some (.int .i64 d2) := (unhide HC3).cell 2
                have HW1 : Hid (wrap64 (d3 - d2) = d3 - d2) := hide (by unfold wrap64; omega)
                have HW2 : Hid (wrap64 (w1' + (d3 - d2)) = w1' + (d3 - d2)) := hide (by unfold wrap64; omega)
                have HW3 : Hid (wrap64 (w2' + d2) = w2' + d2) := hide (by unfold wrap64; omega)
                have HW4 : Hid (wrap64 (w4' + d4) = w4' + d4) := hide (by unfold wrap64; omega)
                clear q1 q2 q3 q4 q5 q6 s1 s2 s3 hi7
                go_upto_region 16 with (fail)
                rw [unhide HW1, unhide HW2]
                obtain ⟨u4, hu4⟩ : ∃ u4, u4 = u3.setCell ⟨g, 1, none⟩ (.int .i64 (w1' + (d3 - d2))) := ⟨_, rfl⟩
                rw [← hu4]
                have hf : Fr (fun q => q = g) u3 u4 := by rw [hu4]; exact (Fr.refl (fun q => q = g) u3).setCell (p := ⟨g, 1, none⟩) (fun _ => rfl) _
                have HG4 : Hid (Bx u4 g #[.int .i64 w0, .int .i64 (w1' + (d3 - d2)), .int .i64 w2', .int .i64 w3', .int .i64 w4', .int .i64 w5', .int .i64 w6'] 43) := hide (by rw [hu4]; exact (unhide HG3).setCell 1 _)
                have HF4 := hide ((unhide HF3).trans hf (fun q hq e => by have := unhide HGW; omega))
                have HTB4 := hide ((unhide HTB3).frame hf (fun e => by have := unhide HBG; omega))
                have HC4 := hide ((unhide HC3).frame hf (fun e => by have := unhide HGC; omega))
                clear hu4 hf c1 f1 b3 b2 HF3 HTB3 HC3 HG3 HW1 HW2
                have c2 : u4.cell? ⟨g, 2, none⟩ = some (.int .i64 w2') := (unhide HG4).cell 2
                have f2 := (unhide HG4).frozen 2
                have b2 : u4.cell? ⟨C, 2, none⟩ = some (.int .i64 d2) := (unhide HC4).cell 2
                go_upto_region 17 with (fail)
                rw [unhide HW3]
                obtain ⟨u5, hu5⟩ : ∃ u5, u5 = u4.setCell ⟨g, 2, none⟩ (.int .i64 (w2' + d2)) := ⟨_, rfl⟩
                rw [← hu5]
                have hf : Fr (fun q => q = g) u4 u5 := by rw [hu5]; exact (Fr.refl (fun q => q = g) u4).setCell (p := ⟨g, 2, none⟩) (fun _ => rfl) _
                have HG5 : Hid (Bx u5 g #[.int .i64 w0, .int .i64 (w1' + (d3 - d2)), .int .i64 (w2' + d2), .int .i64 w3', .int .i64 w4', .int .i64 w5', .int .i64 w6'] 43) := hide (by rw [hu5]; exact (unhide HG4).setCell 2 _)
                have HF5 := hide ((unhide HF4).trans hf (fun q hq e => by have := unhide HGW; omega))
                have HTB5 := hide ((unhide HTB4).frame hf (fun e => by have := unhide HBG; omega))
                have HC5 := hide ((unhide HC4).frame hf (fun e => by have := unhide HGC; omega))
                clear hu5 hf c2 f2 b2 HF4 HTB4 HC4 HG4 HW3
                have c4 : u5.cell? ⟨g, 4, none⟩ = some (.int .i64 w4') := (unhide HG5).cell 4
                have f4 := (unhide HG5).frozen 4
                have b4 : u5.cell? ⟨C, 4, none⟩ = some (.int .i64 d4) := (unhide HC5).cell 4
                go_upto_region 18 with (fail)
                rw [unhide HW4]
                obtain ⟨u6, hu6⟩ : ∃ u6, u6 = u5.setCell ⟨g, 4, none⟩ (.int .i64 (w4' + d4)) := ⟨_, rfl⟩
                rw [← hu6]
                have hf : Fr (fun q => q = g) u5 u6 := by rw [hu6]; exact (Fr.refl (fun q => q = g) u5).setCell (p := ⟨g, 4, none⟩) (fun _ => rfl) _
                have HG6 : Hid (Bx u6 g (dyC ⟨w0, w1' + (d3 - d2), w2' + d2, w3', w4' + d4, w5', w6'⟩) 43) := hide (by rw [hu6]; exact (unhide HG5).setCell 4 _)
                have HF6 := hide ((unhide HF5).trans hf (fun q hq e => by have := unhide HGW; omega))
                have HTB6 := hide ((unhide HTB5).frame hf (fun e => by have := unhide HBG; omega))
                have HC6 := hide ((unhide HC5).frame hf (fun e => by have := unhide HGC; omega))
                clear hu6 hf c4 f4 b4 HF5 HTB5 HC5 HG5 HW4
                have b5 : u6.cell? ⟨C, 5, none⟩ = some (.int .i64 d5) := (unhide HC6).cell 5
                have b6 : u6.cell? ⟨C, 6, none⟩ = some (.int .i64 d6) := (unhide HC6).cell 6
                go_wp2_with fail
                refine (widen_any u6 g _ (unhide HG6) d5 d6).mono ?_
                rintro e u7 ⟨rfl, hG7, hf⟩
                have HS1 : Hid (Fr (fun _ => False) w u7 ∧ TB u7 B A t ∧ Bx u7 g (dyC (sumW (l.take (j + 1 + 1)))) 43 ∧ DyIn (sumW (l.take (j + 1 + 1))) ((j + 1 + 1 : Nat) * 1099511627776) ∧ firstW t (prevW l (j + 1 + 1)) (l.drop (j + 1 + 1)) = firstW t none l) := hide ⟨(unhide HF6).trans hf (fun q hq e => by have := unhide HGW; omega), (unhide HTB6).frame hf (fun e => by have := unhide HBG; omega), by rw [unhide HST]; exact hG7, by rw [unhide HST, show (((j + 1 + 1 : Nat) : Int) * 1099511627776) = ((j + 1 : Nat) : Int) * 1099511627776 + 1099511627776 by omega]; exact unhide HI2, unhide HN⟩
                clear hG7 hf HF6 HTB6 HC6 HG6 HI2 HN HST b5 b6
                have hil := unhide HIL
                have hn7 := unhide HN7
                go_wp2
                exact ⟨⟨j + 1 + 1, by have := unhide HIL; omega, by go_num, HS1⟩, by have := unhide HIL; simp [intOf]; omega⟩
              · have HX2 : Hid (wkE t l = pe) := hide (by rw [unhide HX]; exact unhide HBAD hc)
                have HX3 : Hid (wkR t l = 0) := hide (by rw [unhide HR, if_neg (by rw [unhide HX2]; exact hc)])
                have hb2 : (pe == 0) = false := by simp [hc]
                have hb3 : (pe != 0) = true := by simp [hc]
                clear HX HR HBAD HNX hc HTB3 HC3 HG3 HST HIN HL HT HDZ HWK
                go_wp2
                go_ret2
                exact ⟨by rw [unhide HX2, unhide HX3]; rfl, unhide HF3⟩
        · obtain rfl : i = l.length := by omega
          have hlt : ¬ (l.length : Int) < (l.length : Int) := by omega
          have HX2 : Hid (wkE t l = 0) := hide (by rw [unhide HX, ← (unhide HI).2.2.2.2, List.drop_length]; cases prevW l l.length <;> rfl)
          have HX3 : Hid (wkR t l = wkV t l) := hide (by rw [unhide HR, if_pos (unhide HX2)])
          obtain ⟨i1, i2, i3, i4, i5⟩ := unhide HI
          rw [List.take_length] at i3 i4
          have HIN := hide i4
          have HF2 := hide i1
          have HTB2 := hide i2
          have HD2 := hide i3
          have HNN : Hid (((l.length : Nat) : Int) * 1099511627776 ≤ 7696581394432) := hide (by have := unhide HN7; omega)
          have HWV : Hid (wkV t l = capV t (heldW t (sumW l)) (·.weekly) + (sumW l).most) := rfl
          clear HI i1 i2 i3 i4 i5 HX HR HL HN7
          generalize sumW l = d at *
          obtain ⟨w0, w1', w2', w3', w4', w5', w6'⟩ := d
          have k1 := run_min
          have c2 : wr.cell? ⟨g, 2, none⟩ = some (.int .i64 w2') := (unhide HD2).cell 2
          have c6 : wr.cell? ⟨B, 6, none⟩ = some (.int .i64 t.busWeekly) := (unhide HTB2).cell 6
          have f2 := (unhide HD2).frozen 2
          go_upto_region 21 with (fail)
          obtain ⟨bw, hbw⟩ : ∃ bw, bw = imin w2' t.busWeekly := ⟨_, rfl⟩
          have HHW : Hid (heldW t ⟨w0, w1', w2', w3', w4', w5', w6'⟩ = ⟨w0, w1', bw, w3', w4', w5', w6'⟩) := hide (by rw [hbw]; rfl)
          rw [← hbw]
          have HBW := hide hbw
          clear hbw
          obtain ⟨u2, hu2⟩ : ∃ u2, u2 = wr.setCell ⟨g, 2, none⟩ (.int .i64 bw) := ⟨_, rfl⟩
          rw [← hu2]
          have HD3 : Hid (Bx u2 g #[.int .i64 w0, .int .i64 w1', .int .i64 bw, .int .i64 w3', .int .i64 w4', .int .i64 w5', .int .i64 w6'] 43) := hide (by rw [hu2]; exact (unhide HD2).setCell 2 _)
          have hf : Fr (fun q => q = g) wr u2 := by rw [hu2]; exact (Fr.refl (fun q => q = g) wr).setCell (p := ⟨g, 2, none⟩) (fun _ => rfl) _
          have HF3 := hide ((unhide HF2).trans hf (fun q hq e => by have := unhide HGW; omega))
          have HTB3 := hide ((unhide HTB2).frame hf (fun e => by have := unhide HBG; omega))
          clear hf hu2 c2 c6 f2 k1 HF2 HTB2 HD2
          have hin := unhide HIN
          have hnn := unhide HNN
          have hbd := unhide HBD
          have hb := unhide HBW
          obtain ⟨s1, s2, s3⟩ := hin
          simp only at s1 s2 s3
          rw [imin_eq] at hb
          have hbb : 0 ≤ bw ∧ bw ≤ 7696581394432 := by omega
          clear hb
          have RC := hide (fun (u : World) (hu : Fr (fun _ => False) w u) => capped_anyW u A t (unhide HT u hu) ⟨w0, w1', bw, w3', w4', w5', w6'⟩ (by
            show -4611686018427387904 ≤ w1' + bw ∧ w1' + bw ≤ 4611686018427387904
            omega))
          have HCB : Hid (0 ≤ capV t ⟨w0, w1', bw, w3', w4', w5', w6'⟩ (·.weekly) ∧ capV t ⟨w0, w1', bw, w3', w4', w5', w6'⟩ (·.weekly) ≤ 15393162788864) := hide (by
            unfold capV
            simp only
            split
            · rw [imax_eq, imin_eq]; omega
            · omega)
          have HWV2 : Hid (wkV t l = capV t ⟨w0, w1', bw, w3', w4', w5', w6'⟩ (·.weekly) + w4') := hide (by rw [unhide HWV, unhide HHW])
          generalize capV t ⟨w0, w1', bw, w3', w4', w5', w6'⟩ (·.weekly) = cv at *
          have HWR : Hid (IntKind.wrap .i64 (cv + w4') = cv + w4') := hide (by have := unhide HCB; rw [IntKind.wrap_i64]; omega)
          have hwr := unhide HWR
          have HKP : Hid (∀ u, Fr (fun _ => False) u2 u → u.cell? ⟨B, 0, none⟩ = some (.slice A.aS t.st.length A.cS) ∧ u.cell? ⟨B, 1, none⟩ = some (.slice A.aP t.sp.length A.cP) ∧ u.cell? ⟨B, 2, none⟩ = some (.slice A.aB t.bd.length A.cB) ∧ u.cell? ⟨B, 3, none⟩ = some (.float .f64 t.off) ∧ u.cell? ⟨B, 4, none⟩ = some (.int .i64 t.bus) ∧ u.cell? ⟨B, 5, none⟩ = some (.int .i64 t.busDaily) ∧ u.cell? ⟨B, 6, none⟩ = some (.int .i64 t.busWeekly) ∧ u.cell? ⟨B, 7, none⟩ = some (.int .i64 t.hopper) ∧ u.cell? ⟨B, 8, none⟩ = some (.int .i64 t.most) ∧ u.cell? ⟨B, 9, none⟩ = some (.int .i64 t.longest) ∧ u.cell? ⟨B, 10, none⟩ = some (.int .i64 t.change) ∧ u.cell? ⟨B, 11, none⟩ = some (.int .i64 t.passback) ∧ u.cell? ⟨B, 12, none⟩ = some (.int .i64 t.delay) ∧ u.cell? ⟨B, 13, none⟩ = some (.int .i64 t.threshold) ∧ u.cell? ⟨g, 0, none⟩ = some (.int .i64 w0) ∧ u.cell? ⟨g, 1, none⟩ = some (.int .i64 w1') ∧ u.cell? ⟨g, 2, none⟩ = some (.int .i64 bw) ∧ u.cell? ⟨g, 3, none⟩ = some (.int .i64 w3') ∧ u.cell? ⟨g, 4, none⟩ = some (.int .i64 w4') ∧ u.cell? ⟨g, 5, none⟩ = some (.int .i64 w5') ∧ u.cell? ⟨g, 6, none⟩ = some (.int .i64 w6')) := hide (fun u hf => by
            have k1 := (unhide HTB3).keep hf
            have k2 := (unhide HD3).keep hf
            exact ⟨k1.cell 0, k1.cell 1, k1.cell 2, k1.cell 3, k1.cell 4, k1.cell 5, k1.cell 6, k1.cell 7, k1.cell 8, k1.cell 9, k1.cell 10, k1.cell 11, k1.cell 12, k1.cell 13, k2.cell 0, k2.cell 1, k2.cell 2, k2.cell 3, k2.cell 4, k2.cell 5, k2.cell 6⟩)
          have hkp := unhide HKP u2 (Fr.refl _ _)
          obtain ⟨t0, t1, t2, t3, t4, t5, t6, t7, t8, t9, t10, t11, t12, t13, g0, g1, g2, g3, g4, g5, g6⟩ := hkp
          clear HIN HNN HBD HBW s1 s2 s3 hnn hbd hbb HCB HWV HHW
          unfold tv tc at RC
          go_region_held3 (fun u => u.cell? ⟨B, 0, none⟩ = some (.slice A.aS t.st.length A.cS) ∧ u.cell? ⟨B, 1, none⟩ = some (.slice A.aP t.sp.length A.cP) ∧ u.cell? ⟨B, 2, none⟩ = some (.slice A.aB t.bd.length A.cB) ∧ u.cell? ⟨B, 3, none⟩ = some (.float .f64 t.off) ∧ u.cell? ⟨B, 4, none⟩ = some (.int .i64 t.bus) ∧ u.cell? ⟨B, 5, none⟩ = some (.int .i64 t.busDaily) ∧ u.cell? ⟨B, 6, none⟩ = some (.int .i64 t.busWeekly) ∧ u.cell? ⟨B, 7, none⟩ = some (.int .i64 t.hopper) ∧ u.cell? ⟨B, 8, none⟩ = some (.int .i64 t.most) ∧ u.cell? ⟨B, 9, none⟩ = some (.int .i64 t.longest) ∧ u.cell? ⟨B, 10, none⟩ = some (.int .i64 t.change) ∧ u.cell? ⟨B, 11, none⟩ = some (.int .i64 t.passback) ∧ u.cell? ⟨B, 12, none⟩ = some (.int .i64 t.delay) ∧ u.cell? ⟨B, 13, none⟩ = some (.int .i64 t.threshold) ∧ u.cell? ⟨g, 0, none⟩ = some (.int .i64 w0) ∧ u.cell? ⟨g, 1, none⟩ = some (.int .i64 w1') ∧ u.cell? ⟨g, 2, none⟩ = some (.int .i64 bw) ∧ u.cell? ⟨g, 3, none⟩ = some (.int .i64 w3') ∧ u.cell? ⟨g, 4, none⟩ = some (.int .i64 w4') ∧ u.cell? ⟨g, 5, none⟩ = some (.int .i64 w5') ∧ u.cell? ⟨g, 6, none⟩ = some (.int .i64 w6'))
            ((refine unhide HKP _ ?_; repeat (first | (with_reducible exact Fr.refl _ _) | (with_reducible refine Fr.drew ?_) | (with_reducible refine Fr.trans ?_ (unhide HA) (fun _ _ t => t)))))
            ((go_at_call 15; refine (unhide RC _ ?_).mono ?_; (refine (unhide HF3).trans ?_ (fun _ _ t => t); repeat (first | (with_reducible exact Fr.refl _ _) | (with_reducible refine Fr.drew ?_))); rintro e wa ⟨rfl, hA⟩; have HA := hide hA; clear hA))
          go_wp2
          go_ret2
          exact ⟨by rw [unhide HX2, unhide HX3, unhide HWV2]; rfl, (unhide HF3).trans (by repeat (first | (with_reducible exact Fr.refl _ _) | (with_reducible refine Fr.drew ?_) | (with_reducible refine Fr.trans ?_ (unhide HA) (fun _ _ t => t)))) (fun _ _ t => t)⟩
  · have HX : Hid (wkE t l = rightE t) := hide (by rw [unhide HE, if_neg h0])
    have HX2 : Hid (wkR t l = 0) := hide (by rw [unhide HR, if_neg (by rw [unhide HX]; exact h0)])
    have hb2 : (rightE t == 0) = false := by simp [h0]
    have hb3 : (rightE t != 0) = true := by simp [h0]
    clear HE HR HL HT HTB1 h0
    generalize rightE t = rr at *
    go_wp2
    go_ret2
    exact ⟨by rw [unhide HX, unhide HX2]; rfl, unhide HF1⟩

end Go.Proofs.Ytjgbllfppomcmaa

