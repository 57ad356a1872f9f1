import Derived.Test.YtkbcochjeooicaaCP7
import Derived.Test.YtkbcochjeooicaaCM1
import Derived.Test.YtkbcochjeooicaaQVY
import Derived.Test.YtkbcochjeooicaaQV7
/- The document's Week. -/
namespace Go.Proofs.Ytkbcochjeooicaa
open Go.RowKit

theorem rsum_any (w : World) (n : Int) : Calls Try.prog 34 #[.int .i64 n] w fun e w' => e = .returned (.bool (totB n)) ∧ w' = w := by
  rcases tot_cases n with ⟨hp, h0, h1⟩ | ⟨hp, h0 | ⟨h0, h1⟩⟩
  · rw [hp]
    clear hp
    go_enter Try.func34, Try.ntmps34
    go_wp2
    go_ret
    exact ⟨rfl, rfl⟩
  · rw [hp]
    have h0' : ¬ 0 ≤ n := by omega
    clear hp
    go_enter Try.func34, Try.ntmps34
    go_wp2
    go_ret
    exact ⟨rfl, rfl⟩
  · rw [hp]
    have h0' : 0 ≤ n := by omega
    have h1' : ¬ n ≤ 1099511627776 := by omega
    clear hp
    go_enter Try.func34, Try.ntmps34
    go_wp2
    go_ret
    exact ⟨rfl, rfl⟩

theorem zonB_in {t : Tf} (hr : rightE t = 0) {lo hi : Int} (h : zonB t lo hi = true) : (lo = 0 ∧ hi = 0) ∨ (1 ≤ lo ∧ lo ≤ hi ∧ hi ≤ Zt t) := by
  unfold zonB at h
  split at h
  · left; assumption
  · right
    simp only [Bool.and_eq_true, decide_eq_true_eq] at h
    have := span_in hr h.1 h.2
    omega
theorem ZIn.week {t : Tf} (hr : rightE t = 0) {s d : Dy} (h : ZIn t s) (hd : dayRE t d = 0) : ZIn t (addW s d) := by
  obtain ⟨_, _, _, _, _, hz⟩ := dayRE_zero hd
  exact ZIn.widen (d := ⟨s.day, s.rail + (d.cap - d.bus), s.bus + d.bus, s.cap, s.most + d.most, s.low, s.high⟩) h (zonB_in hr hz)

/-- Between two days. -/
def WInv (t : Tf) (A : Ad) (l : List Dy) (w : World) (B i : Nat) (u : World) : Prop :=
  Fr (fun _ => False) w u ∧ TB u B A t ∧ DyIn (sumW (l.take i)) ((i : Nat) * 1099511627776) ∧ firstW t (prevW l i) (l.drop i) = firstW t none l ∧ ZIn t (sumW (l.take i))

set_option maxHeartbeats 4000000 in
set_option maxRecDepth 40000 in
theorem rcapsWeek_any (w : World) (A : Ad) (t : Tf) (h : TAt w A t) (ao0 : Option Addr) (cap0 : Nat) (l : List Dy) (hl : CAt w ao0 (dyV l)) :
    Calls Try.prog 14 #[tv A t, .slice ao0 l.length cap0] w fun e w' => e = .returned (.tuple #[.int .i64 (wkR t l), .int .i64 (wkE t l)]) ∧ Fr (fun _ => False) w w' := by
  have RE := hide (fun (u : World) (hu : Fr (fun _ => False) w u) => rright_walk u A t (h.keep hu))
  have HT := hide (fun (u : World) (hu : Fr (fun _ => False) w u) => h.keep hu)
  have HL := hide (fun (u : World) (hu : Fr (fun _ => False) w u) => hl.keep hu)
  have HE : Hid (wkE t l = if rightE t = 0 then (if 7 < l.length then 2 else firstW t none l) else rightE t) := rfl
  have HR : Hid (wkR t l = if wkE t l = 0 then wkV t l else 0) := rfl
  obtain ⟨v, hv⟩ : ∃ v, v = w.alloc (.cells (tc A t) 27) := ⟨_, rfl⟩
  have HFV : Hid (Fr (fun _ => False) w v) := hide (by rw [hv]; exact (Fr.refl _ w).alloc _)
  have hTB : TB v w.heap.size A t := by rw [hv]; exact TB.new w A t
  obtain ⟨B, hB⟩ : ∃ B, B = w.heap.size := ⟨_, rfl⟩
  rw [← hB] at hTB
  have HTB := hide hTB
  have HV := hide hv
  have HB := hide hB
  clear hv hB hTB h hl
  unfold tv
  unfold tc at HV ⊢
  go_enter Try.func14, Try.ntmps14
  go_upto_region 1 with (fail)
  rw [← unhide HV, ← unhide HB]
  clear HV
  go_wp2_with (refine wpList_load_tariff rfl (.tmp 2) rfl (g := B) (A := A) (t := t) rfl (unhide HTB) ?_)
  refine (unhide RE v (unhide HFV)).mono ?_
  rintro e w1 ⟨rfl, hF⟩
  have HTB1 := hide ((unhide HTB).keep hF)
  have HF1 := hide ((unhide HFV).trans hF (fun _ _ t => t))
  clear hF HTB HFV RE
  by_cases h0 : rightE t = 0
  · rw [h0]
    by_cases h1 : 7 < l.length
    · have HX : Hid (wkE t l = 2) := hide (by rw [unhide HE, if_pos h0, if_pos h1])
      have HX2 : Hid (wkR t l = 0) := hide (by rw [unhide HR, if_neg (by rw [unhide HX]; decide)])
      have h1i : (7 : Int) < (l.length : Int) := by omega
      clear HE HR HL HT HTB1 h0 h1
      go_wp2
      go_ret2
      exact ⟨by rw [unhide HX, unhide HX2]; rfl, unhide HF1⟩
    · have HX : Hid (wkE t l = firstW t none l) := hide (by rw [unhide HE, if_pos h0, if_neg h1])
      have h1i : ¬ (7 : Int) < (l.length : Int) := by omega
      have hn : l.length ≤ 7 := by omega
      have HN7 := hide hn
      have HRT := hide h0
      have HBD := hide (busWeekly_of h0)
      have HS0 : WInv t A l w B 0 w1 := ⟨unhide HF1, unhide HTB1, by simp [DyIn, sumW, dz], rfl, .inl ⟨rfl, rfl⟩⟩
      clear HE h0 h1 hn HTB1 HF1
      go_wp2
      go_loopw [7, 8, 9, 10, 11, 12, 13, 14, 15] (fun v7 v8 v9 va vb iv _ _ _ wr => ∃ i : Nat, i ≤ l.length ∧ iv = .int .i64 i ∧ v7 = .int .i64 (sumW (l.take i)).bus ∧ v8 = .int .i64 (sumW (l.take i)).rail ∧ v9 = .int .i64 (sumW (l.take i)).most ∧ va = .int .i64 (sumW (l.take i)).low ∧ vb = .int .i64 (sumW (l.take i)).high ∧ WInv t A l w B i wr) (fun _ _ _ _ _ iv _ _ _ _ => l.length - (intOf iv).toNat)
      case atStart => exact ⟨0, Nat.zero_le _, rfl, rfl, rfl, rfl, rfl, rfl, HS0⟩
      case round =>
        obtain ⟨i, hi, rfl, rfl, rfl, rfl, rfl, rfl, HI⟩ := hrel
        clear HS0
        by_cases hil : i < l.length
        · have hlt0 : (i : Int) < (l.length : Int) := by omega
          obtain ⟨i1, i2, i3, i4, i5⟩ := HI
          obtain ⟨b0, off0, hao, kk⟩ := (unhide HL wr i1).dy hil
          subst hao
          have k0 := kk 0 (by omega) _ rfl
          have k1 := kk 1 (by omega) _ rfl
          have k2 := kk 2 (by omega) _ rfl
          have k3 := kk 3 (by omega) _ rfl
          have k4 := kk 4 (by omega) _ rfl
          have k5 := kk 5 (by omega) _ rfl
          have k6 := kk 6 (by omega) _ rfl
          rw [Nat.add_zero] at k0
          rw [← Nat.add_assoc] at k1 k2 k3 k4 k5 k6
          have hfirst := i4
          rw [List.drop_eq_getElem_cons hil] at hfirst
          have HST : Hid (∀ c, l[i] = c → sumW (l.take (i + 1)) = addW (sumW (l.take i)) c) := hide (fun c hc => by rw [← hc]; exact sumW_step l i hil)
          have HPV : Hid (∀ c, l[i] = c → prevW l (i + 1) = some c) := hide (fun c hc => by unfold prevW; rw [if_neg (by omega), Nat.add_sub_cancel, List.getElem?_eq_getElem hil, hc])
          clear kk
          generalize l[i] = q at *
          have HST := hide (unhide HST q rfl)
          have HPV := hide (unhide HPV q rfl)
          obtain ⟨d0, d1, d2, d3, d4, d5, d6⟩ := q
          simp only at k0 k1 k2 k3 k4 k5 k6
          have HFI := hide hfirst
          have HIL := hide hil
          have HIN := hide i3
          have HZI := hide i5
          have HI1 := hide i1
          have HI2 := hide i2
          clear hfirst i1 i2 i3 i4 i5
          have HDZ := hide (fun hh => dayRE_zero (t := t) (d := ⟨d0, d1, d2, d3, d4, d5, d6⟩) hh)
          have HWK := hide (fun hh => (unhide HIN).week (t := t) (d := ⟨d0, d1, d2, d3, d4, d5, d6⟩) hh)
          have HZN := hide (fun hh => (unhide HZI).week (unhide HRT) (d := ⟨d0, d1, d2, d3, d4, d5, d6⟩) hh)
          have HPE0 : Hid (dayRE t ⟨d0, d1, d2, d3, d4, d5, d6⟩ = if (totB d1 && (totB d2 && (totB d3 && totB d4))) = true ∧ ¬ d3 < d2 then (if zonB t d5 d6 = true then 0 else 1) else 50) := rfl
          have HZB : Hid (zonB t d5 d6 = if d5 = 0 ∧ d6 = 0 then true else ((spanOf t d5 d6).isSome && decide (d5 ≤ d6))) := rfl
          have HSI : Hid ((spanOf t d5 d6).isSome = true → d5 ≤ d6 → 1 ≤ d5 ∧ d6 ≤ Zt t) := hide (fun hs hh => span_in (unhide HRT) hs hh)
          have RSP := hide (fun (u : World) (hu : Fr (fun _ => False) w u) => rspan_any u A t (unhide HT u hu) d5 d6)
          have RS1 := hide (fun (u : World) => rsum_any u d1)
          have RS2 := hide (fun (u : World) => rsum_any u d2)
          have RS3 := hide (fun (u : World) => rsum_any u d3)
          have RS4 := hide (fun (u : World) => rsum_any u d4)
          have HNX0 : Hid ((∀ x, prevW l i = some x → follB ⟨d0, d1, d2, d3, d4, d5, d6⟩ x = true) → dayRE t ⟨d0, d1, d2, d3, d4, d5, d6⟩ = 0 → firstW t (prevW l (i + 1)) (l.drop (i + 1)) = firstW t none l) := hide (fun hp hh => by
            rw [unhide HPV, ← unhide HFI]
            exact (firstW_cons t _ _ _ hp hh).symm)
          have HPC0 : Hid ((∀ x, prevW l i = some x → follB ⟨d0, d1, d2, d3, d4, d5, d6⟩ x = true) → ∀ x, dayRE t ⟨d0, d1, d2, d3, d4, d5, d6⟩ = x → ¬ x = 0 → wkE t l = x ∧ wkR t l = 0) := hide (fun hp x hx h0 => by
            have e1 : wkE t l = x := by rw [unhide HX, ← unhide HFI, firstW_day t _ _ _ hp (by rw [hx]; exact h0), hx]
            exact ⟨e1, by rw [unhide HR, e1, if_neg h0]⟩)
          have HTIM : Hid (∀ x, prevW l i = some x → follB ⟨d0, d1, d2, d3, d4, d5, d6⟩ x = false → wkE t l = 60 ∧ wkR t l = 0) := hide (fun x hx hf => by
            have e1 : wkE t l = 60 := by rw [unhide HX, ← unhide HFI, hx]; exact firstW_time t x _ _ hf
            exact ⟨e1, by rw [unhide HR, e1, if_neg (by decide)]⟩)
          clear HX HR HFI HPV
          generalize dayRE t ⟨d0, d1, d2, d3, d4, d5, d6⟩ = pe at *
          generalize zonB t d5 d6 = zb at *
          generalize (spanOf t d5 d6).getD ⟨0, 0, 0, 0, 0⟩ = sp at *
          generalize (spanOf t d5 d6).isSome = sb at *
          generalize totB d1 = x1 at *
          generalize totB d2 = x2 at *
          generalize totB d3 = x3 at *
          generalize totB d4 = x4 at *
          have HPE : Hid (pe = if (x1 && (x2 && (x3 && x4))) = true ∧ ¬ d3 < d2 then (if zb = true then 0 else 1) else 50) := HPE0
          clear HPE0
          generalize sumW (l.take i) = sw at *
          obtain ⟨day0, rail, bus, cap1, most, low, high⟩ := sw
          try simp only at HIN HWK
          have HWW : Hid (pe = 0 → wrap64 (bus + d2) = bus + d2 ∧ wrap64 (rail + d3) = rail + d3 ∧ wrap64 (rail + d3 - d2) = rail + d3 - d2 ∧ wrap64 (most + d4) = most + d4) := hide (fun hp => by
            obtain ⟨q1, q2, q3, q4, q5, q6⟩ := unhide HDZ hp
            have h1 := unhide HIN
            unfold DyIn at h1
            simp only at q1 q2 q3 q4 q5 h1
            have hi7 : ((i : Nat) : Int) ≤ 7 := by have := unhide HN7; omega
            unfold wrap64
            omega)
          go_upto_region 15 with (fail)
          obtain ⟨u1, hu1⟩ : ∃ u1, u1 = wr.alloc (.cells #[.int .i64 d0, .int .i64 d1, .int .i64 d2, .int .i64 d3, .int .i64 d4, .int .i64 d5, .int .i64 d6] 36) := ⟨_, rfl⟩
          obtain ⟨C, hC⟩ : ∃ C, C = wr.heap.size := ⟨_, rfl⟩
          rw [← hu1, ← hC]
          have hFa : Fr (fun _ => False) wr u1 := by rw [hu1]; exact (Fr.refl _ _).alloc _
          have HC1 : Hid (Bx u1 C (dyC ⟨d0, d1, d2, d3, d4, d5, d6⟩) 36) := hide (by rw [hu1, hC]; exact Bx.new _ _ _)
          have HW1 := hide hFa
          have HTB1 := hide ((unhide HI2).keep hFa)
          clear hFa hu1 hC k0 k1 k2 k3 k4 k5 k6
          have c5 : u1.cell? ⟨C, 5, none⟩ = some (.int .i64 d5) := (unhide HC1).cell 5
          have c6 : u1.cell? ⟨C, 6, none⟩ = some (.int .i64 d6) := (unhide HC1).cell 6
          go_wp2_with (refine wpList_load_tariff rfl (.tmp 2) rfl (g := B) (A := A) (t := t) rfl (unhide HTB1) ?_)
          refine (unhide RSP u1 ((unhide HI1).trans (unhide HW1) (fun _ _ t => t))).mono ?_
          rintro e u3 ⟨rfl, hF⟩
          have HW3 := hide ((unhide HW1).trans hF (fun _ _ t => t))
          have HC3 := hide ((unhide HC1).keep hF)
          clear hF HW1 HC1 HTB1 c5 c6 RSP
          obtain ⟨a0, a1, a2, a3, a4⟩ := sp
          simp only [spA] at *
          go_upto_region 16 with (fail)
          obtain ⟨u4, hu4⟩ : ∃ u4, u4 = u3.alloc (.cells #[.int .i64 a0, .int .i64 a1, .int .i64 a2, .int .i64 a3, .int .i64 a4] 50) := ⟨_, rfl⟩
          obtain ⟨E, hE⟩ : ∃ E, E = u3.heap.size := ⟨_, rfl⟩
          rw [← hu4, ← hE]
          have hF : Fr (fun _ => False) u3 u4 := by rw [hu4]; exact (Fr.refl _ _).alloc _
          have HW4 := hide ((unhide HW3).trans hF (fun _ _ t => t))
          have HC4 := hide ((unhide HC3).keep hF)
          clear hF HW3 HC3 hu4 hE
          rcases Nat.eq_zero_or_pos i with hi0 | hi0
          · have HNX := hide (unhide HNX0 (fun x hx => by unfold prevW at hx; rw [if_pos hi0] at hx; cases hx))
            have HPC := hide (unhide HPC0 (fun x hx => by unfold prevW at hx; rw [if_pos hi0] at hx; cases hx))
            clear HNX0 HPC0 HTIM hlt0 hil hi
            subst hi0
            go_wp2_with fail
            go_quiet (fail)
            go_upto_region 18 with (fail)
            generalize hu2 : u4.drewN _ = u2
            have hF : Fr (fun _ => False) u4 u2 := by rw [← hu2]; exact (Fr.refl _ _).drewN _
            have HWR := hide ((unhide HW4).trans hF (fun _ _ t => t))
            have HC2 := hide ((unhide HC4).keep hF)
            clear hF hu2 HW4 HC4
            have HF2 := hide ((unhide HI1).trans (unhide HWR) (fun _ _ t => t))
            have HTB2 := hide ((unhide HI2).keep (unhide HWR))
            have c1 : u2.cell? ⟨C, 1, none⟩ = some (.int .i64 d1) := (unhide HC2).cell 1
            have c2 : u2.cell? ⟨C, 2, none⟩ = some (.int .i64 d2) := (unhide HC2).cell 2
            have c3 : u2.cell? ⟨C, 3, none⟩ = some (.int .i64 d3) := (unhide HC2).cell 3
            have c4 : u2.cell? ⟨C, 4, none⟩ = some (.int .i64 d4) := (unhide HC2).cell 4
            have c5 : u2.cell? ⟨C, 5, none⟩ = some (.int .i64 d5) := (unhide HC2).cell 5
            have c6 : u2.cell? ⟨C, 6, none⟩ = some (.int .i64 d6) := (unhide HC2).cell 6
            have r2 := run_max
            go_wp2_with fail
            refine (unhide RS1 _).mono ?_
            rintro e wa ⟨rfl, hwa⟩
            obtain rfl : u2 = wa := hwa.symm
            cases x1 with
            | false =>
              have HXX := unhide HPC 50 (by rw [unhide HPE, if_neg (by simp)]) (by decide)
              have HX2 := hide HXX.1
              have HX3 := hide HXX.2
              clear HXX HPC HPE HNX HST HIN HL HT HTB2 HC2 HDZ HWK HZI HZN
              go_wp2
              go_ret2
              exact ⟨by first | rfl | (rw [unhide HX2, unhide HX3]; rfl), unhide HF2⟩
            | true =>
              go_wp2_with fail
              refine (unhide RS2 _).mono ?_
              rintro e wa ⟨rfl, hwa⟩
              obtain rfl : u2 = wa := hwa.symm
              cases x2 with
              | false =>
                have HXX := unhide HPC 50 (by rw [unhide HPE, if_neg (by simp)]) (by decide)
                have HX2 := hide HXX.1
                have HX3 := hide HXX.2
                clear HXX HPC HPE HNX HST HIN HL HT HTB2 HC2 HDZ HWK HZI HZN
                go_wp2
                go_ret2
                exact ⟨by first | rfl | (rw [unhide HX2, unhide HX3]; rfl), unhide HF2⟩
              | true =>
                go_wp2_with fail
                refine (unhide RS3 _).mono ?_
                rintro e wa ⟨rfl, hwa⟩
                obtain rfl : u2 = wa := hwa.symm
                cases x3 with
                | false =>
                  have HXX := unhide HPC 50 (by rw [unhide HPE, if_neg (by simp)]) (by decide)
                  have HX2 := hide HXX.1
                  have HX3 := hide HXX.2
                  clear HXX HPC HPE HNX HST HIN HL HT HTB2 HC2 HDZ HWK HZI HZN
                  go_wp2
                  go_ret2
                  exact ⟨by first | rfl | (rw [unhide HX2, unhide HX3]; rfl), unhide HF2⟩
                | true =>
                  go_wp2_with fail
                  refine (unhide RS4 _).mono ?_
                  rintro e wa ⟨rfl, hwa⟩
                  obtain rfl : u2 = wa := hwa.symm
                  cases x4 with
                  | false =>
                    have HXX := unhide HPC 50 (by rw [unhide HPE, if_neg (by simp)]) (by decide)
                    have HX2 := hide HXX.1
                    have HX3 := hide HXX.2
                    clear HXX HPC HPE HNX HST HIN HL HT HTB2 HC2 HDZ HWK HZI HZN
                    go_wp2
                    go_ret2
                    exact ⟨by first | rfl | (rw [unhide HX2, unhide HX3]; rfl), unhide HF2⟩
                  | true =>
                    clear RS1 RS2 RS3 RS4
                    by_cases hlt : d3 < d2
                    · have HXX := unhide HPC 50 (by rw [unhide HPE, if_neg (fun q => by have := q.2; omega)]) (by decide)
                      have HX2 := hide HXX.1
                      have HX3 := hide HXX.2
                      clear HXX HPC HPE HNX HST HIN HL HT HTB2 HC2 HDZ HWK HZI HZN
                      go_wp2
                      go_ret2
                      exact ⟨by first | rfl | (rw [unhide HX2, unhide HX3]; rfl), unhide HF2⟩
                    · have HPE2 : Hid (pe = if zb = true then 0 else 1) := hide (by rw [unhide HPE, if_pos ⟨rfl, by omega⟩])
                      by_cases h50 : d5 = 0
                      · by_cases h60 : d6 = 0
                        · have HP0 : Hid (pe = 0) := hide (by rw [unhide HPE2, if_pos (by rw [unhide HZB, if_pos ⟨h50, h60⟩])])
                          have h5b : (d5 == 0) = true := by simp [h50]
                          have h5c : (d5 != 0) = false := by simp [h50]
                          have h6b : (d6 == 0) = true := by simp [h60]
                          have h6c : (d6 != 0) = false := by simp [h60]
                          have h5p : ¬ 0 < d5 := by omega
                          have HLW : Hid (lowW low d5 = low) := hide (by rw [h50]; unfold lowW; by_cases q : low = 0 <;> simp [q])
                          have HS1 : WInv t A l w B (0 + 1) u2 ∧ (sumW (l.take (0 + 1))).bus = bus + d2 ∧ (sumW (l.take (0 + 1))).rail = rail + d3 - d2 ∧ (sumW (l.take (0 + 1))).most = most + d4 ∧ (sumW (l.take (0 + 1))).low = low ∧ (sumW (l.take (0 + 1))).high = imax high d6 := by
                            have hst := unhide HST
                            have hz0 := unhide HP0
                            refine ⟨⟨unhide HF2, unhide HTB2, ?_, unhide HNX hz0, ?_⟩, ?_, ?_, ?_, ?_, ?_⟩
                            · rw [hst, show (((0 + 1 : Nat) : Int) * 1099511627776) = ((0 : Nat) : Int) * 1099511627776 + 1099511627776 by omega]
                              exact unhide HWK hz0
                            · rw [hst]; exact unhide HZN hz0
                            · rw [hst]; rfl
                            · rw [hst]; show rail + (d3 - d2) = rail + d3 - d2; omega
                            · rw [hst]; rfl
                            · rw [hst]; show lowW low d5 = _; exact unhide HLW
                            · rw [hst]; rfl
                          obtain ⟨h1, h2, h3, h4, h5, h6⟩ := HS1
                          have HW1 := unhide HWW (unhide HP0)
                          obtain ⟨hw1, hw2, hw3, hw4⟩ := HW1
                          have hil := unhide HIL
                          have hn7 := unhide HN7
                          have HQ := hide (show WInv t A l w B (0 + 1) u2 ∧ _ ∧ _ ∧ _ ∧ _ ∧ _ from ⟨h1, h2, h3, h4, h5, h6⟩)
                          clear h1 h2 h3 h4 h5 h6 HNX HST HIN HL HT HC2 HDZ HWK HZI HZN HTB2 HF2 HP0 HPE2 HPC HPE HWW
                          go_wp2
                          obtain ⟨h1, h2, h3, h4, h5, h6⟩ := unhide HQ
                          refine ⟨⟨0 + 1, by omega, by go_num, ?_, ?_, ?_, ?_, ?_, h1⟩, by simp [intOf]; omega⟩
                          · rw [h2]; first | rfl | (rw [hw1]; done) | (show Value.int .i64 (wrap64 (bus + d2)) = _; rw [hw1])
                          · rw [h3]; first | rfl | (show Value.int .i64 (wrap64 (rail + d3 - d2)) = _; rw [hw3]) | (show Value.int .i64 (wrap64 (wrap64 (rail + d3) - d2)) = _; rw [hw2, hw3])
                          · rw [h4]; first | rfl | (show Value.int .i64 (wrap64 (most + d4)) = _; rw [hw4])
                          · rw [h5]
                          · first | (rw [h6]; done) | (rw [h6, h60])
                        · have h5c : (d5 != 0) = false := by simp [h50]
                          have h6c : (d6 != 0) = true := by simp [h60]
                          have h51 : d5 < 1 := by omega
                          have HXX := unhide HPC 1 (by rw [unhide HPE2, if_neg (by rw [unhide HZB, if_neg (fun q => h60 q.2)]; cases hs : sb <;> simp; by_cases hh : d5 ≤ d6; (exfalso; have := unhide HSI hs hh; omega); exact by omega)]) (by decide)
                          have HX2 := hide HXX.1
                          have HX3 := hide HXX.2
                          clear HXX HPC HPE HNX HST HIN HL HT HTB2 HC2 HDZ HWK HZI HZN
                          go_wp2
                          go_ret2
                          exact ⟨by first | rfl | (rw [unhide HX2, unhide HX3]; rfl), unhide HF2⟩
                      · have h5c : (d5 != 0) = true := by simp [h50]
                        by_cases h51 : d5 < 1
                        · have HXX := unhide HPC 1 (by rw [unhide HPE2, if_neg (by rw [unhide HZB, if_neg (fun q => h50 q.1)]; cases hs : sb <;> simp; by_cases hh : d5 ≤ d6; (exfalso; have := unhide HSI hs hh; omega); exact by omega)]) (by decide)
                          have HX2 := hide HXX.1
                          have HX3 := hide HXX.2
                          clear HXX HPC HPE HNX HST HIN HL HT HTB2 HC2 HDZ HWK HZI HZN
                          go_wp2
                          go_ret2
                          exact ⟨by first | rfl | (rw [unhide HX2, unhide HX3]; rfl), unhide HF2⟩
                        · by_cases h56 : d6 < d5
                          · have HXX := unhide HPC 1 (by rw [unhide HPE2, if_neg (by rw [unhide HZB, if_neg (fun q => h50 q.1)]; simp; omega)]) (by decide)
                            have HX2 := hide HXX.1
                            have HX3 := hide HXX.2
                            clear HXX HPC HPE HNX HST HIN HL HT HTB2 HC2 HDZ HWK HZI HZN
                            go_wp2
                            go_ret2
                            exact ⟨by first | rfl | (rw [unhide HX2, unhide HX3]; rfl), unhide HF2⟩
                          · cases sb with
                            | false =>
                              have HXX := unhide HPC 1 (by rw [unhide HPE2, if_neg (by rw [unhide HZB, if_neg (fun q => h50 q.1)]; simp)]) (by decide)
                              have HX2 := hide HXX.1
                              have HX3 := hide HXX.2
                              clear HXX HPC HPE HNX HST HIN HL HT HTB2 HC2 HDZ HWK HZI HZN
                              go_wp2
                              go_ret2
                              exact ⟨by first | rfl | (rw [unhide HX2, unhide HX3]; rfl), unhide HF2⟩
                            | true =>
                              have HP0 : Hid (pe = 0) := hide (by rw [unhide HPE2, if_pos (by rw [unhide HZB, if_neg (fun q => h50 q.1)]; simp; omega)])
                              have h5p : 0 < d5 := by omega
                              by_cases hl0 : low = 0
                              · have hlb : (low == 0) = true := by simp [hl0]
                                have HLW : Hid (lowW low d5 = d5) := hide (by unfold lowW; rw [if_pos hl0])
                                have HS1 : WInv t A l w B (0 + 1) u2 ∧ (sumW (l.take (0 + 1))).bus = bus + d2 ∧ (sumW (l.take (0 + 1))).rail = rail + d3 - d2 ∧ (sumW (l.take (0 + 1))).most = most + d4 ∧ (sumW (l.take (0 + 1))).low = d5 ∧ (sumW (l.take (0 + 1))).high = imax high d6 := by
                                  have hst := unhide HST
                                  have hz0 := unhide HP0
                                  refine ⟨⟨unhide HF2, unhide HTB2, ?_, unhide HNX hz0, ?_⟩, ?_, ?_, ?_, ?_, ?_⟩
                                  · rw [hst, show (((0 + 1 : Nat) : Int) * 1099511627776) = ((0 : Nat) : Int) * 1099511627776 + 1099511627776 by omega]
                                    exact unhide HWK hz0
                                  · rw [hst]; exact unhide HZN hz0
                                  · rw [hst]; rfl
                                  · rw [hst]; show rail + (d3 - d2) = rail + d3 - d2; omega
                                  · rw [hst]; rfl
                                  · rw [hst]; show lowW low d5 = _; exact unhide HLW
                                  · rw [hst]; rfl
                                obtain ⟨h1, h2, h3, h4, h5, h6⟩ := HS1
                                have HW1 := unhide HWW (unhide HP0)
                                obtain ⟨hw1, hw2, hw3, hw4⟩ := HW1
                                have hil := unhide HIL
                                have hn7 := unhide HN7
                                have HQ := hide (show WInv t A l w B (0 + 1) u2 ∧ _ ∧ _ ∧ _ ∧ _ ∧ _ from ⟨h1, h2, h3, h4, h5, h6⟩)
                                clear h1 h2 h3 h4 h5 h6 HNX HST HIN HL HT HC2 HDZ HWK HZI HZN HTB2 HF2 HP0 HPE2 HPC HPE HWW
                                go_wp2
                                obtain ⟨h1, h2, h3, h4, h5, h6⟩ := unhide HQ
                                refine ⟨⟨0 + 1, by omega, by go_num, ?_, ?_, ?_, ?_, ?_, h1⟩, by simp [intOf]; omega⟩
                                · rw [h2]; first | rfl | (rw [hw1]; done) | (show Value.int .i64 (wrap64 (bus + d2)) = _; rw [hw1])
                                · rw [h3]; first | rfl | (show Value.int .i64 (wrap64 (rail + d3 - d2)) = _; rw [hw3]) | (show Value.int .i64 (wrap64 (wrap64 (rail + d3) - d2)) = _; rw [hw2, hw3])
                                · rw [h4]; first | rfl | (show Value.int .i64 (wrap64 (most + d4)) = _; rw [hw4])
                                · rw [h5]
                                · first | (rw [h6]; done) | (rw [h6, h60])
                              · have hlb : (low == 0) = false := by simp [hl0]
                                by_cases hll : d5 < low
                                · have HLW : Hid (lowW low d5 = d5) := hide (by unfold lowW; rw [if_neg hl0, if_pos ⟨h5p, hll⟩])
                                  have HS1 : WInv t A l w B (0 + 1) u2 ∧ (sumW (l.take (0 + 1))).bus = bus + d2 ∧ (sumW (l.take (0 + 1))).rail = rail + d3 - d2 ∧ (sumW (l.take (0 + 1))).most = most + d4 ∧ (sumW (l.take (0 + 1))).low = d5 ∧ (sumW (l.take (0 + 1))).high = imax high d6 := by
                                    have hst := unhide HST
                                    have hz0 := unhide HP0
                                    refine ⟨⟨unhide HF2, unhide HTB2, ?_, unhide HNX hz0, ?_⟩, ?_, ?_, ?_, ?_, ?_⟩
                                    · rw [hst, show (((0 + 1 : Nat) : Int) * 1099511627776) = ((0 : Nat) : Int) * 1099511627776 + 1099511627776 by omega]
                                      exact unhide HWK hz0
                                    · rw [hst]; exact unhide HZN hz0
                                    · rw [hst]; rfl
                                    · rw [hst]; show rail + (d3 - d2) = rail + d3 - d2; omega
                                    · rw [hst]; rfl
                                    · rw [hst]; show lowW low d5 = _; exact unhide HLW
                                    · rw [hst]; rfl
                                  obtain ⟨h1, h2, h3, h4, h5, h6⟩ := HS1
                                  have HW1 := unhide HWW (unhide HP0)
                                  obtain ⟨hw1, hw2, hw3, hw4⟩ := HW1
                                  have hil := unhide HIL
                                  have hn7 := unhide HN7
                                  have HQ := hide (show WInv t A l w B (0 + 1) u2 ∧ _ ∧ _ ∧ _ ∧ _ ∧ _ from ⟨h1, h2, h3, h4, h5, h6⟩)
                                  clear h1 h2 h3 h4 h5 h6 HNX HST HIN HL HT HC2 HDZ HWK HZI HZN HTB2 HF2 HP0 HPE2 HPC HPE HWW
                                  go_wp2
                                  obtain ⟨h1, h2, h3, h4, h5, h6⟩ := unhide HQ
                                  refine ⟨⟨0 + 1, by omega, by go_num, ?_, ?_, ?_, ?_, ?_, h1⟩, by simp [intOf]; omega⟩
                                  · rw [h2]; first | rfl | (rw [hw1]; done) | (show Value.int .i64 (wrap64 (bus + d2)) = _; rw [hw1])
                                  · rw [h3]; first | rfl | (show Value.int .i64 (wrap64 (rail + d3 - d2)) = _; rw [hw3]) | (show Value.int .i64 (wrap64 (wrap64 (rail + d3) - d2)) = _; rw [hw2, hw3])
                                  · rw [h4]; first | rfl | (show Value.int .i64 (wrap64 (most + d4)) = _; rw [hw4])
                                  · rw [h5]
                                  · first | (rw [h6]; done) | (rw [h6, h60])
                                · have HLW : Hid (lowW low d5 = low) := hide (by unfold lowW; rw [if_neg hl0, if_neg (fun q => hll q.2)])
                                  have HS1 : WInv t A l w B (0 + 1) u2 ∧ (sumW (l.take (0 + 1))).bus = bus + d2 ∧ (sumW (l.take (0 + 1))).rail = rail + d3 - d2 ∧ (sumW (l.take (0 + 1))).most = most + d4 ∧ (sumW (l.take (0 + 1))).low = low ∧ (sumW (l.take (0 + 1))).high = imax high d6 := by
                                    have hst := unhide HST
                                    have hz0 := unhide HP0
                                    refine ⟨⟨unhide HF2, unhide HTB2, ?_, unhide HNX hz0, ?_⟩, ?_, ?_, ?_, ?_, ?_⟩
                                    · rw [hst, show (((0 + 1 : Nat) : Int) * 1099511627776) = ((0 : Nat) : Int) * 1099511627776 + 1099511627776 by omega]
                                      exact unhide HWK hz0
                                    · rw [hst]; exact unhide HZN hz0
                                    · rw [hst]; rfl
                                    · rw [hst]; show rail + (d3 - d2) = rail + d3 - d2; omega
                                    · rw [hst]; rfl
                                    · rw [hst]; show lowW low d5 = _; exact unhide HLW
                                    · rw [hst]; rfl
                                  obtain ⟨h1, h2, h3, h4, h5, h6⟩ := HS1
                                  have HW1 := unhide HWW (unhide HP0)
                                  obtain ⟨hw1, hw2, hw3, hw4⟩ := HW1
                                  have hil := unhide HIL
                                  have hn7 := unhide HN7
                                  have HQ := hide (show WInv t A l w B (0 + 1) u2 ∧ _ ∧ _ ∧ _ ∧ _ ∧ _ from ⟨h1, h2, h3, h4, h5, h6⟩)
                                  clear h1 h2 h3 h4 h5 h6 HNX HST HIN HL HT HC2 HDZ HWK HZI HZN HTB2 HF2 HP0 HPE2 HPC HPE HWW
                                  go_wp2
                                  obtain ⟨h1, h2, h3, h4, h5, h6⟩ := unhide HQ
                                  refine ⟨⟨0 + 1, by omega, by go_num, ?_, ?_, ?_, ?_, ?_, h1⟩, by simp [intOf]; omega⟩
                                  · rw [h2]; first | rfl | (rw [hw1]; done) | (show Value.int .i64 (wrap64 (bus + d2)) = _; rw [hw1])
                                  · rw [h3]; first | rfl | (show Value.int .i64 (wrap64 (rail + d3 - d2)) = _; rw [hw3]) | (show Value.int .i64 (wrap64 (wrap64 (rail + d3) - d2)) = _; rw [hw2, hw3])
                                  · rw [h4]; first | rfl | (show Value.int .i64 (wrap64 (most + d4)) = _; rw [hw4])
                                  · rw [h5]
                                  · first | (rw [h6]; done) | (rw [h6, h60])
          · obtain ⟨j, rfl⟩ : ∃ j, i = j + 1 := ⟨i - 1, by omega⟩
            have hjl : j < l.length := by omega
            obtain ⟨b0', off0', hao, kk⟩ := (unhide HL u4 ((unhide HI1).trans (unhide HW4) (fun _ _ t => t))).dy hjl
            injection hao with hao
            injection hao with hb' ho'
            subst hb' ho'
            have HJP : Hid (prevW l (j + 1) = some l[j]) := hide (by unfold prevW; rw [if_neg (by omega), Nat.add_sub_cancel, List.getElem?_eq_getElem hjl])
            have n0 := kk 0 (by omega) _ rfl
            rw [Nat.add_zero] at n0
            clear kk
            generalize l[j] = q at *
            have HNX1 : Hid (follB ⟨d0, d1, d2, d3, d4, d5, d6⟩ q = true → _) := hide (fun hf => unhide HNX0 (fun x hx => by rw [unhide HJP] at hx; injection hx with hx; rw [← hx]; exact hf))
            have HPC1 : Hid (follB ⟨d0, d1, d2, d3, d4, d5, d6⟩ q = true → _) := hide (fun hf => unhide HPC0 (fun x hx => by rw [unhide HJP] at hx; injection hx with hx; rw [← hx]; exact hf))
            have HTM : Hid (follB ⟨d0, d1, d2, d3, d4, d5, d6⟩ q = false → wkE t l = 60 ∧ wkR t l = 0) := hide (fun hf => unhide HTIM q (unhide HJP) hf)
            have HFB : Hid (follB ⟨d0, d1, d2, d3, d4, d5, d6⟩ q = (decide (q.day < d0) && decide (weekV d0 = weekV q.day))) := rfl
            clear HNX0 HPC0 HTIM HJP
            generalize follB ⟨d0, d1, d2, d3, d4, d5, d6⟩ q = fb at *
            obtain ⟨p0, p1, p2, p3, p4, p5, p6⟩ := q
            try simp only at n0
            try simp only at HFB
            obtain ⟨Z, hZ⟩ : ∃ Z : Int, ((j + 1 : Nat) : Int) = Z := ⟨_, rfl⟩
            have hw1 : IntKind.i64.wrap (Z - 1) = (j : Int) := by have := unhide HN7; rw [← hZ, IntKind.wrap_i64]; omega
            have hx0 : (0 : Int) ≤ (j : Int) := by omega
            have hx1 : (j : Int) < (l.length : Int) := by omega
            have hx2 : decide ((0 : Int) ≤ (j : Int)) = true := by simp
            have hx3 : decide ((j : Int) < (l.length : Int)) = true := by simp; omega
            have hx4 : ((j : Int)).toNat = j := by simp
            have hg : decide ((0 : Int) < Z) = true := by rw [← hZ]; simp
            rw [hZ]
            have HZZ := hide hZ
            clear hZ hi hil hlt0 hi0 hjl
            have e0 : u4.cell? ⟨C, 0, none⟩ = some (.int .i64 d0) := (unhide HC4).cell 0
            by_cases hle : d0 ≤ p0
            · have HXX := unhide HTM (by rw [unhide HFB]; simp; omega)
              have HX2 := hide HXX.1
              have HX3 := hide HXX.2
              have HF2 := hide ((unhide HI1).trans (unhide HW4) (fun _ _ t => t))
              clear HXX HTM HFB HNX1 HPC1 HPE HST HIN HL HT HDZ HWK HZI HZN RS1 RS2 RS3 RS4 HWW HC4 HI1 HI2
              go_wp2_with fail
              go_quiet (fail)
              obtain rfl := unhide HZZ
              clear HZZ hw1 hg hx0 hx1 hx2 hx3 hx4
              go_wp2
              go_ret2
              exact ⟨by first | rfl | (rw [unhide HX2, unhide HX3]; rfl), (unhide HF2).drewN _⟩
            · have HKP : Hid (∀ u, Fr (fun _ => False) u4 u → u.cell? ⟨C, 0, none⟩ = some (.int .i64 d0) ∧ u.cell? ⟨b0, off0 + j * 7, none⟩ = some (.int .i64 p0)) := hide (fun u hf => by
                have f : ∀ {a : Addr} {v : Value}, u4.cell? a = some v → u.cell? a = some v := fun {a v} e => (hf.cell (World.block_lt_of_cell? _ _ e) (fun t => t)).trans e
                exact ⟨f e0, f n0⟩)
              have RWA := hide (fun (u : World) (n : Int) => rweek_any u n)
              have hlb : decide (d0 ≤ p0) = false := by simp; omega
              go_wp2_with fail
              go_region_held3 (fun u => u.cell? ⟨C, 0, none⟩ = some (.int .i64 d0) ∧ u.cell? ⟨b0, off0 + j * 7, none⟩ = some (.int .i64 p0))
                ((refine unhide HKP _ ?_; repeat (first | (with_reducible exact Fr.refl _ _) | (with_reducible refine Fr.drew ?_))))
                ((go_at_call 33; refine (unhide RWA _ _).mono ?_; rintro e wa ⟨rfl, rfl⟩))
              obtain rfl := unhide HZZ
              clear HZZ hw1 hg hx0 hx1 hx2 hx3 hx4 HKP RWA e0 n0
              by_cases hwk : weekV d0 = weekV p0
              · have hwb : (weekV d0 == weekV p0) = true := by simp [hwk]
                have hwc : (weekV d0 != weekV p0) = false := by simp [hwk]
                have HFT : Hid (fb = true) := hide (by rw [unhide HFB]; simp [hwk]; omega)
                have HNX := hide (unhide HNX1 (unhide HFT))
                have HPC := hide (unhide HPC1 (unhide HFT))
                clear HNX1 HPC1 HTM HFB HFT
                go_upto_region 18 with (fail)
                clear hwb hwc hwk
                generalize weekV d0 = wk1
                generalize weekV p0 = wk2
                obtain ⟨u2, hu2⟩ : ∃ u2, u2 = u4.drew := ⟨_, rfl⟩
                rw [← hu2]
                have hF : Fr (fun _ => False) u4 u2 := by rw [hu2]; exact (Fr.refl _ _).drew
                have HWR := hide ((unhide HW4).trans hF (fun _ _ t => t))
                have HC2 := hide ((unhide HC4).keep hF)
                clear hF hu2 HW4 HC4
                have HF2 := hide ((unhide HI1).trans (unhide HWR) (fun _ _ t => t))
                have HTB2 := hide ((unhide HI2).keep (unhide HWR))
                have c1 : u2.cell? ⟨C, 1, none⟩ = some (.int .i64 d1) := (unhide HC2).cell 1
                have c2 : u2.cell? ⟨C, 2, none⟩ = some (.int .i64 d2) := (unhide HC2).cell 2
                have c3 : u2.cell? ⟨C, 3, none⟩ = some (.int .i64 d3) := (unhide HC2).cell 3
                have c4 : u2.cell? ⟨C, 4, none⟩ = some (.int .i64 d4) := (unhide HC2).cell 4
                have c5 : u2.cell? ⟨C, 5, none⟩ = some (.int .i64 d5) := (unhide HC2).cell 5
                have c6 : u2.cell? ⟨C, 6, none⟩ = some (.int .i64 d6) := (unhide HC2).cell 6
                have r2 := run_max
                go_wp2_with fail
                refine (unhide RS1 _).mono ?_
                rintro e wa ⟨rfl, hwa⟩
                obtain rfl : u2 = wa := hwa.symm
                cases x1 with
                | false =>
                  have HXX := unhide HPC 50 (by rw [unhide HPE, if_neg (by simp)]) (by decide)
                  have HX2 := hide HXX.1
                  have HX3 := hide HXX.2
                  clear HXX HPC HPE HNX HST HIN HL HT HTB2 HC2 HDZ HWK HZI HZN
                  go_wp2
                  go_ret2
                  exact ⟨by first | rfl | (rw [unhide HX2, unhide HX3]; rfl), unhide HF2⟩
                | true =>
                  go_wp2_with fail
                  refine (unhide RS2 _).mono ?_
                  rintro e wa ⟨rfl, hwa⟩
                  obtain rfl : u2 = wa := hwa.symm
                  cases x2 with
                  | false =>
                    have HXX := unhide HPC 50 (by rw [unhide HPE, if_neg (by simp)]) (by decide)
                    have HX2 := hide HXX.1
                    have HX3 := hide HXX.2
                    clear HXX HPC HPE HNX HST HIN HL HT HTB2 HC2 HDZ HWK HZI HZN
                    go_wp2
                    go_ret2
                    exact ⟨by first | rfl | (rw [unhide HX2, unhide HX3]; rfl), unhide HF2⟩
                  | true =>
                    go_wp2_with fail
                    refine (unhide RS3 _).mono ?_
                    rintro e wa ⟨rfl, hwa⟩
                    obtain rfl : u2 = wa := hwa.symm
                    cases x3 with
                    | false =>
                      have HXX := unhide HPC 50 (by rw [unhide HPE, if_neg (by simp)]) (by decide)
                      have HX2 := hide HXX.1
                      have HX3 := hide HXX.2
                      clear HXX HPC HPE HNX HST HIN HL HT HTB2 HC2 HDZ HWK HZI HZN
                      go_wp2
                      go_ret2
                      exact ⟨by first | rfl | (rw [unhide HX2, unhide HX3]; rfl), unhide HF2⟩
                    | true =>
                      go_wp2_with fail
                      refine (unhide RS4 _).mono ?_
                      rintro e wa ⟨rfl, hwa⟩
                      obtain rfl : u2 = wa := hwa.symm
                      cases x4 with
                      | false =>
                        have HXX := unhide HPC 50 (by rw [unhide HPE, if_neg (by simp)]) (by decide)
                        have HX2 := hide HXX.1
                        have HX3 := hide HXX.2
                        clear HXX HPC HPE HNX HST HIN HL HT HTB2 HC2 HDZ HWK HZI HZN
                        go_wp2
                        go_ret2
                        exact ⟨by first | rfl | (rw [unhide HX2, unhide HX3]; rfl), unhide HF2⟩
                      | true =>
                        clear RS1 RS2 RS3 RS4
                        by_cases hlt : d3 < d2
                        · have HXX := unhide HPC 50 (by rw [unhide HPE, if_neg (fun q => by have := q.2; omega)]) (by decide)
                          have HX2 := hide HXX.1
                          have HX3 := hide HXX.2
                          clear HXX HPC HPE HNX HST HIN HL HT HTB2 HC2 HDZ HWK HZI HZN
                          go_wp2
                          go_ret2
                          exact ⟨by first | rfl | (rw [unhide HX2, unhide HX3]; rfl), unhide HF2⟩
                        · have HPE2 : Hid (pe = if zb = true then 0 else 1) := hide (by rw [unhide HPE, if_pos ⟨rfl, by omega⟩])
                          by_cases h50 : d5 = 0
                          · by_cases h60 : d6 = 0
                            · have HP0 : Hid (pe = 0) := hide (by rw [unhide HPE2, if_pos (by rw [unhide HZB, if_pos ⟨h50, h60⟩])])
                              have h5b : (d5 == 0) = true := by simp [h50]
                              have h5c : (d5 != 0) = false := by simp [h50]
                              have h6b : (d6 == 0) = true := by simp [h60]
                              have h6c : (d6 != 0) = false := by simp [h60]
                              have h5p : ¬ 0 < d5 := by omega
                              have HLW : Hid (lowW low d5 = low) := hide (by rw [h50]; unfold lowW; by_cases q : low = 0 <;> simp [q])
                              have HS1 : WInv t A l w B (j + 1 + 1) u2 ∧ (sumW (l.take (j + 1 + 1))).bus = bus + d2 ∧ (sumW (l.take (j + 1 + 1))).rail = rail + d3 - d2 ∧ (sumW (l.take (j + 1 + 1))).most = most + d4 ∧ (sumW (l.take (j + 1 + 1))).low = low ∧ (sumW (l.take (j + 1 + 1))).high = imax high d6 := by
                                have hst := unhide HST
                                have hz0 := unhide HP0
                                refine ⟨⟨unhide HF2, unhide HTB2, ?_, unhide HNX hz0, ?_⟩, ?_, ?_, ?_, ?_, ?_⟩
                                · rw [hst, show (((j + 1 + 1 : Nat) : Int) * 1099511627776) = ((j + 1 : Nat) : Int) * 1099511627776 + 1099511627776 by omega]
                                  exact unhide HWK hz0
                                · rw [hst]; exact unhide HZN hz0
                                · rw [hst]; rfl
                                · rw [hst]; show rail + (d3 - d2) = rail + d3 - d2; omega
                                · rw [hst]; rfl
                                · rw [hst]; show lowW low d5 = _; exact unhide HLW
                                · rw [hst]; rfl
                              obtain ⟨h1, h2, h3, h4, h5, h6⟩ := HS1
                              have HW1 := unhide HWW (unhide HP0)
                              obtain ⟨hw1, hw2, hw3, hw4⟩ := HW1
                              have hil := unhide HIL
                              have hn7 := unhide HN7
                              have HQ := hide (show WInv t A l w B (j + 1 + 1) u2 ∧ _ ∧ _ ∧ _ ∧ _ ∧ _ from ⟨h1, h2, h3, h4, h5, h6⟩)
                              clear h1 h2 h3 h4 h5 h6 HNX HST HIN HL HT HC2 HDZ HWK HZI HZN HTB2 HF2 HP0 HPE2 HPC HPE HWW
                              go_wp2
                              obtain ⟨h1, h2, h3, h4, h5, h6⟩ := unhide HQ
                              refine ⟨⟨j + 1 + 1, by omega, by go_num, ?_, ?_, ?_, ?_, ?_, h1⟩, by simp [intOf]; omega⟩
                              · rw [h2]; first | rfl | (rw [hw1]; done) | (show Value.int .i64 (wrap64 (bus + d2)) = _; rw [hw1])
                              · rw [h3]; first | rfl | (show Value.int .i64 (wrap64 (rail + d3 - d2)) = _; rw [hw3]) | (show Value.int .i64 (wrap64 (wrap64 (rail + d3) - d2)) = _; rw [hw2, hw3])
                              · rw [h4]; first | rfl | (show Value.int .i64 (wrap64 (most + d4)) = _; rw [hw4])
                              · rw [h5]
                              · first | (rw [h6]; done) | (rw [h6, h60])
                            · have h5c : (d5 != 0) = false := by simp [h50]
                              have h6c : (d6 != 0) = true := by simp [h60]
                              have h51 : d5 < 1 := by omega
                              have HXX := unhide HPC 1 (by rw [unhide HPE2, if_neg (by rw [unhide HZB, if_neg (fun q => h60 q.2)]; cases hs : sb <;> simp; by_cases hh : d5 ≤ d6; (exfalso; have := unhide HSI hs hh; omega); exact by omega)]) (by decide)
                              have HX2 := hide HXX.1
                              have HX3 := hide HXX.2
                              clear HXX HPC HPE HNX HST HIN HL HT HTB2 HC2 HDZ HWK HZI HZN
                              go_wp2
                              go_ret2
                              exact ⟨by first | rfl | (rw [unhide HX2, unhide HX3]; rfl), unhide HF2⟩
                          · have h5c : (d5 != 0) = true := by simp [h50]
                            by_cases h51 : d5 < 1
                            · have HXX := unhide HPC 1 (by rw [unhide HPE2, if_neg (by rw [unhide HZB, if_neg (fun q => h50 q.1)]; cases hs : sb <;> simp; by_cases hh : d5 ≤ d6; (exfalso; have := unhide HSI hs hh; omega); exact by omega)]) (by decide)
                              have HX2 := hide HXX.1
                              have HX3 := hide HXX.2
                              clear HXX HPC HPE HNX HST HIN HL HT HTB2 HC2 HDZ HWK HZI HZN
                              go_wp2
                              go_ret2
                              exact ⟨by first | rfl | (rw [unhide HX2, unhide HX3]; rfl), unhide HF2⟩
                            · by_cases h56 : d6 < d5
                              · have HXX := unhide HPC 1 (by rw [unhide HPE2, if_neg (by rw [unhide HZB, if_neg (fun q => h50 q.1)]; simp; omega)]) (by decide)
                                have HX2 := hide HXX.1
                                have HX3 := hide HXX.2
                                clear HXX HPC HPE HNX HST HIN HL HT HTB2 HC2 HDZ HWK HZI HZN
                                go_wp2
                                go_ret2
                                exact ⟨by first | rfl | (rw [unhide HX2, unhide HX3]; rfl), unhide HF2⟩
                              · cases sb with
                                | false =>
                                  have HXX := unhide HPC 1 (by rw [unhide HPE2, if_neg (by rw [unhide HZB, if_neg (fun q => h50 q.1)]; simp)]) (by decide)
                                  have HX2 := hide HXX.1
                                  have HX3 := hide HXX.2
                                  clear HXX HPC HPE HNX HST HIN HL HT HTB2 HC2 HDZ HWK HZI HZN
                                  go_wp2
                                  go_ret2
                                  exact ⟨by first | rfl | (rw [unhide HX2, unhide HX3]; rfl), unhide HF2⟩
                                | true =>
                                  have HP0 : Hid (pe = 0) := hide (by rw [unhide HPE2, if_pos (by rw [unhide HZB, if_neg (fun q => h50 q.1)]; simp; omega)])
                                  have h5p : 0 < d5 := by omega
                                  by_cases hl0 : low = 0
                                  · have hlb : (low == 0) = true := by simp [hl0]
                                    have HLW : Hid (lowW low d5 = d5) := hide (by unfold lowW; rw [if_pos hl0])
                                    have HS1 : WInv t A l w B (j + 1 + 1) u2 ∧ (sumW (l.take (j + 1 + 1))).bus = bus + d2 ∧ (sumW (l.take (j + 1 + 1))).rail = rail + d3 - d2 ∧ (sumW (l.take (j + 1 + 1))).most = most + d4 ∧ (sumW (l.take (j + 1 + 1))).low = d5 ∧ (sumW (l.take (j + 1 + 1))).high = imax high d6 := by
                                      have hst := unhide HST
                                      have hz0 := unhide HP0
                                      refine ⟨⟨unhide HF2, unhide HTB2, ?_, unhide HNX hz0, ?_⟩, ?_, ?_, ?_, ?_, ?_⟩
                                      · rw [hst, show (((j + 1 + 1 : Nat) : Int) * 1099511627776) = ((j + 1 : Nat) : Int) * 1099511627776 + 1099511627776 by omega]
                                        exact unhide HWK hz0
                                      · rw [hst]; exact unhide HZN hz0
                                      · rw [hst]; rfl
                                      · rw [hst]; show rail + (d3 - d2) = rail + d3 - d2; omega
                                      · rw [hst]; rfl
                                      · rw [hst]; show lowW low d5 = _; exact unhide HLW
                                      · rw [hst]; rfl
                                    obtain ⟨h1, h2, h3, h4, h5, h6⟩ := HS1
                                    have HW1 := unhide HWW (unhide HP0)
                                    obtain ⟨hw1, hw2, hw3, hw4⟩ := HW1
                                    have hil := unhide HIL
                                    have hn7 := unhide HN7
                                    have HQ := hide (show WInv t A l w B (j + 1 + 1) u2 ∧ _ ∧ _ ∧ _ ∧ _ ∧ _ from ⟨h1, h2, h3, h4, h5, h6⟩)
                                    clear h1 h2 h3 h4 h5 h6 HNX HST HIN HL HT HC2 HDZ HWK HZI HZN HTB2 HF2 HP0 HPE2 HPC HPE HWW
                                    go_wp2
                                    obtain ⟨h1, h2, h3, h4, h5, h6⟩ := unhide HQ
                                    refine ⟨⟨j + 1 + 1, by omega, by go_num, ?_, ?_, ?_, ?_, ?_, h1⟩, by simp [intOf]; omega⟩
                                    · rw [h2]; first | rfl | (rw [hw1]; done) | (show Value.int .i64 (wrap64 (bus + d2)) = _; rw [hw1])
                                    · rw [h3]; first | rfl | (show Value.int .i64 (wrap64 (rail + d3 - d2)) = _; rw [hw3]) | (show Value.int .i64 (wrap64 (wrap64 (rail + d3) - d2)) = _; rw [hw2, hw3])
                                    · rw [h4]; first | rfl | (show Value.int .i64 (wrap64 (most + d4)) = _; rw [hw4])
                                    · rw [h5]
                                    · first | (rw [h6]; done) | (rw [h6, h60])
                                  · have hlb : (low == 0) = false := by simp [hl0]
                                    by_cases hll : d5 < low
                                    · have HLW : Hid (lowW low d5 = d5) := hide (by unfold lowW; rw [if_neg hl0, if_pos ⟨h5p, hll⟩])
                                      have HS1 : WInv t A l w B (j + 1 + 1) u2 ∧ (sumW (l.take (j + 1 + 1))).bus = bus + d2 ∧ (sumW (l.take (j + 1 + 1))).rail = rail + d3 - d2 ∧ (sumW (l.take (j + 1 + 1))).most = most + d4 ∧ (sumW (l.take (j + 1 + 1))).low = d5 ∧ (sumW (l.take (j + 1 + 1))).high = imax high d6 := by
                                        have hst := unhide HST
                                        have hz0 := unhide HP0
                                        refine ⟨⟨unhide HF2, unhide HTB2, ?_, unhide HNX hz0, ?_⟩, ?_, ?_, ?_, ?_, ?_⟩
                                        · rw [hst, show (((j + 1 + 1 : Nat) : Int) * 1099511627776) = ((j + 1 : Nat) : Int) * 1099511627776 + 1099511627776 by omega]
                                          exact unhide HWK hz0
                                        · rw [hst]; exact unhide HZN hz0
                                        · rw [hst]; rfl
                                        · rw [hst]; show rail + (d3 - d2) = rail + d3 - d2; omega
                                        · rw [hst]; rfl
                                        · rw [hst]; show lowW low d5 = _; exact unhide HLW
                                        · rw [hst]; rfl
                                      obtain ⟨h1, h2, h3, h4, h5, h6⟩ := HS1
                                      have HW1 := unhide HWW (unhide HP0)
                                      obtain ⟨hw1, hw2, hw3, hw4⟩ := HW1
                                      have hil := unhide HIL
                                      have hn7 := unhide HN7
                                      have HQ := hide (show WInv t A l w B (j + 1 + 1) u2 ∧ _ ∧ _ ∧ _ ∧ _ ∧ _ from ⟨h1, h2, h3, h4, h5, h6⟩)
                                      clear h1 h2 h3 h4 h5 h6 HNX HST HIN HL HT HC2 HDZ HWK HZI HZN HTB2 HF2 HP0 HPE2 HPC HPE HWW
                                      go_wp2
                                      obtain ⟨h1, h2, h3, h4, h5, h6⟩ := unhide HQ
                                      refine ⟨⟨j + 1 + 1, by omega, by go_num, ?_, ?_, ?_, ?_, ?_, h1⟩, by simp [intOf]; omega⟩
                                      · rw [h2]; first | rfl | (rw [hw1]; done) | (show Value.int .i64 (wrap64 (bus + d2)) = _; rw [hw1])
                                      · rw [h3]; first | rfl | (show Value.int .i64 (wrap64 (rail + d3 - d2)) = _; rw [hw3]) | (show Value.int .i64 (wrap64 (wrap64 (rail + d3) - d2)) = _; rw [hw2, hw3])
                                      · rw [h4]; first | rfl | (show Value.int .i64 (wrap64 (most + d4)) = _; rw [hw4])
                                      · rw [h5]
                                      · first | (rw [h6]; done) | (rw [h6, h60])
                                    · have HLW : Hid (lowW low d5 = low) := hide (by unfold lowW; rw [if_neg hl0, if_neg (fun q => hll q.2)])
                                      have HS1 : WInv t A l w B (j + 1 + 1) u2 ∧ (sumW (l.take (j + 1 + 1))).bus = bus + d2 ∧ (sumW (l.take (j + 1 + 1))).rail = rail + d3 - d2 ∧ (sumW (l.take (j + 1 + 1))).most = most + d4 ∧ (sumW (l.take (j + 1 + 1))).low = low ∧ (sumW (l.take (j + 1 + 1))).high = imax high d6 := by
                                        have hst := unhide HST
                                        have hz0 := unhide HP0
                                        refine ⟨⟨unhide HF2, unhide HTB2, ?_, unhide HNX hz0, ?_⟩, ?_, ?_, ?_, ?_, ?_⟩
                                        · rw [hst, show (((j + 1 + 1 : Nat) : Int) * 1099511627776) = ((j + 1 : Nat) : Int) * 1099511627776 + 1099511627776 by omega]
                                          exact unhide HWK hz0
                                        · rw [hst]; exact unhide HZN hz0
                                        · rw [hst]; rfl
                                        · rw [hst]; show rail + (d3 - d2) = rail + d3 - d2; omega
                                        · rw [hst]; rfl
                                        · rw [hst]; show lowW low d5 = _; exact unhide HLW
                                        · rw [hst]; rfl
                                      obtain ⟨h1, h2, h3, h4, h5, h6⟩ := HS1
                                      have HW1 := unhide HWW (unhide HP0)
                                      obtain ⟨hw1, hw2, hw3, hw4⟩ := HW1
                                      have hil := unhide HIL
                                      have hn7 := unhide HN7
                                      have HQ := hide (show WInv t A l w B (j + 1 + 1) u2 ∧ _ ∧ _ ∧ _ ∧ _ ∧ _ from ⟨h1, h2, h3, h4, h5, h6⟩)
                                      clear h1 h2 h3 h4 h5 h6 HNX HST HIN HL HT HC2 HDZ HWK HZI HZN HTB2 HF2 HP0 HPE2 HPC HPE HWW
                                      go_wp2
                                      obtain ⟨h1, h2, h3, h4, h5, h6⟩ := unhide HQ
                                      refine ⟨⟨j + 1 + 1, by omega, by go_num, ?_, ?_, ?_, ?_, ?_, h1⟩, by simp [intOf]; omega⟩
                                      · rw [h2]; first | rfl | (rw [hw1]; done) | (show Value.int .i64 (wrap64 (bus + d2)) = _; rw [hw1])
                                      · rw [h3]; first | rfl | (show Value.int .i64 (wrap64 (rail + d3 - d2)) = _; rw [hw3]) | (show Value.int .i64 (wrap64 (wrap64 (rail + d3) - d2)) = _; rw [hw2, hw3])
                                      · rw [h4]; first | rfl | (show Value.int .i64 (wrap64 (most + d4)) = _; rw [hw4])
                                      · rw [h5]
                                      · first | (rw [h6]; done) | (rw [h6, h60])
              · have hwb : (weekV d0 == weekV p0) = false := by simp [hwk]
                have hwc : (weekV d0 != weekV p0) = true := by simp [hwk]
                have HXX := unhide HTM (by rw [unhide HFB]; simp [hwk])
                have HX2 := hide HXX.1
                have HX3 := hide HXX.2
                have HF2 := hide ((unhide HI1).trans (unhide HW4) (fun _ _ t => t))
                clear HXX HTM HFB HNX1 HPC1 HPE HST HIN HL HT HDZ HWK HZI HZN RS1 RS2 RS3 RS4 HWW HC4 HI1 HI2
                go_wp2
                go_ret2
                exact ⟨by first | rfl | (rw [unhide HX2, unhide HX3]; rfl), (unhide HF2).drew⟩
        · obtain rfl : i = l.length := by omega
          have hlt : ¬ (l.length : Int) < (l.length : Int) := by omega
          obtain ⟨i1, i2, i3, i4, i5⟩ := HI
          have HX2 : Hid (wkE t l = 0) := hide (by rw [unhide HX, ← i4, List.drop_length]; cases prevW l l.length <;> rfl)
          have HX3 : Hid (wkR t l = wkV t l) := hide (by rw [unhide HR, if_pos (unhide HX2)])
          have HWV : Hid (wkV t l = capV t (heldW t (sumW l)) (·.weekly) + (sumW l).most) := rfl
          generalize hs : sumW (l.take l.length) = sw at *
          rw [List.take_length] at hs
          rw [hs] at HWV
          clear hs
          obtain ⟨day0, rail, bus, cap1, most, low, high⟩ := sw
          have HCV : Hid (capV t (heldW t ⟨day0, rail, bus, cap1, most, low, high⟩) (·.weekly) = if 0 < low then imin (rail + imin bus t.busWeekly) (imax ((spanOf t low high).getD ⟨0, 0, 0, 0, 0⟩).weekly (imin bus t.busWeekly)) else rail + imin bus t.busWeekly) := hide (cap_week (unhide HRT) (d := heldW t ⟨day0, rail, bus, cap1, most, low, high⟩) i5 i3.1.1 (·.weekly))
          have RS := hide (fun (u : World) (hu : Fr (fun _ => False) w u) => rspan_any u A t (unhide HT u hu) low high)
          have HIN := hide i3
          have HF2 := hide i1
          have HTB2 := hide i2
          have HNN : Hid (((l.length : Nat) : Int) * 1099511627776 ≤ 7696581394432) := hide (by have := unhide HN7; omega)
          have HRG : Hid (0 < low → spanOf t low high ≠ none) := hide (fun hl hn => by
            have h1 : 1 ≤ low ∧ low ≤ high ∧ high ≤ Zt t := by
              rcases i5 with ⟨q, _⟩ | q
              · simp only at q; omega
              · exact q
            have := span_has (unhide HRT) h1.1 h1.2.1 h1.2.2
            rw [hn] at this
            cases this)
          have HWK2 : Hid (0 < low → 0 ≤ ((spanOf t low high).getD ⟨0, 0, 0, 0, 0⟩).weekly ∧ ((spanOf t low high).getD ⟨0, 0, 0, 0, 0⟩).weekly ≤ 1048576) := hide (fun hl => by
            cases hs : spanOf t low high with
            | none => exact absurd hs (unhide HRG hl)
            | some s => exact (span_vals (unhide HRT) hs).2)
          clear i1 i2 i3 i4 i5 HX HR HL HN7 HRG
          generalize (spanOf t low high).getD ⟨0, 0, 0, 0, 0⟩ = sp at *
          generalize (spanOf t low high).isSome = sb at *
          have r1 := run_min
          have r2 := run_max
          have c6 : wr.cell? ⟨B, 6, none⟩ = some (.int .i64 t.busWeekly) := (unhide HTB2).cell 6
          obtain ⟨bu, HBU⟩ : ∃ bu, Hid (imin bus t.busWeekly = bu) := ⟨_, rfl⟩
          rw [unhide HBU] at HCV
          have hbounds : (0 ≤ rail ∧ rail ≤ 7696581394432) ∧ (0 ≤ bu ∧ bu ≤ 7696581394432) ∧ (0 ≤ most ∧ most ≤ 7696581394432) := by
            have h1 := unhide HIN
            have h2 := unhide HNN
            have h3 := unhide HBD
            have h4 := unhide HBU
            rw [imin_eq] at h4
            unfold DyIn at h1
            simp only at h1
            omega
          have HBB := hide hbounds
          have HWA : Hid (wrap64 (bu + rail) = rail + bu) := hide (by unfold wrap64; omega)
          clear hbounds
          go_upto_region 29 with (fail)
          rw [unhide HBU]
          go_upto_region 30 with (fail)
          rw [unhide HWA]
          obtain ⟨al, HAL⟩ : ∃ al, Hid (rail + bu = al) := ⟨_, rfl⟩
          rw [unhide HAL] at HCV ⊢
          by_cases hl5 : 0 < low
          · rw [if_pos hl5] at HCV
            go_wp2_with (refine wpList_load_tariff rfl (.tmp 2) rfl (g := B) (A := A) (t := t) rfl (unhide HTB2) ?_)
            refine (unhide RS wr (unhide HF2)).mono ?_
            rintro e u4 ⟨rfl, hF⟩
            have HF5 := hide ((unhide HF2).trans hF (fun _ _ t => t))
            clear hF RS HF2 HTB2 c6
            obtain ⟨p0, p1, p2, p3, p4⟩ := sp
            simp only [spA] at *
            go_upto_region 32 with (fail)
            obtain ⟨u5, hu5⟩ : ∃ u5, u5 = u4.alloc (.cells #[.int .i64 p0, .int .i64 p1, .int .i64 p2, .int .i64 p3, .int .i64 p4] 50) := ⟨_, rfl⟩
            obtain ⟨E, hE⟩ : ∃ E, E = u4.heap.size := ⟨_, rfl⟩
            rw [← hu5, ← hE]
            have hF : Fr (fun _ => False) u4 u5 := by rw [hu5]; exact (Fr.refl _ _).alloc _
            have HE1 : Hid (Bx u5 E #[.int .i64 p0, .int .i64 p1, .int .i64 p2, .int .i64 p3, .int .i64 p4] 50) := hide (by rw [hu5, hE]; exact Bx.new _ _ _)
            have HF6 := hide ((unhide HF5).trans hF (fun _ _ t => t))
            clear hF hu5 hE HF5
            have e4 : u5.cell? ⟨E, 4, none⟩ = some (.int .i64 p4) := (unhide HE1).cell 4
            go_upto_region 33 with (fail)
            rw [← unhide HCV]
            have HCB : Hid (wrap64 (capV t (heldW t ⟨day0, rail, bus, cap1, most, low, high⟩) (·.weekly) + most) = wkV t l) := hide (by
              rw [unhide HWV, unhide HCV]
              have h1 := unhide HBB
              have h2 := unhide HAL
              have h3 := unhide HWK2 hl5
              rw [imin_eq, imax_eq]
              unfold wrap64
              show (min al (max p4 bu) + most + 9223372036854775808) % 18446744073709551616 - 9223372036854775808 = min al (max p4 bu) + most
              omega)
            generalize capV t (heldW t ⟨day0, rail, bus, cap1, most, low, high⟩) (·.weekly) = cv at *
            go_wp2
            go_ret2
            exact ⟨by rw [unhide HX2, unhide HX3, ← unhide HCB]; rfl, unhide HF6⟩
          · rw [if_neg hl5] at HCV
            have HCB : Hid (wrap64 (al + most) = wkV t l) := hide (by
              rw [unhide HWV, unhide HCV]
              have h1 := unhide HBB
              have h2 := unhide HAL
              unfold wrap64
              show (al + most + 9223372036854775808) % 18446744073709551616 - 9223372036854775808 = al + most
              omega)
            go_wp2
            go_ret2
            exact ⟨by rw [unhide HX2, unhide HX3, ← unhide HCB]; rfl, unhide HF2⟩
  · have HX : Hid (wkE t l = rightE t) := hide (by rw [unhide HE, if_neg h0])
    have HX2 : Hid (wkR t l = 0) := hide (by rw [unhide HR, if_neg (by rw [unhide HX]; exact h0)])
    have hb2 : (rightE t == 0) = false := by simp [h0]
    have hb3 : (rightE t != 0) = true := by simp [h0]
    clear HE HR HL HT HTB1 h0
    generalize rightE t = rr at *
    go_wp2
    go_ret2
    exact ⟨by rw [unhide HX, unhide HX2]; rfl, unhide HF1⟩

end Go.Proofs.Ytkbcochjeooicaa

