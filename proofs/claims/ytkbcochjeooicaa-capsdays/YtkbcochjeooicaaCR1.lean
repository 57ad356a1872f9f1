import Derived.Test.YtkbcochjeooicaaCP4
import Derived.Test.YtkbcochjeooicaaCM1
import Derived.Laws.Cover1
import Derived.Test.YtkbcochjeooicaaQVY
import Derived.Test.YtkbcochjeooicaaQV7
/- The document's Day. -/
namespace Go.Proofs.Ytkbcochjeooicaa
open Go.RowKit

theorem rday_results (tmps : Array Value) (w : World) {g : Nat} {d : Dy} {e : Int} (hp : tmps.getD 6 undef = .pointer (some ⟨g, 0, none⟩)) (he : tmps.getD 7 undef = .int .i64 e) (hg : Bx w g (dyC d) 36) :
    (results Try.f12 tmps).run Try.prog w = .ok (.tuple #[.agg (dyC d), .int .i64 e]) w := by
  rw [results_cell_tmp (p := 6) (u := 7) (ty := 36) (by kernel_rfl) tmps Try.prog w, hp, he]
  simp only [asAddr, Sem.run_pure, Result.andThen_ok]
  rw [run_loadVar_row w g 36 36 (dyC d) (0, 0) _ hg Try.underlying36 rfl (dy_size d)]
  rfl

theorem run_max3C (ts : Array TypeId) (t : TypeId) (x y z : Int) (w : World) : (Builtin.max_ ts t #[.int .i64 x, .int .i64 y, .int .i64 z]).run Try.prog w = .ok (.int .i64 (imax (imax x y) z)) w := by
  rw [run_max_int3]
  rfl

/-- Between two journeys. -/
def DInv (t : Tf) (A : Ad) (day : Int) (l : List (Jn × Int)) (w : World) (B g i : Nat) (u : World) : Prop :=
  Fr (fun _ => False) w u ∧ TB u B A t ∧ Bx u (B + 1) (dyC dz) 36 ∧ Bx u g (dyC (sumD t day (l.take i))) 36 ∧ DyIn (sumD t day (l.take i)) ((i : Nat) * 1048576) ∧ firstP t day (l.drop i) = firstP t day l ∧ ZSum t (sumD t day (l.take i))

set_option maxHeartbeats 4000000 in
set_option maxRecDepth 40000 in
theorem rcapsDay_any (w : World) (A : Ad) (t : Tf) (h : TAt w A t) (ao0 : Option Addr) (cap0 : Nat) (day : Int) (l : List (Jn × Int)) (hl : CAt w ao0 (pV l)) :
    Calls Try.prog 12 #[tv A t, .int .i64 day, .slice ao0 l.length cap0] w fun e w' => e = .returned (.tuple #[.agg (dyC (dR t day l)), .int .i64 (dE t day l)]) ∧ Fr (fun _ => False) w w' := by
  have RE := hide (fun (u : World) (hu : Fr (fun _ => False) w u) => rright_walk u A t (h.keep hu))
  have HT := hide (fun (u : World) (hu : Fr (fun _ => False) w u) => h.keep hu)
  have HL := hide (fun (u : World) (hu : Fr (fun _ => False) w u) => hl.keep hu)
  have HE : Hid (dE t day l = if rightE t = 0 then (if 2000 < l.length then 2 else firstP t day l) else rightE t) := rfl
  have HR : Hid (dR t day l = if dE t day l = 0 then cappedD t (heldD t (sumD t day l)) else dz) := rfl
  obtain ⟨v, hv⟩ : ∃ v, v = (w.alloc (.cells (tc A t) 27)).alloc (.cells (dyC dz) 36) := ⟨_, rfl⟩
  have HFV : Hid (Fr (fun _ => False) w v) := hide (by rw [hv]; exact ((Fr.refl _ w).alloc _).alloc _)
  have hTB : TB v w.heap.size A t := by rw [hv]; exact (TB.new w A t).keep ((Fr.refl _ _).alloc _)
  have hD : Bx v (w.heap.size + 1) (dyC dz) 36 := by
    rw [hv, ← heap_alloc w (.cells (tc A t) 27)]; exact Bx.new _ _ _
  obtain ⟨B, hB⟩ : ∃ B, B = w.heap.size := ⟨_, rfl⟩
  rw [← hB] at hTB hD
  have HTB := hide hTB
  have HZ := hide hD
  have HV := hide hv
  have HB := hide hB
  clear hv hB hTB hD h hl
  unfold tv
  unfold tc at HV ⊢
  simp only [dyC, dz] at HV
  go_enter Try.func12, Try.ntmps12
  go_upto_region 1 with (fail)
  rw [← unhide HV, ← unhide HB]
  clear HV
  go_wp2_with (refine wpList_load_tariff rfl (.tmp 3) rfl (g := B) (A := A) (t := t) rfl (unhide HTB) ?_)
  refine (unhide RE v (unhide HFV)).mono ?_
  rintro e w1 ⟨rfl, hF⟩
  have HTB1 := hide ((unhide HTB).keep hF)
  have HZ1 := hide ((unhide HZ).keep hF)
  have HF1 := hide ((unhide HFV).trans hF (fun _ _ t => t))
  clear hF HTB HFV HZ RE
  by_cases h0 : rightE t = 0
  · rw [h0]
    by_cases h1 : 2000 < l.length
    · have HX : Hid (dE t day l = 2) := hide (by rw [unhide HE, if_pos h0, if_pos h1])
      have HX2 : Hid (dR t day l = dz) := hide (by rw [unhide HR, if_neg (by rw [unhide HX]; decide)])
      have h1i : (2000 : Int) < (l.length : Int) := by omega
      clear HE HR HL HT HTB1 h0 h1
      go_wp2_with (refine wpList_store_day rfl (.tmp 6) (.tmp 30) rfl (g := B + 1) (d := dz) (d' := dz) rfl rfl (unhide HZ1) ?_)
      refine bodyPost_ret (rday_results _ _ (g := B + 1) (d := dz) (e := 2) rfl rfl ((unhide HZ1).setDy dz)) rfl ⟨by rw [unhide HX, unhide HX2], ?_⟩
      exact (unhide HF1).setRow (fun q => by have := unhide HB; omega) _
    · have HX : Hid (dE t day l = firstP t day l) := hide (by rw [unhide HE, if_pos h0, if_neg h1])
      have h1i : ¬ (2000 : Int) < (l.length : Int) := by omega
      have hn : l.length ≤ 2000 := by omega
      have HN := hide hn
      have HRT := hide h0
      have HBD := hide (busDaily_of h0)
      clear HE h0 h1 hn
      go_upto_region 7 with (fail)
      obtain ⟨u0, hu0⟩ : ∃ u0, u0 = w1.alloc (.cells (dyC (d0 day)) 36) := ⟨_, rfl⟩
      obtain ⟨g, hg⟩ : ∃ g, g = w1.heap.size := ⟨_, rfl⟩
      have hFa : Fr (fun _ => False) w1 u0 := by rw [hu0]; exact (Fr.refl _ _).alloc _
      have hD0 : Bx u0 g (dyC (d0 day)) 36 := by rw [hu0, hg]; exact Bx.new _ _ _
      have HGW : Hid (w.heap.size ≤ g) := hide (by rw [hg]; exact (unhide HF1).size)
      have HBG : Hid (B + 1 < g) := hide (by rw [hg]; exact (unhide HZ1).lt)
      have HS0 : DInv t A day l w B g 0 u0 := ⟨(unhide HF1).trans hFa (fun _ _ t => t), (unhide HTB1).keep hFa, (unhide HZ1).keep hFa, hD0, by simp [DyIn, sumD, d0], rfl, ⟨.inl ⟨rfl, rfl⟩, fun _ => rfl⟩⟩
      simp only [dyC, d0] at hu0
      rw [← hu0, ← hg]
      clear hFa hu0 hg HTB1 HZ1 HF1 h1i hD0
      go_wp2
      go_loopw [10, 11, 12, 13, 14, 15, 16, 17, 18] (fun iv _ _ _ _ _ _ _ _ wr => ∃ i : Nat, i ≤ l.length ∧ iv = .int .i64 i ∧ DInv t A day l w B g i wr) (fun iv _ _ _ _ _ _ _ _ _ => l.length - (intOf iv).toNat)
      case atStart => exact ⟨0, Nat.zero_le _, rfl, HS0⟩
      case round =>
        obtain ⟨i, hi, rfl, HI⟩ := hrel
        clear HS0
        by_cases hil : i < l.length
        · have hlt : (i : Int) < (l.length : Int) := by omega
          obtain ⟨i1, i2, i3, i4, i5, i6, i7⟩ := HI
          obtain ⟨b0, off0, hao, kk⟩ := (unhide HL wr i1).pj hil
          subst hao
          have k0 := kk 0 (by omega) _ rfl
          have k1 := kk 1 (by omega) _ rfl
          have k2 := kk 2 (by omega) _ rfl
          have k3 := kk 3 (by omega) _ rfl
          have k4 := kk 4 (by omega) _ rfl
          have k5 := kk 5 (by omega) _ rfl
          have k6 := kk 6 (by omega) _ rfl
          rw [Nat.add_zero] at k0
          rw [← Nat.add_assoc] at k1 k2 k3 k4 k5 k6
          have hfirst := i6
          rw [List.drop_eq_getElem_cons hil, firstP_cons] at hfirst
          have HST : Hid (∀ c, l[i] = c → sumD t day (l.take (i + 1)) = putD t (sumD t day (l.take i)) c) := hide (fun c hc => by rw [← hc]; exact sumD_step t day l i hil)
          clear kk
          generalize l[i] = q at *
          have HST := hide (unhide HST q rfl)
          obtain ⟨⟨k, f, o, s, n, r⟩, m⟩ := q
          simp only at k0 k1 k2 k3 k4 k5 k6
          have HFI := hide hfirst
          have HNX : Hid (pjE t day (⟨k, f, o, s, n, r⟩, m) = 0 → ∀ u, Fr (fun q => q = g) wr u → Bx u g (dyC (putD t (sumD t day (l.take i)) (⟨k, f, o, s, n, r⟩, m))) 36 → DInv t A day l w B g (i + 1) u) := hide (fun hz u hf hb => by
            refine ⟨i1.trans hf (fun q hq e => by have := unhide HGW; omega), i2.frame hf (fun e => by have := unhide HBG; omega), i3.frame hf (fun e => by have := unhide HBG; omega), by rw [unhide HST]; exact hb, ?_, ?_, ?_⟩
            · rw [unhide HST, show (((i + 1 : Nat) : Int) * 1048576) = (i : Int) * 1048576 + 1048576 by omega]
              exact i5.put t _ (pjE_price (day := day) hz)
            · rw [← unhide HFI, if_pos hz]
            · rw [unhide HST]; exact i7.put (unhide HRT) hz)
          have HPE : Hid (pjE t day (⟨k, f, o, s, n, r⟩, m) = if jk k = true then (if price m = true then (if onB day s = true then (if k = 1 then (if (stationOf t f).isSome = true ∧ (stationOf t o).isSome = true then 0 else 1) else 0) else 60) else 50) else 1) := rfl
          have HW1 : Hid (k = 1 → putD t (sumD t day (l.take i)) (⟨k, f, o, s, n, r⟩, m) = widD (sumK (sumD t day (l.take i)) k m) (imin ((stationOf t f).getD ⟨0, 0, 0⟩).zone ((stationOf t o).getD ⟨0, 0, 0⟩).zone) (imax ((stationOf t f).getD ⟨0, 0, 0⟩).zone ((stationOf t o).getD ⟨0, 0, 0⟩).zone)) := hide (putD_whole t _ (⟨k, f, o, s, n, r⟩, m))
          have HW2 : Hid (¬ k = 1 → putD t (sumD t day (l.take i)) (⟨k, f, o, s, n, r⟩, m) = sumK (sumD t day (l.take i)) k m) := hide (putD_other t _ (⟨k, f, o, s, n, r⟩, m))
          have RD := hide (fun (u : World) => rday_any u s)
          have RS1 := hide (fun (u : World) (hu : Fr (fun _ => False) w u) => rstation_any u A t (unhide HT u hu) f)
          have RS2 := hide (fun (u : World) (hu : Fr (fun _ => False) w u) => rstation_any u A t (unhide HT u hu) o)
          have HZ1 : Hid ((stationOf t f).isSome = true → 1 ≤ ((stationOf t f).getD ⟨0, 0, 0⟩).zone) := hide (fun hs => (station_zone (unhide HRT) hs).1)
          have HZ2 : Hid ((stationOf t o).isSome = true → 1 ≤ ((stationOf t o).getD ⟨0, 0, 0⟩).zone) := hide (fun hs => (station_zone (unhide HRT) hs).1)
          have HIB : Hid ((i : Int) * 1048576 ≤ 2097152000) := hide (by have := unhide HN; omega)
          have HI1 := hide i1
          have HI2 := hide i2
          have HI3 := hide i3
          have HI4 := hide i4
          have HIN := hide i5
          clear i1 i2 i3 i4 i5 i6 i7 hfirst HST
          generalize pjE t day (⟨k, f, o, s, n, r⟩, m) = pe at *
          generalize putD t (sumD t day (l.take i)) (⟨k, f, o, s, n, r⟩, m) = pd at *
          generalize sumD t day (l.take i) = d at *
          generalize hF1 : (stationOf t f).isSome = b1 at *
          generalize hF2 : (stationOf t o).isSome = b2 at *
          generalize (stationOf t f).getD ⟨0, 0, 0⟩ = s1 at *
          generalize (stationOf t o).getD ⟨0, 0, 0⟩ = s2 at *
          clear hF1 hF2
          go_upto_region 11 with (fail)
          obtain ⟨u1, hu1⟩ : ∃ u1, u1 = wr.alloc (.cells #[.int .i64 k, .int .i64 f, .int .i64 o, .int .i64 s, .int .i64 n, .bool r] 32) := ⟨_, rfl⟩
          obtain ⟨C, hC⟩ : ∃ C, C = wr.heap.size := ⟨_, rfl⟩
          rw [← hu1, ← hC]
          have HK6 : Hid (∀ u, Fr (fun _ => False) wr u → u.cell? ⟨b0, off0 + i * 7 + 6, none⟩ = some (.int .i64 m)) := hide (fun u hf => (hf.cell (World.block_lt_of_cell? _ _ k6) (fun t => t)).trans k6)
          have hFa : Fr (fun _ => False) wr u1 := by rw [hu1]; exact (Fr.refl _ _).alloc _
          have HJ1 : Hid (Bx u1 C (jC ⟨k, f, o, s, n, r⟩) 32) := hide (by rw [hu1, hC]; exact Bx.new _ _ _)
          have HGC : Hid (g < C) := hide (by rw [hC]; exact (unhide HI4).lt)
          have HW3 := hide hFa
          clear hFa hu1 hC k0 k1 k2 k3 k4 k5 k6
          have j3 : u1.cell? ⟨C, 3, none⟩ = some (.int .i64 s) := (unhide HJ1).cell 3
          have HON : Hid (onB day s = (decide (dayE s = 0) && decide (dayV s = day))) := rfl
          generalize onB day s = ob at *
          generalize dayE s = de at *
          generalize dayV s = dv at *
          go_wp2_with fail
          refine (unhide RD u1).mono ?_
          rintro e w2 ⟨rfl, rfl⟩
          have HTB1 := hide ((unhide HI2).keep (unhide HW3))
          have j1 : w2.cell? ⟨C, 1, none⟩ = some (.int .i64 f) := (unhide HJ1).cell 1
          go_wp2_with (refine wpList_load_tariff rfl (.tmp 3) rfl (g := B) (A := A) (t := t) rfl (unhide HTB1) ?_)
          refine (unhide RS1 w2 ((unhide HI1).trans (unhide HW3) (fun _ _ t => t))).mono ?_
          rintro e u2 ⟨rfl, hF⟩
          have HW4 := hide ((unhide HW3).trans hF (fun _ _ t => t))
          have HJ2 := hide ((unhide HJ1).keep hF)
          clear hF HW3 HJ1 HTB1 j1 j3 RD RS1
          obtain ⟨a1, z1, g1⟩ := s1
          simp only [stA] at *
          go_upto_region 13 with (fail)
          obtain ⟨u3, hu3⟩ : ∃ u3, u3 = u2.alloc (.cells #[.int .i64 a1, .int .i64 z1, .int .i64 g1] 62) := ⟨_, rfl⟩
          obtain ⟨E, hE⟩ : ∃ E, E = u2.heap.size := ⟨_, rfl⟩
          rw [← hu3, ← hE]
          have hF : Fr (fun _ => False) u2 u3 := by rw [hu3]; exact (Fr.refl _ _).alloc _
          have HE1 : Hid (Bx u3 E #[.int .i64 a1, .int .i64 z1, .int .i64 g1] 62) := hide (by rw [hu3, hE]; exact Bx.new _ _ _)
          have HGE : Hid (g < E) := hide (by rw [hE]; have := (unhide HJ2).lt; have := unhide HGC; omega)
          have HW5 := hide ((unhide HW4).trans hF (fun _ _ t => t))
          have HJ3 := hide ((unhide HJ2).keep hF)
          clear hF HW4 HJ2 hu3 hE
          have HTB1 := hide ((unhide HI2).keep (unhide HW5))
          have j2 : u3.cell? ⟨C, 2, none⟩ = some (.int .i64 o) := (unhide HJ3).cell 2
          go_wp2_with (refine wpList_load_tariff rfl (.tmp 3) rfl (g := B) (A := A) (t := t) rfl (unhide HTB1) ?_)
          refine (unhide RS2 u3 ((unhide HI1).trans (unhide HW5) (fun _ _ t => t))).mono ?_
          rintro e u4 ⟨rfl, hF⟩
          have HW6 := hide ((unhide HW5).trans hF (fun _ _ t => t))
          have HJ4 := hide ((unhide HJ3).keep hF)
          have HE4 := hide ((unhide HE1).keep hF)
          clear hF HW5 HJ3 HTB1 HE1 j2 RS2
          obtain ⟨a2, z2, g2⟩ := s2
          simp only at *
          go_upto_region 15 with (fail)
          obtain ⟨u, hu⟩ : ∃ u, u = u4.alloc (.cells #[.int .i64 a2, .int .i64 z2, .int .i64 g2] 62) := ⟨_, rfl⟩
          obtain ⟨H, hH⟩ : ∃ H, H = u4.heap.size := ⟨_, rfl⟩
          rw [← hu, ← hH]
          have hF : Fr (fun _ => False) u4 u := by rw [hu]; exact (Fr.refl _ _).alloc _
          have HH3 : Hid (Bx u H #[.int .i64 a2, .int .i64 z2, .int .i64 g2] 62) := hide (by rw [hu, hH]; exact Bx.new _ _ _)
          have HGH : Hid (g < H) := hide (by rw [hH]; have := (unhide HE4).lt; have := unhide HGE; omega)
          have HWR := hide ((unhide HW6).trans hF (fun _ _ t => t))
          have HJ3 := hide ((unhide HJ4).keep hF)
          have HE3 := hide ((unhide HE4).keep hF)
          clear hF HW6 HJ4 HE4 hu hH
          have HF3 := hide ((unhide HI1).trans (unhide HWR) (fun _ _ t => t))
          have HTB3 := hide ((unhide HI2).keep (unhide HWR))
          have HZ3 := hide ((unhide HI3).keep (unhide HWR))
          have HG3 := hide ((unhide HI4).keep (unhide HWR))
          have k6 := unhide HK6 u (unhide HWR)
          have j0 : u.cell? ⟨C, 0, none⟩ = some (.int .i64 k) := (unhide HJ3).cell 0
          clear HI1 HI2 HI3 HI4
          have HPC : Hid (∀ x, pe = x → ¬ x = 0 → dE t day l = x ∧ dR t day l = dz) := hide (fun x hx h0 => by
            have e1 : dE t day l = x := by rw [unhide HX, ← unhide HFI, hx, if_neg h0]
            exact ⟨e1, by rw [unhide HR, e1, if_neg h0]⟩)
          clear HX HR HFI
          cases hjk : jk k with
          | false =>
            have hk14 : k < 1 ∨ (¬ k < 1 ∧ 4 < k) := by
              by_cases h1 : k < 1
              · exact .inl h1
              · refine .inr ⟨h1, ?_⟩
                by_cases h4 : 4 < k
                · exact h4
                · have : jk k = true := by unfold jk; simp; omega
                  rw [hjk] at this; cases this
            obtain ⟨HX2, HX3⟩ := unhide HPC 1 (by rw [unhide HPE, if_neg (by rw [hjk]; decide)]) (by decide)
            have HX2 := hide HX2
            have HX3 := hide HX3
            clear HPC HPE HNX HW1 HW2 HON hjk
            rcases hk14 with hk1 | ⟨hk1, hk4⟩
            · clear HJ3 HE3 HH3 HTB3 HG3 HL HT
              go_wp2_with (refine wpList_store_day rfl (.tmp 6) (.tmp 82) rfl (g := B + 1) (d := dz) (d' := dz) rfl rfl (unhide HZ3) ?_)
              refine bodyPost_ret (rday_results _ _ (g := B + 1) (d := dz) (e := 1) rfl rfl ((unhide HZ3).setDy dz)) rfl ⟨by first | rfl | rw [unhide HX2, unhide HX3], ?_⟩
              exact (unhide HF3).setRow (fun q => by have := unhide HB; omega) _
            · clear HJ3 HE3 HH3 HTB3 HG3 HL HT
              go_wp2_with (refine wpList_store_day rfl (.tmp 6) (.tmp 82) rfl (g := B + 1) (d := dz) (d' := dz) rfl rfl (unhide HZ3) ?_)
              refine bodyPost_ret (rday_results _ _ (g := B + 1) (d := dz) (e := 1) rfl rfl ((unhide HZ3).setDy dz)) rfl ⟨by first | rfl | rw [unhide HX2, unhide HX3], ?_⟩
              exact (unhide HF3).setRow (fun q => by have := unhide HB; omega) _
          | true =>
            have HPE2 : Hid (pe = if price m = true then (if ob = true then (if k = 1 then (if b1 = true ∧ b2 = true then 0 else 1) else 0) else 60) else 50) := hide (by rw [unhide HPE, if_pos hjk])
            have hk14 : ¬ k < 1 ∧ ¬ 4 < k := by
              unfold jk at hjk
              simp at hjk
              omega
            obtain ⟨hk1, hk4⟩ := hk14
            clear HPE hjk
            rcases price_cases m with ⟨hpr, hm0, hm1⟩ | ⟨hpr, hm⟩
            · have HPE3 : Hid (pe = if ob = true then (if k = 1 then (if b1 = true ∧ b2 = true then 0 else 1) else 0) else 60) := hide (by rw [unhide HPE2, if_pos hpr])
              have hm0' : ¬ m < 0 := by omega
              have hm1' : ¬ 1048576 < m := by omega
              have HM01 := hide (show 0 ≤ m ∧ m ≤ 1048576 from ⟨hm0, hm1⟩)
              clear HPE2 hpr hm0 hm1
              by_cases hde : de = 0
              · subst hde
                by_cases hdv : dv = day
                · subst hdv
                  have HPE4 : Hid (pe = if k = 1 then (if b1 = true ∧ b2 = true then 0 else 1) else 0) := hide (by rw [unhide HPE3, unhide HON, if_pos (by simp)])
                  clear HPE3 HON
                  by_cases hk : k = 1
                  · subst hk
                    have HPE5 : Hid (pe = if b1 = true ∧ b2 = true then 0 else 1) := hide (by rw [unhide HPE4, if_pos rfl])
                    clear HPE4 HW2
                    cases b1 with
                    | false =>
                      obtain ⟨HX2, HX3⟩ := unhide HPC 1 (by rw [unhide HPE5, if_neg (by simp)]) (by decide)
                      have HX2 := hide HX2
                      have HX3 := hide HX3
                      clear HPC HPE5 HNX HW1
                      clear HJ3 HE3 HH3 HTB3 HG3 HL HT
                      go_wp2_with (refine wpList_store_day rfl (.tmp 6) (.tmp 120) rfl (g := B + 1) (d := dz) (d' := dz) rfl rfl (unhide HZ3) ?_)
                      refine bodyPost_ret (rday_results _ _ (g := B + 1) (d := dz) (e := 1) rfl rfl ((unhide HZ3).setDy dz)) rfl ⟨by first | rfl | rw [unhide HX2, unhide HX3], ?_⟩
                      exact (unhide HF3).setRow (fun q => by have := unhide HB; omega) _
                    | true =>
                      cases b2 with
                      | false =>
                        obtain ⟨HX2, HX3⟩ := unhide HPC 1 (by rw [unhide HPE5, if_neg (by simp)]) (by decide)
                        have HX2 := hide HX2
                        have HX3 := hide HX3
                        clear HPC HPE5 HNX HW1
                        clear HJ3 HE3 HH3 HTB3 HG3 HL HT
                        go_wp2_with (refine wpList_store_day rfl (.tmp 6) (.tmp 120) rfl (g := B + 1) (d := dz) (d' := dz) rfl rfl (unhide HZ3) ?_)
                        refine bodyPost_ret (rday_results _ _ (g := B + 1) (d := dz) (e := 1) rfl rfl ((unhide HZ3).setDy dz)) rfl ⟨by first | rfl | rw [unhide HX2, unhide HX3], ?_⟩
                        exact (unhide HF3).setRow (fun q => by have := unhide HB; omega) _
                      | true =>
                        have HP0 : Hid (pe = 0) := hide (by rw [unhide HPE5, if_pos ⟨rfl, rfl⟩])
                        have HNX2 := hide (unhide HNX (unhide HP0))
                        have HZ1' := hide (unhide HZ1 rfl)
                        have HZ2' := hide (unhide HZ2 rfl)
                        have HPD := hide (unhide HW1 rfl)
                        clear HPC HPE5 HNX HW1 HP0 HZ1 HZ2
                        obtain ⟨d0, d1, d2, d3, d4, d5, d6⟩ := d
                        have HWS : Hid (IntKind.wrap .i64 (d1 + m) = d1 + m) := hide (by have := unhide HIN; have := unhide HIB; have := unhide HM01; unfold DyIn at *; simp only at *; rw [IntKind.wrap_i64]; omega)
                        have c1 : u.cell? ⟨g, 1, none⟩ = some (.int .i64 d1) := (unhide HG3).cell 1
                        have f1 := (unhide HG3).frozen 1
                        go_wp2_with fail
                        go_region_law (fail)
                        all_goals
                          rw [unhide HWS]
                          obtain ⟨u6, hu6⟩ : ∃ u6, u6 = (u.setCell ⟨g, 1, none⟩ (.int .i64 (d1 + m))).drew := ⟨_, rfl⟩
                          rw [← hu6]
                          have HF6 : Hid (Fr (fun q => q = g) wr u6) := hide (by rw [hu6]; exact ((Fr.mono (T := fun q => q = g) (unhide HWR) (fun _ _ t => t.elim)).setCell (p := ⟨g, 1, none⟩) (fun _ => rfl) _).drew)
                          have hf : Fr (fun q => q = g) u u6 := by rw [hu6]; exact ((Fr.refl (fun q => q = g) u).setCell (p := ⟨g, 1, none⟩) (fun _ => rfl) _).drew
                          have HG6 : Hid (Bx u6 g (dyC ⟨d0, d1 + m, d2, d3, d4, d5, d6⟩) 36) := hide (by rw [hu6]; exact ((unhide HG3).setCell 1 _).drew)
                          have HE6 := hide ((unhide HE3).frame hf (fun e => by have := unhide HGE; omega))
                          have HH6 := hide ((unhide HH3).frame hf (fun e => by have := unhide HGH; omega))
                          clear hu6 hf c1 f1
                          have e1 : u6.cell? ⟨E, 1, none⟩ = some (.int .i64 z1) := (unhide HE6).cell 1
                          have h1 : u6.cell? ⟨H, 1, none⟩ = some (.int .i64 z2) := (unhide HH6).cell 1
                          have c5 : u6.cell? ⟨g, 5, none⟩ = some (.int .i64 d5) := (unhide HG6).cell 5
                          have f5 := (unhide HG6).frozen 5
                          have r1 := run_min
                          have r2 := run_max3C
                          go_upto_region 26 with (fail)
                          obtain ⟨lo, hlo⟩ : ∃ lo, lo = imin z1 z2 := ⟨_, rfl⟩
                          rw [← hlo]
                          have HLO := hide hlo
                          have hlo0 : 0 < lo := by have := unhide HZ1'; have := unhide HZ2'; rw [hlo, imin_eq]; omega
                          clear hlo
                          by_cases hz : d5 = 0
                          · subst hz
                            have HLW : Hid (lowW 0 lo = lo) := hide (by unfold lowW; rw [if_pos rfl])
                            go_upto_region 28 with (fail)
                            obtain ⟨u7, hu7⟩ : ∃ u7, u7 = u6.setCell ⟨g, 5, none⟩ (.int .i64 lo) := ⟨_, rfl⟩
                            rw [← hu7]
                            have HF7 : Hid (Fr (fun q => q = g) wr u7) := hide (by rw [hu7]; exact (unhide HF6).setCell (p := ⟨g, 5, none⟩) (fun _ => rfl) _)
                            have HG7 : Hid (Bx u7 g (dyC ⟨d0, d1 + m, d2, d3, d4, lo, d6⟩) 36) := hide (by rw [hu7]; exact (unhide HG6).setCell 5 _)
                            have hf : Fr (fun q => q = g) u6 u7 := by rw [hu7]; exact (Fr.refl (fun q => q = g) u6).setCell (p := ⟨g, 5, none⟩) (fun _ => rfl) _
                            have e1 : u7.cell? ⟨E, 1, none⟩ = some (.int .i64 z1) := ((unhide HE6).frame hf (fun e => by have := unhide HGE; omega)).cell 1
                            have h1 : u7.cell? ⟨H, 1, none⟩ = some (.int .i64 z2) := ((unhide HH6).frame hf (fun e => by have := unhide HGH; omega)).cell 1
                            have g6 : u7.cell? ⟨g, 6, none⟩ = some (.int .i64 d6) := (unhide HG7).cell 6
                            have f6 := (unhide HG7).frozen 6
                            clear hu7 hf c5 f5
                            go_upto_region 9 with (fail)
                            obtain ⟨u8, hu8⟩ : ∃ u8, u8 = u7.setCell ⟨g, 6, none⟩ (.int .i64 (imax (imax d6 z1) z2)) := ⟨_, rfl⟩
                            rw [← hu8]
                            have hfg : Fr (fun q => q = g) wr u8 := by rw [hu8]; exact (unhide HF7).setCell (p := ⟨g, 6, none⟩) (fun _ => rfl) _
                            have hg9 : Bx u8 g (dyC pd) 36 := by
                              rw [unhide HPD, hu8, show widD (sumK ⟨d0, d1, d2, d3, d4, 0, d6⟩ 1 m) (imin z1 z2) (imax z1 z2) = ⟨d0, d1 + m, d2, d3, d4, lo, imax (imax d6 z1) z2⟩ from by
                                show (⟨d0, d1 + m, d2, d3, d4, lowW 0 (imin z1 z2), imax d6 (imax z1 z2)⟩ : Dy) = _
                                rw [show imax d6 (imax z1 z2) = imax (imax d6 z1) z2 from by simp only [imax_eq]; omega, show lowW 0 (imin z1 z2) = lo from by rw [← unhide HLO]; exact unhide HLW]]
                              exact (unhide HG7).setCell 6 _
                            have HS1 := unhide HNX2 _ hfg hg9
                            clear hfg hg9 hu8 HNX2 HPD HG3 HWR HWS k6 j0 HK6 HE3 HH3 HJ3 HTB3 HZ3 HF3 HIN HIB HM01 e1 h1 HE6 HH6
                            go_wp2
                            exact ⟨⟨i + 1, by omega, by go_num, HS1⟩, by simp [intOf]; omega⟩
                          · have hzb : (d5 == 0) = false := by simp [hz]
                            by_cases hlt5 : lo < d5
                            · have HLW : Hid (lowW d5 lo = lo) := hide (by unfold lowW; rw [if_neg hz, if_pos ⟨hlo0, hlt5⟩])
                              go_upto_region 28 with (fail)
                              obtain ⟨u7, hu7⟩ : ∃ u7, u7 = u6.setCell ⟨g, 5, none⟩ (.int .i64 lo) := ⟨_, rfl⟩
                              rw [← hu7]
                              have HF7 : Hid (Fr (fun q => q = g) wr u7) := hide (by rw [hu7]; exact (unhide HF6).setCell (p := ⟨g, 5, none⟩) (fun _ => rfl) _)
                              have HG7 : Hid (Bx u7 g (dyC ⟨d0, d1 + m, d2, d3, d4, lo, d6⟩) 36) := hide (by rw [hu7]; exact (unhide HG6).setCell 5 _)
                              have hf : Fr (fun q => q = g) u6 u7 := by rw [hu7]; exact (Fr.refl (fun q => q = g) u6).setCell (p := ⟨g, 5, none⟩) (fun _ => rfl) _
                              have e1 : u7.cell? ⟨E, 1, none⟩ = some (.int .i64 z1) := ((unhide HE6).frame hf (fun e => by have := unhide HGE; omega)).cell 1
                              have h1 : u7.cell? ⟨H, 1, none⟩ = some (.int .i64 z2) := ((unhide HH6).frame hf (fun e => by have := unhide HGH; omega)).cell 1
                              have g6 : u7.cell? ⟨g, 6, none⟩ = some (.int .i64 d6) := (unhide HG7).cell 6
                              have f6 := (unhide HG7).frozen 6
                              clear hu7 hf c5 f5
                              go_upto_region 9 with (fail)
                              obtain ⟨u8, hu8⟩ : ∃ u8, u8 = u7.setCell ⟨g, 6, none⟩ (.int .i64 (imax (imax d6 z1) z2)) := ⟨_, rfl⟩
                              rw [← hu8]
                              have hfg : Fr (fun q => q = g) wr u8 := by rw [hu8]; exact (unhide HF7).setCell (p := ⟨g, 6, none⟩) (fun _ => rfl) _
                              have hg9 : Bx u8 g (dyC pd) 36 := by
                                rw [unhide HPD, hu8, show widD (sumK ⟨d0, d1, d2, d3, d4, d5, d6⟩ 1 m) (imin z1 z2) (imax z1 z2) = ⟨d0, d1 + m, d2, d3, d4, lo, imax (imax d6 z1) z2⟩ from by
                                  show (⟨d0, d1 + m, d2, d3, d4, lowW d5 (imin z1 z2), imax d6 (imax z1 z2)⟩ : Dy) = _
                                  rw [show imax d6 (imax z1 z2) = imax (imax d6 z1) z2 from by simp only [imax_eq]; omega, show lowW d5 (imin z1 z2) = lo from by rw [← unhide HLO]; exact unhide HLW]]
                                exact (unhide HG7).setCell 6 _
                              have HS1 := unhide HNX2 _ hfg hg9
                              clear hfg hg9 hu8 HNX2 HPD HG3 HWR HWS k6 j0 HK6 HE3 HH3 HJ3 HTB3 HZ3 HF3 HIN HIB HM01 e1 h1 HE6 HH6
                              go_wp2
                              exact ⟨⟨i + 1, by omega, by go_num, HS1⟩, by simp [intOf]; omega⟩
                            · have HLW : Hid (lowW d5 lo = d5) := hide (by unfold lowW; rw [if_neg hz, if_neg (fun q => hlt5 q.2)])
                              have g6 : u6.cell? ⟨g, 6, none⟩ = some (.int .i64 d6) := (unhide HG6).cell 6
                              have f6 := (unhide HG6).frozen 6
                              go_upto_region 9 with (fail)
                              obtain ⟨u8, hu8⟩ : ∃ u8, u8 = u6.setCell ⟨g, 6, none⟩ (.int .i64 (imax (imax d6 z1) z2)) := ⟨_, rfl⟩
                              rw [← hu8]
                              have hfg : Fr (fun q => q = g) wr u8 := by rw [hu8]; exact (unhide HF6).setCell (p := ⟨g, 6, none⟩) (fun _ => rfl) _
                              have hg9 : Bx u8 g (dyC pd) 36 := by
                                rw [unhide HPD, hu8, show widD (sumK ⟨d0, d1, d2, d3, d4, d5, d6⟩ 1 m) (imin z1 z2) (imax z1 z2) = ⟨d0, d1 + m, d2, d3, d4, d5, imax (imax d6 z1) z2⟩ from by
                                  show (⟨d0, d1 + m, d2, d3, d4, lowW d5 (imin z1 z2), imax d6 (imax z1 z2)⟩ : Dy) = _
                                  rw [show imax d6 (imax z1 z2) = imax (imax d6 z1) z2 from by simp only [imax_eq]; omega, show lowW d5 (imin z1 z2) = d5 from by rw [← unhide HLO]; exact unhide HLW]]
                                exact (unhide HG6).setCell 6 _
                              have HS1 := unhide HNX2 _ hfg hg9
                              clear hfg hg9 hu8 HNX2 HPD HG3 HWR HWS k6 j0 HK6 HE3 HH3 HJ3 HTB3 HZ3 HF3 HIN HIB HM01 e1 h1 HE6 HH6
                              go_wp2
                              exact ⟨⟨i + 1, by omega, by go_num, HS1⟩, by simp [intOf]; omega⟩
                  · have HP0 : Hid (pe = 0) := hide (by rw [unhide HPE4, if_neg hk])
                    have HNX2 := hide (unhide HNX (unhide HP0))
                    have HPD := hide (unhide HW2 hk)
                    clear HPC HPE4 HNX HW1 HP0 HZ1 HZ2 HW2
                    obtain ⟨d0, d1, d2, d3, d4, d5, d6⟩ := d
                    by_cases hk4' : k = 4
                    · subst hk4'
                      have HWS : Hid (IntKind.wrap .i64 (d2 + m) = d2 + m) := hide (by have := unhide HIN; have := unhide HIB; have := unhide HM01; unfold DyIn at *; simp only at *; rw [IntKind.wrap_i64]; omega)
                      have c1 : u.cell? ⟨g, 2, none⟩ = some (.int .i64 d2) := (unhide HG3).cell 2
                      have f1 := (unhide HG3).frozen 2
                      go_wp2_with fail
                      go_region_law (fail)
                      all_goals
                        rw [unhide HWS]
                        obtain ⟨u6, hu6⟩ : ∃ u6, u6 = (u.setCell ⟨g, 2, none⟩ (.int .i64 (d2 + m))).drew := ⟨_, rfl⟩
                        rw [← hu6]
                        have hfg : Fr (fun q => q = g) wr u6 := by rw [hu6]; exact ((Fr.mono (T := fun q => q = g) (unhide HWR) (fun _ _ t => t.elim)).setCell (p := ⟨g, 2, none⟩) (fun _ => rfl) _).drew
                        have hg9 : Bx u6 g (dyC pd) 36 := by
                          rw [unhide HPD, show sumK ⟨d0, d1, d2, d3, d4, d5, d6⟩ 4 m = ⟨d0, d1, d2 + m, d3, d4, d5, d6⟩ from rfl, hu6]
                          exact ((unhide HG3).setCell 2 _).drew
                        have HS1 := unhide HNX2 _ hfg hg9
                        clear hfg hg9 hu6 HNX2 HPD HG3 HWR HWS c1 f1 k6 j0 HK6 HE3 HH3 HJ3 HTB3 HZ3 HF3 HIN HIB HM01
                        go_wp2
                        exact ⟨⟨i + 1, by omega, by go_num, HS1⟩, by simp [intOf]; omega⟩
                    · have HWS : Hid (IntKind.wrap .i64 (d4 + m) = d4 + m) := hide (by have := unhide HIN; have := unhide HIB; have := unhide HM01; unfold DyIn at *; simp only at *; rw [IntKind.wrap_i64]; omega)
                      have c1 : u.cell? ⟨g, 4, none⟩ = some (.int .i64 d4) := (unhide HG3).cell 4
                      have f1 := (unhide HG3).frozen 4
                      have hkb : (k == 1) = false := by simp [hk]
                      have hkb4 : (k == 4) = false := by simp [hk4']
                      go_wp2_with fail
                      go_region_law (fail)
                      all_goals
                        rw [unhide HWS]
                        obtain ⟨u6, hu6⟩ : ∃ u6, u6 = (u.setCell ⟨g, 4, none⟩ (.int .i64 (d4 + m))).drew := ⟨_, rfl⟩
                        rw [← hu6]
                        have hfg : Fr (fun q => q = g) wr u6 := by rw [hu6]; exact ((Fr.mono (T := fun q => q = g) (unhide HWR) (fun _ _ t => t.elim)).setCell (p := ⟨g, 4, none⟩) (fun _ => rfl) _).drew
                        have hg9 : Bx u6 g (dyC pd) 36 := by
                          rw [unhide HPD, show sumK ⟨d0, d1, d2, d3, d4, d5, d6⟩ k m = ⟨d0, d1, d2, d3, d4 + m, d5, d6⟩ from by unfold sumK; rw [if_neg hk, if_neg hk4'], hu6]
                          exact ((unhide HG3).setCell 4 _).drew
                        have HS1 := unhide HNX2 _ hfg hg9
                        clear hfg hg9 hu6 HNX2 HPD HG3 HWR HWS c1 f1 k6 j0 HK6 HE3 HH3 HJ3 HTB3 HZ3 HF3 HIN HIB HM01
                        go_wp2
                        exact ⟨⟨i + 1, by omega, by go_num, HS1⟩, by simp [intOf]; omega⟩
                · obtain ⟨HX2, HX3⟩ := unhide HPC 60 (by rw [unhide HPE3, unhide HON, if_neg (by simp [hdv])]) (by decide)
                  have HX2 := hide HX2
                  have HX3 := hide HX3
                  have hdb : (dv == day) = false := by simp [hdv]
                  have hdb2 : (dv != day) = true := by simp [hdv]
                  clear HPC HPE3 HNX HW1 HW2 HON
                  clear HJ3 HE3 HH3 HTB3 HG3 HL HT
                  go_wp2_with (refine wpList_store_day rfl (.tmp 6) (.tmp 107) rfl (g := B + 1) (d := dz) (d' := dz) rfl rfl (unhide HZ3) ?_)
                  refine bodyPost_ret (rday_results _ _ (g := B + 1) (d := dz) (e := 60) rfl rfl ((unhide HZ3).setDy dz)) rfl ⟨by first | rfl | rw [unhide HX2, unhide HX3], ?_⟩
                  exact (unhide HF3).setRow (fun q => by have := unhide HB; omega) _
              · obtain ⟨HX2, HX3⟩ := unhide HPC 60 (by rw [unhide HPE3, unhide HON, if_neg (by simp [hde])]) (by decide)
                have HX2 := hide HX2
                have HX3 := hide HX3
                have hdb : (de == 0) = false := by simp [hde]
                have hdb2 : (de != 0) = true := by simp [hde]
                clear HPC HPE3 HNX HW1 HW2 HON
                clear HJ3 HE3 HH3 HTB3 HG3 HL HT
                go_wp2_with (refine wpList_store_day rfl (.tmp 6) (.tmp 107) rfl (g := B + 1) (d := dz) (d' := dz) rfl rfl (unhide HZ3) ?_)
                refine bodyPost_ret (rday_results _ _ (g := B + 1) (d := dz) (e := 60) rfl rfl ((unhide HZ3).setDy dz)) rfl ⟨by first | rfl | rw [unhide HX2, unhide HX3], ?_⟩
                exact (unhide HF3).setRow (fun q => by have := unhide HB; omega) _
            · obtain ⟨HX2, HX3⟩ := unhide HPC 50 (by rw [unhide HPE2, if_neg (by rw [hpr]; decide)]) (by decide)
              have HX2 := hide HX2
              have HX3 := hide HX3
              clear HPC HPE2 HNX HW1 HW2 HON hpr
              rcases hm with hm0 | ⟨hm0, hm1⟩
              · have hm0' : m < 0 := by omega
                clear HJ3 HE3 HH3 HTB3 HG3 HL HT
                go_wp2_with (refine wpList_store_day rfl (.tmp 6) (.tmp 98) rfl (g := B + 1) (d := dz) (d' := dz) rfl rfl (unhide HZ3) ?_)
                refine bodyPost_ret (rday_results _ _ (g := B + 1) (d := dz) (e := 50) rfl rfl ((unhide HZ3).setDy dz)) rfl ⟨by first | rfl | rw [unhide HX2, unhide HX3], ?_⟩
                exact (unhide HF3).setRow (fun q => by have := unhide HB; omega) _
              · have hm0' : ¬ m < 0 := by omega
                have hm1' : 1048576 < m := by omega
                clear HJ3 HE3 HH3 HTB3 HG3 HL HT
                go_wp2_with (refine wpList_store_day rfl (.tmp 6) (.tmp 98) rfl (g := B + 1) (d := dz) (d' := dz) rfl rfl (unhide HZ3) ?_)
                refine bodyPost_ret (rday_results _ _ (g := B + 1) (d := dz) (e := 50) rfl rfl ((unhide HZ3).setDy dz)) rfl ⟨by first | rfl | rw [unhide HX2, unhide HX3], ?_⟩
                exact (unhide HF3).setRow (fun q => by have := unhide HB; omega) _
        · obtain rfl : i = l.length := by omega
          have hlt : ¬ (l.length : Int) < (l.length : Int) := by omega
          obtain ⟨i1, i2, i3, i4, i5, i6, i7⟩ := HI
          have HX2 : Hid (dE t day l = 0) := hide (by rw [unhide HX, ← i6, List.drop_length]; rfl)
          have HX3 : Hid (dR t day l = cappedD t (heldD t (sumD t day l))) := hide (by rw [unhide HR, if_pos (unhide HX2)])
          rw [List.take_length] at i4 i5 i7
          have HCV : Hid (capV t (heldD t (sumD t day l)) (·.daily) = if 0 < (sumD t day l).low then imin ((sumD t day l).rail + imin (sumD t day l).bus t.busDaily) (imax ((spanOf t (sumD t day l).low (sumD t day l).high).getD ⟨0, 0, 0, 0, 0⟩).daily (imin (sumD t day l).bus t.busDaily)) else imin (sumD t day l).bus t.busDaily) := hide (cap_day (unhide HRT) (d := heldD t (sumD t day l)) i7 i5.1.1 (·.daily))
          have HIN := hide i5
          have HF2 := hide i1
          have HTB2 := hide i2
          have HZ2 := hide i3
          have HD2 := hide i4
          have HNN : Hid (((l.length : Nat) : Int) * 1048576 ≤ 2097152000) := hide (by have := unhide HN; omega)
          clear i1 i2 i3 i4 i5 i6 i7 HX HR HL HN
          have RS := hide (fun (u : World) (hu : Fr (fun _ => False) w u) => rspan_any u A t (unhide HT u hu) (sumD t day l).low (sumD t day l).high)
          generalize sumD t day l = d at *
          generalize (spanOf t d.low d.high).getD ⟨0, 0, 0, 0, 0⟩ = sp at *
          generalize (spanOf t d.low d.high).isSome = sb at *
          obtain ⟨d0, d1, d2, d3, d4, d5, d6⟩ := d
          simp only at RS HCV
          have r1 := run_min
          have r2 := run_max
          have c2 : wr.cell? ⟨g, 2, none⟩ = some (.int .i64 d2) := (unhide HD2).cell 2
          have c5 : wr.cell? ⟨B, 5, none⟩ = some (.int .i64 t.busDaily) := (unhide HTB2).cell 5
          have f2 := (unhide HD2).frozen 2
          go_upto_region 32 with (fail)
          obtain ⟨bu, hbu⟩ : ∃ bu, bu = imin d2 t.busDaily := ⟨_, rfl⟩
          rw [← hbu]
          have HBU := hide hbu
          have HHD : Hid (heldD t ⟨d0, d1, d2, d3, d4, d5, d6⟩ = ⟨d0, d1, bu, d3, d4, d5, d6⟩) := hide (by rw [hbu]; rfl)
          simp only [← hbu] at HCV
          clear hbu
          obtain ⟨u2, hu2⟩ : ∃ u2, u2 = wr.setCell ⟨g, 2, none⟩ (.int .i64 bu) := ⟨_, rfl⟩
          rw [← hu2]
          have HD3 : Hid (Bx u2 g (dyC ⟨d0, d1, bu, d3, d4, d5, d6⟩) 36) := hide (by rw [hu2]; exact (unhide HD2).setCell 2 _)
          have hf : Fr (fun q => q = g) wr u2 := by rw [hu2]; exact (Fr.refl (fun q => q = g) wr).setCell (p := ⟨g, 2, none⟩) (fun _ => rfl) _
          have HF3 := hide ((unhide HF2).trans hf (fun q hq e => by have := unhide HGW; omega))
          have HTB3 := hide ((unhide HTB2).frame hf (fun e => by have := unhide HBG; omega))
          have HZ3 := hide ((unhide HZ2).frame hf (fun e => by have := unhide HBG; omega))
          clear hf hu2 c2 c5 f2 HF2 HTB2 HZ2 HD2
          have c2 : u2.cell? ⟨g, 2, none⟩ = some (.int .i64 bu) := (unhide HD3).cell 2
          have c3 : u2.cell? ⟨g, 3, none⟩ = some (.int .i64 d3) := (unhide HD3).cell 3
          have f3 := (unhide HD3).frozen 3
          go_upto_region 33 with (fail)
          obtain ⟨u3, hu3⟩ : ∃ u3, u3 = u2.setCell ⟨g, 3, none⟩ (.int .i64 bu) := ⟨_, rfl⟩
          rw [← hu3]
          have HD4 : Hid (Bx u3 g (dyC ⟨d0, d1, bu, bu, d4, d5, d6⟩) 36) := hide (by rw [hu3]; exact (unhide HD3).setCell 3 _)
          have hf : Fr (fun q => q = g) u2 u3 := by rw [hu3]; exact (Fr.refl (fun q => q = g) u2).setCell (p := ⟨g, 3, none⟩) (fun _ => rfl) _
          have HF4 := hide ((unhide HF3).trans hf (fun q hq e => by have := unhide HGW; omega))
          have HTB4 := hide ((unhide HTB3).frame hf (fun e => by have := unhide HBG; omega))
          have HZ4 := hide ((unhide HZ3).frame hf (fun e => by have := unhide HBG; omega))
          clear hf hu3 c2 c3 f3 HF3 HTB3 HZ3 HD3
          have c5 : u3.cell? ⟨g, 5, none⟩ = some (.int .i64 d5) := (unhide HD4).cell 5
          have c6 : u3.cell? ⟨g, 6, none⟩ = some (.int .i64 d6) := (unhide HD4).cell 6
          by_cases hl5 : 0 < d5
          · rw [if_pos hl5] at HCV
            go_wp2_with (refine wpList_load_tariff rfl (.tmp 3) rfl (g := B) (A := A) (t := t) rfl (unhide HTB4) ?_)
            refine (unhide RS u3 (unhide HF4)).mono ?_
            rintro e u4 ⟨rfl, hF⟩
            have HF5 := hide ((unhide HF4).trans hF (fun _ _ t => t))
            have HD5 := hide ((unhide HD4).keep hF)
            have HZ5 := hide ((unhide HZ4).keep hF)
            clear hF RS HF4 HTB4 HZ4 HD4 c5 c6
            obtain ⟨p0, p1, p2, p3, p4⟩ := sp
            simp only [spA] at *
            go_upto_region 35 with (fail)
            obtain ⟨u5, hu5⟩ : ∃ u5, u5 = u4.alloc (.cells #[.int .i64 p0, .int .i64 p1, .int .i64 p2, .int .i64 p3, .int .i64 p4] 50) := ⟨_, rfl⟩
            obtain ⟨E, hE⟩ : ∃ E, E = u4.heap.size := ⟨_, rfl⟩
            rw [← hu5, ← hE]
            have hF : Fr (fun _ => False) u4 u5 := by rw [hu5]; exact (Fr.refl _ _).alloc _
            have HE1 : Hid (Bx u5 E #[.int .i64 p0, .int .i64 p1, .int .i64 p2, .int .i64 p3, .int .i64 p4] 50) := hide (by rw [hu5, hE]; exact Bx.new _ _ _)
            have HF6 := hide ((unhide HF5).trans hF (fun _ _ t => t))
            have HD6 := hide ((unhide HD5).keep hF)
            have HZ6 := hide ((unhide HZ5).keep hF)
            clear hF hu5 hE HF5 HD5 HZ5
            have c1 : u5.cell? ⟨g, 1, none⟩ = some (.int .i64 d1) := (unhide HD6).cell 1
            have c2 : u5.cell? ⟨g, 2, none⟩ = some (.int .i64 bu) := (unhide HD6).cell 2
            have c3 : u5.cell? ⟨g, 3, none⟩ = some (.int .i64 bu) := (unhide HD6).cell 3
            have f3 := (unhide HD6).frozen 3
            have e3 : u5.cell? ⟨E, 3, none⟩ = some (.int .i64 p3) := (unhide HE1).cell 3
            have HWS : Hid (wrap64 (d1 + bu) = d1 + bu) := hide (by
              have h1 := unhide HIN
              have h2 := unhide HNN
              have h3 := unhide HBD
              have h4 := unhide HBU
              rw [imin_eq] at h4
              unfold DyIn at h1
              simp only at h1
              unfold wrap64
              omega)
            go_upto_region 36 with (fail)
            rw [unhide HWS, ← unhide HCV]
            obtain ⟨cv, HC⟩ : ∃ cv, Hid (capV t (heldD t ⟨d0, d1, d2, d3, d4, d5, d6⟩) (·.daily) = cv) := ⟨_, rfl⟩
            rw [unhide HC]
            obtain ⟨u6, hu6⟩ : ∃ u6, u6 = u5.setCell ⟨g, 3, none⟩ (.int .i64 cv) := ⟨_, rfl⟩
            rw [← hu6]
            have HD7 : Hid (Bx u6 g (dyC (cappedD t (heldD t ⟨d0, d1, d2, d3, d4, d5, d6⟩))) 36) := hide (by
              rw [hu6, show cappedD t (heldD t ⟨d0, d1, d2, d3, d4, d5, d6⟩) = ⟨d0, d1, bu, cv, d4, d5, d6⟩ from by unfold cappedD; rw [unhide HC, unhide HHD]]
              exact (unhide HD6).setCell 3 _)
            have hf : Fr (fun q => q = g) u5 u6 := by rw [hu6]; exact (Fr.refl (fun q => q = g) u5).setCell (p := ⟨g, 3, none⟩) (fun _ => rfl) _
            have HF7 := hide ((unhide HF6).trans hf (fun q hq e => by have := unhide HGW; omega))
            have HZ7 := hide ((unhide HZ6).frame hf (fun e => by have := unhide HBG; omega))
            clear hf hu6 HF6 HD6 HZ6 c1 c2 c3 f3 e3
            go_wp2_with (first | refine wpList_load_day rfl (.tmp 9) rfl (g := g) (d := cappedD t (heldD t ⟨d0, d1, d2, d3, d4, d5, d6⟩)) rfl (unhide HD7) ?_ | refine wpList_store_day rfl (.tmp 6) (.tmp 204) rfl (g := B + 1) (d := cappedD t (heldD t ⟨d0, d1, d2, d3, d4, d5, d6⟩)) (d' := dz) rfl rfl (unhide HZ7) ?_)
            refine bodyPost_ret (rday_results _ _ (g := B + 1) (d := cappedD t (heldD t ⟨d0, d1, d2, d3, d4, d5, d6⟩)) (e := 0) rfl rfl ((unhide HZ7).setDy _)) rfl ⟨by rw [unhide HX2, unhide HX3], ?_⟩
            exact (unhide HF7).setRow (fun q => by have := unhide HB; omega) _
          · rw [if_neg hl5] at HCV
            have HD7 : Hid (Bx u3 g (dyC (cappedD t (heldD t ⟨d0, d1, d2, d3, d4, d5, d6⟩))) 36) := hide (by
              rw [show cappedD t (heldD t ⟨d0, d1, d2, d3, d4, d5, d6⟩) = ⟨d0, d1, bu, bu, d4, d5, d6⟩ from by unfold cappedD; rw [unhide HCV, unhide HHD]]
              exact unhide HD4)
            go_wp2_with (first | refine wpList_load_day rfl (.tmp 9) rfl (g := g) (d := cappedD t (heldD t ⟨d0, d1, d2, d3, d4, d5, d6⟩)) rfl (unhide HD7) ?_ | refine wpList_store_day rfl (.tmp 6) (.tmp 204) rfl (g := B + 1) (d := cappedD t (heldD t ⟨d0, d1, d2, d3, d4, d5, d6⟩)) (d' := dz) rfl rfl (unhide HZ4) ?_)
            refine bodyPost_ret (rday_results _ _ (g := B + 1) (d := cappedD t (heldD t ⟨d0, d1, d2, d3, d4, d5, d6⟩)) (e := 0) rfl rfl ((unhide HZ4).setDy _)) rfl ⟨by rw [unhide HX2, unhide HX3], ?_⟩
            exact (unhide HF4).setRow (fun q => by have := unhide HB; omega) _
  · have HX : Hid (dE t day l = rightE t) := hide (by rw [unhide HE, if_neg h0])
    have HX2 : Hid (dR t day l = dz) := hide (by rw [unhide HR, if_neg (by rw [unhide HX]; exact h0)])
    have hb2 : (rightE t == 0) = false := by simp [h0]
    have hb3 : (rightE t != 0) = true := by simp [h0]
    clear HE HR HL HT HTB1 h0
    generalize rightE t = rr at *
    go_wp2_with (refine wpList_store_day rfl (.tmp 6) (.tmp 25) rfl (g := B + 1) (d := dz) (d' := dz) rfl rfl (unhide HZ1) ?_)
    refine bodyPost_ret (rday_results _ _ (g := B + 1) (d := dz) (e := rr) rfl rfl ((unhide HZ1).setDy dz)) rfl ⟨by rw [unhide HX, unhide HX2], ?_⟩
    exact (unhide HF1).setRow (fun q => by have := unhide HB; omega) _

end Go.Proofs.Ytkbcochjeooicaa

