import Derived.Test.YtjgbllfppomcmaaCP3
import Derived.Test.YtjgbllfppomcmaaCP2
import Derived.Laws.ResultCell
/- The program's caps.Day. -/
namespace Go.Proofs.Ytjgbllfppomcmaa
open Go.RowKit

theorem wpList_store_day {ops : Array Oper} {rest : List Oper} {o : Oper} {a : Act} {w : World} {Q : Exit → Act → World → Prop} (hgd : o.guard = none) (x y : Operand) (ho : o.op = .store 43 x y)
    {g : Nat} {d d' : Dy} (hx : a.eval x = .pointer (some ⟨g, 0, none⟩)) (hy : a.eval y = .agg (dyC d)) (hg : Bx w g (dyC d') 43)
    (h : wpList Try.prog ops Q rest (a.put o.dst undef) (w.setRow g (dyC d))) : wpList Try.prog ops Q (o :: rest) a w :=
  wpList_store_row hgd 43 x y ho g (dyC d) hx hy 43 (dyC d') hg (dy_size d) rfl (dy_one d) h
theorem Bx.setDy {w : World} {g : Nat} {d' : Dy} (hg : Bx w g (dyC d') 43) (d : Dy) : Bx (w.setRow g (dyC d)) g (dyC d) 43 := setRow_heap _ _ _ _ _ _ hg

theorem day_results (tmps : Array Value) (w : World) {g : Nat} {d : Dy} {e : Int} (hp : tmps.getD 6 undef = .pointer (some ⟨g, 0, none⟩)) (he : tmps.getD 7 undef = .int .i64 e) (hg : Bx w g (dyC d) 43) :
    (results Try.f8 tmps).run Try.prog w = .ok (.tuple #[.agg (dyC d), .int .i64 e]) w := by
  rw [results_cell_tmp (p := 6) (u := 7) (ty := 43) (by kernel_rfl) tmps Try.prog w, hp, he]
  simp only [asAddr, Sem.run_pure, Result.andThen_ok]
  rw [run_loadVar_row w g 43 43 (dyC d) (0, 0) _ hg Try.underlying43 rfl (dy_size d)]
  rfl

theorem DyIn.put {d : Dy} {n : Int} (h : DyIn d n) (t : Tf) (p : Jn × Int) (hp : price p.2 = true) : DyIn (putD t d p) (n + 1048576) := by
  obtain ⟨h0, h1⟩ := (price_iff p.2).1 hp
  obtain ⟨h2, h3, h4⟩ := h
  unfold DyIn putD widD at *
  split
  · simp only []; omega
  · split <;> simp only [] <;> omega

theorem pjE_price {t : Tf} {day : Int} {p : Jn × Int} (h : pjE t day p = 0) : price p.2 = true := by
  unfold pjE at h
  split at h
  · split at h
    · assumption
    · exact absurd h (by decide)
  · exact absurd h (by decide)

theorem busDaily_of {t : Tf} (h : rightE t = 0) : 0 ≤ t.busDaily ∧ t.busDaily ≤ 1048576 := by
  have h1 := (rightE_zero h).1
  unfold pricesOk at h1
  simp only [List.all_cons, Bool.and_eq_true] at h1
  exact (price_iff _).1 h1.1.2.1

set_option maxHeartbeats 2000000 in
set_option maxRecDepth 20000 in
theorem capsDay_any (w : World) (A : Ad) (t : Tf) (h : TAt w A t) (ao0 : Option Addr) (cap0 : Nat) (day : Int) (l : List (Jn × Int)) (hl : CAt w ao0 (pV l)) :
    Calls Try.prog 8 #[tv A t, .int .i64 day, .slice ao0 l.length cap0] w fun e w' => e = .returned (.tuple #[.agg (dyC (dR t day l)), .int .i64 (dE t day l)]) ∧ Fr (fun _ => False) w w' := by
  have RE := hide (fun (u : World) (hu : Fr (fun _ => False) w u) => right_walk u A t (h.keep hu))
  have HT := hide (fun (u : World) (hu : Fr (fun _ => False) w u) => h.keep hu)
  have HL := hide (fun (u : World) (hu : Fr (fun _ => False) w u) => hl.keep hu)
  have HE : Hid (dE t day l = if rightE t = 0 then (if 2000 < l.length then 2 else firstP t day l) else rightE t) := rfl
  have HR : Hid (dR t day l = if dE t day l = 0 then cappedD t (heldD t (sumD t day l)) else dz) := rfl
  obtain ⟨v, hv⟩ : ∃ v, v = (w.alloc (.cells (tc A t) 27)).alloc (.cells (dyC dz) 43) := ⟨_, rfl⟩
  have HFV : Hid (Fr (fun _ => False) w v) := hide (by rw [hv]; exact ((Fr.refl _ w).alloc _).alloc _)
  have hTB : TB v w.heap.size A t := by rw [hv]; exact (TB.new w A t).keep ((Fr.refl _ _).alloc _)
  have hD : Bx v (w.heap.size + 1) (dyC dz) 43 := by
    rw [hv, ← heap_alloc w (.cells (tc A t) 27)]; exact Bx.new _ _ _
  obtain ⟨B, hB⟩ : ∃ B, B = w.heap.size := ⟨_, rfl⟩
  rw [← hB] at hTB hD
  have HTB := hide hTB
  have HZ := hide hD
  have HV := hide hv
  have HB := hide hB
  clear hv hB hTB hD h hl
  unfold tv
  unfold tc at HV ⊢
  simp only [dyC, dz] at HV
  go_enter Try.func8, Try.ntmps8
  go_upto_region 1 with (fail)
  rw [← unhide HV, ← unhide HB]
  clear HV
  go_wp2_with (refine wpList_load_tariff rfl (.tmp 3) rfl (g := B) (A := A) (t := t) rfl (unhide HTB) ?_)
  refine (unhide RE v (unhide HFV)).mono ?_
  rintro e w1 ⟨rfl, hF⟩
  have HTB1 := hide ((unhide HTB).keep hF)
  have HZ1 := hide ((unhide HZ).keep hF)
  have HF1 := hide ((unhide HFV).trans hF (fun _ _ t => t))
  clear hF HTB HFV HZ RE
  by_cases h0 : rightE t = 0
  · rw [h0]
    by_cases h1 : 2000 < l.length
    · have HX : Hid (dE t day l = 2) := hide (by rw [unhide HE, if_pos h0, if_pos h1])
      have HX2 : Hid (dR t day l = dz) := hide (by rw [unhide HR, if_neg (by rw [unhide HX]; decide)])
      have h1i : (2000 : Int) < (l.length : Int) := by omega
      clear HE HR HL HT HTB1 h0 h1
      go_wp2_with (refine wpList_store_day rfl (.tmp 6) (.tmp 23) rfl (g := B + 1) (d := dz) (d' := dz) rfl rfl (unhide HZ1) ?_)
      refine bodyPost_ret (day_results _ _ (g := B + 1) (d := dz) (e := 2) rfl rfl ((unhide HZ1).setDy dz)) rfl ⟨by rw [unhide HX, unhide HX2], ?_⟩
      exact (unhide HF1).setRow (fun q => by have := unhide HB; omega) _
    · have HX : Hid (dE t day l = firstP t day l) := hide (by rw [unhide HE, if_pos h0, if_neg h1])
      have h1i : ¬ (2000 : Int) < (l.length : Int) := by omega
      have hn : l.length ≤ 2000 := by omega
      have HN := hide hn
      have HBD := hide (busDaily_of h0)
      clear HE h0 h1 hn
      go_upto_region 7 with (fail)
      obtain ⟨u0, hu0⟩ : ∃ u0, u0 = w1.alloc (.cells (dyC (d0 day)) 43) := ⟨_, rfl⟩
      obtain ⟨g, hg⟩ : ∃ g, g = w1.heap.size := ⟨_, rfl⟩
      have hFa : Fr (fun _ => False) w1 u0 := by rw [hu0]; exact (Fr.refl _ _).alloc _
      have HD0 : Hid (Bx u0 g (dyC (d0 day)) 43) := hide (by rw [hu0, hg]; exact Bx.new _ _ _)
      have HGW : Hid (w.heap.size ≤ g) := hide (by rw [hg]; exact (unhide HF1).size)
      have HBG : Hid (B + 1 < g) := hide (by rw [hg]; exact (unhide HZ1).lt)
      have HTB2 := hide ((unhide HTB1).keep hFa)
      have HZ2 := hide ((unhide HZ1).keep hFa)
      have HF2 := hide ((unhide HF1).trans hFa (fun _ _ t => t))
      simp only [dyC, d0] at hu0
      rw [← hu0, ← hg]
      clear hFa hu0 hg HTB1 HZ1 HF1 h1i
      go_wp2_with (refine wpList_load_tariff rfl (.tmp 3) rfl (g := B) (A := A) (t := t) rfl (unhide HTB2) ?_)
      refine (adding_any u0 A t g).mono ?_
      rintro e u1 ⟨B2, P, rfl, hB2, hP, hTB2, hP2, hF⟩
      have HTB3 := hide ((unhide HTB2).keep hF)
      have HPG : Hid (g < P) := hide (by have := (unhide HD0).lt; omega)
      have HBG2 : Hid (g < B2) := hide (by have := (unhide HD0).lt; omega)
      have HS0 : Hid (Fr (fun _ => False) w u1 ∧ TB u1 B A t ∧ Bx u1 (B + 1) (dyC dz) 43 ∧ TB u1 B2 A t ∧ Bx u1 P #[.pointer (some ⟨g, 0, none⟩)] 54 ∧ Bx u1 g (dyC (sumD t day (l.take 0))) 43 ∧ DyIn (sumD t day (l.take 0)) ((0 : Nat) * 1048576) ∧ firstP t day (l.drop 0) = firstP t day l) := hide ⟨(unhide HF2).trans hF (fun _ _ t => t), (unhide HTB2).keep hF, (unhide HZ2).keep hF, hTB2, hP2, (unhide HD0).keep hF, by simp [DyIn, sumD, d0], rfl⟩
      clear hB2 hP hTB2 hP2 hF HTB2 HZ2 HF2 HD0 HTB3
      go_wp2
      go_loopw [12, 13, 30] (fun _ _ iv wr => ∃ i : Nat, i ≤ l.length ∧ iv = .int .i64 i ∧ Hid (Fr (fun _ => False) w wr ∧ TB wr B A t ∧ Bx wr (B + 1) (dyC dz) 43 ∧ TB wr B2 A t ∧ Bx wr P #[.pointer (some ⟨g, 0, none⟩)] 54 ∧ Bx wr g (dyC (sumD t day (l.take i))) 43 ∧ DyIn (sumD t day (l.take i)) ((i : Nat) * 1048576) ∧ firstP t day (l.drop i) = firstP t day l)) (fun _ _ iv _ => l.length - (intOf iv).toNat)
      case atStart => exact ⟨0, Nat.zero_le _, rfl, HS0⟩
      case round =>
        obtain ⟨i, hi, rfl, HI⟩ := hrel
        clear HS0
        by_cases hil : i < l.length
        · have hlt : (i : Int) < (l.length : Int) := by omega
          obtain ⟨b0, off0, hao, kk⟩ := (unhide HL wr (unhide HI).1).pj hil
          subst hao
          have k0 := kk 0 (by omega) _ rfl
          have k1 := kk 1 (by omega) _ rfl
          have k2 := kk 2 (by omega) _ rfl
          have k3 := kk 3 (by omega) _ rfl
          have k4 := kk 4 (by omega) _ rfl
          have k5 := kk 5 (by omega) _ rfl
          have k6 := kk 6 (by omega) _ rfl
          rw [Nat.add_zero] at k0
          rw [← Nat.add_assoc] at k1 k2 k3 k4 k5 k6
          have hfirst := (unhide HI).2.2.2.2.2.2.2
          rw [List.drop_eq_getElem_cons hil, firstP_cons] at hfirst
          have HST : Hid (∀ c, l[i] = c → sumD t day (l.take (i + 1)) = putD t (sumD t day (l.take i)) c) := hide (fun c hc => by rw [← hc]; exact sumD_step t day l i hil)
          clear kk
          generalize l[i] = q at *
          have HST := hide (unhide HST q rfl)
          obtain ⟨⟨k, f, o, s, n, r⟩, m⟩ := q
          simp only at k0 k1 k2 k3 k4 k5 k6
          have HFI := hide hfirst
          have HPR := hide (fun hh => pjE_price (t := t) (day := day) (p := (⟨k, f, o, s, n, r⟩, m)) hh)
          clear hfirst
          go_upto_region 11 with (fail)
          obtain ⟨u2, hu2⟩ : ∃ u2, u2 = wr.alloc (.cells #[.int .i64 k, .int .i64 f, .int .i64 o, .int .i64 s, .int .i64 n, .bool r, .int .i64 m] 33) := ⟨_, rfl⟩
          obtain ⟨C, hC⟩ : ∃ C, C = wr.heap.size := ⟨_, rfl⟩
          rw [← hu2, ← hC]
          have HJ : Hid (Bx u2 C (pC (⟨k, f, o, s, n, r⟩, m)) 33) := hide (by rw [hu2, hC]; exact Bx.new _ _ _)
          have hFa : Fr (fun _ => False) wr u2 := by rw [hu2]; exact (Fr.refl _ _).alloc _
          obtain ⟨i1, i2, i3, i4, i5, i6, i7, i8⟩ := unhide HI
          have HF2 := hide (i1.trans hFa (fun _ _ t => t))
          have HTB2 := hide (i2.keep hFa)
          have HZ2 := hide (i3.keep hFa)
          have HTC2 := hide (i4.keep hFa)
          have HP2 := hide (i5.keep hFa)
          have HD2 := hide (i6.keep hFa)
          have HIN := hide i7
          clear i1 i2 i3 i4 i5 i6 i7 i8 hFa hu2 hC HI k0 k1 k2 k3 k4 k5 k6
          have RA := add1_any u2 A t B2 P g (unhide HTC2) (unhide HP2) (by have := unhide HPG; omega) (by have := unhide HBG2; omega) (sumD t day (l.take i)) (unhide HD2)
            (fun u hu => unhide HT u ((unhide HF2).trans hu (fun q hq e => by have := unhide HGW; omega))) (⟨k, f, o, s, n, r⟩, m) ⟨⟨(unhide HIN).1.1, by have := (unhide HIN).1.2; omega⟩, ⟨(unhide HIN).2.1.1, by have := (unhide HIN).2.1.2; omega⟩, (unhide HIN).2.2.1, by have := (unhide HIN).2.2.2; omega⟩
          rw [sumD_day] at RA
          have RA := hide RA
          generalize pjE t day (⟨k, f, o, s, n, r⟩, m) = pe at *
          go_wp2_with (refine wpList_load_priced rfl (.tmp 12) rfl (g := C) (p := (⟨k, f, o, s, n, r⟩, m)) rfl (unhide HJ) ?_)
          refine (unhide RA).mono ?_
          rintro e u3 ⟨rfl, hB3, hF3⟩
          have HF3 := hide ((unhide HF2).trans hF3 (fun q hq e => by have := unhide HGW; omega))
          have HTB3 := hide ((unhide HTB2).frame hF3 (fun e => by have := unhide HBG; omega))
          have HZ3 := hide ((unhide HZ2).frame hF3 (fun e => by have := unhide HBG; omega))
          have HTC3 := hide ((unhide HTC2).frame hF3 (fun e => by have := unhide HBG2; omega))
          have HP3 := hide ((unhide HP2).frame hF3 (fun e => by have := unhide HPG; omega))
          have HB3 := hide hB3
          clear hB3 hF3 RA HF2 HTB2 HZ2 HTC2 HP2 HD2 HJ
          by_cases hc : pe = 0
          · subst hc
            have HS1 : Hid (Fr (fun _ => False) w u3 ∧ TB u3 B A t ∧ Bx u3 (B + 1) (dyC dz) 43 ∧ TB u3 B2 A t ∧ Bx u3 P #[.pointer (some ⟨g, 0, none⟩)] 54 ∧ Bx u3 g (dyC (sumD t day (l.take (i + 1)))) 43 ∧ DyIn (sumD t day (l.take (i + 1))) ((i + 1 : Nat) * 1048576) ∧ firstP t day (l.drop (i + 1)) = firstP t day l) := hide ⟨unhide HF3, unhide HTB3, unhide HZ3, unhide HTC3, unhide HP3, by rw [unhide HST]; exact unhide HB3 rfl, by rw [unhide HST]; have := (unhide HIN).put t (⟨k, f, o, s, n, r⟩, m) (unhide HPR rfl); rw [show (((i + 1 : Nat) : Int) * 1048576) = (i : Int) * 1048576 + 1048576 by omega]; exact this, by simpa using unhide HFI⟩
            clear HF3 HTB3 HZ3 HTC3 HP3 HB3 HST HFI HPR HIN
            go_wp2
            exact ⟨⟨i + 1, by omega, by go_num, HS1⟩, by simp [intOf]; omega⟩
          · have HX2 : Hid (dE t day l = pe) := hide (by rw [unhide HX, ← unhide HFI, if_neg hc])
            have HX3 : Hid (dR t day l = dz) := hide (by rw [unhide HR, if_neg (by rw [unhide HX2]; exact hc)])
            have hb2 : (pe == 0) = false := by simp [hc]
            have hb3 : (pe != 0) = true := by simp [hc]
            clear HX HR HFI hc HTB3 HTC3 HP3 HB3 HST HPR HIN HL HT
            go_wp2_with (refine wpList_store_day rfl (.tmp 6) (.tmp 39) rfl (g := B + 1) (d := dz) (d' := dz) rfl rfl (unhide HZ3) ?_)
            refine bodyPost_ret (day_results _ _ (g := B + 1) (d := dz) (e := pe) rfl rfl ((unhide HZ3).setDy dz)) rfl ⟨by rw [unhide HX2, unhide HX3], ?_⟩
            exact (unhide HF3).setRow (fun q => by have := unhide HB; omega) _
        · obtain rfl : i = l.length := by omega
          have hlt : ¬ (l.length : Int) < (l.length : Int) := by omega
          have HX2 : Hid (dE t day l = 0) := hide (by rw [unhide HX, ← (unhide HI).2.2.2.2.2.2.2, List.drop_length]; rfl)
          have HX3 : Hid (dR t day l = cappedD t (heldD t (sumD t day l))) := hide (by rw [unhide HR, if_pos (unhide HX2)])
          obtain ⟨i1, i2, i3, i4, i5, i6, i7, i8⟩ := unhide HI
          rw [List.take_length] at i6 i7
          have HIN := hide i7
          have HF2 := hide i1
          have HTB2 := hide i2
          have HZ2 := hide i3
          have HD2 := hide i6
          have HDD : Hid ((sumD t day l).day = day) := hide (sumD_day t day l)
          have HNN : Hid (((l.length : Nat) : Int) * 1048576 ≤ 2097152000) := hide (by have := unhide HN; omega)
          clear HI i1 i2 i3 i4 i5 i6 i7 i8 HX HR HL HN
          generalize sumD t day l = d at *
          have k1 := run_min
          have c2 : wr.cell? ⟨g, 2, none⟩ = some (.int .i64 d.bus) := (unhide HD2).cell 2
          have c5 : wr.cell? ⟨B, 5, none⟩ = some (.int .i64 t.busDaily) := (unhide HTB2).cell 5
          have f2 := (unhide HD2).frozen 2
          go_upto_region 16 with (fail)
          obtain ⟨u2, hu2⟩ : ∃ u2, u2 = wr.setCell ⟨g, 2, none⟩ (.int .i64 (imin d.bus t.busDaily)) := ⟨_, rfl⟩
          rw [← hu2]
          have HD3 : Hid (Bx u2 g (dyC (heldD t d)) 43) := hide (by rw [hu2]; exact (unhide HD2).setCell 2 _)
          have hf : Fr (fun q => q = g) wr u2 := by rw [hu2]; exact (Fr.refl (fun q => q = g) wr).setCell (p := ⟨g, 2, none⟩) (fun _ => rfl) _
          have HF3 := hide ((unhide HF2).trans hf (fun q hq e => by have := unhide HGW; omega))
          have HTB3 := hide ((unhide HTB2).frame hf (fun e => by have := unhide HBG; omega))
          have HZ3 := hide ((unhide HZ2).frame hf (fun e => by have := unhide HBG; omega))
          clear hf hu2 c2 c5 f2 k1 HF2 HTB2 HZ2 HD2
          have RC := hide (capped_anyD u2 A t (unhide HT u2 (unhide HF3)) (heldD t d) (by
            have h1 := (unhide HIN).1
            have h2 := (unhide HIN).2.1
            have h3 := unhide HBD
            have h4 := unhide HNN
            show -4611686018427387904 ≤ d.rail + imin d.bus t.busDaily ∧ d.rail + imin d.bus t.busDaily ≤ 4611686018427387904
            rw [imin_eq]
            omega))
          go_wp2_with (first | refine wpList_load_tariff rfl (.tmp 3) rfl (g := B) (A := A) (t := t) rfl (unhide HTB3) ?_ | refine wpList_load_day rfl (.tmp 9) rfl (g := g) (d := heldD t d) rfl (unhide HD3) ?_)
          refine (unhide RC).mono ?_
          rintro e u3 ⟨rfl, hF⟩
          have HF4 := hide ((unhide HF3).trans hF (fun _ _ t => t))
          have HD4 := hide ((unhide HD3).keep hF)
          have HZ4 := hide ((unhide HZ3).keep hF)
          clear hF RC HF3 HTB3 HZ3 HD3
          have f3 := (unhide HD4).frozen 3
          have c3 : u3.cell? ⟨g, 3, none⟩ = some (.int .i64 (heldD t d).cap) := (unhide HD4).cell 3
          go_upto_region 17 with (fail)
          obtain ⟨u4, hu4⟩ : ∃ u4, u4 = u3.setCell ⟨g, 3, none⟩ (.int .i64 (capV t (heldD t d) (·.daily))) := ⟨_, rfl⟩
          rw [← hu4]
          have HD5 : Hid (Bx u4 g (dyC (cappedD t (heldD t d))) 43) := hide (by rw [hu4]; exact (unhide HD4).setCell 3 _)
          have hf : Fr (fun q => q = g) u3 u4 := by rw [hu4]; exact (Fr.refl (fun q => q = g) u3).setCell (p := ⟨g, 3, none⟩) (fun _ => rfl) _
          have HF5 := hide ((unhide HF4).trans hf (fun q hq e => by have := unhide HGW; omega))
          have HZ5 := hide ((unhide HZ4).frame hf (fun e => by have := unhide HBG; omega))
          clear hf hu4 c3 f3 HF4 HZ4 HD4
          go_wp2_with (first | refine wpList_load_day rfl (.tmp 9) rfl (g := g) (d := cappedD t (heldD t d)) rfl (unhide HD5) ?_ | refine wpList_store_day rfl (.tmp 6) (.tmp 52) rfl (g := B + 1) (d := cappedD t (heldD t d)) (d' := dz) rfl rfl (unhide HZ5) ?_)
          refine bodyPost_ret (day_results _ _ (g := B + 1) (d := cappedD t (heldD t d)) (e := 0) rfl rfl ((unhide HZ5).setDy _)) rfl ⟨by rw [unhide HX2, unhide HX3], ?_⟩
          exact (unhide HF5).setRow (fun q => by have := unhide HB; omega) _
  · have HX : Hid (dE t day l = rightE t) := hide (by rw [unhide HE, if_neg h0])
    have HX2 : Hid (dR t day l = dz) := hide (by rw [unhide HR, if_neg (by rw [unhide HX]; exact h0)])
    have hb2 : (rightE t == 0) = false := by simp [h0]
    have hb3 : (rightE t != 0) = true := by simp [h0]
    clear HE HR HL HT HTB1 h0
    generalize rightE t = rr at *
    go_wp2_with (refine wpList_store_day rfl (.tmp 6) (.tmp 18) rfl (g := B + 1) (d := dz) (d' := dz) rfl rfl (unhide HZ1) ?_)
    refine bodyPost_ret (day_results _ _ (g := B + 1) (d := dz) (e := rr) rfl rfl ((unhide HZ1).setDy dz)) rfl ⟨by rw [unhide HX, unhide HX2], ?_⟩
    exact (unhide HF1).setRow (fun q => by have := unhide HB; omega) _

end Go.Proofs.Ytjgbllfppomcmaa

