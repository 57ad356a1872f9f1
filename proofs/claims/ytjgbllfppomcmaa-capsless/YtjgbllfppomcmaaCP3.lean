import Derived.Test.YtjgbllfppomcmaaCP1
import Derived.Deep.RegionHeldLaw
import Derived.Deep.RegionHeld3
import Derived.Deep.Cut
import Derived.Deep.CutBlock
/- The program's adding: the closure that lays a journey down in a day. -/
namespace Go.Proofs.Ytjgbllfppomcmaa
open Go.RowKit

/-- One of a day's sums, one journey's fare more. -/
def sumK (d : Dy) (k f : Int) : Dy := if k = 1 then ⟨d.day, d.rail + f, d.bus, d.cap, d.most, d.low, d.high⟩ else if k = 4 then ⟨d.day, d.rail, d.bus + f, d.cap, d.most, d.low, d.high⟩ else ⟨d.day, d.rail, d.bus, d.cap, d.most + f, d.low, d.high⟩
theorem putD_whole (t : Tf) (d : Dy) (p : Jn × Int) (h : p.1.kind = 1) : putD t d p = widD (sumK d p.1.kind p.2) (imin (zF t p) (zT t p)) (imax (zF t p) (zT t p)) := by
  unfold putD sumK
  rw [if_pos h, if_pos h]
theorem putD_other (t : Tf) (d : Dy) (p : Jn × Int) (h : ¬ p.1.kind = 1) : putD t d p = sumK d p.1.kind p.2 := by
  unfold putD sumK
  rw [if_neg h, if_neg h]

/-- Sums that stay far from what an int holds. -/
def DyIn (d : Dy) (n : Int) : Prop := (0 ≤ d.rail ∧ d.rail ≤ n) ∧ (0 ≤ d.bus ∧ d.bus ≤ n) ∧ (0 ≤ d.most ∧ d.most ≤ n)

theorem sumP_none {g : Nat} {k : Int} (h : jk k = false) : sumP g k = none := by
  have h1 : ¬ (1 ≤ k ∧ k ≤ 4) := by
    intro e
    have : jk k = true := by unfold jk; simp [e]
    rw [h] at this
    cases this
  unfold sumP
  rw [if_neg (by omega), if_neg (by omega), if_neg (by omega)]
theorem sumP_some (g : Nat) (d : Dy) (k f : Int) {n : Int} (hd : DyIn d n) (h : jk k = true) : ∃ c x, sumP g k = some ⟨g, c, none⟩ ∧ (dyC d)[c]? = some (.int .i64 x) ∧ 0 ≤ x ∧ x ≤ n ∧ (dyC d).setIfInBounds c (.int .i64 (x + f)) = dyC (sumK d k f) := by
  have hk : 1 ≤ k ∧ k ≤ 4 := by
    unfold jk at h
    simpa using h
  obtain ⟨h1, h2, h3⟩ := hd
  by_cases k1 : k = 1
  · exact ⟨1, d.rail, by unfold sumP; rw [if_pos k1], rfl, h1.1, h1.2, by unfold sumK; rw [if_pos k1]; rfl⟩
  · by_cases k4 : k = 4
    · exact ⟨2, d.bus, by unfold sumP; rw [if_neg k1, if_neg (by omega), if_pos k4], rfl, h2.1, h2.2, by unfold sumK; rw [if_neg k1, if_pos k4]; rfl⟩
    · exact ⟨4, d.most, by unfold sumP; rw [if_neg k1, if_pos (by omega)], rfl, h3.1, h3.2, by unfold sumK; rw [if_neg k1, if_neg k4]; rfl⟩

theorem adding_any (w : World) (A : Ad) (t : Tf) (g : Nat) : Calls Try.prog 17 #[tv A t, .pointer (some ⟨g, 0, none⟩)] w fun e w' => ∃ B P, e = .returned (.func (.func 32) #[] #[.pointer (some ⟨P, 0, none⟩), .pointer (some ⟨B, 0, none⟩)]) ∧ w.heap.size ≤ B ∧ w.heap.size ≤ P ∧ TB w' B A t ∧ Bx w' P #[.pointer (some ⟨g, 0, none⟩)] 54 ∧ Fr (fun _ => False) w w' := by
  obtain ⟨v, hv⟩ : ∃ v, v = (w.alloc (.cells (tc A t) 27)).alloc (.cells #[.pointer (some ⟨g, 0, none⟩)] 54) := ⟨_, rfl⟩
  have HFV : Hid (Fr (fun _ => False) w v) := hide (by rw [hv]; exact ((Fr.refl _ w).alloc _).alloc _)
  have HTB : Hid (TB v w.heap.size A t) := hide (by rw [hv]; exact (TB.new w A t).keep ((Fr.refl _ _).alloc _))
  have HP : Hid (Bx v (w.heap.size + 1) #[.pointer (some ⟨g, 0, none⟩)] 54) := hide (by
    rw [hv, ← heap_alloc w (.cells (tc A t) 27)]; exact Bx.new _ _ _)
  obtain ⟨B, hB⟩ : ∃ B, B = w.heap.size := ⟨_, rfl⟩
  have HB := hide hB
  rw [← hB] at HTB HP
  have HV := hide hv
  clear hv hB
  unfold tv
  unfold tc at HV ⊢
  go_enter Try.func17, Try.ntmps17
  go_upto_region 1 with (fail)
  rw [← unhide HV, ← unhide HB]
  clear HV
  go_wp2
  go_ret
  exact ⟨B, B + 1, rfl, by rw [unhide HB]; omega, by rw [unhide HB]; omega, unhide HTB, unhide HP, unhide HFV⟩

set_option maxHeartbeats 1000000 in
theorem add1_any (w : World) (A : Ad) (t : Tf) (B P g : Nat) (hT : TB w B A t) (hP : Bx w P #[.pointer (some ⟨g, 0, none⟩)] 54) (hPg : P ≠ g) (hBg : B ≠ g) (d : Dy) (hD : Bx w g (dyC d) 43) (hk : ∀ u, Fr (fun q => q = g) w u → TAt u A t) (p : Jn × Int) (hb : DyIn d 1152921504606846976) :
    Calls Try.prog 32 #[.agg (pC p), .pointer (some ⟨P, 0, none⟩), .pointer (some ⟨B, 0, none⟩)] w fun e w' => e = .returned (.int .i64 (pjE t d.day p)) ∧ (pjE t d.day p = 0 → Bx w' g (dyC (putD t d p)) 43) ∧ Fr (fun q => q = g) w w' := by
  have HE : Hid (pjE t d.day p = if jk p.1.kind = true then (if price p.2 = true then (if onB d.day p.1.st = true then (if p.1.kind = 1 then (if (stationOf t p.1.fr).isSome = true ∧ (stationOf t p.1.to).isSome = true then 0 else 1) else 0) else 60) else 50) else 1) := rfl
  have HW1 : Hid (p.1.kind = 1 → putD t d p = widD (sumK d p.1.kind p.2) (imin ((stationOf t p.1.fr).getD ⟨0, 0, 0⟩).zone ((stationOf t p.1.to).getD ⟨0, 0, 0⟩).zone) (imax ((stationOf t p.1.fr).getD ⟨0, 0, 0⟩).zone ((stationOf t p.1.to).getD ⟨0, 0, 0⟩).zone)) := hide (putD_whole t d p)
  have HW2 := hide (putD_other t d p)
  have RS := hide (fun (u : World) (hu : Fr (fun q => q = g) w u) => station_any u A t (hk u hu) p.1.fr)
  have RS2 := hide (fun (u : World) (hu : Fr (fun q => q = g) w u) => station_any u A t (hk u hu) p.1.to)
  have RO := hide (fun (u : World) (h : Bx u g (dyC d) 43) => sumOf_any u g d h p.1.kind)
  have RI := hide (fun (u : World) => isOn_any u d.day p.1.st)
  have HSP := hide (fun (h : jk p.1.kind = true) => sumP_some g d p.1.kind p.2 hb h)
  have HSN := hide (fun (h : jk p.1.kind = false) => sumP_none (g := g) h)
  generalize putD t d p = pd at *
  generalize pjE t d.day p = pe at *
  obtain ⟨v, hv⟩ : ∃ v, v = w.alloc (.cells (pC p) 33) := ⟨_, rfl⟩
  obtain ⟨C, hC⟩ : ∃ C, C = w.heap.size := ⟨_, rfl⟩
  have hFa : Fr (fun _ => False) w v := by rw [hv]; exact (Fr.refl _ w).alloc _
  have HFV : Hid (Fr (fun q => q = g) w v) := hide (hFa.mono (fun _ _ t => t.elim))
  have HJ : Hid (Bx v C (pC p) 33) := hide (by rw [hv, hC]; exact Bx.new _ _ _)
  have HTB := hide (hT.keep hFa)
  have HP := hide (hP.keep hFa)
  have HD := hide (hD.keep hFa)
  have HCg : Hid (C ≠ g) := hide (by rw [hC]; have := hD.lt; omega)
  have HPg := hide hPg
  have HBg := hide hBg
  have HV := hide hv
  have HC := hide hC
  clear hv hC hFa hT hP hD hk hb hPg hBg
  obtain ⟨⟨k, f, o, s, n, r⟩, m⟩ := p
  simp only [pC] at *
  generalize stationOf t f = sf at *
  generalize stationOf t o = so at *
  have hdd : (dyC d)[0]? = some (.int .i64 d.day) := rfl
  generalize d.day = day at *
  have hj := unhide HJ
  have j0 : v.cell? ⟨C, 0, none⟩ = some (.int .i64 k) := hj.cell 0
  have j1 : v.cell? ⟨C, 1, none⟩ = some (.int .i64 f) := hj.cell 1
  have j2 : v.cell? ⟨C, 2, none⟩ = some (.int .i64 o) := hj.cell 2
  have j3 : v.cell? ⟨C, 3, none⟩ = some (.int .i64 s) := hj.cell 3
  have j6 : v.cell? ⟨C, 6, none⟩ = some (.int .i64 m) := hj.cell 6
  have hp := unhide HP
  have q0 : v.cell? ⟨P, 0, none⟩ = some (.pointer (some ⟨g, 0, none⟩)) := hp.cell 0
  have hd := unhide HD
  have hgl : g < v.heap.size := hd.lt
  clear hj hp
  go_enter Try.func32, Try.ntmps32
  go_upto_region 1 with (fail)
  rw [← unhide HV, ← unhide HC]
  clear HV
  go_wp2_with fail
  refine (unhide RO v hd).mono ?_
  rintro e w1 ⟨rfl, rfl⟩
  clear RO
  cases hjk : jk k with
  | false =>
    rw [unhide HSN hjk]
    have HX : Hid (pe = 1) := hide (by rw [unhide HE, if_neg (by simp [hjk])])
    clear HSN HSP hjk HE RS RS2 RI HW1 HW2 hd
    go_wp2
    go_ret
    exact ⟨by rw [unhide HX]; rfl, fun e => absurd (e.symm.trans (unhide HX)) (by decide), unhide HFV⟩
  | true =>
    obtain ⟨c, x, e1, e2, e3, e4, e5⟩ := unhide HSP hjk
    rw [e1]
    have HX : Hid (pe = if price m = true then (if onB day s = true then (if k = 1 then (if sf.isSome = true ∧ so.isSome = true then 0 else 1) else 0) else 60) else 50) := hide (by rw [unhide HE, if_pos hjk])
    have c0 : w1.cell? ⟨g, c, none⟩ = some (.int .i64 x) := (hd.cell c).trans e2
    have cf : w1.frozen? ⟨g, c, none⟩ = false := hd.frozen c
    have d0 : w1.cell? ⟨g, 0, none⟩ = some (.int .i64 day) := (hd.cell 0).trans hdd
    have HD1 : Hid (∀ u, u = w1.setCell ⟨g, c, none⟩ (.int .i64 (x + m)) → Bx u g (dyC (sumK d k m)) 43) := hide (fun u hu => by rw [hu, ← e5]; exact hd.setCell c _)
    clear HSN HSP hjk HE hd e1 e2 e5 HD
    rcases price_cases m with ⟨hpr, hm0, hm1⟩ | ⟨hpr, hm0 | ⟨hm0, hm1⟩⟩
    · have HX2 : Hid (pe = if onB day s = true then (if k = 1 then (if sf.isSome = true ∧ so.isSome = true then 0 else 1) else 0) else 60) := hide (by rw [unhide HX, if_pos hpr])
      have hm0' : ¬ m < 0 := by omega
      have hm1' : ¬ m > 1048576 := by omega
      clear HX
      go_upto_region 6 with (fail)
      generalize onB day s = ob at *
      have HM : Hid (IntKind.wrap .i64 (x + m) = x + m) := hide (by rw [IntKind.wrap_i64]; omega)
      clear hpr hm0 hm1 hm0' hm1' e3 e4
      have HKP : Hid (∀ u, Fr (fun _ => False) w1 u → u.cell? ⟨P, 0, none⟩ = some (.pointer (some ⟨g, 0, none⟩)) ∧ u.cell? ⟨g, 0, none⟩ = some (.int .i64 day) ∧ u.cell? ⟨C, 3, none⟩ = some (.int .i64 s)) := hide (fun u hf => ⟨((unhide HP).keep hf).cell 0, (hf.cell (a := ⟨g, 0, none⟩) hgl (fun t => t)).trans d0, ((unhide HJ).keep hf).cell 3⟩)
      go_region_held3 (fun u => u.cell? ⟨P, 0, none⟩ = some (.pointer (some ⟨g, 0, none⟩)) ∧ u.cell? ⟨g, 0, none⟩ = some (.int .i64 day) ∧ u.cell? ⟨C, 3, none⟩ = some (.int .i64 s))
        ((refine unhide HKP _ ?_; repeat (first | (with_reducible exact Fr.refl _ _) | (with_reducible refine Fr.drew ?_))))
        ((go_at_call 34; refine (unhide RI _).mono ?_; rintro e wa ⟨rfl, rfl⟩))
      cases ob with
      | false =>
        have HX3 : Hid (pe = 60) := hide (by rw [unhide HX2]; rfl)
        go_wp2
        go_ret
        exact ⟨by rw [unhide HX3]; rfl, fun e => absurd (e.symm.trans (unhide HX3)) (by decide), (unhide HFV).drew⟩
      | true =>
        have HX3 : Hid (pe = if k = 1 then (if sf.isSome = true ∧ so.isSome = true then 0 else 1) else 0) := hide (by rw [unhide HX2]; rfl)
        clear HX2
        go_upto_region 8 with (fail)
        obtain ⟨u, hu⟩ : ∃ u, u = w1.drew := ⟨_, rfl⟩
        rw [← hu]
        have hFu : Fr (fun _ => False) w1 u := by rw [hu]; exact (Fr.refl _ _).drew
        have c0 : u.cell? ⟨g, c, none⟩ = some (.int .i64 x) := by rw [hu]; exact c0
        have cf : u.frozen? ⟨g, c, none⟩ = false := by rw [hu]; exact cf
        have j6 : u.cell? ⟨C, 6, none⟩ = some (.int .i64 m) := by rw [hu]; exact j6
        go_region_law (fail)
        all_goals
          rw [unhide HM]
          obtain ⟨u3, hu3⟩ : ∃ u3, u3 = (w1.setCell ⟨g, c, none⟩ (.int .i64 (x + m))).drew.drew := ⟨_, rfl⟩
          rw [← hu3]
          have HB3 : Hid (Bx u3 g (dyC (sumK d k m)) 43) := hide (by rw [hu3]; exact (unhide HD1 _ rfl).drew.drew)
          have hf3 : Fr (fun q => q = g) w1 u3 := by rw [hu3]; exact (((Fr.refl (fun q => q = g) w1).setCell (p := ⟨g, c, none⟩) (fun _ => rfl) _).drew).drew
          have HF3 : Hid (Fr (fun q => q = g) w u3) := hide ((unhide HFV).trans hf3 (fun _ _ t => t))
          have HJ3 := hide ((unhide HJ).frame hf3 (unhide HCg))
          have HP3 := hide ((unhide HP).frame hf3 (unhide HPg))
          have HTB3 := hide ((unhide HTB).frame hf3 (unhide HBg))
          clear hu3 hf3 HD1 HM c0 cf hu hFu HFV HJ HP HTB d0 hgl j0 j1 j2 j3 j6 q0 RI
          have j0 : u3.cell? ⟨C, 0, none⟩ = some (.int .i64 k) := (unhide HJ3).cell 0
          have j1 : u3.cell? ⟨C, 1, none⟩ = some (.int .i64 f) := (unhide HJ3).cell 1
          by_cases hk1 : k = 1
          · subst hk1
            have HX4 : Hid (pe = if sf.isSome = true ∧ so.isSome = true then 0 else 1) := hide (by rw [unhide HX3, if_pos rfl])
            have HW := hide (unhide HW1 rfl)
            clear HX3 HW1 HW2
            go_wp2_with (refine wpList_load_tariff rfl (.tmp 2) rfl (g := B) (A := A) (t := t) rfl (unhide HTB3) ?_)
            refine (unhide RS u3 (unhide HF3)).mono ?_
            rintro e u4 ⟨rfl, hF⟩
            have HF4 := hide ((unhide HF3).trans hF (fun _ _ t => t.elim))
            have HB4 := hide ((unhide HB3).keep hF)
            have HJ4 := hide ((unhide HJ3).keep hF)
            have HP4 := hide ((unhide HP3).keep hF)
            have HTB4 := hide ((unhide HTB3).keep hF)
            clear hF HF3 HB3 HJ3 HP3 HTB3 RS j0 j1
            generalize sf.isSome = b1 at *
            generalize sf.getD ⟨0, 0, 0⟩ = s1 at *
            obtain ⟨a1, z1, g1⟩ := s1
            simp only [stA] at *
            go_upto_region 12 with (fail)
            obtain ⟨u5, hu5⟩ : ∃ u5, u5 = u4.alloc (.cells #[.int .i64 a1, .int .i64 z1, .int .i64 g1] 60) := ⟨_, rfl⟩
            obtain ⟨E, hE⟩ : ∃ E, E = u4.heap.size := ⟨_, rfl⟩
            rw [← hu5, ← hE]
            have hF : Fr (fun _ => False) u4 u5 := by rw [hu5]; exact (Fr.refl _ _).alloc _
            have HE1 : Hid (Bx u5 E #[.int .i64 a1, .int .i64 z1, .int .i64 g1] 60) := hide (by rw [hu5, hE]; exact Bx.new _ _ _)
            have HGE : Hid (E ≠ g) := hide (by rw [hE]; have := (unhide HB4).lt; omega)
            have HF5 := hide ((unhide HF4).trans hF (fun _ _ t => t.elim))
            have HB5 := hide ((unhide HB4).keep hF)
            have HJ5 := hide ((unhide HJ4).keep hF)
            have HP5 := hide ((unhide HP4).keep hF)
            have HTB5 := hide ((unhide HTB4).keep hF)
            clear hF HF4 HB4 HJ4 HP4 HTB4 hu5 hE
            have j2 : u5.cell? ⟨C, 2, none⟩ = some (.int .i64 o) := (unhide HJ5).cell 2
            go_wp2_with (refine wpList_load_tariff rfl (.tmp 2) rfl (g := B) (A := A) (t := t) rfl (unhide HTB5) ?_)
            refine (unhide RS2 u5 (unhide HF5)).mono ?_
            rintro e u6 ⟨rfl, hF⟩
            have HF6 := hide ((unhide HF5).trans hF (fun _ _ t => t.elim))
            have HB6 := hide ((unhide HB5).keep hF)
            have HP6 := hide ((unhide HP5).keep hF)
            have HE6 := hide ((unhide HE1).keep hF)
            clear hF HF5 HB5 HJ5 HP5 HTB5 HE1 RS2 j2
            generalize so.isSome = b2 at *
            generalize so.getD ⟨0, 0, 0⟩ = s2 at *
            obtain ⟨a2, z2, g2⟩ := s2
            simp only at *
            go_upto_region 13 with (fail)
            obtain ⟨u7, hu7⟩ : ∃ u7, u7 = u6.alloc (.cells #[.int .i64 a2, .int .i64 z2, .int .i64 g2] 60) := ⟨_, rfl⟩
            obtain ⟨H, hH⟩ : ∃ H, H = u6.heap.size := ⟨_, rfl⟩
            rw [← hu7, ← hH]
            have hF : Fr (fun _ => False) u6 u7 := by rw [hu7]; exact (Fr.refl _ _).alloc _
            have HH7 : Hid (Bx u7 H #[.int .i64 a2, .int .i64 z2, .int .i64 g2] 60) := hide (by rw [hu7, hH]; exact Bx.new _ _ _)
            have HF7 := hide ((unhide HF6).trans hF (fun _ _ t => t.elim))
            have HB7 := hide ((unhide HB6).keep hF)
            have HP7 := hide ((unhide HP6).keep hF)
            have HE7 := hide ((unhide HE6).keep hF)
            clear hF HF6 HB6 HP6 HE6 hu7 hH
            have p0 : u7.cell? ⟨P, 0, none⟩ = some (.pointer (some ⟨g, 0, none⟩)) := (unhide HP7).cell 0
            have z1' : u7.cell? ⟨E, 1, none⟩ = some (.int .i64 z1) := (unhide HE7).cell 1
            have z2' : u7.cell? ⟨H, 1, none⟩ = some (.int .i64 z2) := (unhide HH7).cell 1
            have k1 := run_min
            have k2 := run_max
            cases b1 with
            | false =>
              have HX5 : Hid (pe = 1) := hide (by rw [unhide HX4]; simp)
              go_wp2
              go_ret
              exact ⟨by rw [unhide HX5]; rfl, fun e => absurd (e.symm.trans (unhide HX5)) (by decide), unhide HF7⟩
            | true =>
              cases b2 with
              | false =>
                have HX5 : Hid (pe = 1) := hide (by rw [unhide HX4]; simp)
                go_wp2
                go_ret
                exact ⟨by rw [unhide HX5]; rfl, fun e => absurd (e.symm.trans (unhide HX5)) (by decide), unhide HF7⟩
              | true =>
                have HX5 : Hid (pe = 0) := hide (by rw [unhide HX4]; simp)
                go_wp2_with fail
                refine (widen_any u7 g (sumK d 1 m) (unhide HB7) _ _).mono ?_
                rintro e u8 ⟨rfl, hB8, hF8⟩
                have HB8 : Hid (Bx u8 g (dyC pd) 43) := hide (by rw [unhide HW]; exact hB8)
                have HF8 := hide ((unhide HF7).trans hF8 (fun _ _ t => t))
                clear hB8 hF8 p0 z1' z2' k1 k2
                go_wp2
                go_ret
                exact ⟨by rw [unhide HX5]; rfl, fun _ => unhide HB8, unhide HF8⟩
          · have HX4 : Hid (pe = 0) := hide (by rw [unhide HX3, if_neg hk1])
            have HW := hide (unhide HW2 hk1)
            clear HX3 HW1 HW2
            go_wp2
            go_ret
            exact ⟨by rw [unhide HX4]; rfl, fun e => by rw [unhide HW]; exact unhide HB3, unhide HF3⟩
    · have HX2 : Hid (pe = 50) := hide (by rw [unhide HX, if_neg (by simp [hpr])])
      have hm0' : m < 0 := by omega
      clear HX RS RS2 RI HW1 HW2 HD1 e3 e4
      go_wp2
      go_ret
      exact ⟨by rw [unhide HX2]; rfl, fun e => absurd (e.symm.trans (unhide HX2)) (by decide), unhide HFV⟩
    · have HX2 : Hid (pe = 50) := hide (by rw [unhide HX, if_neg (by simp [hpr])])
      have hm0' : ¬ m < 0 := by omega
      have hm1' : m > 1048576 := by omega
      clear HX RS RS2 RI HW1 HW2 HD1 e3 e4
      go_wp2
      go_ret
      exact ⟨by rw [unhide HX2]; rfl, fun e => absurd (e.symm.trans (unhide HX2)) (by decide), unhide HFV⟩

end Go.Proofs.Ytjgbllfppomcmaa

