/- The walk of HashPlays. -/
import Derived.Test.YtchdjfhenjbcnaaDoorQ3
namespace Go.Proofs.YtchdjfhenjbcnaaDoor
open Go.RowKit

set_option maxHeartbeats 8000000 in
set_option maxRecDepth 100000 in
theorem plays_walk (w : World) (hT : TabP w) (hR : TabR w) (so : Option Addr) (sc : Nat) (ps : List Pl) (hO : OAt w so ps) (hpn : ps.length ≤ 1048576) (htot : tot ps ≤ 1048576) :
    Calls Tryd.prog 4 #[.slice so ps.length sc] w fun e w' => e = .returned (.bool true) ∧ Fr (fun _ => False) w w' := by
  obtain ⟨i0, hi0, hz0, hz1, hz2⟩ := info_parts Tryd.info5
  obtain ⟨i2, hi2, hz20, hz21, hz22⟩ := info_parts Tryd.info22
  have HI := hide hi0
  have HI2 := hide hi2
  clear hi0 hi2
  have HT := hide (And.intro hT hR)
  have HO := hide hO
  have HTOT := hide htot
  clear hT hR hO htot
  go_enter Tryd.func4, Tryd.ntmps4
  go_wp2_with fail
  refine (awake_any w (unhide HT).1).mono ?_
  rintro e w1 ⟨rfl, hF1⟩
  have HF1 := hide hF1
  clear hF1
  go_wp2_with fail
  refine (new_any w1 ((unhide HT).1.later (unhide HF1))).mono ?_
  rintro e w2 ⟨p, rfl, h1, h2, h3⟩
  have H2 := hide (And.intro h1 (And.intro ((unhide HF1).trans h2 (fun _ _ t => t)) (Nat.le_trans (unhide HF1).size h3)))
  clear h1 h2 h3 HF1
  go_wp2_with fail
  refine (new_any w2 ((unhide HT).1.later (unhide H2).2.1)).mono ?_
  rintro e w3 ⟨q, rfl, h1, h2, h3⟩
  have H3 := hide (And.intro ((unhide H2).1.later h2) (And.intro h1 (And.intro ((unhide H2).2.1.trans h2 (fun _ _ t => t)) (And.intro (unhide H2).2.2 (And.intro (Nat.lt_of_lt_of_le (unhide H2).1.lt h3) (Nat.le_trans (unhide H2).2.1.size h3))))))
  clear h1 h2 h3 H2
  go_wp2
  obtain ⟨P0, hS0⟩ := held_start (unhide H3).1 (unhide H3).2.1 (unhide H3).2.2.1 (unhide H3).2.2.2.1 (unhide H3).2.2.2.2.1
  have HS0 := hide hS0
  clear hS0 H3
  obtain ⟨u, hu⟩ : ∃ x, w3.heap.size + 1 = x := ⟨_, rfl⟩
  obtain ⟨t, ht⟩ : ∃ x, w3.heap.size = x := ⟨_, rfl⟩
  generalize ((w3.alloc (.cells #[.pointer (some ⟨p, 0, none⟩), .pointer (some ⟨q, 0, none⟩)] 32)).alloc (.cells #[.slice none 0 0, .slice none 0 0] 33)) = w4 at *
  rw [hu, ht] at HS0 ⊢
  clear hu ht
  go_loopw [6, 7, 8, 9, 10, 11, 12, 13] (fun lv iv _ _ _ _ _ _ wr => ∃ n m : Nat, n ≤ ps.length ∧ m ≤ n ∧ iv = .int .i64 n ∧ ∃ lo lcap, lv = .slice lo m lcap ∧ ∃ P L ao cap, Hid (Held w wr t u lo lcap m (tot (ps.take n)) P L ao cap)) (fun _ iv _ _ _ _ _ _ _ => ps.length - (intOf iv).toNat)
  case atStart => exact ⟨0, 0, Nat.zero_le _, Nat.zero_le _, rfl, none, 0, rfl, P0, _, _, _, by rw [List.take_zero]; exact unhide HS0⟩
  case round =>
    clear HS0
    obtain ⟨n, m, hn, hm, rfl, lo, lcap, rfl, P, L, ao, cap, HS⟩ := hrel
    by_cases hlt : n < ps.length
    · obtain ⟨b, off, rfl⟩ : ∃ b off, so = some ⟨b, off, none⟩ := by
        obtain ⟨b, off, e, _⟩ := (unhide HO).1 (by omega)
        exact ⟨b, off, e⟩
      obtain ⟨q0, q1, q2⟩ := (unhide HO).cells (unhide HS).fr n hlt
      have HB := hide ((unhide HO).2 n hlt)
      have hnx := tot_next hlt
      have htn := Nat.le_trans (tot_take ps (n + 1)) (unhide HTOT)
      obtain ⟨⟨z, d, bo, bc, bs⟩, Hq⟩ : ∃ q, Hid (ps[n] = q) := ⟨ps[n], hide rfl⟩
      rw [unhide Hq] at q0 q1 q2 hnx HB
      have hB : Hid (BAt w bo bc bs ∧ bs.length ≤ bc) := HB
      clear HB
      have hnx' : tot (ps.take (n + 1)) = tot (ps.take n) + bs.length := hnx
      have q0' : wr.cell? ⟨b, off + n * 3, none⟩ = some (.int .i64 z) := q0
      have q1' : wr.cell? ⟨b, off + n * 3 + 1, none⟩ = some (.int .i64 d) := q1
      have q2' : wr.cell? ⟨b, off + n * 3 + 2, none⟩ = some (.slice bo bs.length bc) := q2
      clear q0 q1 q2 hnx
      obtain ⟨N, hN⟩ : ∃ N, tot (ps.take n) = N := ⟨_, rfl⟩
      rw [hN] at HS hnx'
      rw [hnx'] at htn
      have HNX := hide hnx'
      clear hnx' hN
      obtain ⟨k, hk, hand⟩ := and1 z
      by_cases hd0 : d = 0
      · subst hd0
        go_wp2_with fail
        have hS5 := hide ((unhide HS).later ((Fr.refl _ wr).alloc (.cells #[.int .i64 z, .int .i64 0, .slice bo bs.length bc] 35)))
        have hc5 : Hid ((wr.alloc (.cells #[.int .i64 z, .int .i64 0, .slice bo bs.length bc] 35)).cell? ⟨wr.heap.size, 2, none⟩ = some (.slice bo bs.length bc)) := by
          show _ = _
          rw [World.cell?_alloc_new]
          rfl
        have hpk : P k < wr.heap.size ∧ u < wr.heap.size ∧ w.heap.size ≤ P k ∧ u ≠ P k := ⟨((unhide HS).hash k hk).1.lt, (unhide HS).lt.2.1, ((unhide HS).lt.2.2.2.1 k hk).2.2, fun e => ((unhide HS).lt.2.2.2.1 k hk).2.1 e.symm⟩
        have hl5 : wr.heap.size < (wr.alloc (.cells #[.int .i64 z, .int .i64 0, .slice bo bs.length bc] 35)).heap.size := by simp
        generalize (wr.alloc (.cells #[.int .i64 z, .int .i64 0, .slice bo bs.length bc] 35)) = w5 at *
        obtain ⟨ob, hob⟩ : ∃ x, wr.heap.size = x := ⟨_, rfl⟩
        rw [hob] at hc5 hl5 hpk ⊢
        clear hob q0' q1' q2' HS
        refine (lent_any w5 bo bc bs ((unhide hB).1.later (unhide hS5).fr)).mono ?_
        rintro e w6 ⟨g0, rfl, hF6, hg0, hrow⟩
        have hS6 := hide ((unhide hS5).later hF6)
        have HL6 := hide (And.intro hF6 hrow)
        clear hF6 hrow
        have c4 := (unhide hS6).ct k hk
        go_wp2_with fail
        have hlk := ((unhide hS6).hash k hk).2
        refine (write_any w6 ((unhide HT).1.later (unhide hS6).fr) (P k) (L k) ((unhide hS6).hash k hk).1 (by have := (unhide HT).1.gt; omega) (some ⟨g0, 0, none⟩) (bs.length + 3) bs (lent_bat (unhide hB).1.2.2 (unhide HL6).2) (by omega) (fun b' off' e _ => by injection e with e; injection e with e; omega) (by omega)).mono ?_
        rintro e w7 ⟨rfl, k1, k2⟩
        clear c4
        have hF57 : Fr (fun x => x = P k) w5 w7 := ((unhide HL6).1.mono (fun _ _ t => t.elim)).trans k2 (fun _ _ t => t)
        have hF07 : Fr (fun _ => False) w w7 := (unhide hS5).fr.trans hF57 (fun x hx e => by omega)
        have c8 : w7.cell? ⟨ob, 2, none⟩ = some (.slice bo bs.length bc) := (hF57.cell (a := ⟨ob, 2, none⟩) hl5 (fun e => by have e' : ob = P k := e; omega)).trans (unhide hc5)
        have hrow7 : ∀ j, j < bs.length + 3 → w7.cell? ⟨g0, j, none⟩ = some (.int .u8 (lentF bs (bs.length + 3) j)) ∧ w7.frozen? ⟨g0, j, none⟩ = false := fun j hj => by
          have hl : g0 < w6.heap.size := World.block_lt_of_cell? _ _ ((unhide HL6).2 j hj).1
          rw [k2.cell (a := ⟨g0, j, none⟩) hl (fun e => by have e' : g0 = P k := e; omega), k2.frozen (a := ⟨g0, j, none⟩) hl (fun e => by have e' : g0 = P k := e; omega)]
          exact (unhide HL6).2 j hj
        have H7 := hide (And.intro k1 (And.intro hF57 (And.intro hF07 hrow7)))
        clear k1 k2 hF57 hF07 hrow7 HL6
        go_wp2_with fail
        refine (back_any w7 bo bc bs ((unhide hB).1.later (unhide H7).2.2.1) g0 (fun b' off' e h0 => by
          obtain ⟨b2, off2, e2, hc⟩ := (unhide hB).1.2.1 h0
          rw [e] at e2
          injection e2 with e2
          injection e2 with e3 e4
          have h1 : b2 < w.heap.size := World.block_lt_of_cell? _ _ (hc 0 h0)
          have := (unhide hS5).fr.size
          omega) (unhide H7).2.2.2).mono ?_
        rintro e w8 ⟨rfl, hF8⟩
        clear c8
        have hF58 : Fr (fun x => x = P k) w5 w8 := (unhide H7).2.1.trans hF8 (fun x hx e => by omega)
        have hH8 := (unhide H7).1.frame hF8 (fun e => by have e' : P k = g0 := e; omega)
        have hF08 : Fr (fun _ => False) w w8 := (unhide hS5).fr.trans hF58 (fun x hx e => by omega)
        have c8 : w8.cell? ⟨ob, 2, none⟩ = some (.slice bo bs.length bc) := (hF58.cell (a := ⟨ob, 2, none⟩) hl5 (fun e => by have e' : ob = P k := e; omega)).trans (unhide hc5)
        have cu : w8.cell? ⟨u, k, none⟩ = some (.slice (ao k) (L k).length (cap k)) := (hF58.cell (a := ⟨u, k, none⟩) (by show u < _; omega) (fun e => hpk.2.2.2 e)).trans ((unhide hS5).cu k hk)
        have fu : Hid (w8.frozen? ⟨u, k, none⟩ = false) := (hF58.frozen (a := ⟨u, k, none⟩) (by show u < _; omega) (fun e => hpk.2.2.2 e)).trans ((unhide hS5).fu k)
        have hbk : BAt w8 (ao k) (cap k) (L k) := (unhide hS5).wbat hk hF58 hH8 (by omega)
        have H8 := hide (And.intro hH8 (And.intro hF58 (And.intro hF08 hbk)))
        clear hF8 hF58 hH8 hF08 H7 hbk
        go_wp2_with (at_builtin; refine wpList_append_row _ rfl (.tmp 60) (.tmp 63) 22 22 rfl 5 i0 Tryd.underlying22 (unhide HI) hz0 hz1 hz2 (g := w8.heap.size) (bs := []) (cap := 0) rfl (Row.nil _ _) _ (L k) rfl ?src1 ?fit1 ?next1)
        case src1 => exact src_slice Tryd.underlying22 _ _ _ (L k) (unhide H8).2.2.2.2.1
        case fit1 => simp; omega
        intro ao1 cap1 w9 g1 hrow hfr hg
        have hF9 : Fr (fun _ => False) w8 w9 := hfr.mono (fun i hi t => by omega)
        have hrow' : Row w9 (.slice ao1 (L k).length cap1) g1 (L k) := by simpa using hrow
        have HR1 := hide (And.intro hrow' (And.intro hF9 (show w8.heap.size ≤ g1 by omega)))
        have c9 := (hF9.cell (a := ⟨ob, 2, none⟩) (World.block_lt_of_cell? _ _ c8) (fun t => t)).trans c8
        have cu9 := (hF9.cell (a := ⟨u, k, none⟩) (World.block_lt_of_cell? _ _ cu) (fun t => t)).trans cu
        have fu9 : Hid (w9.frozen? ⟨u, k, none⟩ = false) := (hF9.frozen (a := ⟨u, k, none⟩) (World.block_lt_of_cell? _ _ cu) (fun t => t)).trans (unhide fu)
        clear hrow hrow' hfr hg hF9 c8 cu fu
        go_wp2_with (at_builtin; refine wpList_append_row _ rfl (.tmp 66) (.tmp 68) 22 22 rfl 5 i0 Tryd.underlying22 (unhide HI) hz0 hz1 hz2 (ao := ao1) (cap := cap1) (g := g1) (bs := L k) rfl (unhide HR1).1 _ bs rfl ?src2 ?fit2 ?next2)
        case src2 => exact src_slice Tryd.underlying22 _ _ _ bs ((unhide hB).1.later ((unhide H8).2.2.1.trans (unhide HR1).2.1 (fun _ _ t => t))).2.1
        case fit2 => omega
        intro ao2 cap2 w10 g2 hrow hfr hg
        have hF10 : Fr (fun _ => False) w8 w10 := (unhide HR1).2.1.trans hfr (fun x hx e => by have := (unhide HR1).2.2; omega)
        have hsz58 := (unhide H8).2.1.size
        have hsz89 := (unhide HR1).2.1.size
        have hg1 := (unhide HR1).2.2
        have hgt : w8.heap.size ≤ g2 := by omega
        have cu10 := (hfr.cell (a := ⟨u, k, none⟩) (World.block_lt_of_cell? _ _ cu9) (fun e => by have e' : u = g1 := e.1; omega)).trans cu9
        have fu10 := (hfr.frozen (a := ⟨u, k, none⟩) (World.block_lt_of_cell? _ _ cu9) (fun e => by have e' : u = g1 := e.1; omega)).trans (unhide fu9)
        obtain ⟨L', ao', cap', hZ⟩ := (unhide hS5).play0 hk (unhide H8).2.1 (unhide H8).1 hF10 (a := ao2) (c := cap2) (g := g2) (n := (L k).length + bs.length) (by rw [List.length_append]) hrow (fun _ => hgt)
        have HZ := hide hZ
        clear hrow hfr hg hF10 hgt hg1 hsz89 hsz58 c9 cu9 fu9 HR1 H8 hZ hc5 hS5 hS6
        go_wp2
        generalize w10.setCell ⟨u, k, none⟩ (.slice ao2 ((L k).length + bs.length) cap2) = w11 at *
        refine q32_any w11 k t u (P k) (L' k).length (cap' k) (ao' k) hk (fun wx hx => ((unhide HZ).later hx).ct k hk) (fun wx hx => ((unhide HZ).later hx).cu k hk) (fun wx hx => len_any wx (P k) (L' k) (((unhide HZ).later hx).hash k hk).1) _ _ _ _ _ _ _ _ _ _ _ _ _ _ _ _ _ _ _ _ _ _ _ _ _ _ _ _ _ _ _ _ _ _ _ _ _ _ _ _ _ _ _ _ _ _ _ _ _ _ _ _ _ _ _ _ _ _ _ _ _ _ _ _ _ _ _ _ _ _ _ _ _ _ _ _ _ _ _ _ _ _ _ _ _ _ _ _ _ _ _ _ _ _ _ _ _ _ _ _ _ _ _ _ _ _ _ _ _ _ _ _ _ _ _ _ _ _ _ _ _ _ _ _ _ _ _ _ _ _ _ _ _ _ _ _ _ _ _ _ _ _ (fun _ _ _ _ _ h => h) ?_
        intro w12 hF12
        have HN := hide ((unhide HZ).later hF12)
        clear hF12
        go_wp2
        exact ⟨⟨n + 1, m, by omega, by omega, by go_num, lo, lcap, rfl, P, L', ao', cap', by rw [unhide HNX]; exact unhide HN⟩, by simp [intOf]; omega⟩
      · by_cases hd1 : d = 1
        · subst hd1
          have hS5 := hide ((unhide HS).later ((Fr.refl _ wr).alloc (.cells #[.int .i64 z, .int .i64 1, .slice bo bs.length bc] 35)))
          have c4 := (unhide hS5).ct k hk
          go_wp2_with fail
          generalize (wr.alloc (.cells #[.int .i64 z, .int .i64 1, .slice bo bs.length bc] 35)) = w5 at *
          obtain ⟨ob, hob⟩ : ∃ x, wr.heap.size = x := ⟨_, rfl⟩
          rw [hob] at ⊢
          clear hob q0' q1' q2' HS
          clear c4
          have hlk := ((unhide hS5).hash k hk).2
          refine (hsum_any w5 ((unhide HT).1.later (unhide hS5).fr) (P k) (L k) ((unhide hS5).hash k hk).1 (by omega)).mono ?_
          rintro e w6 ⟨v, rfl, g6, m1, m2, m3⟩
          obtain ⟨xo, xc, rfl, _⟩ := m1.shape
          rw [digest_length] at m1 ⊢
          have HR := hide (fun wx (hx : Fr (fun _ => False) w6 wx) => rsum_any wx ((unhide HT).2.later (((unhide hS5).fr.trans m2 (fun _ _ t => t)).trans hx (fun _ _ t => t))) (ao k) (cap k) (L k) ((((unhide hS5).later m2).later hx).bat k hk (by omega)) (by omega))
          obtain ⟨D, hD⟩ : ∃ D, D = digest (L k) := ⟨_, rfl⟩
          have hDl : D.length = 32 := by rw [hD]; exact digest_length _
          rw [← hD] at m1 HR
          clear hD
          have hcs : ∀ wx, Fr (fun _ => False) w6 wx → (convert 22 9 (.slice xo 32 xc)).run Tryd.prog wx = .ok (.string ⟨D.toArray⟩) wx := fun wx hx => by
            have := conv_bytes ((m1.bat (by omega)).2.later hx)
            rw [hDl] at this
            exact this
          have H6 := hide (And.intro m1 (And.intro m2 (And.intro m3 (And.intro hcs hDl))))
          clear m1 m2 m3 hcs hDl
          go_wp2
          refine q24_any w6 k u (L k).length (cap k) (ao k) xo xc D hk (unhide H6).2.2.2.2 (unhide H6).2.2.2.1 (fun wx hx => (((unhide hS5).later (unhide H6).2.1).later hx).cu k hk) (unhide HR) _ _ _ _ _ _ _ _ _ _ _ _ _ _ _ _ _ _ _ _ _ _ _ _ _ _ _ _ _ _ _ _ _ _ _ _ _ _ _ _ _ _ _ _ _ _ _ _ _ _ _ _ _ _ _ _ _ _ _ _ _ _ _ _ _ _ _ _ _ _ _ _ _ _ _ _ _ _ _ _ _ _ _ _ _ _ _ _ _ _ _ _ _ _ _ _ _ _ _ _ _ _ _ _ _ _ _ _ _ _ _ _ _ _ _ _ _ _ _ _ _ _ _ _ _ _ _ _ _ _ _ _ _ _ _ _ _ _ _ _ _ _ (fun _ _ _ _ _ h => h) ?_
          intro w7 ao6 cap6 hF7
          refine (unhide hS5).play1 ((unhide H6).2.1.trans hF7 (fun _ _ t => t)) (unhide H6).2.2.2.2 ((unhide H6).1.frame hF7 (fun t => t)) (unhide H6).2.2.1 (.cells #[.slice xo 32 xc] 22) (fun lg vs hv hvl hnext => ?_)
          have HV := hide (And.intro hv (And.intro hvl hnext))
          clear hv hvl hnext hF7 HR
          go_wp2_with (at_builtin; refine wpList_append_vrow _ rfl (.tmp 87) (.tmp 89) 27 27 rfl 22 i2 (.slice none 0 0) Tryd.underlying27 (unhide HI2) hz20 rfl hz21 (ao := lo) (cap := lcap) (g := lg) (n := m) (vs := vs) rfl ((unhide HV).1.stay (fun hc => Below.heap_alloc _ _ _ ((unhide HV).1.lt hc))) (unhide HV).2.1 _ [.slice xo 32 xc] 1 rfl rfl (src_row w7 _ rfl) (by rw [hz22]; omega) (by omega) ?_)
          intro lo' lcap' w11 lg' hrow hgr
          have HZ := hide (((unhide HV).2.2 lo' lcap' w11 lg' hrow hgr).more (Nat.le_add_right N bs.length))
          clear hrow hgr HV H6 hS5
          go_wp2
          refine q32_any w11 k t u (P k) (L k).length (cap k) (ao k) hk (fun wx hx => ((unhide HZ).later hx).ct k hk) (fun wx hx => ((unhide HZ).later hx).cu k hk) (fun wx hx => len_any wx (P k) (L k) (((unhide HZ).later hx).hash k hk).1) _ _ _ _ _ _ _ _ _ _ _ _ _ _ _ _ _ _ _ _ _ _ _ _ _ _ _ _ _ _ _ _ _ _ _ _ _ _ _ _ _ _ _ _ _ _ _ _ _ _ _ _ _ _ _ _ _ _ _ _ _ _ _ _ _ _ _ _ _ _ _ _ _ _ _ _ _ _ _ _ _ _ _ _ _ _ _ _ _ _ _ _ _ _ _ _ _ _ _ _ _ _ _ _ _ _ _ _ _ _ _ _ _ _ _ _ _ _ _ _ _ _ _ _ _ _ _ _ _ _ _ _ _ _ _ _ _ _ _ _ _ _ (fun _ _ _ _ _ h => h) ?_
          intro w12 hF12
          have HN := hide ((unhide HZ).later hF12)
          clear hF12
          go_wp2
          exact ⟨⟨n + 1, m + 1, by omega, by omega, by go_num, lo', lcap', rfl, P, L, ao, cap, by rw [unhide HNX]; exact unhide HN⟩, by simp [intOf]; omega⟩
        · by_cases hd2 : d = 2
          · subst hd2
            obtain ⟨k', hk', hkk⟩ : ∃ k' : Nat, k' < 2 ∧ (1 : Int) - (k : Int) = (k' : Int) := ⟨1 - k, by omega, by omega⟩
            have hS5 := hide ((unhide HS).later ((Fr.refl _ wr).alloc (.cells #[.int .i64 z, .int .i64 2, .slice bo bs.length bc] 35)))
            have c4 := (unhide hS5).ct k hk
            go_wp2_with fail
            generalize (wr.alloc (.cells #[.int .i64 z, .int .i64 2, .slice bo bs.length bc] 35)) = w5 at *
            obtain ⟨ob, hob⟩ : ∃ x, wr.heap.size = x := ⟨_, rfl⟩
            rw [hob] at ⊢
            clear hob q0' q1' q2' HS
            clear c4
            have hlt5 := (unhide hS5).lt
            refine (clone_any w5 (P k) (L k) ((unhide hS5).hash k hk).1).mono ?_
            rintro e w6 ⟨q', rfl, hNH⟩
            obtain ⟨P', L', ao', cap', hZ, hPk⟩ := (unhide hS5).play2 hk' hk hNH
            have hS6 := (unhide hS5).later hNH.2.1
            have c1 := hS6.ct k' hk'
            have c2 := hS6.ft k'
            have hne : ∀ i j, (⟨t, i, none⟩ : Addr) ≠ ⟨u, j, none⟩ := fun i j e => hlt5.2.2.1 (by injection e)
            have c3 : (w6.setCell ⟨t, k', none⟩ (.pointer (some ⟨q', 0, none⟩))).cell? ⟨u, k, none⟩ = some (.slice (ao k) (L k).length (cap k)) := (World.cell?_setCell_other _ _ _ _ (hne k' k)).trans (hS6.cu k hk)
            have c4 : (w6.setCell ⟨t, k', none⟩ (.pointer (some ⟨q', 0, none⟩))).cell? ⟨u, k', none⟩ = some (.slice (ao k') (L k').length (cap k')) := (World.cell?_setCell_other _ _ _ _ (hne k' k')).trans (hS6.cu k' hk')
            have c5 : (w6.setCell ⟨t, k', none⟩ (.pointer (some ⟨q', 0, none⟩))).frozen? ⟨u, k', none⟩ = false := (World.frozen?_setCell _ _ _ _).trans (hS6.fu k')
            have c6 := hZ.ct k' hk'
            rw [hPk] at c6
            have HZ := hide (hZ.more (Nat.le_add_right N bs.length))
            clear hZ hPk hNH hS6 hS5 hlt5 hne
            go_wp2
            generalize ((w6.setCell ⟨t, k', none⟩ (.pointer (some ⟨q', 0, none⟩))).setCell ⟨u, k', none⟩ (.slice (ao k) (L k).length (cap k))) = w11 at *
            clear c1 c2 c3 c4 c5 c6
            refine q32_any w11 k t u (P' k) (L' k).length (cap' k) (ao' k) hk (fun wx hx => ((unhide HZ).later hx).ct k hk) (fun wx hx => ((unhide HZ).later hx).cu k hk) (fun wx hx => len_any wx (P' k) (L' k) (((unhide HZ).later hx).hash k hk).1) _ _ _ _ _ _ _ _ _ _ _ _ _ _ _ _ _ _ _ _ _ _ _ _ _ _ _ _ _ _ _ _ _ _ _ _ _ _ _ _ _ _ _ _ _ _ _ _ _ _ _ _ _ _ _ _ _ _ _ _ _ _ _ _ _ _ _ _ _ _ _ _ _ _ _ _ _ _ _ _ _ _ _ _ _ _ _ _ _ _ _ _ _ _ _ _ _ _ _ _ _ _ _ _ _ _ _ _ _ _ _ _ _ _ _ _ _ _ _ _ _ _ _ _ _ _ _ _ _ _ _ _ _ _ _ _ _ _ _ _ _ _ (fun _ _ _ _ _ h => h) ?_
            intro w12 hF12
            have HN := hide ((unhide HZ).later hF12)
            clear hF12
            go_wp2
            exact ⟨⟨n + 1, m, by omega, by omega, by go_num, lo, lcap, rfl, P', L', ao', cap', by rw [unhide HNX]; exact unhide HN⟩, by simp [intOf]; omega⟩
          ·
            have hS5 := hide ((unhide HS).later ((Fr.refl _ wr).alloc (.cells #[.int .i64 z, .int .i64 d, .slice bo bs.length bc] 35)))
            go_wp2
            generalize (wr.alloc (.cells #[.int .i64 z, .int .i64 d, .slice bo bs.length bc] 35)) = w5 at *
            obtain ⟨ob, hob⟩ : ∃ x, wr.heap.size = x := ⟨_, rfl⟩
            rw [hob] at ⊢
            clear hob q0' q1' q2' HS
            have HZ := hide ((unhide hS5).more (Nat.le_add_right N bs.length))
            clear hS5
            refine q32_any w5 k t u (P k) (L k).length (cap k) (ao k) hk (fun wx hx => ((unhide HZ).later hx).ct k hk) (fun wx hx => ((unhide HZ).later hx).cu k hk) (fun wx hx => len_any wx (P k) (L k) (((unhide HZ).later hx).hash k hk).1) _ _ _ _ _ _ _ _ _ _ _ _ _ _ _ _ _ _ _ _ _ _ _ _ _ _ _ _ _ _ _ _ _ _ _ _ _ _ _ _ _ _ _ _ _ _ _ _ _ _ _ _ _ _ _ _ _ _ _ _ _ _ _ _ _ _ _ _ _ _ _ _ _ _ _ _ _ _ _ _ _ _ _ _ _ _ _ _ _ _ _ _ _ _ _ _ _ _ _ _ _ _ _ _ _ _ _ _ _ _ _ _ _ _ _ _ _ _ _ _ _ _ _ _ _ _ _ _ _ _ _ _ _ _ _ _ _ _ _ _ _ _ (fun _ _ _ _ _ h => h) ?_
            intro w12 hF12
            have HN := hide ((unhide HZ).later hF12)
            clear hF12
            go_wp2
            exact ⟨⟨n + 1, m, by omega, by omega, by go_num, lo, lcap, rfl, P, L, ao, cap, by rw [unhide HNX]; exact unhide HN⟩, by simp [intOf]; omega⟩
    · have htn := Nat.le_trans (tot_take ps n) (unhide HTOT)
      obtain ⟨lg, ds, hHd, had, hbeh⟩ := (unhide HS).last (m := m) (by omega)
      have hl0 := ((unhide HS).hash 0 (by omega)).2
      have hl1 := ((unhide HS).hash 1 (by omega)).2
      have HE := hide (And.intro hHd (And.intro had hbeh))
      have HLS := hide (And.intro (Nat.le_trans hl0 htn) (Nat.le_trans hl1 htn))
      clear hHd had hbeh HS hl0 hl1 htn
      go_wp2_with fail
      refine (owned_all wr lo lg m lcap (unhide HE).2.1 ds (unhide HE).1).mono ?_
      rintro e w5 ⟨rfl, hF5⟩
      have HB := hide ((unhide HE).2.2 w5 hF5)
      clear hF5 HE
      go_wp2
      have rs : ∀ k, k < 2 → (L k).length ≤ 1048576 → ∀ wx, Fr (fun _ => False) w5 wx → Calls Tryd.prog 11 #[.slice (ao k) (L k).length (cap k)] wx fun e w' => ∃ v, e = .returned v ∧ New wx (digest (L k)) v w' := fun k hk hl wx hx => by
        obtain ⟨h1, h2, h3, h4, h5⟩ := (unhide HB).later hx
        obtain ⟨g, hg⟩ := h4 k hk
        exact rsum_any wx ((unhide HT).2.later h5) (ao k) (cap k) (L k) (hg.bat (by omega)).2 (by omega)
      have hs : ∀ k, k < 2 → (L k).length ≤ 1048576 → ∀ wx, Fr (fun _ => False) w5 wx → Calls Tryd.prog 15 #[.pointer (some ⟨P k, 0, none⟩)] wx fun e w' => ∃ v, e = .returned v ∧ New wx (digest (L k)) v w' := fun k hk hl wx hx => by
        obtain ⟨h1, h2, h3, h4, h5⟩ := (unhide HB).later hx
        exact hsum_any wx ((unhide HT).1.later h5) (P k) (L k) (h3 k hk) (by omega)
      refine q35_any w5 t u (P 0) (P 1) (L 0).length (cap 0) (L 1).length (cap 1) (ao 0) (ao 1) (digest (L 0)) (digest (L 1)) (digest_length _) (digest_length _)
        (fun wx hx => ((unhide HB).later hx).1.cell 0 (by omega)) (fun wx hx => ((unhide HB).later hx).2.1.cell 0 (by omega)) (hs 0 (by omega) (unhide HLS).1) (rs 0 (by omega) (unhide HLS).1)
        (fun wx hx => ((unhide HB).later hx).1.cell 1 (by omega)) (fun wx hx => ((unhide HB).later hx).2.1.cell 1 (by omega)) (hs 1 (by omega) (unhide HLS).2) (rs 1 (by omega) (unhide HLS).2)
        _ _ _ _ _ _ _ _ _ _ _ _ _ _ _ _ _ _ _ _ _ _ _ _ _ _ _ _ _ _ _ _ _ _ _ _ _ _ _ _ _ _ _ _ _ _ _ _ _ _ _ _ _ _ _ _ _ _ _ _ _ _ _ _ _ _ _ _ _ _ _ _ _ _ _ _ _ _ _ _ _ _ _ _ _ _ _ _ _ _ _ _ _ _ _ _ _ _ _ _ _ _ _ _ _ _ _ _ _ _ _ _ _ _ _ _ _ _ _ _ _ _ _ _ _ _ _ _ _ _ _ _ _ _ _ _ _ _ _ _ _ _ (fun _ _ _ _ _ h => h) ?_
      intro w6 _ _ _ _ _ _ _ _ hF6
      have HF := hide ((unhide HB).2.2.2.2.trans hF6 (fun _ _ t => t))
      clear hF6 rs hs
      go_wp2
      go_ret
      exact ⟨rfl, unhide HF⟩

end Go.Proofs.YtchdjfhenjbcnaaDoor
