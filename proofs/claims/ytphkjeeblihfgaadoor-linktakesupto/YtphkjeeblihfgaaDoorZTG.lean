import Derived.Test.YtphkjeeblihfgaaDoorZTF
/- LinkTakes: its walk. -/
namespace Go.Proofs.YtphkjeeblihfgaaDoor
open Go.RowKit Go.Maps

set_option maxHeartbeats 40000000 in
set_option maxRecDepth 20000 in
theorem takes_walk (w : World) (hT : TabP w) (so : Option Addr) (sc : Nat) (xs : List OpA) (hO : OpAt w so xs) :
    Calls Tryd.prog 4 #[.slice so xs.length sc] w fun e w' => e = .returned (.bool true) ∧ Fr (fun _ => False) w w' := by
  have HT := hide hT
  have HO := hide hO
  have hsI : (xs.length : Int) ≤ 140737488355328 := by have := hO.small; omega
  clear hT hO
  go_enter Tryd.func4, Tryd.ntmps4
  go_wp2_with fail
  refine (awakeL_any w (unhide HT)).mono ?_
  rintro e w1 ⟨rfl, h1⟩
  go_wp2_with fail
  refine (newreceiver_any w1).mono ?_
  rintro e w2 ⟨rfl, h2, h3⟩
  have HTK : Hid (TKs w w1.heap.size w2.heap.size 0 (w2.alloc (.cells #[.int .i64 0] 32))) := by
    have hk : Fr (fun _ => False) w1 w2 := by rw [h3]; exact (Fr.refl _ _).alloc _
    have hs1 := (unhide h1).size
    have hs2 := hk.size
    have hlt : w1.heap.size < w2.heap.size := h2.lt
    exact hide ⟨((unhide h1).trans hk (fun _ _ t => t)).alloc _, Bx.alloc h2 _, Bx.new _ _ _, ⟨by omega, by omega, by omega⟩, by omega, by omega⟩
  clear h1 h2 h3
  go_wp2
  generalize w2.alloc (.cells #[.int .i64 0] 32) = w3 at *
  generalize w1.heap.size = q at *
  generalize w2.heap.size = X at *
  go_loopw [6] (fun iv wr => ∃ (i : Nat) (n : Int), i ≤ xs.length ∧ iv = .int .i64 i ∧ Hid (TKs w q X n wr)) (fun iv _ => xs.length - (intOf iv).toNat)
  case atStart => exact ⟨0, 0, Nat.zero_le _, rfl, HTK⟩
  case round =>
    obtain ⟨i, n, hi, rfl, HK⟩ := hrel
    by_cases hil : i < xs.length
    · have hiI : (i : Int) < (xs.length : Int) := by omega
      obtain ⟨sb, so2, e, hc⟩ := (unhide HO).cells (by omega)
      subst e
      have HF := hide ((unhide HO).at_ xs[i] (List.getElem_mem hil))
      have HFEW := hide ((unhide HO).few xs[i] (List.getElem_mem hil))
      have hc0 := hc i hil 0 (by omega)
      have hc1 := hc i hil 1 (by omega)
      have hc2 := hc i hil 2 (by omega)
      have hc3 := hc i hil 3 (by omega)
      have hc4 := hc i hil 4 (by omega)
      have hc5 := hc i hil 5 (by omega)
      have hc6 := hc i hil 6 (by omega)
      clear hc
      generalize xs[i] = st at *
      obtain ⟨dk, sq, ⟨kd, ba, fs, its, bts⟩, io, ic, bo, bc⟩ := st
      simp only [OpA.vals, List.getElem?_cons_zero, List.getElem?_cons_succ] at hc0 hc1 hc2 hc3 hc4 hc5 hc6 HF HFEW
      have hfr := (unhide HK).fr
      have e0 : wr.cell? ⟨sb, so2 + i * 7, none⟩ = some (.int .i64 dk) := (hfr.cell (World.block_lt_of_cell? _ _ hc0) (fun t => t)).trans hc0
      have e1 : wr.cell? ⟨sb, so2 + i * 7 + 1, none⟩ = some (.int .i64 sq) := (hfr.cell (World.block_lt_of_cell? _ _ hc1) (fun t => t)).trans hc1
      have e2 : wr.cell? ⟨sb, so2 + i * 7 + 2, none⟩ = some (.int .i64 kd) := (hfr.cell (World.block_lt_of_cell? _ _ hc2) (fun t => t)).trans hc2
      have e3 : wr.cell? ⟨sb, so2 + i * 7 + 3, none⟩ = some (.int .i64 ba) := (hfr.cell (World.block_lt_of_cell? _ _ hc3) (fun t => t)).trans hc3
      have e4 : wr.cell? ⟨sb, so2 + i * 7 + 4, none⟩ = some (.int .i64 fs) := (hfr.cell (World.block_lt_of_cell? _ _ hc4) (fun t => t)).trans hc4
      have e5 : wr.cell? ⟨sb, so2 + i * 7 + 5, none⟩ = some (.slice io its.length ic) := (hfr.cell (World.block_lt_of_cell? _ _ hc5) (fun t => t)).trans hc5
      have e6 : wr.cell? ⟨sb, so2 + i * 7 + 6, none⟩ = some (.slice bo bts.length bc) := (hfr.cell (World.block_lt_of_cell? _ _ hc6) (fun t => t)).trans hc6
      clear hc0 hc1 hc2 hc3 hc4 hc5 hc6 hfr
      have HXA := hide (Bx.new wr #[.int .i64 dk, .int .i64 sq, .int .i64 kd, .int .i64 ba, .int .i64 fs, .slice io its.length ic, .slice bo bts.length bc] 38)
      have HKA := hide ((unhide HK).keep ((Fr.refl (fun _ => False) wr).alloc (.cells #[.int .i64 dk, .int .i64 sq, .int .i64 kd, .int .i64 ba, .int .i64 fs, .slice io its.length ic, .slice bo bts.length bc] 38)))
      have HZN : Hid (¬ wr.heap.size = q ∧ ¬ wr.heap.size = X) := hide (by have h1 : q < wr.heap.size := (unhide HK).rv.lt; have h2 : X < wr.heap.size := (unhide HK).rb.lt; omega)
      clear HK
      go_upto_region 10 with (fail)
      clear e0 e1 e2 e3 e4 e5 e6
      generalize wr.alloc (.cells #[.int .i64 dk, .int .i64 sq, .int .i64 kd, .int .i64 ba, .int .i64 fs, .slice io its.length ic, .slice bo bts.length bc] 38) = wA at *
      generalize wr.heap.size = Z at *
      by_cases d0 : dk = 0
      · subst d0
        have a0 : wA.cell? ⟨Z, 0, none⟩ = some (.int .i64 0) := (unhide HXA).cell 0
        have a1 : wA.cell? ⟨Z, 1, none⟩ = some (.int .i64 sq) := (unhide HXA).cell 1
        go_upto_if 46 with (fail)
        go_cut [] from 46 to 102 (fun wc => ∃ n9 : Int, Hid (TKs w q X n9 wc ∧ Bx wc Z #[.int .i64 0, .int .i64 sq, .int .i64 kd, .int .i64 ba, .int .i64 fs, .slice io its.length ic, .slice bo bts.length bc] 38))
        case first =>
          clear a0 a1
          have a0 : wA.cell? ⟨Z, 0, none⟩ = some (.int .i64 0) := (unhide HXA).cell 0
          have a1 : wA.cell? ⟨Z, 1, none⟩ = some (.int .i64 sq) := (unhide HXA).cell 1
          have a2 : wA.cell? ⟨Z, 2, none⟩ = some (.int .i64 kd) := (unhide HXA).cell 2
          have a3 : wA.cell? ⟨Z, 3, none⟩ = some (.int .i64 ba) := (unhide HXA).cell 3
          have a4 : wA.cell? ⟨Z, 4, none⟩ = some (.int .i64 fs) := (unhide HXA).cell 4
          have a5 : wA.cell? ⟨Z, 5, none⟩ = some (.slice io its.length ic) := (unhide HXA).cell 5
          have a6 : wA.cell? ⟨Z, 6, none⟩ = some (.slice bo bts.length bc) := (unhide HXA).cell 6
          go_wp2_with fail
          refine (copied_any wA ⟨kd, ba, fs, its, bts⟩ io ic bo bc ((unhide HF).later (unhide HKA).fr) (by have h : its.length ≤ 1048576 := (unhide HFEW).1; show its.length * 24 ≤ _; omega)).mono ?_
          rintro e w1 ⟨io', ic', bo', bc', rfl, H1⟩
          obtain ⟨h11, ⟨ib, ds, h12⟩, gb, h13, h14⟩ := unhide H1
          simp only at h12 h13
          have HQX : Hid (q < wA.heap.size ∧ X < wA.heap.size ∧ Z < wA.heap.size) := hide ⟨(unhide HKA).rv.lt, (unhide HKA).rb.lt, (unhide HXA).lt⟩
          have hF1 : Fr (fun _ => False) w1 (w1.alloc (.cells #[.int .i64 kd, .int .i64 ba, .int .i64 fs, .slice io' its.length ic', .slice bo' bts.length bc'] 36)) := (Fr.refl _ _).alloc _
          have HK1 := hide (((unhide HKA).keep h11).keep hF1)
          have HZ1 := hide (((unhide HXA).keep h11).keep hF1)
          have HI1 := hide (Bx.new w1 #[.int .i64 kd, .int .i64 ba, .int .i64 fs, .slice io' its.length ic', .slice bo' bts.length bc'] 36)
          have HL1 := hide (h12.frame hF1 (fun _ t => t) (fun _ _ _ t => t))
          have HR1 := hide (And.intro (h13.frame hF1 (fun t => t)) h14)
          have HS1 : Hid (wA.heap.size ≤ w1.heap.size) := hide h11.size
          have hdl : ∀ j, j < its.length → 0 < (ds.getD j ⟨none, 0, 0, 0⟩).cap → (ds.getD j ⟨none, 0, 0, 0⟩).g < w1.heap.size := fun j hj hc => ((h12.handed (unhide HFEW).1 (unhide HFEW).2).own j hj).lt hc
          have HDL := hide hdl
          clear H1 h11 h12 h13 h14 hF1 hdl
          simp only [Fm.cells]
          clear a0 a1 a2 a3 a4 a5 a6
          go_wp2_with fail
          have hW1 : (w1.alloc (.cells #[.int .i64 kd, .int .i64 ba, .int .i64 fs, .slice io' its.length ic', .slice bo' bts.length bc'] 36)).heap.size = w1.heap.size + 1 := heap_alloc _ _
          have HW1 := hide hW1
          clear hW1
          generalize w1.alloc (.cells #[.int .i64 kd, .int .i64 ba, .int .i64 fs, .slice io' its.length ic', .slice bo' bts.length bc'] 36) = w1a at *
          generalize w1.heap.size = Zi at *
          have hAt : ∀ u, Fr (fun k => k = q) w1a u → Fm.At u ⟨kd, ba, fs, its, bts⟩ io' bo' bc' := fun u hu => ⟨((unhide HL1).stay hu (fun k t => by have t : k = q := t; have := unhide HQX; omega)).rows (by have := (unhide HFEW).1; show its.length ≤ _; omega), (Row.bat ((unhide HR1).1.frame hu (fun t => by have t : gb = q := t; have := (unhide HR1).2; have := unhide HQX; omega)) (unhide HF).bytes.2.2).2⟩
          have HAT := hide hAt
          clear hAt
          refine (got_all (unhide HK1).rv (unhide HK1).nb ⟨kd, ba, fs, its, bts⟩ io' ic' bo' bc' (unhide HAT)).mono ?_
          obtain ⟨n2, hn2⟩ : ∃ n2, (gotF n ⟨kd, ba, fs, its, bts⟩).1 = n2 := ⟨_, rfl⟩
          obtain ⟨L, hL⟩ : ∃ L, (gotF n ⟨kd, ba, fs, its, bts⟩).2 = L := ⟨_, rfl⟩
          have HGF := hide (gotF_fits (unhide HKA).nb ⟨kd, ba, fs, its, bts⟩)
          rw [hn2, hL] at HGF
          have HNL := hide (And.intro hn2 hL)
          rw [hn2, hL]
          clear hn2 hL
          rintro e w2 ⟨ro, rc, rfl, H2⟩
          have HI2 := hide ((unhide HI1).frame (unhide H2).2.2 (by show ¬ Zi = q; have := unhide HQX; have := unhide HS1; omega))
          have HZ2 := hide ((unhide HZ1).frame (unhide H2).2.2 (by show ¬ Z = q; exact (unhide HZN).1))
          have HF2 : Hid (Fr (fun _ => False) w w2) := hide ((unhide HK1).fr.trans (unhide H2).2.2 (fun k hk t => by have t : k = q := t; have := (unhide HKA).lo; omega))
          have b0 : w2.cell? ⟨Zi, 0, none⟩ = some (.int .i64 kd) := (unhide HI2).cell 0
          have b1 : w2.cell? ⟨Zi, 1, none⟩ = some (.int .i64 ba) := (unhide HI2).cell 1
          have b2 : w2.cell? ⟨Zi, 2, none⟩ = some (.int .i64 fs) := (unhide HI2).cell 2
          have b3 : w2.cell? ⟨Zi, 3, none⟩ = some (.slice io' its.length ic') := (unhide HI2).cell 3
          have b4 : w2.cell? ⟨Zi, 4, none⟩ = some (.slice bo' bts.length bc') := (unhide HI2).cell 4
          have c0 : w2.cell? ⟨Z, 0, none⟩ = some (.int .i64 0) := (unhide HZ2).cell 0
          have c1 : w2.cell? ⟨Z, 1, none⟩ = some (.int .i64 sq) := (unhide HZ2).cell 1
          have c2 : w2.cell? ⟨Z, 2, none⟩ = some (.int .i64 kd) := (unhide HZ2).cell 2
          have c3 : w2.cell? ⟨Z, 3, none⟩ = some (.int .i64 ba) := (unhide HZ2).cell 3
          have c4 : w2.cell? ⟨Z, 4, none⟩ = some (.int .i64 fs) := (unhide HZ2).cell 4
          have c5 : w2.cell? ⟨Z, 5, none⟩ = some (.slice io its.length ic) := (unhide HZ2).cell 5
          have c6 : w2.cell? ⟨Z, 6, none⟩ = some (.slice bo bts.length bc) := (unhide HZ2).cell 6
          go_wp2_with fail
          refine (same_eq w2 ⟨kd, ba, fs, its, bts⟩ io' ic' bo' bc' io ic bo bc (unhide HAT w2 (unhide H2).2.2) ((unhide HF).later (unhide HF2))).mono ?_
          rintro e w3 ⟨rfl, h3⟩
          have HI3 := hide ((unhide HI2).keep (unhide h3))
          have HZ3 := hide ((unhide HZ2).keep (unhide h3))
          have HL3 := hide (((unhide HL1).stay (unhide H2).2.2 (fun k t => by have t : k = q := t; have := unhide HQX; omega)).frame (unhide h3) (fun _ t => t) (fun _ _ _ t => t))
          clear b0 b1 b2 b3 b4 c0 c1 c2 c3 c4 c5 c6
          have b0 : w3.cell? ⟨Zi, 0, none⟩ = some (.int .i64 kd) := (unhide HI3).cell 0
          have b1 : w3.cell? ⟨Zi, 1, none⟩ = some (.int .i64 ba) := (unhide HI3).cell 1
          have b2 : w3.cell? ⟨Zi, 2, none⟩ = some (.int .i64 fs) := (unhide HI3).cell 2
          have b3 : w3.cell? ⟨Zi, 3, none⟩ = some (.slice io' its.length ic') := (unhide HI3).cell 3
          have b4 : w3.cell? ⟨Zi, 4, none⟩ = some (.slice bo' bts.length bc') := (unhide HI3).cell 4
          have HRO : Hid (0 < its.length → io' = some ⟨ib, 0, none⟩) := hide (fun h0 => (unhide HL3).row.ad (by have := (unhide HL3).row.le; rw [List.length_map, (unhide HL3).n1] at this; omega))
          go_wp2_with fail
          refine (owned_any w3 io' ib its.length ic' (unhide HRO) _ ((unhide HL3).handed (unhide HFEW).1 (unhide HFEW).2)).mono ?_
          rintro e w4 ⟨rfl, h4⟩
          have HS4 : Hid (∀ k, (∃ j, j < its.length ∧ 0 < (ds.getD j ⟨none, 0, 0, 0⟩).cap ∧ k = (ds.getD j ⟨none, 0, 0, 0⟩).g) → wA.heap.size ≤ k ∧ k < Zi) := by
            refine hide (fun k t => ?_)
            obtain ⟨j, hj, hc, rfl⟩ := t
            refine ⟨?_, unhide HDL j hj hc⟩
            have hj' : j < ds.length := by rw [(unhide HL3).n1]; exact hj
            rw [List.getD_eq_getElem?_getD, List.getElem?_eq_getElem hj'] at hc ⊢
            exact ((unhide HL3).in' (List.getElem_mem hj') hc).1
          have HZ4 := hide ((unhide HZ3).frame h4 (fun t => by have := unhide HS4 _ t; have := unhide HQX; omega))
          have HF4 : Hid (Fr (fun _ => False) w w4) := hide (((unhide HF2).trans (unhide h3) (fun _ _ t => t)).trans h4 (fun k hk t => by have := unhide HS4 _ t; have := unhide HQX; have := (unhide HKA).lo; omega))
          have HB4 : Hid (RB w4 X n) := hide ((((unhide HK1).rb.frame (unhide H2).2.2 (by show ¬ X = q; have := (unhide HKA).lo; omega)).keep (unhide h3)).frame h4 (fun t => by have := unhide HS4 _ t; have := unhide HQX; omega))
          have HV4 : Hid (RV w4 q n2) := hide ((Bx.keep (unhide H2).1 (unhide h3)).frame h4 (fun t => by have := unhide HS4 _ t; have := unhide HQX; omega))
          have HT4 : Hid (∀ u, Fr (fun k => k = X ∨ k = q) w4 u → ItsAt u ro L) := by
            refine hide (fun u hu => (unhide H2).2.1 u ?_)
            refine (((unhide h3).mono (fun _ _ t => t.elim)).trans h4 (fun k _ t => ?_)).trans hu (fun k _ t => ?_)
            · have := unhide HS4 _ t; have := unhide HW1; omega
            · have t : k = X ∨ k = q := t; have := unhide HQX; have := unhide HS1; have := unhide HW1; omega
          clear h4 H2 h3 b0 b1 b2 b3 b4
          have c0 : w4.cell? ⟨Z, 0, none⟩ = some (.int .i64 0) := (unhide HZ4).cell 0
          have c1 : w4.cell? ⟨Z, 1, none⟩ = some (.int .i64 sq) := (unhide HZ4).cell 1
          have c2 : w4.cell? ⟨Z, 2, none⟩ = some (.int .i64 kd) := (unhide HZ4).cell 2
          have c3 : w4.cell? ⟨Z, 3, none⟩ = some (.int .i64 ba) := (unhide HZ4).cell 3
          have c4 : w4.cell? ⟨Z, 4, none⟩ = some (.int .i64 fs) := (unhide HZ4).cell 4
          have c5 : w4.cell? ⟨Z, 5, none⟩ = some (.slice io its.length ic) := (unhide HZ4).cell 5
          have c6 : w4.cell? ⟨Z, 6, none⟩ = some (.slice bo bts.length bc) := (unhide HZ4).cell 6
          go_wp2_with fail
          refine (rgot_all (unhide HB4) (unhide HKA).nb ⟨kd, ba, fs, its, bts⟩ io ic bo bc (fun u hu => (unhide HF).later ((unhide HF4).trans hu (fun k hk t => by have t : k = X := t; have := (unhide HKA).lo; omega)))).mono ?_
          rw [(unhide HNL).1, (unhide HNL).2]
          rintro e w5 ⟨ro5, rc5, rfl, H5⟩
          have HT5 : Hid (∀ u, Fr (fun k => k = X ∨ k = q) w5 u → ItsAt u ro L) := hide (fun u hu => unhide HT4 u (((unhide H5).2.2.mono (fun _ _ t => .inl t)).trans hu (fun _ _ t => t)))
          go_wp2_with fail
          refine (sameitems_eq w5 L ro rc ro5 rc5 (unhide HT5 w5 (Fr.refl _ _)) (unhide H5).2.1).mono ?_
          rintro e w6 ⟨rfl, h6⟩
          have HK6 : Hid (TKs w q X n2 w6) := by
            obtain ⟨a1, a2, a3⟩ := unhide H5
            have hlo := (unhide HKA).lo
            refine hide (TKs.keep ⟨(unhide HF4).trans a3 (fun k hk t => by have t : k = X := t; omega), Bx.frame (unhide HV4) a3 (by show ¬ q = X; omega), a1, hlo, (unhide HGF).1⟩ (unhide h6))
          have HZ6 : Hid (Bx w6 Z #[.int .i64 0, .int .i64 sq, .int .i64 kd, .int .i64 ba, .int .i64 fs, .slice io its.length ic, .slice bo bts.length bc] 38) := hide (((unhide HZ4).frame (unhide H5).2.2 (by show ¬ Z = X; exact (unhide HZN).2)).keep (unhide h6))
          have HT6 : Hid (∀ u, Fr (fun k => k = X ∨ k = q) w6 u → ItsAt u ro L) := hide (fun u hu => unhide HT5 u (((unhide h6).mono (fun _ _ t => t.elim)).trans hu (fun _ _ t => t)))
          clear H5 h6 HT5 HT4 HV4 HB4 HF4 HZ4 HS4 c0 c1 c2 c3 c4 c5 c6
          have c0 : w6.cell? ⟨Z, 0, none⟩ = some (.int .i64 0) := (unhide HZ6).cell 0
          go_wp2
          go_meet
          exact ⟨n2, hide ⟨unhide HK6, unhide HZ6⟩⟩
        case rest =>
          obtain ⟨n9, HC⟩ := hcut
          have HZ9 := hide (unhide HC).2
          have HKT := hide (unhide HC).1
          clear HC HKA HXA a0 a1
          have y0 : wc.cell? ⟨Z, 0, none⟩ = some (.int .i64 0) := (unhide HZ9).cell 0
          by_cases hn0 : n9 = 0
          · subst hn0
            go_wp2_with fail
            refine (ack_none (unhide HKT).rv (Int.le_refl 0)).mono ?_
            rintro e w7 ⟨rfl, h7⟩
            have HK7 := hide (((unhide HKT).keep (unhide h7)).keep ((Fr.refl (fun _ => False) _).alloc (.cells #[.int .i64 0, .int .i64 0, .int .i64 0, .slice none 0 0, .slice none 0 0] 36)))
            have HA7 := hide (Bx.new w7 #[.int .i64 0, .int .i64 0, .int .i64 0, .slice none 0 0, .slice none 0 0] 36)
            clear h7 HKT
            go_wp2_with fail
            generalize w7.alloc (.cells #[.int .i64 0, .int .i64 0, .int .i64 0, .slice none 0 0, .slice none 0 0] 36) = w7a at *
            generalize w7.heap.size = Za at *
            refine (rack_none (unhide HK7).rb).mono ?_
            rintro e w8 ⟨rfl, h8⟩
            have HK8 := hide (((unhide HK7).keep (unhide h8)).keep ((Fr.refl (fun _ => False) _).alloc (.cells #[.int .i64 0, .int .i64 0, .int .i64 0, .slice none 0 0, .slice none 0 0] 36)))
            have HA8 := hide (((unhide HA7).keep (unhide h8)).keep ((Fr.refl (fun _ => False) _).alloc (.cells #[.int .i64 0, .int .i64 0, .int .i64 0, .slice none 0 0, .slice none 0 0] 36)))
            clear HA7 HK7 h8
            have g0 : (w8.alloc (.cells #[.int .i64 0, .int .i64 0, .int .i64 0, .slice none 0 0, .slice none 0 0] 36)).cell? ⟨Za, 0, none⟩ = some (.int .i64 0) := (unhide HA8).cell 0
            have g1 : (w8.alloc (.cells #[.int .i64 0, .int .i64 0, .int .i64 0, .slice none 0 0, .slice none 0 0] 36)).cell? ⟨Za, 1, none⟩ = some (.int .i64 0) := (unhide HA8).cell 1
            have g2 : (w8.alloc (.cells #[.int .i64 0, .int .i64 0, .int .i64 0, .slice none 0 0, .slice none 0 0] 36)).cell? ⟨Za, 2, none⟩ = some (.int .i64 0) := (unhide HA8).cell 2
            have g3 : (w8.alloc (.cells #[.int .i64 0, .int .i64 0, .int .i64 0, .slice none 0 0, .slice none 0 0] 36)).cell? ⟨Za, 3, none⟩ = some (.slice none 0 0) := (unhide HA8).cell 3
            have g4 : (w8.alloc (.cells #[.int .i64 0, .int .i64 0, .int .i64 0, .slice none 0 0, .slice none 0 0] 36)).cell? ⟨Za, 4, none⟩ = some (.slice none 0 0) := (unhide HA8).cell 4
            have HA9 := hide (Bx.new w8 #[.int .i64 0, .int .i64 0, .int .i64 0, .slice none 0 0, .slice none 0 0] 36)
            go_wp2_with fail
            generalize w8.alloc (.cells #[.int .i64 0, .int .i64 0, .int .i64 0, .slice none 0 0, .slice none 0 0] 36) = w8a at *
            have hEm : Fm.At w8a ⟨0, 0, 0, [], []⟩ none none 0 := ⟨⟨fun h0 => absurd h0 (by simp), by simp⟩, ⟨fun _ => ⟨rfl, rfl⟩, fun h0 => absurd h0 (by simp), by simp⟩⟩
            refine (same_eq w8a ⟨0, 0, 0, [], []⟩ none 0 none 0 none 0 none 0 hEm hEm).mono ?_
            rintro e wE ⟨rfl, hE⟩
            have HKE := hide ((unhide HK8).keep (unhide hE))
            clear HK8 HA8 HA9 hE hEm g0 g1 g2 g3 g4
            go_wp2
            exact ⟨⟨i + 1, 0, by omega, by go_num, HKE⟩, by simp [intOf]; omega⟩
          · have hnb : n9 ≤ 4294967296 := (unhide HKT).nb.2
            have hnc : 0 ≤ n9 := (unhide HKT).nb.1
            go_wp2_with fail
            refine (ack_some (unhide HKT).rv (by have := (unhide HKT).nb; omega) (unhide HKT).nb.2).mono ?_
            rintro e w7 ⟨rfl, h7⟩
            have HK7 := hide (((unhide HKT).keep (unhide h7)).keep ((Fr.refl (fun _ => False) _).alloc (.cells #[.int .i64 2, .int .i64 0, .int .i64 (n9 - 1), .slice none 0 0, .slice none 0 0] 36)))
            have HA7 := hide (Bx.new w7 #[.int .i64 2, .int .i64 0, .int .i64 (n9 - 1), .slice none 0 0, .slice none 0 0] 36)
            clear h7 HKT
            go_wp2_with fail
            generalize w7.alloc (.cells #[.int .i64 2, .int .i64 0, .int .i64 (n9 - 1), .slice none 0 0, .slice none 0 0] 36) = w7a at *
            generalize w7.heap.size = Za at *
            refine (rack_some (unhide HK7).rb (by have := (unhide HK7).nb; omega) (unhide HK7).nb.2).mono ?_
            rintro e w8 ⟨rfl, h8⟩
            have HK8 := hide (((unhide HK7).keep (unhide h8)).keep ((Fr.refl (fun _ => False) _).alloc (.cells #[.int .i64 2, .int .i64 0, .int .i64 (n9 - 1), .slice none 0 0, .slice none 0 0] 36)))
            have HA8 := hide (((unhide HA7).keep (unhide h8)).keep ((Fr.refl (fun _ => False) _).alloc (.cells #[.int .i64 2, .int .i64 0, .int .i64 (n9 - 1), .slice none 0 0, .slice none 0 0] 36)))
            clear HA7 HK7 h8
            have g0 : (w8.alloc (.cells #[.int .i64 2, .int .i64 0, .int .i64 (n9 - 1), .slice none 0 0, .slice none 0 0] 36)).cell? ⟨Za, 0, none⟩ = some (.int .i64 2) := (unhide HA8).cell 0
            have g1 : (w8.alloc (.cells #[.int .i64 2, .int .i64 0, .int .i64 (n9 - 1), .slice none 0 0, .slice none 0 0] 36)).cell? ⟨Za, 1, none⟩ = some (.int .i64 0) := (unhide HA8).cell 1
            have g2 : (w8.alloc (.cells #[.int .i64 2, .int .i64 0, .int .i64 (n9 - 1), .slice none 0 0, .slice none 0 0] 36)).cell? ⟨Za, 2, none⟩ = some (.int .i64 (n9 - 1)) := (unhide HA8).cell 2
            have g3 : (w8.alloc (.cells #[.int .i64 2, .int .i64 0, .int .i64 (n9 - 1), .slice none 0 0, .slice none 0 0] 36)).cell? ⟨Za, 3, none⟩ = some (.slice none 0 0) := (unhide HA8).cell 3
            have g4 : (w8.alloc (.cells #[.int .i64 2, .int .i64 0, .int .i64 (n9 - 1), .slice none 0 0, .slice none 0 0] 36)).cell? ⟨Za, 4, none⟩ = some (.slice none 0 0) := (unhide HA8).cell 4
            have HA9 := hide (Bx.new w8 #[.int .i64 2, .int .i64 0, .int .i64 (n9 - 1), .slice none 0 0, .slice none 0 0] 36)
            go_wp2_with fail
            generalize w8.alloc (.cells #[.int .i64 2, .int .i64 0, .int .i64 (n9 - 1), .slice none 0 0, .slice none 0 0] 36) = w8a at *
            have hEm : Fm.At w8a ⟨2, 0, n9 - 1, [], []⟩ none none 0 := ⟨⟨fun h0 => absurd h0 (by simp), by simp⟩, ⟨fun _ => ⟨rfl, rfl⟩, fun h0 => absurd h0 (by simp), by simp⟩⟩
            refine (same_eq w8a ⟨2, 0, n9 - 1, [], []⟩ none 0 none 0 none 0 none 0 hEm hEm).mono ?_
            rintro e wE ⟨rfl, hE⟩
            have HKE := hide ((unhide HK8).keep (unhide hE))
            clear HK8 HA8 HA9 hE hEm g0 g1 g2 g3 g4
            go_wp2
            exact ⟨⟨i + 1, n9, by omega, by go_num, HKE⟩, by simp [intOf]; omega⟩
      by_cases d2 : dk = 2
      · subst d2
        have a0 : wA.cell? ⟨Z, 0, none⟩ = some (.int .i64 2) := (unhide HXA).cell 0
        have a1 : wA.cell? ⟨Z, 1, none⟩ = some (.int .i64 sq) := (unhide HXA).cell 1
        go_upto_if 46 with (fail)
        go_cut [] from 46 to 102 (fun wc => ∃ n9 : Int, Hid (TKs w q X n9 wc ∧ Bx wc Z #[.int .i64 2, .int .i64 sq, .int .i64 kd, .int .i64 ba, .int .i64 fs, .slice io its.length ic, .slice bo bts.length bc] 38))
        case first =>
          clear a0 a1
          have a0 : wA.cell? ⟨Z, 0, none⟩ = some (.int .i64 2) := (unhide HXA).cell 0
          have a1 : wA.cell? ⟨Z, 1, none⟩ = some (.int .i64 sq) := (unhide HXA).cell 1
          have a2 : wA.cell? ⟨Z, 2, none⟩ = some (.int .i64 kd) := (unhide HXA).cell 2
          have a3 : wA.cell? ⟨Z, 3, none⟩ = some (.int .i64 ba) := (unhide HXA).cell 3
          have a4 : wA.cell? ⟨Z, 4, none⟩ = some (.int .i64 fs) := (unhide HXA).cell 4
          have a5 : wA.cell? ⟨Z, 5, none⟩ = some (.slice io its.length ic) := (unhide HXA).cell 5
          have a6 : wA.cell? ⟨Z, 6, none⟩ = some (.slice bo bts.length bc) := (unhide HXA).cell 6
          go_wp2_with fail
          refine (copied_any wA ⟨kd, ba, fs, its, bts⟩ io ic bo bc ((unhide HF).later (unhide HKA).fr) (by have h : its.length ≤ 1048576 := (unhide HFEW).1; show its.length * 24 ≤ _; omega)).mono ?_
          rintro e w1 ⟨io', ic', bo', bc', rfl, H1⟩
          obtain ⟨h11, ⟨ib, ds, h12⟩, gb, h13, h14⟩ := unhide H1
          simp only at h12 h13
          have HQX : Hid (q < wA.heap.size ∧ X < wA.heap.size ∧ Z < wA.heap.size) := hide ⟨(unhide HKA).rv.lt, (unhide HKA).rb.lt, (unhide HXA).lt⟩
          have hF1 : Fr (fun _ => False) w1 (w1.alloc (.cells #[.int .i64 kd, .int .i64 ba, .int .i64 fs, .slice io' its.length ic', .slice bo' bts.length bc'] 36)) := (Fr.refl _ _).alloc _
          have HK1 := hide (((unhide HKA).keep h11).keep hF1)
          have HZ1 := hide (((unhide HXA).keep h11).keep hF1)
          have HI1 := hide (Bx.new w1 #[.int .i64 kd, .int .i64 ba, .int .i64 fs, .slice io' its.length ic', .slice bo' bts.length bc'] 36)
          have HL1 := hide (h12.frame hF1 (fun _ t => t) (fun _ _ _ t => t))
          have HR1 := hide (And.intro (h13.frame hF1 (fun t => t)) h14)
          have HS1 : Hid (wA.heap.size ≤ w1.heap.size) := hide h11.size
          have hdl : ∀ j, j < its.length → 0 < (ds.getD j ⟨none, 0, 0, 0⟩).cap → (ds.getD j ⟨none, 0, 0, 0⟩).g < w1.heap.size := fun j hj hc => ((h12.handed (unhide HFEW).1 (unhide HFEW).2).own j hj).lt hc
          have HDL := hide hdl
          clear H1 h11 h12 h13 h14 hF1 hdl
          simp only [Fm.cells]
          clear a0 a1 a2 a3 a4 a5 a6
          go_wp2_with fail
          have hW1 : (w1.alloc (.cells #[.int .i64 kd, .int .i64 ba, .int .i64 fs, .slice io' its.length ic', .slice bo' bts.length bc'] 36)).heap.size = w1.heap.size + 1 := heap_alloc _ _
          have HW1 := hide hW1
          clear hW1
          generalize w1.alloc (.cells #[.int .i64 kd, .int .i64 ba, .int .i64 fs, .slice io' its.length ic', .slice bo' bts.length bc'] 36) = w1a at *
          generalize w1.heap.size = Zi at *
          have hAt : ∀ u, Fr (fun k => k = q) w1a u → Fm.At u ⟨kd, ba, fs, its, bts⟩ io' bo' bc' := fun u hu => ⟨((unhide HL1).stay hu (fun k t => by have t : k = q := t; have := unhide HQX; omega)).rows (by have := (unhide HFEW).1; show its.length ≤ _; omega), (Row.bat ((unhide HR1).1.frame hu (fun t => by have t : gb = q := t; have := (unhide HR1).2; have := unhide HQX; omega)) (unhide HF).bytes.2.2).2⟩
          have HAT := hide hAt
          clear hAt
          refine (got_all (unhide HK1).rv (unhide HK1).nb ⟨kd, ba, fs, its, bts⟩ io' ic' bo' bc' (unhide HAT)).mono ?_
          obtain ⟨n2, hn2⟩ : ∃ n2, (gotF n ⟨kd, ba, fs, its, bts⟩).1 = n2 := ⟨_, rfl⟩
          obtain ⟨L, hL⟩ : ∃ L, (gotF n ⟨kd, ba, fs, its, bts⟩).2 = L := ⟨_, rfl⟩
          have HGF := hide (gotF_fits (unhide HKA).nb ⟨kd, ba, fs, its, bts⟩)
          rw [hn2, hL] at HGF
          have HNL := hide (And.intro hn2 hL)
          rw [hn2, hL]
          clear hn2 hL
          rintro e w2 ⟨ro, rc, rfl, H2⟩
          have HI2 := hide ((unhide HI1).frame (unhide H2).2.2 (by show ¬ Zi = q; have := unhide HQX; have := unhide HS1; omega))
          have HZ2 := hide ((unhide HZ1).frame (unhide H2).2.2 (by show ¬ Z = q; exact (unhide HZN).1))
          have HF2 : Hid (Fr (fun _ => False) w w2) := hide ((unhide HK1).fr.trans (unhide H2).2.2 (fun k hk t => by have t : k = q := t; have := (unhide HKA).lo; omega))
          have b0 : w2.cell? ⟨Zi, 0, none⟩ = some (.int .i64 kd) := (unhide HI2).cell 0
          have b1 : w2.cell? ⟨Zi, 1, none⟩ = some (.int .i64 ba) := (unhide HI2).cell 1
          have b2 : w2.cell? ⟨Zi, 2, none⟩ = some (.int .i64 fs) := (unhide HI2).cell 2
          have b3 : w2.cell? ⟨Zi, 3, none⟩ = some (.slice io' its.length ic') := (unhide HI2).cell 3
          have b4 : w2.cell? ⟨Zi, 4, none⟩ = some (.slice bo' bts.length bc') := (unhide HI2).cell 4
          have c0 : w2.cell? ⟨Z, 0, none⟩ = some (.int .i64 2) := (unhide HZ2).cell 0
          have c1 : w2.cell? ⟨Z, 1, none⟩ = some (.int .i64 sq) := (unhide HZ2).cell 1
          have c2 : w2.cell? ⟨Z, 2, none⟩ = some (.int .i64 kd) := (unhide HZ2).cell 2
          have c3 : w2.cell? ⟨Z, 3, none⟩ = some (.int .i64 ba) := (unhide HZ2).cell 3
          have c4 : w2.cell? ⟨Z, 4, none⟩ = some (.int .i64 fs) := (unhide HZ2).cell 4
          have c5 : w2.cell? ⟨Z, 5, none⟩ = some (.slice io its.length ic) := (unhide HZ2).cell 5
          have c6 : w2.cell? ⟨Z, 6, none⟩ = some (.slice bo bts.length bc) := (unhide HZ2).cell 6
          go_wp2_with fail
          refine (same_eq w2 ⟨kd, ba, fs, its, bts⟩ io' ic' bo' bc' io ic bo bc (unhide HAT w2 (unhide H2).2.2) ((unhide HF).later (unhide HF2))).mono ?_
          rintro e w3 ⟨rfl, h3⟩
          have HI3 := hide ((unhide HI2).keep (unhide h3))
          have HZ3 := hide ((unhide HZ2).keep (unhide h3))
          have HL3 := hide (((unhide HL1).stay (unhide H2).2.2 (fun k t => by have t : k = q := t; have := unhide HQX; omega)).frame (unhide h3) (fun _ t => t) (fun _ _ _ t => t))
          clear b0 b1 b2 b3 b4 c0 c1 c2 c3 c4 c5 c6
          have b0 : w3.cell? ⟨Zi, 0, none⟩ = some (.int .i64 kd) := (unhide HI3).cell 0
          have b1 : w3.cell? ⟨Zi, 1, none⟩ = some (.int .i64 ba) := (unhide HI3).cell 1
          have b2 : w3.cell? ⟨Zi, 2, none⟩ = some (.int .i64 fs) := (unhide HI3).cell 2
          have b3 : w3.cell? ⟨Zi, 3, none⟩ = some (.slice io' its.length ic') := (unhide HI3).cell 3
          have b4 : w3.cell? ⟨Zi, 4, none⟩ = some (.slice bo' bts.length bc') := (unhide HI3).cell 4
          have HRO : Hid (0 < its.length → io' = some ⟨ib, 0, none⟩) := hide (fun h0 => (unhide HL3).row.ad (by have := (unhide HL3).row.le; rw [List.length_map, (unhide HL3).n1] at this; omega))
          go_wp2_with fail
          refine (owned_any w3 io' ib its.length ic' (unhide HRO) _ ((unhide HL3).handed (unhide HFEW).1 (unhide HFEW).2)).mono ?_
          rintro e w4 ⟨rfl, h4⟩
          have HS4 : Hid (∀ k, (∃ j, j < its.length ∧ 0 < (ds.getD j ⟨none, 0, 0, 0⟩).cap ∧ k = (ds.getD j ⟨none, 0, 0, 0⟩).g) → wA.heap.size ≤ k ∧ k < Zi) := by
            refine hide (fun k t => ?_)
            obtain ⟨j, hj, hc, rfl⟩ := t
            refine ⟨?_, unhide HDL j hj hc⟩
            have hj' : j < ds.length := by rw [(unhide HL3).n1]; exact hj
            rw [List.getD_eq_getElem?_getD, List.getElem?_eq_getElem hj'] at hc ⊢
            exact ((unhide HL3).in' (List.getElem_mem hj') hc).1
          have HZ4 := hide ((unhide HZ3).frame h4 (fun t => by have := unhide HS4 _ t; have := unhide HQX; omega))
          have HF4 : Hid (Fr (fun _ => False) w w4) := hide (((unhide HF2).trans (unhide h3) (fun _ _ t => t)).trans h4 (fun k hk t => by have := unhide HS4 _ t; have := unhide HQX; have := (unhide HKA).lo; omega))
          have HB4 : Hid (RB w4 X n) := hide ((((unhide HK1).rb.frame (unhide H2).2.2 (by show ¬ X = q; have := (unhide HKA).lo; omega)).keep (unhide h3)).frame h4 (fun t => by have := unhide HS4 _ t; have := unhide HQX; omega))
          have HV4 : Hid (RV w4 q n2) := hide ((Bx.keep (unhide H2).1 (unhide h3)).frame h4 (fun t => by have := unhide HS4 _ t; have := unhide HQX; omega))
          have HT4 : Hid (∀ u, Fr (fun k => k = X ∨ k = q) w4 u → ItsAt u ro L) := by
            refine hide (fun u hu => (unhide H2).2.1 u ?_)
            refine (((unhide h3).mono (fun _ _ t => t.elim)).trans h4 (fun k _ t => ?_)).trans hu (fun k _ t => ?_)
            · have := unhide HS4 _ t; have := unhide HW1; omega
            · have t : k = X ∨ k = q := t; have := unhide HQX; have := unhide HS1; have := unhide HW1; omega
          clear h4 H2 h3 b0 b1 b2 b3 b4
          have c0 : w4.cell? ⟨Z, 0, none⟩ = some (.int .i64 2) := (unhide HZ4).cell 0
          have c1 : w4.cell? ⟨Z, 1, none⟩ = some (.int .i64 sq) := (unhide HZ4).cell 1
          have c2 : w4.cell? ⟨Z, 2, none⟩ = some (.int .i64 kd) := (unhide HZ4).cell 2
          have c3 : w4.cell? ⟨Z, 3, none⟩ = some (.int .i64 ba) := (unhide HZ4).cell 3
          have c4 : w4.cell? ⟨Z, 4, none⟩ = some (.int .i64 fs) := (unhide HZ4).cell 4
          have c5 : w4.cell? ⟨Z, 5, none⟩ = some (.slice io its.length ic) := (unhide HZ4).cell 5
          have c6 : w4.cell? ⟨Z, 6, none⟩ = some (.slice bo bts.length bc) := (unhide HZ4).cell 6
          go_wp2_with fail
          refine (rgot_all (unhide HB4) (unhide HKA).nb ⟨kd, ba, fs, its, bts⟩ io ic bo bc (fun u hu => (unhide HF).later ((unhide HF4).trans hu (fun k hk t => by have t : k = X := t; have := (unhide HKA).lo; omega)))).mono ?_
          rw [(unhide HNL).1, (unhide HNL).2]
          rintro e w5 ⟨ro5, rc5, rfl, H5⟩
          have HT5 : Hid (∀ u, Fr (fun k => k = X ∨ k = q) w5 u → ItsAt u ro L) := hide (fun u hu => unhide HT4 u (((unhide H5).2.2.mono (fun _ _ t => .inl t)).trans hu (fun _ _ t => t)))
          go_wp2_with fail
          refine (sameitems_eq w5 L ro rc ro5 rc5 (unhide HT5 w5 (Fr.refl _ _)) (unhide H5).2.1).mono ?_
          rintro e w6 ⟨rfl, h6⟩
          have HK6 : Hid (TKs w q X n2 w6) := by
            obtain ⟨a1, a2, a3⟩ := unhide H5
            have hlo := (unhide HKA).lo
            refine hide (TKs.keep ⟨(unhide HF4).trans a3 (fun k hk t => by have t : k = X := t; omega), Bx.frame (unhide HV4) a3 (by show ¬ q = X; omega), a1, hlo, (unhide HGF).1⟩ (unhide h6))
          have HZ6 : Hid (Bx w6 Z #[.int .i64 2, .int .i64 sq, .int .i64 kd, .int .i64 ba, .int .i64 fs, .slice io its.length ic, .slice bo bts.length bc] 38) := hide (((unhide HZ4).frame (unhide H5).2.2 (by show ¬ Z = X; exact (unhide HZN).2)).keep (unhide h6))
          have HT6 : Hid (∀ u, Fr (fun k => k = X ∨ k = q) w6 u → ItsAt u ro L) := hide (fun u hu => unhide HT5 u (((unhide h6).mono (fun _ _ t => t.elim)).trans hu (fun _ _ t => t)))
          clear H5 h6 HT5 HT4 HV4 HB4 HF4 HZ4 HS4 c0 c1 c2 c3 c4 c5 c6
          have c0 : w6.cell? ⟨Z, 0, none⟩ = some (.int .i64 2) := (unhide HZ6).cell 0
          by_cases hl0 : L.length = 0
          · have u1 : decide ((L.length : Int) > 0) = false := decide_eq_false (by omega)
            have u2 : decide (0 < L.length) = false := decide_eq_false (by omega)
            clear hl0
            go_wp2
            go_meet
            exact ⟨n2, hide ⟨unhide HK6, unhide HZ6⟩⟩
          · obtain ⟨k, hk⟩ : ∃ k, L.length = k + 1 := ⟨L.length - 1, by omega⟩
            have hk8 : (k : Int) ≤ 8 := by have := (unhide HGF).2; omega
            obtain ⟨lb, lo, e, _⟩ := (unhide HT6 w6 (Fr.refl _ _)).cells (by omega)
            subst e
            obtain ⟨sy, hsy⟩ : ∃ sy, (L[k]'(by omega)).seq = sy := ⟨_, rfl⟩
            have HL7 : Hid (∀ u, Fr (fun k => k = X ∨ k = q) w6 u → u.cell? ⟨lb, lo + k * 2, none⟩ = some (.int .i64 sy)) := by
              refine hide (fun u hu => ?_)
              obtain ⟨lb2, lo2, e2, hc2⟩ := (unhide HT6 u hu).cells (by omega)
              injection e2 with e2
              injection e2 with e3 e4
              subst e3 e4
              rw [← hsy]
              exact (hc2 k (by omega)).1
            rw [hk]
            have u1 : decide (((k + 1 : Nat) : Int) > 0) = true := decide_eq_true (by omega)
            have l6 := unhide HL7 w6 (Fr.refl _ _)
            clear hl0 hsy hk
            go_wp2_with fail
            refine (take_any (unhide HK6).rv sy).mono ?_
            rintro e w7 ⟨rfl, r1, r2, r3⟩
            have l7 := unhide HL7 w7 (r2.mono (fun _ _ t => .inr t))
            have HB7 : Hid (RB w7 X n2) := hide (Bx.frame (unhide HK6).rb r2 (by show ¬ X = q; have := (unhide HK6).lo; omega))
            have H7 := hide (And.intro r1 r2)
            clear r1 r2 r3 l6
            go_wp2_with fail
            refine (rtake_any (unhide HB7) sy).mono ?_
            rintro e w8 ⟨rfl, r1, r2, r3⟩
            have HK8 : Hid (TKs w q X (takeF n2 sy) w8 ∧ Bx w8 Z #[.int .i64 2, .int .i64 sq, .int .i64 kd, .int .i64 ba, .int .i64 fs, .slice io its.length ic, .slice bo bts.length bc] 38) := by
              have hk6 := unhide HK6
              have hlo := hk6.lo
              have hzn := unhide HZN
              obtain ⟨t1, t2⟩ := unhide H7
              exact hide ⟨⟨(hk6.fr.trans t2 (fun k hk t => by have t : k = q := t; omega)).trans r2 (fun k hk t => by have t : k = X := t; omega), Bx.frame t1 r2 (by show ¬ q = X; omega), r1, hlo, takeF_fits hk6.nb sy⟩, ((unhide HZ6).frame t2 (by show ¬ Z = q; omega)).frame r2 (by show ¬ Z = X; omega)⟩
            clear r1 r2 r3 l7 H7 HB7 HL7
            go_wp2
            go_meet
            exact ⟨takeF n2 sy, HK8⟩
        case rest =>
          obtain ⟨n9, HC⟩ := hcut
          have HZ9 := hide (unhide HC).2
          have HKT := hide (unhide HC).1
          clear HC HKA HXA a0 a1
          have y0 : wc.cell? ⟨Z, 0, none⟩ = some (.int .i64 2) := (unhide HZ9).cell 0
          by_cases hn0 : n9 = 0
          · subst hn0
            go_wp2_with fail
            refine (ack_none (unhide HKT).rv (Int.le_refl 0)).mono ?_
            rintro e w7 ⟨rfl, h7⟩
            have HK7 := hide (((unhide HKT).keep (unhide h7)).keep ((Fr.refl (fun _ => False) _).alloc (.cells #[.int .i64 0, .int .i64 0, .int .i64 0, .slice none 0 0, .slice none 0 0] 36)))
            have HA7 := hide (Bx.new w7 #[.int .i64 0, .int .i64 0, .int .i64 0, .slice none 0 0, .slice none 0 0] 36)
            clear h7 HKT
            go_wp2_with fail
            generalize w7.alloc (.cells #[.int .i64 0, .int .i64 0, .int .i64 0, .slice none 0 0, .slice none 0 0] 36) = w7a at *
            generalize w7.heap.size = Za at *
            refine (rack_none (unhide HK7).rb).mono ?_
            rintro e w8 ⟨rfl, h8⟩
            have HK8 := hide (((unhide HK7).keep (unhide h8)).keep ((Fr.refl (fun _ => False) _).alloc (.cells #[.int .i64 0, .int .i64 0, .int .i64 0, .slice none 0 0, .slice none 0 0] 36)))
            have HA8 := hide (((unhide HA7).keep (unhide h8)).keep ((Fr.refl (fun _ => False) _).alloc (.cells #[.int .i64 0, .int .i64 0, .int .i64 0, .slice none 0 0, .slice none 0 0] 36)))
            clear HA7 HK7 h8
            have g0 : (w8.alloc (.cells #[.int .i64 0, .int .i64 0, .int .i64 0, .slice none 0 0, .slice none 0 0] 36)).cell? ⟨Za, 0, none⟩ = some (.int .i64 0) := (unhide HA8).cell 0
            have g1 : (w8.alloc (.cells #[.int .i64 0, .int .i64 0, .int .i64 0, .slice none 0 0, .slice none 0 0] 36)).cell? ⟨Za, 1, none⟩ = some (.int .i64 0) := (unhide HA8).cell 1
            have g2 : (w8.alloc (.cells #[.int .i64 0, .int .i64 0, .int .i64 0, .slice none 0 0, .slice none 0 0] 36)).cell? ⟨Za, 2, none⟩ = some (.int .i64 0) := (unhide HA8).cell 2
            have g3 : (w8.alloc (.cells #[.int .i64 0, .int .i64 0, .int .i64 0, .slice none 0 0, .slice none 0 0] 36)).cell? ⟨Za, 3, none⟩ = some (.slice none 0 0) := (unhide HA8).cell 3
            have g4 : (w8.alloc (.cells #[.int .i64 0, .int .i64 0, .int .i64 0, .slice none 0 0, .slice none 0 0] 36)).cell? ⟨Za, 4, none⟩ = some (.slice none 0 0) := (unhide HA8).cell 4
            have HA9 := hide (Bx.new w8 #[.int .i64 0, .int .i64 0, .int .i64 0, .slice none 0 0, .slice none 0 0] 36)
            go_wp2_with fail
            generalize w8.alloc (.cells #[.int .i64 0, .int .i64 0, .int .i64 0, .slice none 0 0, .slice none 0 0] 36) = w8a at *
            have hEm : Fm.At w8a ⟨0, 0, 0, [], []⟩ none none 0 := ⟨⟨fun h0 => absurd h0 (by simp), by simp⟩, ⟨fun _ => ⟨rfl, rfl⟩, fun h0 => absurd h0 (by simp), by simp⟩⟩
            refine (same_eq w8a ⟨0, 0, 0, [], []⟩ none 0 none 0 none 0 none 0 hEm hEm).mono ?_
            rintro e wE ⟨rfl, hE⟩
            have HKE := hide ((unhide HK8).keep (unhide hE))
            clear HK8 HA8 HA9 hE hEm g0 g1 g2 g3 g4
            go_wp2
            exact ⟨⟨i + 1, 0, by omega, by go_num, HKE⟩, by simp [intOf]; omega⟩
          · have hnb : n9 ≤ 4294967296 := (unhide HKT).nb.2
            have hnc : 0 ≤ n9 := (unhide HKT).nb.1
            go_wp2_with fail
            refine (ack_some (unhide HKT).rv (by have := (unhide HKT).nb; omega) (unhide HKT).nb.2).mono ?_
            rintro e w7 ⟨rfl, h7⟩
            have HK7 := hide (((unhide HKT).keep (unhide h7)).keep ((Fr.refl (fun _ => False) _).alloc (.cells #[.int .i64 2, .int .i64 0, .int .i64 (n9 - 1), .slice none 0 0, .slice none 0 0] 36)))
            have HA7 := hide (Bx.new w7 #[.int .i64 2, .int .i64 0, .int .i64 (n9 - 1), .slice none 0 0, .slice none 0 0] 36)
            clear h7 HKT
            go_wp2_with fail
            generalize w7.alloc (.cells #[.int .i64 2, .int .i64 0, .int .i64 (n9 - 1), .slice none 0 0, .slice none 0 0] 36) = w7a at *
            generalize w7.heap.size = Za at *
            refine (rack_some (unhide HK7).rb (by have := (unhide HK7).nb; omega) (unhide HK7).nb.2).mono ?_
            rintro e w8 ⟨rfl, h8⟩
            have HK8 := hide (((unhide HK7).keep (unhide h8)).keep ((Fr.refl (fun _ => False) _).alloc (.cells #[.int .i64 2, .int .i64 0, .int .i64 (n9 - 1), .slice none 0 0, .slice none 0 0] 36)))
            have HA8 := hide (((unhide HA7).keep (unhide h8)).keep ((Fr.refl (fun _ => False) _).alloc (.cells #[.int .i64 2, .int .i64 0, .int .i64 (n9 - 1), .slice none 0 0, .slice none 0 0] 36)))
            clear HA7 HK7 h8
            have g0 : (w8.alloc (.cells #[.int .i64 2, .int .i64 0, .int .i64 (n9 - 1), .slice none 0 0, .slice none 0 0] 36)).cell? ⟨Za, 0, none⟩ = some (.int .i64 2) := (unhide HA8).cell 0
            have g1 : (w8.alloc (.cells #[.int .i64 2, .int .i64 0, .int .i64 (n9 - 1), .slice none 0 0, .slice none 0 0] 36)).cell? ⟨Za, 1, none⟩ = some (.int .i64 0) := (unhide HA8).cell 1
            have g2 : (w8.alloc (.cells #[.int .i64 2, .int .i64 0, .int .i64 (n9 - 1), .slice none 0 0, .slice none 0 0] 36)).cell? ⟨Za, 2, none⟩ = some (.int .i64 (n9 - 1)) := (unhide HA8).cell 2
            have g3 : (w8.alloc (.cells #[.int .i64 2, .int .i64 0, .int .i64 (n9 - 1), .slice none 0 0, .slice none 0 0] 36)).cell? ⟨Za, 3, none⟩ = some (.slice none 0 0) := (unhide HA8).cell 3
            have g4 : (w8.alloc (.cells #[.int .i64 2, .int .i64 0, .int .i64 (n9 - 1), .slice none 0 0, .slice none 0 0] 36)).cell? ⟨Za, 4, none⟩ = some (.slice none 0 0) := (unhide HA8).cell 4
            have HA9 := hide (Bx.new w8 #[.int .i64 2, .int .i64 0, .int .i64 (n9 - 1), .slice none 0 0, .slice none 0 0] 36)
            go_wp2_with fail
            generalize w8.alloc (.cells #[.int .i64 2, .int .i64 0, .int .i64 (n9 - 1), .slice none 0 0, .slice none 0 0] 36) = w8a at *
            have hEm : Fm.At w8a ⟨2, 0, n9 - 1, [], []⟩ none none 0 := ⟨⟨fun h0 => absurd h0 (by simp), by simp⟩, ⟨fun _ => ⟨rfl, rfl⟩, fun h0 => absurd h0 (by simp), by simp⟩⟩
            refine (same_eq w8a ⟨2, 0, n9 - 1, [], []⟩ none 0 none 0 none 0 none 0 hEm hEm).mono ?_
            rintro e wE ⟨rfl, hE⟩
            have HKE := hide ((unhide HK8).keep (unhide hE))
            clear HK8 HA8 HA9 hE hEm g0 g1 g2 g3 g4
            go_wp2
            exact ⟨⟨i + 1, n9, by omega, by go_num, HKE⟩, by simp [intOf]; omega⟩
      have q0 : (dk == 0) = false := by simp [d0]
      have q2 : (dk == 2) = false := by simp [d2]
      have a0 : wA.cell? ⟨Z, 0, none⟩ = some (.int .i64 dk) := (unhide HXA).cell 0
      have a1 : wA.cell? ⟨Z, 1, none⟩ = some (.int .i64 sq) := (unhide HXA).cell 1
      go_upto_if 46 with (fail)
      go_cut [] from 46 to 102 (fun wc => ∃ n9 : Int, Hid (TKs w q X n9 wc ∧ Bx wc Z #[.int .i64 dk, .int .i64 sq, .int .i64 kd, .int .i64 ba, .int .i64 fs, .slice io its.length ic, .slice bo bts.length bc] 38))
      case first =>
        clear a0 a1
        go_wp2
        go_meet
        exact ⟨n, hide ⟨unhide HKA, unhide HXA⟩⟩
      case rest =>
        obtain ⟨n9, HC⟩ := hcut
        have HZ9 := hide (unhide HC).2
        have HKT := hide (unhide HC).1
        clear HC HKA HXA a0 a1
        have y0 : wc.cell? ⟨Z, 0, none⟩ = some (.int .i64 dk) := (unhide HZ9).cell 0
        have y1 : wc.cell? ⟨Z, 1, none⟩ = some (.int .i64 sq) := (unhide HZ9).cell 1
        by_cases d1 : dk = 1
        · subst d1
          clear d0 d2 q0 q2
          go_wp2_with fail
          refine (take_any (unhide HKT).rv sq).mono ?_
          rintro e w7 ⟨rfl, r1, r2, r3⟩
          have HB7 : Hid (RB w7 X n9) := hide (Bx.frame (unhide HKT).rb r2 (by show ¬ X = q; have := (unhide HKT).lo; omega))
          have HZ7 := hide ((unhide HZ9).frame r2 (by show ¬ Z = q; exact (unhide HZN).1))
          have H7 := hide (And.intro r1 r2)
          clear r1 r2 r3
          have x1 : w7.cell? ⟨Z, 1, none⟩ = some (.int .i64 sq) := (unhide HZ7).cell 1
          go_wp2_with fail
          refine (rtake_any (unhide HB7) sq).mono ?_
          rintro e w8 ⟨rfl, r1, r2, r3⟩
          have HK8 : Hid (TKs w q X (takeF n9 sq) w8) := by
            have hk6 := unhide HKT
            have hlo := hk6.lo
            obtain ⟨t1, t2⟩ := unhide H7
            exact hide ⟨(hk6.fr.trans t2 (fun k hk t => by have t : k = q := t; omega)).trans r2 (fun k hk t => by have t : k = X := t; omega), Bx.frame t1 r2 (by show ¬ q = X; omega), r1, hlo, takeF_fits hk6.nb sq⟩
          clear r1 r2 r3 H7 HB7 HZ7 HKT HZ9 x1 y0 y1
          generalize takeF n9 sq = n8 at *
          by_cases hn0 : n8 = 0
          · subst hn0
            go_wp2_with fail
            refine (ack_none (unhide HK8).rv (Int.le_refl 0)).mono ?_
            rintro e w7 ⟨rfl, h7⟩
            have HK7 := hide (((unhide HK8).keep (unhide h7)).keep ((Fr.refl (fun _ => False) _).alloc (.cells #[.int .i64 0, .int .i64 0, .int .i64 0, .slice none 0 0, .slice none 0 0] 36)))
            have HA7 := hide (Bx.new w7 #[.int .i64 0, .int .i64 0, .int .i64 0, .slice none 0 0, .slice none 0 0] 36)
            clear h7 HK8
            go_wp2_with fail
            generalize w7.alloc (.cells #[.int .i64 0, .int .i64 0, .int .i64 0, .slice none 0 0, .slice none 0 0] 36) = w7a at *
            generalize w7.heap.size = Za at *
            refine (rack_none (unhide HK7).rb).mono ?_
            rintro e wv ⟨rfl, h8⟩
            have HKV := hide (((unhide HK7).keep (unhide h8)).keep ((Fr.refl (fun _ => False) _).alloc (.cells #[.int .i64 0, .int .i64 0, .int .i64 0, .slice none 0 0, .slice none 0 0] 36)))
            have HA8 := hide (((unhide HA7).keep (unhide h8)).keep ((Fr.refl (fun _ => False) _).alloc (.cells #[.int .i64 0, .int .i64 0, .int .i64 0, .slice none 0 0, .slice none 0 0] 36)))
            clear HA7 HK7 h8
            have g0 : (wv.alloc (.cells #[.int .i64 0, .int .i64 0, .int .i64 0, .slice none 0 0, .slice none 0 0] 36)).cell? ⟨Za, 0, none⟩ = some (.int .i64 0) := (unhide HA8).cell 0
            have g1 : (wv.alloc (.cells #[.int .i64 0, .int .i64 0, .int .i64 0, .slice none 0 0, .slice none 0 0] 36)).cell? ⟨Za, 1, none⟩ = some (.int .i64 0) := (unhide HA8).cell 1
            have g2 : (wv.alloc (.cells #[.int .i64 0, .int .i64 0, .int .i64 0, .slice none 0 0, .slice none 0 0] 36)).cell? ⟨Za, 2, none⟩ = some (.int .i64 0) := (unhide HA8).cell 2
            have g3 : (wv.alloc (.cells #[.int .i64 0, .int .i64 0, .int .i64 0, .slice none 0 0, .slice none 0 0] 36)).cell? ⟨Za, 3, none⟩ = some (.slice none 0 0) := (unhide HA8).cell 3
            have g4 : (wv.alloc (.cells #[.int .i64 0, .int .i64 0, .int .i64 0, .slice none 0 0, .slice none 0 0] 36)).cell? ⟨Za, 4, none⟩ = some (.slice none 0 0) := (unhide HA8).cell 4
            have HA9 := hide (Bx.new wv #[.int .i64 0, .int .i64 0, .int .i64 0, .slice none 0 0, .slice none 0 0] 36)
            go_wp2_with fail
            generalize wv.alloc (.cells #[.int .i64 0, .int .i64 0, .int .i64 0, .slice none 0 0, .slice none 0 0] 36) = wva at *
            have hEm : Fm.At wva ⟨0, 0, 0, [], []⟩ none none 0 := ⟨⟨fun h0 => absurd h0 (by simp), by simp⟩, ⟨fun _ => ⟨rfl, rfl⟩, fun h0 => absurd h0 (by simp), by simp⟩⟩
            refine (same_eq wva ⟨0, 0, 0, [], []⟩ none 0 none 0 none 0 none 0 hEm hEm).mono ?_
            rintro e wE ⟨rfl, hE⟩
            have HKE := hide ((unhide HKV).keep (unhide hE))
            clear HKV HA8 HA9 hE hEm g0 g1 g2 g3 g4
            go_wp2
            exact ⟨⟨i + 1, 0, by omega, by go_num, HKE⟩, by simp [intOf]; omega⟩
          · have hnb : n8 ≤ 4294967296 := (unhide HK8).nb.2
            have hnc : 0 ≤ n8 := (unhide HK8).nb.1
            go_wp2_with fail
            refine (ack_some (unhide HK8).rv (by have := (unhide HK8).nb; omega) (unhide HK8).nb.2).mono ?_
            rintro e w7 ⟨rfl, h7⟩
            have HK7 := hide (((unhide HK8).keep (unhide h7)).keep ((Fr.refl (fun _ => False) _).alloc (.cells #[.int .i64 2, .int .i64 0, .int .i64 (n8 - 1), .slice none 0 0, .slice none 0 0] 36)))
            have HA7 := hide (Bx.new w7 #[.int .i64 2, .int .i64 0, .int .i64 (n8 - 1), .slice none 0 0, .slice none 0 0] 36)
            clear h7 HK8
            go_wp2_with fail
            generalize w7.alloc (.cells #[.int .i64 2, .int .i64 0, .int .i64 (n8 - 1), .slice none 0 0, .slice none 0 0] 36) = w7a at *
            generalize w7.heap.size = Za at *
            refine (rack_some (unhide HK7).rb (by have := (unhide HK7).nb; omega) (unhide HK7).nb.2).mono ?_
            rintro e wv ⟨rfl, h8⟩
            have HKV := hide (((unhide HK7).keep (unhide h8)).keep ((Fr.refl (fun _ => False) _).alloc (.cells #[.int .i64 2, .int .i64 0, .int .i64 (n8 - 1), .slice none 0 0, .slice none 0 0] 36)))
            have HA8 := hide (((unhide HA7).keep (unhide h8)).keep ((Fr.refl (fun _ => False) _).alloc (.cells #[.int .i64 2, .int .i64 0, .int .i64 (n8 - 1), .slice none 0 0, .slice none 0 0] 36)))
            clear HA7 HK7 h8
            have g0 : (wv.alloc (.cells #[.int .i64 2, .int .i64 0, .int .i64 (n8 - 1), .slice none 0 0, .slice none 0 0] 36)).cell? ⟨Za, 0, none⟩ = some (.int .i64 2) := (unhide HA8).cell 0
            have g1 : (wv.alloc (.cells #[.int .i64 2, .int .i64 0, .int .i64 (n8 - 1), .slice none 0 0, .slice none 0 0] 36)).cell? ⟨Za, 1, none⟩ = some (.int .i64 0) := (unhide HA8).cell 1
            have g2 : (wv.alloc (.cells #[.int .i64 2, .int .i64 0, .int .i64 (n8 - 1), .slice none 0 0, .slice none 0 0] 36)).cell? ⟨Za, 2, none⟩ = some (.int .i64 (n8 - 1)) := (unhide HA8).cell 2
            have g3 : (wv.alloc (.cells #[.int .i64 2, .int .i64 0, .int .i64 (n8 - 1), .slice none 0 0, .slice none 0 0] 36)).cell? ⟨Za, 3, none⟩ = some (.slice none 0 0) := (unhide HA8).cell 3
            have g4 : (wv.alloc (.cells #[.int .i64 2, .int .i64 0, .int .i64 (n8 - 1), .slice none 0 0, .slice none 0 0] 36)).cell? ⟨Za, 4, none⟩ = some (.slice none 0 0) := (unhide HA8).cell 4
            have HA9 := hide (Bx.new wv #[.int .i64 2, .int .i64 0, .int .i64 (n8 - 1), .slice none 0 0, .slice none 0 0] 36)
            go_wp2_with fail
            generalize wv.alloc (.cells #[.int .i64 2, .int .i64 0, .int .i64 (n8 - 1), .slice none 0 0, .slice none 0 0] 36) = wva at *
            have hEm : Fm.At wva ⟨2, 0, n8 - 1, [], []⟩ none none 0 := ⟨⟨fun h0 => absurd h0 (by simp), by simp⟩, ⟨fun _ => ⟨rfl, rfl⟩, fun h0 => absurd h0 (by simp), by simp⟩⟩
            refine (same_eq wva ⟨2, 0, n8 - 1, [], []⟩ none 0 none 0 none 0 none 0 hEm hEm).mono ?_
            rintro e wE ⟨rfl, hE⟩
            have HKE := hide ((unhide HKV).keep (unhide hE))
            clear HKV HA8 HA9 hE hEm g0 g1 g2 g3 g4
            go_wp2
            exact ⟨⟨i + 1, n8, by omega, by go_num, HKE⟩, by simp [intOf]; omega⟩
        · have q1 : (dk == 1) = false := by simp [d1]
          clear d0 d1 d2
          by_cases hn0 : n9 = 0
          · subst hn0
            go_wp2_with fail
            refine (ack_none (unhide HKT).rv (Int.le_refl 0)).mono ?_
            rintro e w7 ⟨rfl, h7⟩
            have HK7 := hide (((unhide HKT).keep (unhide h7)).keep ((Fr.refl (fun _ => False) _).alloc (.cells #[.int .i64 0, .int .i64 0, .int .i64 0, .slice none 0 0, .slice none 0 0] 36)))
            have HA7 := hide (Bx.new w7 #[.int .i64 0, .int .i64 0, .int .i64 0, .slice none 0 0, .slice none 0 0] 36)
            clear h7 HKT
            go_wp2_with fail
            generalize w7.alloc (.cells #[.int .i64 0, .int .i64 0, .int .i64 0, .slice none 0 0, .slice none 0 0] 36) = w7a at *
            generalize w7.heap.size = Za at *
            refine (rack_none (unhide HK7).rb).mono ?_
            rintro e w8 ⟨rfl, h8⟩
            have HK8 := hide (((unhide HK7).keep (unhide h8)).keep ((Fr.refl (fun _ => False) _).alloc (.cells #[.int .i64 0, .int .i64 0, .int .i64 0, .slice none 0 0, .slice none 0 0] 36)))
            have HA8 := hide (((unhide HA7).keep (unhide h8)).keep ((Fr.refl (fun _ => False) _).alloc (.cells #[.int .i64 0, .int .i64 0, .int .i64 0, .slice none 0 0, .slice none 0 0] 36)))
            clear HA7 HK7 h8
            have g0 : (w8.alloc (.cells #[.int .i64 0, .int .i64 0, .int .i64 0, .slice none 0 0, .slice none 0 0] 36)).cell? ⟨Za, 0, none⟩ = some (.int .i64 0) := (unhide HA8).cell 0
            have g1 : (w8.alloc (.cells #[.int .i64 0, .int .i64 0, .int .i64 0, .slice none 0 0, .slice none 0 0] 36)).cell? ⟨Za, 1, none⟩ = some (.int .i64 0) := (unhide HA8).cell 1
            have g2 : (w8.alloc (.cells #[.int .i64 0, .int .i64 0, .int .i64 0, .slice none 0 0, .slice none 0 0] 36)).cell? ⟨Za, 2, none⟩ = some (.int .i64 0) := (unhide HA8).cell 2
            have g3 : (w8.alloc (.cells #[.int .i64 0, .int .i64 0, .int .i64 0, .slice none 0 0, .slice none 0 0] 36)).cell? ⟨Za, 3, none⟩ = some (.slice none 0 0) := (unhide HA8).cell 3
            have g4 : (w8.alloc (.cells #[.int .i64 0, .int .i64 0, .int .i64 0, .slice none 0 0, .slice none 0 0] 36)).cell? ⟨Za, 4, none⟩ = some (.slice none 0 0) := (unhide HA8).cell 4
            have HA9 := hide (Bx.new w8 #[.int .i64 0, .int .i64 0, .int .i64 0, .slice none 0 0, .slice none 0 0] 36)
            go_wp2_with fail
            generalize w8.alloc (.cells #[.int .i64 0, .int .i64 0, .int .i64 0, .slice none 0 0, .slice none 0 0] 36) = w8a at *
            have hEm : Fm.At w8a ⟨0, 0, 0, [], []⟩ none none 0 := ⟨⟨fun h0 => absurd h0 (by simp), by simp⟩, ⟨fun _ => ⟨rfl, rfl⟩, fun h0 => absurd h0 (by simp), by simp⟩⟩
            refine (same_eq w8a ⟨0, 0, 0, [], []⟩ none 0 none 0 none 0 none 0 hEm hEm).mono ?_
            rintro e wE ⟨rfl, hE⟩
            have HKE := hide ((unhide HK8).keep (unhide hE))
            clear HK8 HA8 HA9 hE hEm g0 g1 g2 g3 g4
            go_wp2
            exact ⟨⟨i + 1, 0, by omega, by go_num, HKE⟩, by simp [intOf]; omega⟩
          · have hnb : n9 ≤ 4294967296 := (unhide HKT).nb.2
            have hnc : 0 ≤ n9 := (unhide HKT).nb.1
            go_wp2_with fail
            refine (ack_some (unhide HKT).rv (by have := (unhide HKT).nb; omega) (unhide HKT).nb.2).mono ?_
            rintro e w7 ⟨rfl, h7⟩
            have HK7 := hide (((unhide HKT).keep (unhide h7)).keep ((Fr.refl (fun _ => False) _).alloc (.cells #[.int .i64 2, .int .i64 0, .int .i64 (n9 - 1), .slice none 0 0, .slice none 0 0] 36)))
            have HA7 := hide (Bx.new w7 #[.int .i64 2, .int .i64 0, .int .i64 (n9 - 1), .slice none 0 0, .slice none 0 0] 36)
            clear h7 HKT
            go_wp2_with fail
            generalize w7.alloc (.cells #[.int .i64 2, .int .i64 0, .int .i64 (n9 - 1), .slice none 0 0, .slice none 0 0] 36) = w7a at *
            generalize w7.heap.size = Za at *
            refine (rack_some (unhide HK7).rb (by have := (unhide HK7).nb; omega) (unhide HK7).nb.2).mono ?_
            rintro e w8 ⟨rfl, h8⟩
            have HK8 := hide (((unhide HK7).keep (unhide h8)).keep ((Fr.refl (fun _ => False) _).alloc (.cells #[.int .i64 2, .int .i64 0, .int .i64 (n9 - 1), .slice none 0 0, .slice none 0 0] 36)))
            have HA8 := hide (((unhide HA7).keep (unhide h8)).keep ((Fr.refl (fun _ => False) _).alloc (.cells #[.int .i64 2, .int .i64 0, .int .i64 (n9 - 1), .slice none 0 0, .slice none 0 0] 36)))
            clear HA7 HK7 h8
            have g0 : (w8.alloc (.cells #[.int .i64 2, .int .i64 0, .int .i64 (n9 - 1), .slice none 0 0, .slice none 0 0] 36)).cell? ⟨Za, 0, none⟩ = some (.int .i64 2) := (unhide HA8).cell 0
            have g1 : (w8.alloc (.cells #[.int .i64 2, .int .i64 0, .int .i64 (n9 - 1), .slice none 0 0, .slice none 0 0] 36)).cell? ⟨Za, 1, none⟩ = some (.int .i64 0) := (unhide HA8).cell 1
            have g2 : (w8.alloc (.cells #[.int .i64 2, .int .i64 0, .int .i64 (n9 - 1), .slice none 0 0, .slice none 0 0] 36)).cell? ⟨Za, 2, none⟩ = some (.int .i64 (n9 - 1)) := (unhide HA8).cell 2
            have g3 : (w8.alloc (.cells #[.int .i64 2, .int .i64 0, .int .i64 (n9 - 1), .slice none 0 0, .slice none 0 0] 36)).cell? ⟨Za, 3, none⟩ = some (.slice none 0 0) := (unhide HA8).cell 3
            have g4 : (w8.alloc (.cells #[.int .i64 2, .int .i64 0, .int .i64 (n9 - 1), .slice none 0 0, .slice none 0 0] 36)).cell? ⟨Za, 4, none⟩ = some (.slice none 0 0) := (unhide HA8).cell 4
            have HA9 := hide (Bx.new w8 #[.int .i64 2, .int .i64 0, .int .i64 (n9 - 1), .slice none 0 0, .slice none 0 0] 36)
            go_wp2_with fail
            generalize w8.alloc (.cells #[.int .i64 2, .int .i64 0, .int .i64 (n9 - 1), .slice none 0 0, .slice none 0 0] 36) = w8a at *
            have hEm : Fm.At w8a ⟨2, 0, n9 - 1, [], []⟩ none none 0 := ⟨⟨fun h0 => absurd h0 (by simp), by simp⟩, ⟨fun _ => ⟨rfl, rfl⟩, fun h0 => absurd h0 (by simp), by simp⟩⟩
            refine (same_eq w8a ⟨2, 0, n9 - 1, [], []⟩ none 0 none 0 none 0 none 0 hEm hEm).mono ?_
            rintro e wE ⟨rfl, hE⟩
            have HKE := hide ((unhide HK8).keep (unhide hE))
            clear HK8 HA8 HA9 hE hEm g0 g1 g2 g3 g4
            go_wp2
            exact ⟨⟨i + 1, n9, by omega, by go_num, HKE⟩, by simp [intOf]; omega⟩
    · obtain rfl : i = xs.length := by omega
      have HF := hide (unhide HK).fr
      clear HK
      go_wp2
      go_ret
      exact ⟨rfl, unhide HF⟩

end Go.Proofs.YtphkjeeblihfgaaDoor

