import Derived.Test.YtdbmmbnbgndllaaGreatDoorYWR
import Derived.Deep.Cut
import Derived.Deep.CutBlock
/- The walk of WalBack. -/
namespace Go.Proofs.YtdbmmbnbgndllaaGreatDoor
open Go.RowKit

set_option maxHeartbeats 4000000 in
set_option maxRecDepth 20000 in
theorem back_walk (w : World) (hT : TabAt w) (n0 : Int) (ao : Option Addr) (ac : Nat) (ps : List OpA) (hO : OpsAt w ao ps) :
    Calls Tryz.prog 5 #[.int .i64 n0, .slice ao ps.length ac] w fun e w' => e = .returned (.bool true) ∧ Fr (fun _ => False) w w' := by
  have A := awake9_any w hT
  obtain ⟨k, hk⟩ : ∃ k : Nat, n0 % 32 = (k : Int) := ⟨(n0 % 32).toNat, by omega⟩
  have hk31 : k ≤ 31 := by omega
  have hand : bits .and .i64 n0 31 = (k : Int) := (i64_and31 n0).trans hk
  have hkI : (k : Int) ≤ 31 := by omega
  have hh : hlf (4 + k) ≤ 16 := by unfold hlf; omega
  have hsm : (ps.length : Int) ≤ 140737488355328 := by have := hO.small; omega
  have HH := hide (And.intro hT (And.intro hO (And.intro hk31 hh)))
  have HA := hide A
  clear A hk hk31 hO hT hh
  go_enter Tryz.func5, Tryz.ntmps5
  go_wp2_with fail
  refine (unhide HA).mono ?_
  rintro e w1 ⟨rfl, hF1⟩
  have HF1 := hide hF1
  clear HA hF1
  have H1 : Hid (Calls Tryz.prog 14 #[.int .i64 (4 + (k : Int))] w1 fun e w' => ∃ R' p b, e = .returned (.pointer (some ⟨p, 0, none⟩)) ∧ Hid (Dn w' R' p b (4 + k) (Dk.new (4 + k)) ∧ Ch w w' (fun _ => 0) R')) := by
    obtain ⟨hT, hO, hk31, hh⟩ := unhide HH
    have h := new_dn w1 (fun _ => 0) ⟨hT.later (unhide HF1), rfl⟩ (fun _ _ => rfl) (4 + k) (by omega)
    rw [show ((4 + k : Nat) : Int) = 4 + (k : Int) by omega] at h
    refine hide (h.mono ?_)
    rintro e w' ⟨R', p, b, rfl, h1, h2, h3⟩
    exact ⟨R', p, b, rfl, hide ⟨h1, (((Ch.refl w _).keep (unhide HF1)).calm h2 h3)⟩⟩
  go_wp2_with fail
  refine (unhide H1).mono ?_
  rintro e w2 ⟨R2, hp, b, rfl, HB⟩
  clear H1
  have H2 : Hid (Calls Tryz.prog 21 #[.pointer (some ⟨hp, 0, none⟩)] w2 fun e w' => ∃ R' q, e = .returned (.pointer (some ⟨q, 0, none⟩)) ∧ Hid (Dsk w' R' q b (4 + k) ∧ Dn w' R' hp b (4 + k) (Dk.new (4 + k)) ∧ Ch w w' (fun _ => 0) R')) := by
    obtain ⟨D, c⟩ := unhide HB
    refine hide (D.disk.mono ?_)
    rintro e w' ⟨R', q, he, k1, k2, k3, k4⟩
    exact ⟨R', q, he, hide ⟨k1, k2, c.calm k3 k4⟩⟩
  go_wp2_with fail
  refine (unhide H2).mono ?_
  rintro e w3 ⟨R3, q, rfl, HC⟩
  clear H2 HB
  have H3 : Hid (Calls Tryz.prog 20 #[.pointer (some ⟨q, 0, none⟩)] w3 fun e w' => ∃ lg ro rc, e = .returned (.tuple #[.pointer (some ⟨lg, 0, none⟩), .slice ro 0 rc, .nilIface]) ∧ Hid (BK w w' hp b (4 + k) 3000 20 1 lg none 0 [] [] [])) := by
    obtain ⟨hT, hO, hk31, hh⟩ := unhide HH
    obtain ⟨kd, D, c⟩ := unhide HC
    refine hide ((Dn.first (B := 0) D kd rfl rfl (by omega) (by omega) (Nat.le_refl _) (by omega) (hold_new0 _ rfl rfl) c).mono ?_)
    rintro e w' ⟨lg, ro, rc, he, R', _, _, P⟩
    exact ⟨lg, ro, rc, he, hide ⟨R', q, 0, 0, 1, P.mono (by omega) (by omega), Nat.le_refl _, AllAt.nil _ _ _ _, Bxs.nil _ _ _ _⟩⟩
  go_wp2_with fail
  refine (unhide H3).mono ?_
  rintro e w4 ⟨lg, ro, rc, rfl, HD⟩
  clear H3 HC HF1
  go_wp2
  go_loopw [8, 11, 12] (fun v8 v11 iv wr => ∃ (i lg : Nat) (ao : Option Addr) (cap : Nat) (l : List Bs), i ≤ ps.length ∧ i ≤ 40 ∧ v8 = .pointer (some ⟨lg, 0, none⟩) ∧ v11 = .slice ao (List.length l) cap ∧ iv = .int .i64 (i : Nat) ∧ Hid (BK w wr hp b (4 + k) (3000 * (i + 1)) (20 * (i + 1)) (i + 1) lg ao cap l l [])) (fun _ _ iv _ => 40 - (intOf iv).toNat)
  case atStart => exact ⟨0, lg, none, 0, [], Nat.zero_le _, Nat.zero_le _, rfl, rfl, rfl, HD⟩
  case round =>
    obtain ⟨i, lg, bo, bc, l, hi, hi40, rfl, rfl, rfl, HR⟩ := hrel
    clear HD
    by_cases hlt : i < ps.length ∧ i < 40
    · obtain ⟨hl1, hl2⟩ := hlt
      have hI1 : (i : Int) < (ps.length : Int) := by omega
      have hI2 : (i : Int) < 40 := by omega
      obtain ⟨pb, po, hpa, hpc⟩ := (unhide HH).2.1.cells (by omega)
      subst hpa
      have hcl : ∀ j, j < 6 → wr.cell? ⟨pb, po + i * 6 + j, none⟩ = (ps[i].vals)[j]? := fun j hj => by
        have h := hpc i hl1 j hj
        have hlt : pb < w.heap.size := by
          have hs : ((ps[i].vals)[j]?).isSome = true := by
            have : j < ps[i].vals.length := by simpa [OpA.vals] using hj
            simp [this]
          rw [← h] at hs
          obtain ⟨u, hu⟩ := Option.isSome_iff_exists.1 hs
          exact World.block_lt_of_cell? _ _ hu
        exact ((unhide HR).fr.cell (a := ⟨pb, po + i * 6 + j, none⟩) hlt (fun t => t)).trans h
      obtain ⟨q, hq⟩ : ∃ q, q = ps[i] := ⟨_, rfl⟩
      rw [← hq] at hcl
      have HQ : Hid (q.ok w) := by rw [hq]; exact hide ((unhide HH).2.1.ok i hl1)
      clear hq hpc
      have c0 : wr.cell? ⟨pb, po + i * 6, none⟩ = some (.int .i64 q.kind) := hcl 0 (by omega)
      have c1 : wr.cell? ⟨pb, po + i * 6 + 1, none⟩ = some (.int .i64 q.num) := hcl 1 (by omega)
      have c2 : wr.cell? ⟨pb, po + i * 6 + 2, none⟩ = some (.slice q.bo q.bs.length q.bc) := hcl 2 (by omega)
      have c3 : wr.cell? ⟨pb, po + i * 6 + 3, none⟩ = some (.slice q.ro q.rs.length q.rc) := hcl 3 (by omega)
      have c4 : wr.cell? ⟨pb, po + i * 6 + 4, none⟩ = some (.bool q.more) := hcl 4 (by omega)
      have c5 : wr.cell? ⟨pb, po + i * 6 + 5, none⟩ = some (.slice q.ko q.ks.length q.kc) := hcl 5 (by omega)
      clear hcl
      go_upto_region 12 with (fail)
      have HV : Hid (BK w (wr.alloc (.cells #[.int .i64 q.kind, .int .i64 q.num, .slice q.bo q.bs.length q.bc, .slice q.ro q.rs.length q.rc, .bool q.more, .slice q.ko q.ks.length q.kc] 40)) hp b (4 + k) (3000 * (i + 1)) (20 * (i + 1)) (i + 1) lg bo bc l l [(wr.heap.size, #[.int .i64 q.kind, .int .i64 q.num, .slice q.bo q.bs.length q.bc, .slice q.ro q.rs.length q.rc, .bool q.more, .slice q.ko q.ks.length q.kc], 40)]) := hide ((unhide HR).new _ _)
      clear HR c0 c1 c2 c3 c4 c5
      generalize wr.alloc (.cells #[.int .i64 q.kind, .int .i64 q.num, .slice q.bo q.bs.length q.bc, .slice q.ro q.rs.length q.rc, .bool q.more, .slice q.ko q.ks.length q.kc] 40) = v at *
      generalize wr.heap.size = og at *
      have d0 : v.cell? ⟨og, 0, none⟩ = some (.int .i64 q.kind) := ((unhide HV).box (List.mem_singleton.2 rfl)).cell 0
      go_upto_block 2 with (fail)
      have hbi : (q.bs.length : Int) ≤ 140737488355328 := by have := (unhide HQ).bytes.2.2; omega
      have hri : (q.rs.length : Int) ≤ 140737488355328 := by have := (unhide HQ).rows.small; omega
      have hli : (l.length : Int) ≤ 100000 := by have := (unhide HV).fit; have := (unhide HH).2.2.2; omega
      go_cut [8, 11, 14, 15, 16, 17, 18, 19, 20, 21, 22] from 52 to 145 (fun v8 v11 _ _ _ _ _ _ _ _ _ wc => ∃ (lg : Nat) (ao : Option Addr) (cap : Nat) (l' : List Bs), v8 = .pointer (some ⟨lg, 0, none⟩) ∧ v11 = .slice ao (List.length l') cap ∧ Hid (BK w wc hp b (4 + k) (3000 * (i + 1 + 1)) (20 * (i + 1 + 1)) (i + 1 + 1) lg ao cap l' l' []))
      case first =>
        by_cases hk0 : q.kind = 0
        · have HRO := hide ((unhide HV).room (by omega) (by have := (unhide HH).2.2.1; omega))
          generalize hRM : (504 * (hlf (4 + k) : Int) - (bgn (strm l).length : Int) - 12) = RM at *
          have HRM := hide hRM
          clear hRM
          go_wp2_with fail
          refine (unhide HRO).mono ?_
          rintro e v1 ⟨rfl, hF1⟩
          have HV1 := hide ((unhide HV).keep (unhide hF1))
          clear hF1 HRO d0 HV
          have d2 : v1.cell? ⟨og, 2, none⟩ = some (.slice q.bo q.bs.length q.bc) := ((unhide HV1).box (List.mem_singleton.2 rfl)).cell 2
          have hsn : (strm (l ++ [q.bs])).length = bgn (strm l).length + 12 + q.bs.length := by rw [strm_snoc, addR_length]
          by_cases hfit : (strm (l ++ [q.bs])).length ≤ 504 * hlf (4 + k)
          · have hle : (q.bs.length : Int) ≤ RM := by have := unhide HRM; omega
            have HAp := hide ((unhide HV1).append (by omega) (by have := (unhide HH).2.2.1; omega) (by omega) q.bo q.bc q.bs (unhide HQ).bytes hfit)
            clear hsn hfit HV1
            go_wp2_with fail
            refine (unhide HAp).mono ?_
            rintro e v2 ⟨rfl, HV2⟩
            clear HAp d2
            have d2 : v2.cell? ⟨og, 2, none⟩ = some (.slice q.bo q.bs.length q.bc) := ((unhide HV2).box (List.mem_singleton.2 rfl)).cell 2
            go_upto_region 16 with (fail)
            go_region_held3 (fun w' => w'.cell? ⟨og, 2, none⟩ = some (.slice q.bo q.bs.length q.bc)) (exact d2) (fail)
            have HV3 : Hid (BK w (v2.drew.alloc (.cells #[.slice q.bo q.bs.length q.bc] 37)) hp b (4 + k) (3000 * (i + 1) + 2 * hlf (4 + k)) (20 * (i + 1)) (i + 1) lg bo bc (l ++ [q.bs]) l [(og, #[.int .i64 q.kind, .int .i64 q.num, .slice q.bo q.bs.length q.bc, .slice q.ro q.rs.length q.rc, .bool q.more, .slice q.ko q.ks.length q.kc], 40)]) := hide ((unhide HV2).keep (((Fr.refl _ _).drew).alloc _))
            obtain ⟨R, g, hA, hz, hsz, hback⟩ := (unhide HV3).grow (unhide HH).1
            have HGR := hide (And.intro hA (And.intro hz (And.intro hsz hback)))
            clear hA hz hsz hback HV2 HV3
            go_wp2_with (at_builtin; refine wpList_append_all w _ R rfl (.tmp 86) (.tmp 89) rfl (ao := bo) (cap := bc) (g := g) (n := l.length) (l := l) rfl ?hAll rfl _ [.slice q.bo q.bs.length q.bc] 1 [q.bs] rfl ?hEls rfl ?hSrc ?hZer ?hSiz ?hFitt ?hNext)
            case hAll => exact (unhide HGR).1
            case hEls => exact ⟨rfl, fun i h1 h2 => by have e : i = 0 := by simp at h1; omega
                                                       subst e; exact ⟨q.bo, q.bc, rfl, (unhide HQ).bytes⟩⟩
            case hSrc =>
              have hnew := Bx.new v2.drew #[.slice q.bo q.bs.length q.bc] 37
              refine Src.ofSlice _ Tryz.underlying22 ⟨v2.heap.size, 0, none⟩ 1 1 _ rfl (fun j u hj => ?_) (fun u hu => ?_)
              · rw [Addr.add_lit, Nat.zero_add]
                have h := hnew.cell j
                rw [show v2.drew.heap.size = v2.heap.size from rfl] at h
                show (v2.drew.alloc (.cells #[.slice q.bo q.bs.length q.bc] 37)).cell? ⟨v2.heap.size, j, none⟩ = some u
                rw [h, ← hj, List.getElem?_toArray]
              · simp at hu; subst hu; rfl
            case hZer => exact (unhide HGR).2.1
            case hSiz => exact (unhide HGR).2.2.1
            case hFitt => omega
            case hNext =>
              intro ao' cap' w' g' hA hF hg
              have HV4 := hide ((unhide HGR).2.2.2 w' ao' cap' g' _ hA hF (by rcases hg with h | h; (· exact .inl h); exact .inr (by rw [heap_alloc]; exact h)))
              clear hA hF hg HGR
              go_wp2
              go_meet
              case rel => exact ⟨lg, ao', cap', l ++ [q.bs], rfl, by simp, hide ((unhide HV4).less.mono (by have := (unhide HH).2.2.2; omega) (by have := (unhide HH).2.2.2; omega) (by omega))⟩
          · have hle : RM < (q.bs.length : Int) := by have := unhide HRM; omega
            have HAp := hide ((unhide HV1).appendFull (by omega) (by have := (unhide HH).2.2.1; omega) q.bo q.bc q.bs (by omega))
            clear hsn hfit HV1
            go_wp2_with fail
            refine (unhide HAp).mono ?_
            rintro e v2 ⟨rfl, HV2⟩
            clear HAp d2
            have d2 : v2.cell? ⟨og, 2, none⟩ = some (.slice q.bo q.bs.length q.bc) := ((unhide HV2).box (List.mem_singleton.2 rfl)).cell 2
            go_upto_region 16 with (fail)
            go_region_held3 (fun w' => w'.cell? ⟨og, 2, none⟩ = some (.slice q.bo q.bs.length q.bc)) (exact d2) (fail)
            go_wp2
            go_meet
            case rel => exact ⟨lg, bo, bc, l, rfl, rfl, hide (((unhide HV2).keep ((Fr.refl _ _).drew)).less.mono (by have := (unhide HH).2.2.2; omega) (by have := (unhide HH).2.2.2; omega) (by omega))⟩
        · by_cases hk2 : q.kind = 2
          · have HFI : Hid (Calls Tryz.prog 12 #[.int .i64 (4 + (k : Int)), .slice q.ro q.rs.length q.rc] v fun e w' => e = .returned (.bool (decide ((strm q.rs).length ≤ 504 * hlf (4 + k)))) ∧ w' = v) := by
              have h := fits_any v (4 + (k : Int)) q.ro q.rc q.rs ((unhide HQ).rows.frame (unhide HV).fr (fun _ _ t => t)).recs
              rw [fitsF, show (4 + (k : Int)) = ((4 + k : Nat) : Int) by omega, mayB_many _ (by omega) (by have := (unhide HH).2.2.1; omega), Int.toNat_natCast, Bool.true_and] at h
              rw [show (4 + (k : Int)) = ((4 + k : Nat) : Int) by omega]
              exact hide h
            have d3 : v.cell? ⟨og, 3, none⟩ = some (.slice q.ro q.rs.length q.rc) := ((unhide HV).box (List.mem_singleton.2 rfl)).cell 3
            by_cases hfit : (strm q.rs).length ≤ 504 * hlf (4 + k)
            · rw [decide_eq_true hfit] at HFI
              have HRW := hide ((unhide HV).rewrite (by omega) (by have := (unhide HH).2.2.1; omega) (by have := (unhide HH).2.2.2; omega) (by omega) (by omega) q.ro q.rc q.rs (unhide HQ).rows hfit)
              clear hfit
              go_wp2_with fail
              refine (unhide HFI).mono ?_
              rintro e v1 ⟨rfl, rfl⟩
              clear HFI
              go_wp2_with fail
              refine (unhide HRW).mono ?_
              rintro e v2 ⟨rfl, HV2⟩
              clear HRW d3 d0 HV
              have d3 : v2.cell? ⟨og, 3, none⟩ = some (.slice q.ro q.rs.length q.rc) := ((unhide HV2).box (List.mem_singleton.2 rfl)).cell 3
              obtain ⟨us, hEl, hSr, hOn⟩ := (unhide HQ).rows.els
              have HEL := hide (And.intro hEl (And.intro hSr hOn))
              clear hEl hSr hOn
              have HV3 : Hid (BK w (v2.alloc (.cells #[] 37)) hp b (4 + k) (3000 * (i + 1) + 180 * hlf (4 + k) + 6) (20 * (i + 1) + 1 + hlf (4 + k)) (i + 1 + 1) lg bo bc q.rs l [(og, #[.int .i64 q.kind, .int .i64 q.num, .slice q.bo q.bs.length q.bc, .slice q.ro q.rs.length q.rc, .bool q.more, .slice q.ko q.ks.length q.kc], 40)]) := hide ((unhide HV2).keep ((Fr.refl _ _).alloc _))
              have d3' : (v2.alloc (.cells #[] 37)).cell? ⟨og, 3, none⟩ = some (.slice q.ro q.rs.length q.rc) := ((unhide HV3).box (List.mem_singleton.2 rfl)).cell 3
              obtain ⟨R, hA, hz, hsz, hback⟩ := (unhide HV3).anew
              have HGR := hide (And.intro hA (And.intro hz (And.intro hsz hback)))
              have HFR := hide (unhide HV3).fr
              have HFT := hide (unhide HV3).fit
              clear hA hz hsz hback HV2 HV3
              go_wp2_with (at_builtin; refine wpList_append_all w _ R rfl (.tmp 107) (.tmp 109) rfl (ao := some ⟨v2.heap.size, 0, none⟩) (cap := 0) (g := v2.heap.size) (n := 0) (l := []) rfl ?hAll2 rfl _ us q.rs.length q.rs rfl ?hEls2 rfl ?hSrc2 ?hZer2 ?hSiz2 ?hFit2 ?hNext2)
              case hAll2 => exact (unhide HGR).1 _ _
              case hEls2 => exact (unhide HEL).1
              case hSrc2 =>
                obtain ⟨hEl, hSr, hOn⟩ := unhide HEL
                rcases Nat.eq_zero_or_pos q.rs.length with e | e
                · have hu : us = [] := List.eq_nil_of_length_eq_zero (by rw [hEl.1]; exact e)
                  rw [e, hu]
                  cases hro : q.ro with
                  | none => exact Src.ofNil _ Tryz.underlying22 _
                  | some x => exact Src.ofSlice _ Tryz.underlying22 x 0 _ [] rfl (fun j u hj => by simp at hj) (fun u hu => by cases hu)
                · obtain ⟨bb, off, e1, hc⟩ := hSr e
                  rw [e1]
                  refine Src.ofSlice _ Tryz.underlying22 ⟨bb, off, none⟩ _ _ us (by rw [hEl.1]; omega) (fun j u hj => ?_) hOn
                  rw [Addr.add_lit]
                  have h := hc j u hj
                  exact ((unhide HFR).cell (a := ⟨bb, off + j, none⟩) (World.block_lt_of_cell? _ _ h) (fun t => t)).trans h
              case hZer2 => exact (unhide HGR).2.1
              case hSiz2 => exact (unhide HGR).2.2.1
              case hFit2 => have := unhide HFT; have := (unhide HH).2.2.2; omega
              case hNext2 =>
                intro ao' cap' w' g' hA hF hg
                have HV4 := hide ((unhide HGR).2.2.2 w' ao' cap' g' _ hA (by first | exact hF | exact hF.mono (fun _ _ t => by simp at t)) (fun hc => by rcases hg with h | h; (· omega); (rw [heap_alloc]; simpa using h)))
                clear hA hF hg HGR
                go_wp2
                go_meet
                case rel => exact ⟨lg, ao', cap', [] ++ q.rs, rfl, by simp, hide ((unhide HV4).less.mono (by have := (unhide HH).2.2.2; omega) (by have := (unhide HH).2.2.2; omega) (by omega))⟩
            · rw [decide_eq_false hfit] at HFI
              have HRW := hide ((unhide HV).rewriteFull q.ro q.rc q.rs (unhide HQ).rows (by omega))
              clear hfit
              go_wp2_with fail
              refine (unhide HFI).mono ?_
              rintro e v1 ⟨rfl, rfl⟩
              clear HFI
              go_wp2_with fail
              refine (unhide HRW).mono ?_
              rintro e v2 ⟨rfl, HV2⟩
              clear HRW d3 d0 HV
              go_wp2
              go_meet
              case rel => exact ⟨lg, bo, bc, l, rfl, rfl, hide ((unhide HV2).less.mono (by have := (unhide HH).2.2.2; omega) (by have := (unhide HH).2.2.2; omega) (by omega))⟩
          · by_cases hk3 : q.kind = 3
            · have HSY := hide ((unhide HV).sync (by omega))
              have hk5 : ¬ ((3 : Int) = 5) := by decide
              go_wp2_with fail
              refine (unhide HSY).mono ?_
              rintro e v1 ⟨rfl, HV1⟩
              clear HSY d0 HV
              have d0 : v1.cell? ⟨og, 0, none⟩ = some (.int .i64 q.kind) := by
                obtain ⟨R, p, g, num, a1, a2, a3, a4⟩ := unhide HV1
                exact (a4 _ (List.mem_singleton.2 rfl)).1.cell 0
              have HD1 := hide (unhide HV1).bd
              clear HV1
              have HDK := hide (unhide HD1).disk
              go_wp2_with fail
              refine (unhide HDK).mono ?_
              rintro e u1 ⟨q1, rfl, HD2⟩
              clear HDK
              have HOP := hide (BD.open (la := l) HD2 (by omega) (by have := (unhide HH).2.2.1; omega) (by have := (unhide HH).2.2.2; omega) (by omega) (by omega))
              go_wp2_with fail
              refine (unhide HOP).mono ?_
              rintro e u2 ⟨lg3, ro3, rc3, rfl, HOK⟩
              clear HOP HD2 HD1
              have hsame : sameF l l = true := by simp [sameF]
              have HSA := hide (unhide HOK).2
              rw [hsame] at HSA
              clear hsame
              go_wp2_with fail
              refine (unhide HSA).mono ?_
              rintro e u3 ⟨rfl, hF3⟩
              clear HSA
              go_wp2
              go_meet
              case rel => exact ⟨lg3, bo, bc, l, rfl, rfl, hide (((unhide HOK).1.keep (unhide hF3)).less.mono (by have := (unhide HH).2.2.2; omega) (by have := (unhide HH).2.2.2; omega) (by omega))⟩
            · by_cases hk5 : q.kind = 5
              · have HSY := hide ((unhide HV).sync (by omega))
                go_wp2_with fail
                refine (unhide HSY).mono ?_
                rintro e v1 ⟨rfl, HV1⟩
                clear HSY d0 HV
                have d0 : v1.cell? ⟨og, 0, none⟩ = some (.int .i64 q.kind) := by
                  obtain ⟨R, p, g, num, a1, a2, a3, a4⟩ := unhide HV1
                  exact (a4 _ (List.mem_singleton.2 rfl)).1.cell 0
                have HCR := hide ((unhide HV1).crash0 (by omega))
                go_wp2_with fail
                refine (unhide HCR).mono ?_
                rintro e v2 ⟨rfl, HD1⟩
                clear HCR HV1 d0
                have HDK := hide (unhide HD1).disk
                go_wp2_with fail
                refine (unhide HDK).mono ?_
                rintro e u1 ⟨q1, rfl, HD2⟩
                clear HDK
                have HOP := hide (BD.open (la := l) HD2 (by omega) (by have := (unhide HH).2.2.1; omega) (by have := (unhide HH).2.2.2; omega) (by omega) (by omega))
                go_wp2_with fail
                refine (unhide HOP).mono ?_
                rintro e u2 ⟨lg3, ro3, rc3, rfl, HOK⟩
                clear HOP HD2 HD1
                have hsame : sameF l l = true := by simp [sameF]
                have HSA := hide (unhide HOK).2
                rw [hsame] at HSA
                clear hsame
                go_wp2_with fail
                refine (unhide HSA).mono ?_
                rintro e u3 ⟨rfl, hF3⟩
                clear HSA
                go_wp2
                go_meet
                case rel => exact ⟨lg3, bo, bc, l, rfl, rfl, hide (((unhide HOK).1.keep (unhide hF3)).less.mono (by have := (unhide HH).2.2.2; omega) (by have := (unhide HH).2.2.2; omega) (by omega))⟩
              · go_wp2
                go_meet
                case rel => exact ⟨lg, bo, bc, l, rfl, rfl, hide ((unhide HV).less.mono (by have := (unhide HH).2.2.2; omega) (by have := (unhide HH).2.2.2; omega) (by omega))⟩
      case rest =>
        obtain ⟨lg2, ao2, cap2, l2, rfl, rfl, HC⟩ := hcut
        clear HV d0
        have hl2 : (l2.length : Int) ≤ 100000 := by have := (unhide HC).fit; have := (unhide HH).2.2.2; omega
        have HFI : Hid (Calls Tryz.prog 12 #[.int .i64 (4 + (k : Int)), .slice ao2 l2.length cap2] wc fun e w' => e = .returned (.bool true) ∧ w' = wc) := by
          have h := fits_any wc (4 + (k : Int)) ao2 cap2 l2 ((unhide HC).recs (by omega))
          have hf := (unhide HC).fit.1
          rw [fitsF, show (4 + (k : Int)) = ((4 + k : Nat) : Int) by omega, mayB_many _ (by omega) (by have := (unhide HH).2.2.1; omega), Int.toNat_natCast, decide_eq_true hf] at h
          rw [show (4 + (k : Int)) = ((4 + k : Nat) : Int) by omega]
          exact hide h
        have HRE := hide (unhide HC).records
        go_wp2_with fail
        refine (unhide HFI).mono ?_
        rintro e w5 ⟨rfl, rfl⟩
        go_wp2_with fail
        refine (unhide HRE).mono ?_
        rintro e w5 ⟨rfl, rfl⟩
        go_wp2
        exact ⟨⟨i + 1, lg2, ao2, cap2, l2, by omega, by omega, rfl, rfl, by go_num, HC⟩, by simp [intOf]; omega⟩
    · by_cases h40 : i < 40
      · have hI1 : ¬ ((i : Int) < (ps.length : Int)) := by omega
        go_wp2
        go_ret
        exact ⟨rfl, (unhide HR).fr⟩
      · have hI1 : ¬ ((i : Int) < 40) := by omega
        by_cases hlt2 : i < ps.length
        · have hI2 : (i : Int) < (ps.length : Int) := by omega
          go_wp2
          go_ret
          exact ⟨rfl, (unhide HR).fr⟩
        · have hI2 : ¬ ((i : Int) < (ps.length : Int)) := by omega
          go_wp2
          go_ret
          exact ⟨rfl, (unhide HR).fr⟩

end Go.Proofs.YtdbmmbnbgndllaaGreatDoor

