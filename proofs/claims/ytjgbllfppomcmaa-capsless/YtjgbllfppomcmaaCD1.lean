import Derived.Test.YtjgbllfppomcmaaCA1
import Derived.Test.YtjgbllfppomcmaaCA3
/- Rows of journeys, day by day: the laws' own days. -/
namespace Go.Proofs.Ytjgbllfppomcmaa
open Go.RowKit

/-- A row of journeys as it was handed in. -/
structure PrA where
  io : Option Addr
  ic : Nat
  ps : List (Jn × Int)
structure PrsAt (w : World) (ao : Option Addr) (ts : List PrA) : Prop where
  cells : 0 < ts.length → ∃ b off, ao = some ⟨b, off, none⟩ ∧ ∀ i (h : i < ts.length), w.cell? ⟨b, off + i, none⟩ = some (.slice ts[i].io ts[i].ps.length ts[i].ic)
  each : ∀ x ∈ ts, CAt w x.io (pV x.ps)
theorem PrsAt.keep {w w' : World} {ao : Option Addr} {ts : List PrA} (h : PrsAt w ao ts) (hf : Fr (fun _ => False) w w') : PrsAt w' ao ts :=
  ⟨fun h0 => by
    obtain ⟨b, off, e, hc⟩ := h.cells h0
    exact ⟨b, off, e, fun i hi => (hf.cell (World.block_lt_of_cell? _ _ (hc i hi)) (fun t => t)).trans (hc i hi)⟩, fun x hx => (h.each x hx).keep hf⟩

def daysL (t : Tf) : Int → List PrA → List Dy
  | _, [] => []
  | f, x :: r => dR t f x.ps :: daysL t (f + 1) r
def daysB (t : Tf) : Int → List PrA → Bool
  | _, [] => true
  | f, x :: r => decide (dE t f x.ps = 0) && daysB t (f + 1) r
theorem daysL_length (t : Tf) : ∀ (l : List PrA) (f : Int), (daysL t f l).length = l.length
  | [], _ => rfl
  | x :: r, f => by rw [daysL, List.length_cons, daysL_length t r, List.length_cons]
theorem daysL_snoc (t : Tf) (x : PrA) : ∀ (l : List PrA) (f : Int), daysL t f (l ++ [x]) = daysL t f l ++ [dR t (f + l.length) x.ps]
  | [], f => by simp [daysL]
  | y :: r, f => by
    rw [List.cons_append, daysL, daysL, daysL_snoc t x r, List.cons_append, List.length_cons, show f + 1 + (r.length : Int) = f + ((r.length + 1 : Nat) : Int) by omega]
theorem daysB_snoc (t : Tf) (x : PrA) : ∀ (l : List PrA) (f : Int), daysB t f (l ++ [x]) = (daysB t f l && decide (dE t (f + l.length) x.ps = 0))
  | [], f => by simp [daysB]
  | y :: r, f => by
    rw [List.cons_append, daysB, daysB, daysB_snoc t x r, List.length_cons, show f + 1 + (r.length : Int) = f + ((r.length + 1 : Nat) : Int) by omega, Bool.and_assoc]
theorem daysB_not (t : Tf) : ∀ (l : List PrA) (f : Int) (i : Nat) (h : i < l.length), ¬ dE t (f + i) l[i].ps = 0 → daysB t f l = false
  | [], _, _, h, _ => absurd h (by simp)
  | x :: r, f, 0, _, hn => by
    have e : ¬ dE t f x.ps = 0 := by simpa using hn
    rw [daysB]
    simp [e]
  | x :: r, f, i + 1, h, hn => by
    have := daysB_not t r (f + 1) i (by simpa using h) (by
      rw [show f + 1 + (i : Int) = f + ((i + 1 : Nat) : Int) by omega]
      simpa using hn)
    rw [daysB, this, Bool.and_false]

/-- What days gives back. -/
def DaysPost (t : Tf) (first : Int) (ts : List PrA) (w : World) (e : Ending) (w' : World) : Prop :=
  Fr (fun _ => False) w w' ∧ (daysB t first (ts.take 7) = false → e = .returned (.tuple #[.slice none 0 0, .bool false])) ∧
    (daysB t first (ts.take 7) = true → ∃ ao2 cap2 g, e = .returned (.tuple #[.slice ao2 (ts.take 7).length cap2, .bool true]) ∧ KRow w' ao2 cap2 g 7 (dyV (daysL t first (ts.take 7))) ∧ (0 < cap2 → w.heap.size ≤ g))

set_option maxHeartbeats 8000000 in
set_option maxRecDepth 20000 in
theorem days_anyC (w : World) (A : Ad) (t : Tf) (h : TAt w A t) (first : Int) (hf0 : 0 ≤ first) (hf1 : first ≤ 1000000) (ao : Option Addr) (cap : Nat) (ts : List PrA) (hp : PrsAt w ao ts) :
    Calls Try.prog 5 #[tv A t, .int .i64 first, .slice ao ts.length cap] w fun e w' => DaysPost t first ts w e w' := by
  have HT := hide (fun (u : World) (hu : Fr (fun _ => False) w u) => h.keep hu)
  have HP := hide (fun (u : World) (hu : Fr (fun _ => False) w u) => hp.keep hu)
  obtain ⟨v, hv⟩ : ∃ v, v = w.alloc (.cells (tc A t) 27) := ⟨_, rfl⟩
  have HF : Hid (Fr (fun _ => False) w v) := hide (by rw [hv]; exact (Fr.refl _ w).alloc _)
  have hTB : TB v w.heap.size A t := by rw [hv]; exact TB.new w A t
  obtain ⟨B, hB⟩ : ∃ B, B = w.heap.size := ⟨_, rfl⟩
  rw [← hB] at hTB
  have HTB := hide hTB
  have HV := hide hv
  have HB := hide hB
  have HFI := hide (And.intro hf0 hf1)
  clear hv hB hTB h hp hf0 hf1
  unfold tv
  unfold tc at HV ⊢
  go_enter Try.func5, Try.ntmps5
  go_upto_region 1 with (fail)
  rw [← unhide HV, ← unhide HB]
  clear HV
  have HS0 : Hid (Fr (fun _ => False) w v ∧ TB v B A t ∧ KRow v none 0 0 7 (dyV (daysL t first (ts.take 0))) ∧ (0 < 0 → w.heap.size ≤ 0 ∧ B < 0) ∧ daysB t first (ts.take 0) = true) := hide ⟨unhide HF, unhide HTB, KRow.nil _ _ _, fun hc => absurd hc (by omega), rfl⟩
  clear HF HTB
  obtain ⟨info, hi, hzz⟩ := Option.map_eq_some_iff.1 dInfo
  simp only [Prod.mk.injEq] at hzz
  obtain ⟨hz0, hs, hy⟩ := hzz
  obtain ⟨z, hz, hzc⟩ := Option.map_eq_some_iff.1 hz0
  have HIN : Hid (Try.prog.info? 43 = some info ∧ info.zero = some z ∧ z.cells.size = 7 ∧ info.size = 7 ∧ info.bytes = 56) := hide ⟨hi, hz, by rw [hzc]; rfl, hs, hy⟩
  clear hz0 hs hy hz hzc hi
  go_wp2
  go_loopw [8, 9, 10, 11] (fun sv iv _ _ wr => ∃ (i : Nat) (ao2 : Option Addr) (cap2 g : Nat), i ≤ ts.length ∧ i ≤ 7 ∧ iv = .int .i64 i ∧ sv = .slice ao2 i cap2 ∧ Hid (Fr (fun _ => False) w wr ∧ TB wr B A t ∧ KRow wr ao2 cap2 g 7 (dyV (daysL t first (ts.take (i)))) ∧ (0 < cap2 → w.heap.size ≤ g ∧ B < g) ∧ daysB t first (ts.take (i)) = true)) (fun _ iv _ _ _ => 7 - (intOf iv).toNat)
  case atStart => exact ⟨0, none, 0, 0, Nat.zero_le _, by omega, rfl, rfl, HS0⟩
  case round =>
    obtain ⟨i, ao2, cap2, g, hi, hi7, rfl, rfl, HI⟩ := hrel
    clear HS0
    by_cases hil : i < ts.length
    · by_cases h7 : i < 7
      · have hlt : (i : Int) < (ts.length : Int) := by omega
        have hlt7 : (i : Int) < 7 := by omega
        obtain ⟨b0, off0, hao, kk⟩ := (unhide HP wr (unhide HI).1).cells (by omega)
        subst hao
        have d14 := kk i hil
        have HCR := hide ((unhide HP wr (unhide HI).1).each ts[i] (List.getElem_mem hil))
        have HTK : Hid (ts.take (i + 1) = ts.take i ++ [ts[i]]) := hide (List.take_succ_eq_append_getElem hil)
        have HNO : Hid (¬ dE t (first + i) ts[i].ps = 0 → daysB t first (ts.take 7) = false) := hide (fun q => daysB_not t (ts.take 7) first i (by rw [List.length_take]; omega) (by rw [List.getElem_take]; exact q))
        clear kk
        generalize ts[i] = x at *
        obtain ⟨io, ic, ps⟩ := x
        try simp only at d14
        have R1 := hide (fun (u : World) (hu : Fr (fun _ => False) wr u) => capsDay_any u A t (unhide HT u ((unhide HI).1.trans hu (fun _ _ t => t))) io ic (first + i) ps ((unhide HCR).keep hu))
        obtain ⟨D, hD⟩ : ∃ D, dR t (first + i) ps = D := ⟨_, rfl⟩
        obtain ⟨E, hE⟩ : ∃ E, dE t (first + i) ps = E := ⟨_, rfl⟩
        have HDE := hide (And.intro hD hE)
        rw [hD, hE] at R1
        have hNO := unhide HNO
        rw [show (PrA.ps ⟨io, ic, ps⟩) = ps from rfl, hE] at hNO
        replace HNO := hide hNO
        clear hNO hD hE
        obtain ⟨r0, r1, r2, r3, r4, r5, r6⟩ := D
        simp only [dyC] at R1
        have hw : IntKind.i64.wrap (first + (i : Int)) = first + (i : Int) := by have := unhide HFI; rw [IntKind.wrap_i64]; omega
        have HCB : Hid (∀ u, Fr (fun _ => False) wr u → u.cell? ⟨B, 0, none⟩ = some (.slice A.aS t.st.length A.cS) ∧ u.cell? ⟨B, 1, none⟩ = some (.slice A.aP t.sp.length A.cP) ∧ u.cell? ⟨B, 2, none⟩ = some (.slice A.aB t.bd.length A.cB) ∧ u.cell? ⟨B, 3, none⟩ = some (.float .f64 t.off) ∧ u.cell? ⟨B, 4, none⟩ = some (.int .i64 t.bus) ∧ u.cell? ⟨B, 5, none⟩ = some (.int .i64 t.busDaily) ∧ u.cell? ⟨B, 6, none⟩ = some (.int .i64 t.busWeekly) ∧ u.cell? ⟨B, 7, none⟩ = some (.int .i64 t.hopper) ∧ u.cell? ⟨B, 8, none⟩ = some (.int .i64 t.most) ∧ u.cell? ⟨B, 9, none⟩ = some (.int .i64 t.longest) ∧ u.cell? ⟨B, 10, none⟩ = some (.int .i64 t.change) ∧ u.cell? ⟨B, 11, none⟩ = some (.int .i64 t.passback) ∧ u.cell? ⟨B, 12, none⟩ = some (.int .i64 t.delay) ∧ u.cell? ⟨B, 13, none⟩ = some (.int .i64 t.threshold) ∧ u.cell? ⟨b0, off0 + i, none⟩ = some (.slice io ps.length ic)) := hide (fun u hf => by
          have h1 := (unhide HI).2.1.keep hf
          exact ⟨h1.cell 0, h1.cell 1, h1.cell 2, h1.cell 3, h1.cell 4, h1.cell 5, h1.cell 6, h1.cell 7, h1.cell 8, h1.cell 9, h1.cell 10, h1.cell 11, h1.cell 12, h1.cell 13, (hf.cell (World.block_lt_of_cell? _ _ d14) (fun t => t)).trans d14⟩)
        clear d14
        obtain ⟨d0, d1, d2, d3, d4, d5, d6, d7, d8, d9, d10, d11, d12, d13, d14⟩ := unhide HCB wr (Fr.refl _ _)
        unfold tv tc at R1
        have HACC := hide (Fr.refl (fun _ => False) wr)
        go_upto_region 5 with (fail)
        go_cut [10, 11] from 22 to 33 (fun bv ev wd => ∃ D, bv = .pointer (some ⟨D, 0, none⟩) ∧ ev = .int .i64 E ∧ Hid (Bx wd D #[.int .i64 r0, .int .i64 r1, .int .i64 r2, .int .i64 r3, .int .i64 r4, .int .i64 r5, .int .i64 r6] 43 ∧ wr.heap.size ≤ D ∧ Fr (fun _ => False) wr wd))
        case first => as_aux_lemma =>
          go_region_held3 (fun u => u.cell? ⟨B, 0, none⟩ = some (.slice A.aS t.st.length A.cS) ∧ u.cell? ⟨B, 1, none⟩ = some (.slice A.aP t.sp.length A.cP) ∧ u.cell? ⟨B, 2, none⟩ = some (.slice A.aB t.bd.length A.cB) ∧ u.cell? ⟨B, 3, none⟩ = some (.float .f64 t.off) ∧ u.cell? ⟨B, 4, none⟩ = some (.int .i64 t.bus) ∧ u.cell? ⟨B, 5, none⟩ = some (.int .i64 t.busDaily) ∧ u.cell? ⟨B, 6, none⟩ = some (.int .i64 t.busWeekly) ∧ u.cell? ⟨B, 7, none⟩ = some (.int .i64 t.hopper) ∧ u.cell? ⟨B, 8, none⟩ = some (.int .i64 t.most) ∧ u.cell? ⟨B, 9, none⟩ = some (.int .i64 t.longest) ∧ u.cell? ⟨B, 10, none⟩ = some (.int .i64 t.change) ∧ u.cell? ⟨B, 11, none⟩ = some (.int .i64 t.passback) ∧ u.cell? ⟨B, 12, none⟩ = some (.int .i64 t.delay) ∧ u.cell? ⟨B, 13, none⟩ = some (.int .i64 t.threshold) ∧ u.cell? ⟨b0, off0 + i, none⟩ = some (.slice io ps.length ic))
            ((refine unhide HCB _ ?_; repeat (first | (with_reducible exact unhide HACC) | (with_reducible exact Fr.refl _ _) | (with_reducible refine Fr.drew ?_) | (with_reducible refine Fr.alloc ?_ _) | (with_reducible refine Fr.put7 ?_ (by have q := (unhide HX).2; (try simp only [heap_alloc] at q); exact q) _ _))))
            ((go_at_call 8; refine (unhide R1 _ (by repeat (first | (with_reducible exact unhide HACC) | (with_reducible exact Fr.refl _ _) | (with_reducible refine Fr.drew ?_) | (with_reducible refine Fr.alloc ?_ _) | (with_reducible refine Fr.put7 ?_ (by have q := (unhide HX).2; (try simp only [heap_alloc] at q); exact q) _ _)))).mono ?_; rintro e wz ⟨rfl, hA⟩; have hB : Fr (fun _ => False) wr wz := Fr.trans (by repeat (first | (with_reducible exact unhide HACC) | (with_reducible exact Fr.refl _ _) | (with_reducible refine Fr.drew ?_) | (with_reducible refine Fr.alloc ?_ _) | (with_reducible refine Fr.put7 ?_ (by have q := (unhide HX).2; (try simp only [heap_alloc] at q); exact q) _ _))) hA (fun _ _ t => t); (repeat (replace hA := Fr.of_drew hA)); (first | (have hx := bxA (u := wr) hA (by repeat (first | (with_reducible exact unhide HACC) | (with_reducible exact Fr.refl _ _) | (with_reducible refine Fr.drew ?_) | (with_reducible refine Fr.alloc ?_ _) | (with_reducible refine Fr.put7 ?_ (by have q := (unhide HX).2; (try simp only [heap_alloc] at q); exact q) _ _))); have HX := hide hx; obtain ⟨⟨x0, x1, x2, x3, x4, x5, x6⟩, y0⟩ := bx7 hx.1; clear hx; try (simp only [heap_alloc] at x0 x1 x2 x3 x4 x5 x6 y0)) | (have hx := bxB (u := wr) hA (by repeat (first | (with_reducible exact unhide HACC) | (with_reducible exact Fr.refl _ _) | (with_reducible refine Fr.drew ?_) | (with_reducible refine Fr.alloc ?_ _) | (with_reducible refine Fr.put7 ?_ (by have q := (unhide HX).2; (try simp only [heap_alloc] at q); exact q) _ _))); have HX := hide hx; obtain ⟨⟨x0, x1, x2, x3, x4, x5, x6⟩, y0⟩ := bx7 hx.1; clear hx; try (simp only [heap_alloc] at x0 x1 x2 x3 x4 x5 x6 y0)) | (have hx := bxK (unhide HX) (by repeat (first | (with_reducible exact Fr.refl _ _) | (with_reducible refine Fr.drew ?_) | (with_reducible refine Fr.alloc ?_ _))) hA; have HX := hide hx; obtain ⟨⟨x0, x1, x2, x3, x4, x5, x6⟩, y0⟩ := bx7 hx.1; clear hx; try (simp only [heap_alloc] at x0 x1 x2 x3 x4 x5 x6 y0)) | skip); have HACC := hide hB; clear hA hB))
          all_goals
            go_wp2_with fail
            go_meet
            refine ⟨_, rfl, rfl, hide ⟨?_, ?_, ?_⟩⟩
            · first
                | ((repeat (with_reducible refine Bx.drew ?_)); with_reducible exact Bx.new _ _ _)
                | (have q := (unhide HX).1; (try simp only [heap_alloc] at q); (repeat (with_reducible refine Bx.drew ?_)); with_reducible exact bxS q _ _ _ _ _ _ _)
            · first
                | exact (unhide HACC).size
                | (have q := (unhide HX).2; (try simp only [heap_alloc] at q); exact q)
            · repeat (first | (with_reducible exact unhide HACC) | (with_reducible exact Fr.refl _ _) | (with_reducible refine Fr.drew ?_) | (with_reducible refine Fr.alloc ?_ _) | (with_reducible refine Fr.put7 ?_ (by have q := (unhide HX).2; (try simp only [heap_alloc] at q); exact q) _ _))
        case rest =>
          obtain ⟨D1, rfl, rfl, HC⟩ := hcut
          obtain ⟨w5, hw5⟩ : ∃ x, x = wc := ⟨_, rfl⟩
          subst hw5
          obtain ⟨hD1, hDn, hF⟩ := unhide HC
          have HD1 := hide hD1
          obtain ⟨i1, i2, i3, i4, i5⟩ := unhide HI
          have J1 := hide (i1.trans hF (fun _ _ t => t))
          have J2 := hide (i2.keep hF)
          have J3 := hide (i3.keep (by omega) hF)
          have J4 := hide i4
          have J5 := hide i5
          clear hD1 HC R1 HCB HACC d0 d1 d2 d3 d4 d5 d6 d7 d8 d9 d10 d11 d12 d13 d14 i1 i2 i3 i4 i5 hF hDn HI
          by_cases hE0 : E = 0
          · subst hE0
            have HBT : Hid (daysB t first (ts.take (i + 1)) = true) := hide (by
              rw [unhide HTK, daysB_snoc, unhide J5, List.length_take, Nat.min_eq_left hi]
              simp only [Bool.true_and, decide_eq_true_eq]
              exact (unhide HDE).2)
            have HDT : Hid (daysL t first (ts.take (i + 1)) = daysL t first (ts.take i) ++ [⟨r0, r1, r2, r3, r4, r5, r6⟩]) := hide (by
              rw [unhide HTK, daysL_snoc, List.length_take, Nat.min_eq_left hi]
              have := (unhide HDE).1
              rw [show (PrA.ps ⟨io, ic, ps⟩) = ps from rfl, this])
            have HLV : Hid ((dyV (daysL t first (ts.take i))).length = i * 7) := hide (by rw [dyV_length, daysL_length, List.length_take, Nat.min_eq_left hi])
            have a0 : w5.cell? ⟨D1, 0, none⟩ = some (.int .i64 r0) := (unhide HD1).cell 0
            have a1 : w5.cell? ⟨D1, 1, none⟩ = some (.int .i64 r1) := (unhide HD1).cell 1
            have a2 : w5.cell? ⟨D1, 2, none⟩ = some (.int .i64 r2) := (unhide HD1).cell 2
            have a3 : w5.cell? ⟨D1, 3, none⟩ = some (.int .i64 r3) := (unhide HD1).cell 3
            have a4 : w5.cell? ⟨D1, 4, none⟩ = some (.int .i64 r4) := (unhide HD1).cell 4
            have a5 : w5.cell? ⟨D1, 5, none⟩ = some (.int .i64 r5) := (unhide HD1).cell 5
            have a6 : w5.cell? ⟨D1, 6, none⟩ = some (.int .i64 r6) := (unhide HD1).cell 6
            have HIA := hide ((unhide J3).keep (by omega) ((Fr.refl (fun _ => False) w5).alloc (.cells #[.int .i64 r0, .int .i64 r1, .int .i64 r2, .int .i64 r3, .int .i64 r4, .int .i64 r5, .int .i64 r6] 43)))
            have HFA : Hid (Fr (fun _ => False) w5 (w5.alloc (.cells #[.int .i64 r0, .int .i64 r1, .int .i64 r2, .int .i64 r3, .int .i64 r4, .int .i64 r5, .int .i64 r6] 43))) := hide ((Fr.refl _ w5).alloc _)
            have HSR := hide (src_new' w5 (dyL ⟨r0, r1, r2, r3, r4, r5, r6⟩) 35 43 7 Try.underlying35 rfl (dyL_one _) (W := w5.alloc (.cells #[.int .i64 r0, .int .i64 r1, .int .i64 r2, .int .i64 r3, .int .i64 r4, .int .i64 r5, .int .i64 r6] 43)) (fun j => by rw [World.cell?_alloc_new]; exact List.getElem?_toArray.symm ▸ rfl))
            go_wp2_with (at_builtin; refine wpList_append_krow _ rfl (.tmp 36) (.tmp 38) 35 35 rfl 43 info _ 7 (by omega) Try.underlying35 (unhide HIN).1 (unhide HIN).2.1 (unhide HIN).2.2.1 (unhide HIN).2.2.2.1 rfl (unhide HIA) (unhide HLV) _ (dyL ⟨r0, r1, r2, r3, r4, r5, r6⟩) 1 rfl (unhide HSR) (by rw [(unhide HIN).2.2.2.2]; omega) (by omega) ?_)
            intro ao3 cap3 w6 g3 hK hG
            have HS1 : Hid (Fr (fun _ => False) w w6 ∧ TB w6 B A t ∧ KRow w6 ao3 cap3 g3 7 (dyV (daysL t first (ts.take (i + 1)))) ∧ (0 < cap3 → w.heap.size ≤ g3 ∧ B < g3) ∧ daysB t first (ts.take (i + 1)) = true) := hide (by
              have q1 := unhide J1
              have q2 := (unhide J2).lt
              have q3 := (unhide HFA).size
              have q4 := unhide J4
              rcases hG with ⟨e1, e2, f⟩ | ⟨e1, e2, f⟩
              · refine ⟨(q1.trans (unhide HFA) (fun _ _ t => t)).trans f (fun q hq e => by have := q4 e.2; omega), ((unhide J2).keep (unhide HFA)).frame f (fun e => by have := q4 e.2; omega), ?_, fun hc => by rw [e1]; exact q4 (by omega), unhide HBT⟩
                rw [unhide HDT, dyV_snoc]; exact hK
              · refine ⟨(q1.trans (unhide HFA) (fun _ _ t => t)).trans f (fun _ _ t => t), ((unhide J2).keep (unhide HFA)).keep f, ?_, fun hc => by have := q1.size; omega, unhide HBT⟩
                rw [unhide HDT, dyV_snoc]; exact hK)
            clear hK hG HIA HFA HSR J1 J2 J3 J4 J5 HBT HDT HLV HD1 a0 a1 a2 a3 a4 a5 a6
            go_wp2
            exact ⟨⟨i + 1, ao3, cap3, g3, by omega, by omega, by go_num, rfl, HS1⟩, by simp [intOf]; omega⟩
          · have hb2 : (E == 0) = false := by simp [hE0]
            have hb3 : (E != 0) = true := by simp [hE0]
            have HN := hide (unhide HNO hE0)
            have HR : Hid (DaysPost t first ts w (.returned (.tuple #[.slice none 0 0, .bool false])) w5) := hide (by
              unfold DaysPost
              exact ⟨unhide J1, fun _ => rfl, fun q => by rw [unhide HN] at q; cases q⟩)
            clear HN J1 J2 J3 J4 J5
            go_wp2
            go_ret2
            exact unhide HR
      · have HTE : Hid (ts.take 7 = ts.take i) := hide (by rw [show i = 7 by omega])
        have hlt : (i : Int) < (ts.length : Int) := by omega
        have hlt7 : ¬ (i : Int) < 7 := by omega
        obtain ⟨i1, i2, i3, i4, i5⟩ := unhide HI
        have hlen : (ts.take i).length = i := by rw [List.length_take]; omega
        have HR : Hid (DaysPost t first ts w (.returned (.tuple #[.slice ao2 i cap2, .bool true])) wr) := hide (by
          unfold DaysPost
          rw [unhide HTE]
          exact ⟨i1, fun q => (by rw [i5] at q; cases q), fun _ => ⟨ao2, cap2, g, by rw [hlen], i3, fun hc => (i4 hc).1⟩⟩)
        clear i1 i2 i3 i4 i5 hlen HI HTE
        go_wp2
        go_ret2
        exact unhide HR
    · have HTE : Hid (ts.take 7 = ts.take i) := hide (by rw [List.take_of_length_le (by omega : ts.length ≤ 7), List.take_of_length_le (by omega : ts.length ≤ i)])
      have hlt : ¬ (i : Int) < (ts.length : Int) := by omega
      obtain ⟨i1, i2, i3, i4, i5⟩ := unhide HI
      have hlen : (ts.take i).length = i := by rw [List.length_take]; omega
      have HR : Hid (DaysPost t first ts w (.returned (.tuple #[.slice ao2 i cap2, .bool true])) wr) := hide (by
        unfold DaysPost
        rw [unhide HTE]
        exact ⟨i1, fun q => (by rw [i5] at q; cases q), fun _ => ⟨ao2, cap2, g, by rw [hlen], i3, fun hc => (i4 hc).1⟩⟩)
      clear i1 i2 i3 i4 i5 hlen HI HTE
      go_wp2
      go_ret2
      exact unhide HR

end Go.Proofs.Ytjgbllfppomcmaa

