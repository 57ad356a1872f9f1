import Derived.Test.YtkbcochjeooicaaCA1
import Derived.Test.YtkbcochjeooicaaCM2
import Derived.Test.YtkbcochjeooicaaQLX
/- A day does not hang on the order of its journeys: the walk of CapsMixed. -/
namespace Go.Proofs.Ytkbcochjeooicaa
open Go.RowKit

set_option maxHeartbeats 8000000 in
set_option maxRecDepth 20000 in
theorem mixed_walkC (w : World) (A : Ad) (t : Tf) (h : TAt w A t) (day : Int) (ao0 : Option Addr) (cap0 : Nat) (l : List (Jn × Int)) (hl : CAt w ao0 (pV l)) (hn : (l.length + 1) * 56 ≤ 140737488355328) (ao1 : Option Addr) (cap1 : Nat) (os : List Int) (ho : CAt w ao1 (os.map (Value.int .i64))) (hno : os.length ≤ 140737488355328) :
    Calls Try.prog 7 #[tv A t, .int .i64 day, .slice ao0 l.length cap0, .slice ao1 os.length cap1] w fun e w' => e = .returned (.bool true) ∧ Fr (fun _ => False) w w' := by
  have H := hide h
  have HL := hide (fun (u : World) (hu : Fr (fun _ => False) w u) => hl.keep hu)
  have HO := hide (fun (u : World) (hu : Fr (fun _ => False) w u) => ho.keep hu)
  obtain ⟨v, hv⟩ : ∃ v, v = w.alloc (.cells (tc A t) 27) := ⟨_, rfl⟩
  have HF : Hid (Fr (fun _ => False) w v) := hide (by rw [hv]; exact (Fr.refl _ w).alloc _)
  have hTB : TB v w.heap.size A t := by rw [hv]; exact TB.new w A t
  obtain ⟨B, hB⟩ : ∃ B, B = w.heap.size := ⟨_, rfl⟩
  rw [← hB] at hTB
  have HTB := hide hTB
  have HV := hide hv
  have HB := hide hB
  have HNN := hide hn
  have HNO := hide hno
  clear hv hB hTB h hl hn ho hno
  unfold tv
  unfold tc at HV ⊢
  go_enter Try.func7, Try.ntmps7
  go_upto_region 1 with (fail)
  rw [← unhide HV, ← unhide HB]
  clear HV
  go_wp2_with fail
  refine (awake_anyC v).mono ?_
  rintro e w1 ⟨rfl, hF⟩
  replace HF := hide ((unhide HF).trans hF (fun _ _ t => t))
  replace HTB := hide ((unhide HTB).keep hF)
  clear hF
  have R1 := capsDay_any w1 A t ((unhide H).keep (unhide HF)) ao0 cap0 day l (unhide HL w1 (unhide HF))
  have HDZ : Hid (dE t day l ≠ 0 → dR t day l = dz) := hide (fun q => by unfold dR; rw [if_neg q])
  obtain ⟨D, hD⟩ : ∃ D, dR t day l = D := ⟨_, rfl⟩
  obtain ⟨E, hE⟩ : ∃ E, dE t day l = E := ⟨_, rfl⟩
  rw [hD, hE] at R1 HDZ
  obtain ⟨r0, r1, r2, r3, r4, r5, r6⟩ := D
  simp only [dyC] at R1
  go_wp2_with (refine wpList_load_tariff rfl (.tmp 4) rfl (g := B) (A := A) (t := t) rfl (unhide HTB) ?_)
  refine R1.mono ?_
  rintro e w2 ⟨rfl, hF⟩
  replace HF := hide ((unhide HF).trans hF (fun _ _ t => t))
  replace HTB := hide ((unhide HTB).keep hF)
  clear hF R1
  go_upto_region 3 with (fail)
  obtain ⟨w3, hw3⟩ : ∃ w3, w3 = w2.alloc (.cells #[.int .i64 r0, .int .i64 r1, .int .i64 r2, .int .i64 r3, .int .i64 r4, .int .i64 r5, .int .i64 r6] 36) := ⟨_, rfl⟩
  obtain ⟨D1, hD1⟩ : ∃ D1, D1 = w2.heap.size := ⟨_, rfl⟩
  rw [← hw3, ← hD1]
  have hF : Fr (fun _ => False) w2 w3 := by rw [hw3]; exact (Fr.refl _ _).alloc _
  have HD1 : Hid (Bx w3 D1 #[.int .i64 r0, .int .i64 r1, .int .i64 r2, .int .i64 r3, .int .i64 r4, .int .i64 r5, .int .i64 r6] 36) := hide (by rw [hw3, hD1]; exact Bx.new _ _ _)
  have HBD : Hid (B < D1) := hide (by rw [hD1]; exact (unhide HTB).lt)
  replace HF := hide ((unhide HF).trans hF (fun _ _ t => t))
  replace HTB := hide ((unhide HTB).keep hF)
  clear hF hw3 hD1
  by_cases hE0 : E = 0
  · subst hE0
    have HDE := hide (And.intro hD hE)
    clear hD hE HDZ
    obtain ⟨info, hi, hzz⟩ := Option.map_eq_some_iff.1 pInfo
    simp only [Prod.mk.injEq] at hzz
    obtain ⟨hz0, hs, hy⟩ := hzz
    obtain ⟨z, hz, hzc⟩ := Option.map_eq_some_iff.1 hz0
    have HIN : Hid (Try.prog.info? 34 = some info ∧ info.zero = some z ∧ z.cells.size = 7 ∧ info.size = 7 ∧ info.bytes = 56) := hide ⟨hi, hz, by rw [hzc]; rfl, hs, hy⟩
    have HLN : Hid (l.length + 1 ≤ 140737488355328) := hide (by have := unhide HNN; omega)
    clear hz0 hs hy hz hzc hi
    have HSR := hide (CAt.src (unhide HL w3 (unhide HF)) 28 34 7 l.length cap0 (by omega) Try.underlying28 (pV_length _) (pV_one _))
    go_wp2_with (at_builtin; refine wpList_append_krow _ rfl (.tmp 39) (.tmp 40) 28 28 rfl 34 info _ 7 (by omega) Try.underlying28 (unhide HIN).1 (unhide HIN).2.1 (unhide HIN).2.2.1 (unhide HIN).2.2.2.1 rfl (KRow.nil w3 0 7) rfl _ (pV l) l.length rfl (unhide HSR) (by rw [(unhide HIN).2.2.2.2]; have := unhide HNN; omega) (by have := unhide HLN; omega) ?_)
    intro ao2 cap2 w4 g hK hG
    have hF : Fr (fun _ => False) w3 w4 := by
      rcases hG with ⟨_, _, f⟩ | ⟨_, _, f⟩
      · exact f.mono (fun q hq e => by omega)
      · exact f
    have HGG : Hid (0 < cap2 → w.heap.size ≤ g ∧ B < g ∧ D1 < g) := hide (fun hc => by
      have a := (unhide HF).size
      have b := (unhide HTB).lt
      have c := (unhide HD1).lt
      rcases hG with ⟨e1, e2, _⟩ | ⟨e1, e2, _⟩
      · omega
      · omega)
    have HS0 : Hid (Fr (fun _ => False) w w4 ∧ TB w4 B A t ∧ Bx w4 D1 #[.int .i64 r0, .int .i64 r1, .int .i64 r2, .int .i64 r3, .int .i64 r4, .int .i64 r5, .int .i64 r6] 36 ∧ KRow w4 ao2 cap2 g 7 (pV l) ∧ (0 < cap2 → w.heap.size ≤ g ∧ B < g ∧ D1 < g)) := hide ⟨(unhide HF).trans hF (fun _ _ t => t), (unhide HTB).keep hF, (unhide HD1).keep hF, hK, unhide HGG⟩
    clear hF hG hK HF HTB HD1 HGG HSR HIN HBD
    have hln : l.length ≤ 140737488355328 := by have := unhide HLN; omega
    have hlo2 := unhide HNO
    go_wp2
    go_loopw [13, 14, 15, 16] (fun iv _ _ _ wr => ∃ (i : Nat) (mm : List (Jn × Int)), i ≤ os.length ∧ iv = .int .i64 i ∧ l.Perm mm ∧ Hid (Fr (fun _ => False) w wr ∧ TB wr B A t ∧ Bx wr D1 #[.int .i64 r0, .int .i64 r1, .int .i64 r2, .int .i64 r3, .int .i64 r4, .int .i64 r5, .int .i64 r6] 36 ∧ KRow wr ao2 cap2 g 7 (pV mm) ∧ (0 < cap2 → w.heap.size ≤ g ∧ B < g ∧ D1 < g))) (fun iv _ _ _ _ => os.length - (intOf iv).toNat)
    case atStart => exact ⟨0, l, Nat.zero_le _, rfl, List.Perm.refl _, HS0⟩
    case round =>
      obtain ⟨i, mm, hi, rfl, hperm, HI⟩ := hrel
      clear HS0
      by_cases hlo : i < os.length
      · by_cases hlp : 0 < l.length
        · obtain ⟨ob, oo, hao, hoc⟩ := (unhide HO wr (unhide HI).1).ints hlo
          subst hao
          have HLM := hide hperm.length_eq
          generalize os[i] = od at *
          have han : bits .and .i64 od 65535 = od % 65536 := and16 od
          obtain ⟨N, hN⟩ : ∃ N : Nat, od % 65536 = (N : Int) := ⟨(od % 65536).toNat, by omega⟩
          rw [hN] at han
          have hN2 : (N : Int) < 65536 := by omega
          clear hN
          have hlt : (i : Int) < (os.length : Int) := by omega
          have hlp2 : (0 : Int) < (l.length : Int) := by omega
          have hlpb : ((l.length : Int) == 0) = false := beq_eq_false_iff_ne.2 (by omega)
          have hm1 : (N : Int).tmod (l.length : Int) = ((N % l.length : Nat) : Int) := by rw [Int.tmod_eq_emod_of_nonneg (by omega)]; rfl
          have hm2 : (i : Int).tmod (l.length : Int) = ((i % l.length : Nat) : Int) := by rw [Int.tmod_eq_emod_of_nonneg (by omega)]; rfl
          go_upto_region 12 with (fail)
          obtain ⟨K, HK⟩ : ∃ K, Hid (K = N % l.length) := ⟨_, hide rfl⟩
          obtain ⟨Q, HQ⟩ : ∃ Q, Hid (Q = i % l.length) := ⟨_, hide rfl⟩
          have hkk : (N : Int) % (l.length : Int) = (K : Int) := by rw [unhide HK]; rfl
          have hqq : (i : Int) % (l.length : Int) = (Q : Int) := by rw [unhide HQ]; rfl
          rw [hkk, hqq]
          have HKL : Hid (K < l.length ∧ Q < l.length) := hide ⟨by rw [unhide HK]; exact Nat.mod_lt _ hlp, by rw [unhide HQ]; exact Nat.mod_lt _ hlp⟩
          have hk1 : (K : Int) < (l.length : Int) := by have := (unhide HKL).1; omega
          have hq1 : (Q : Int) < (l.length : Int) := by have := (unhide HKL).2; omega
          have hkm : K < mm.length := by rw [← unhide HLM]; exact (unhide HKL).1
          have hqm : Q < mm.length := by rw [← unhide HLM]; exact (unhide HKL).2
          clear hkk hqq hm1 hm2 han hN2
          have HPM : Hid (l.Perm ((mm.set K mm[Q]).set Q mm[K])) := hide (swap_perm hperm hkm hqm)
          obtain ⟨rfl, hcp, hka⟩ := pV_cell (unhide HI).2.2.2.1 (k := K) (b := mm[K]) (List.getElem?_eq_getElem hkm)
          obtain ⟨_, _, hqa⟩ := pV_cell (unhide HI).2.2.2.1 (k := Q) (b := mm[Q]) (List.getElem?_eq_getElem hqm)
          have HCP := hide hcp
          have HKM := hide hkm
          have HQM := hide hqm
          clear hcp
          generalize mm[K] = bk at *
          generalize mm[Q] = bq at *
          obtain ⟨⟨k, f, o, s, n, r⟩, m⟩ := bk
          obtain ⟨⟨k2, f2, o2, s2, n2, r2'⟩, m2⟩ := bq
          have a0 : wr.cell? ⟨g, K * 7, none⟩ = some (.int .i64 k) := hka 0 (by omega) _ rfl
          have a1 : wr.cell? ⟨g, K * 7 + 1, none⟩ = some (.int .i64 f) := hka 1 (by omega) _ rfl
          have a2 : wr.cell? ⟨g, K * 7 + 2, none⟩ = some (.int .i64 o) := hka 2 (by omega) _ rfl
          have a3 : wr.cell? ⟨g, K * 7 + 3, none⟩ = some (.int .i64 s) := hka 3 (by omega) _ rfl
          have a4 : wr.cell? ⟨g, K * 7 + 4, none⟩ = some (.int .i64 n) := hka 4 (by omega) _ rfl
          have a5 : wr.cell? ⟨g, K * 7 + 5, none⟩ = some (.bool r) := hka 5 (by omega) _ rfl
          have a6 : wr.cell? ⟨g, K * 7 + 6, none⟩ = some (.int .i64 m) := hka 6 (by omega) _ rfl
          clear hka hkm hqm hperm
          go_upto_region 13 with (fail)
          obtain ⟨u1, hu1⟩ : ∃ u1, u1 = wr.alloc (.cells #[.int .i64 k, .int .i64 f, .int .i64 o, .int .i64 s, .int .i64 n, .bool r, .int .i64 m] 34) := ⟨_, rfl⟩
          obtain ⟨X, hX⟩ : ∃ X, X = wr.heap.size := ⟨_, rfl⟩
          rw [← hu1, ← hX]
          have HJ : Hid (Bx u1 X (pC (⟨k, f, o, s, n, r⟩, m)) 34) := hide (by rw [hu1, hX]; exact Bx.new _ _ _)
          have hFa : Fr (fun _ => False) wr u1 := by rw [hu1]; exact (Fr.refl _ _).alloc _
          obtain ⟨i1, i2, i3, i4, i5⟩ := unhide HI
          have HGX : Hid (g < X) := hide (by rw [hX]; exact i4.lt (by omega) (unhide HCP))
          have J1 := hide (i1.trans hFa (fun _ _ t => t))
          have J2 := hide (i2.keep hFa)
          have J3 := hide (i3.keep hFa)
          have J4 := hide (i4.keep (by omega) hFa)
          have J5 := hide i5
          have f' : ∀ {a : Addr} {v : Value}, wr.cell? a = some v → u1.cell? a = some v := fun {a v} e => (hFa.cell (World.block_lt_of_cell? _ _ e) (fun t => t)).trans e
          have b0 : u1.cell? ⟨g, Q * 7, none⟩ = some (.int .i64 k2) := f' (hqa 0 (by omega) _ rfl)
          have b1 : u1.cell? ⟨g, Q * 7 + 1, none⟩ = some (.int .i64 f2) := f' (hqa 1 (by omega) _ rfl)
          have b2 : u1.cell? ⟨g, Q * 7 + 2, none⟩ = some (.int .i64 o2) := f' (hqa 2 (by omega) _ rfl)
          have b3 : u1.cell? ⟨g, Q * 7 + 3, none⟩ = some (.int .i64 s2) := f' (hqa 3 (by omega) _ rfl)
          have b4 : u1.cell? ⟨g, Q * 7 + 4, none⟩ = some (.int .i64 n2) := f' (hqa 4 (by omega) _ rfl)
          have b5 : u1.cell? ⟨g, Q * 7 + 5, none⟩ = some (.bool r2') := f' (hqa 5 (by omega) _ rfl)
          have b6 : u1.cell? ⟨g, Q * 7 + 6, none⟩ = some (.int .i64 m2) := f' (hqa 6 (by omega) _ rfl)
          have hroom : ∀ c, c < 7 → (∃ x, u1.cell? ⟨g, K * 7 + c, none⟩ = some x) ∧ u1.frozen? ⟨g, K * 7 + c, none⟩ = false := fun c hc => by
            have hle := (unhide J4).le
            have h1 := pV_length mm
            have h2 := unhide HKM
            have := (unhide J4).room (K * 7 + c) (by omega)
            exact ⟨Option.isSome_iff_exists.1 this.1, this.2⟩
          obtain ⟨⟨x0, y0⟩, z0⟩ := hroom 0 (by omega)
          obtain ⟨⟨x1, y1⟩, z1⟩ := hroom 1 (by omega)
          obtain ⟨⟨x2, y2⟩, z2⟩ := hroom 2 (by omega)
          obtain ⟨⟨x3, y3⟩, z3⟩ := hroom 3 (by omega)
          obtain ⟨⟨x4, y4⟩, z4⟩ := hroom 4 (by omega)
          obtain ⟨⟨x5, y5⟩, z5⟩ := hroom 5 (by omega)
          obtain ⟨⟨x6, y6⟩, z6⟩ := hroom 6 (by omega)
          rw [Nat.add_zero] at y0 z0
          clear hroom i1 i2 i3 i4 i5 hFa hu1 hX HI f' hqa a0 a1 a2 a3 a4 a5 a6
          go_upto_region 14 with (fail)
          obtain ⟨u2, hu2⟩ : ∃ u2, u2 = (((((((u1.setCell ⟨g, K * 7, none⟩ (.int .i64 k2)).setCell ⟨g, K * 7 + 1, none⟩ (.int .i64 f2)).setCell ⟨g, K * 7 + 2, none⟩ (.int .i64 o2)).setCell ⟨g, K * 7 + 3, none⟩ (.int .i64 s2)).setCell ⟨g, K * 7 + 4, none⟩ (.int .i64 n2)).setCell ⟨g, K * 7 + 5, none⟩ (.bool r2')).setCell ⟨g, K * 7 + 6, none⟩ (.int .i64 m2)) := ⟨_, rfl⟩
          rw [← hu2]
          have hf : Fr (fun q => q = g) u1 u2 := by
            rw [hu2]
            repeat (with_reducible (first | exact Fr.refl _ _ | refine Fr.setOwn ?_ _ _))
          have J4b := hide (show KRow u2 (some ⟨g, 0, none⟩) cap2 g 7 (pV (mm.set K (⟨k2, f2, o2, s2, n2, r2'⟩, m2))) from by
            rw [hu2]
            exact (unhide J4).setP (unhide HKM) (⟨k2, f2, o2, s2, n2, r2'⟩, m2))
          have hg := unhide J5 (unhide HCP)
          have J1b := hide ((unhide J1).trans hf (fun q hq e => by omega))
          have J2b := hide ((unhide J2).frame hf (by omega))
          have J3b := hide ((unhide J3).frame hf (by omega))
          have HJ2 := hide ((unhide HJ).frame hf (by have := unhide HGX; omega))
          clear hf hu2 hg J1 J2 J3 J4 HJ y0 y1 y2 y3 y4 y5 y6 z0 z1 z2 z3 z4 z5 z6 b0 b1 b2 b3 b4 b5 b6
          have hx := unhide HJ2
          have c0 : u2.cell? ⟨X, 0, none⟩ = some (.int .i64 k) := hx.cell 0
          have c1 : u2.cell? ⟨X, 1, none⟩ = some (.int .i64 f) := hx.cell 1
          have c2 : u2.cell? ⟨X, 2, none⟩ = some (.int .i64 o) := hx.cell 2
          have c3 : u2.cell? ⟨X, 3, none⟩ = some (.int .i64 s) := hx.cell 3
          have c4 : u2.cell? ⟨X, 4, none⟩ = some (.int .i64 n) := hx.cell 4
          have c5 : u2.cell? ⟨X, 5, none⟩ = some (.bool r) := hx.cell 5
          have c6 : u2.cell? ⟨X, 6, none⟩ = some (.int .i64 m) := hx.cell 6
          clear hx
          have hroom : ∀ c, c < 7 → (∃ x, u2.cell? ⟨g, Q * 7 + c, none⟩ = some x) ∧ u2.frozen? ⟨g, Q * 7 + c, none⟩ = false := fun c hc => by
            have hle := (unhide J4b).le
            have h1 := pV_length (mm.set K (⟨k2, f2, o2, s2, n2, r2'⟩, m2))
            rw [List.length_set] at h1
            have h2 := unhide HQM
            have := (unhide J4b).room (Q * 7 + c) (by omega)
            exact ⟨Option.isSome_iff_exists.1 this.1, this.2⟩
          obtain ⟨⟨x0, y0⟩, z0⟩ := hroom 0 (by omega)
          obtain ⟨⟨x1, y1⟩, z1⟩ := hroom 1 (by omega)
          obtain ⟨⟨x2, y2⟩, z2⟩ := hroom 2 (by omega)
          obtain ⟨⟨x3, y3⟩, z3⟩ := hroom 3 (by omega)
          obtain ⟨⟨x4, y4⟩, z4⟩ := hroom 4 (by omega)
          obtain ⟨⟨x5, y5⟩, z5⟩ := hroom 5 (by omega)
          obtain ⟨⟨x6, y6⟩, z6⟩ := hroom 6 (by omega)
          rw [Nat.add_zero] at y0 z0
          clear hroom
          go_upto_region 9 with (fail)
          obtain ⟨u3, hu3⟩ : ∃ u3, u3 = (((((((u2.setCell ⟨g, Q * 7, none⟩ (.int .i64 k)).setCell ⟨g, Q * 7 + 1, none⟩ (.int .i64 f)).setCell ⟨g, Q * 7 + 2, none⟩ (.int .i64 o)).setCell ⟨g, Q * 7 + 3, none⟩ (.int .i64 s)).setCell ⟨g, Q * 7 + 4, none⟩ (.int .i64 n)).setCell ⟨g, Q * 7 + 5, none⟩ (.bool r)).setCell ⟨g, Q * 7 + 6, none⟩ (.int .i64 m)) := ⟨_, rfl⟩
          rw [← hu3]
          have hf : Fr (fun q => q = g) u2 u3 := by
            rw [hu3]
            repeat (with_reducible (first | exact Fr.refl _ _ | refine Fr.setOwn ?_ _ _))
          have hg := unhide J5 (unhide HCP)
          have HS1 : Hid (Fr (fun _ => False) w u3 ∧ TB u3 B A t ∧ Bx u3 D1 #[.int .i64 r0, .int .i64 r1, .int .i64 r2, .int .i64 r3, .int .i64 r4, .int .i64 r5, .int .i64 r6] 36 ∧ KRow u3 (some ⟨g, 0, none⟩) cap2 g 7 (pV ((mm.set K (⟨k2, f2, o2, s2, n2, r2'⟩, m2)).set Q (⟨k, f, o, s, n, r⟩, m))) ∧ (0 < cap2 → w.heap.size ≤ g ∧ B < g ∧ D1 < g)) := hide ⟨(unhide J1b).trans hf (fun q hq e => by omega), (unhide J2b).frame hf (by omega), (unhide J3b).frame hf (by omega), by
            rw [hu3]
            exact (unhide J4b).setP (by rw [List.length_set]; exact unhide HQM) (⟨k, f, o, s, n, r⟩, m), unhide J5⟩
          clear hf hu3 hg J1b J2b J3b J4b HJ2 y0 y1 y2 y3 y4 y5 y6 z0 z1 z2 z3 z4 z5 z6 c0 c1 c2 c3 c4 c5 c6
          go_wp2
          exact ⟨⟨i + 1, _, by omega, by go_num, unhide HPM, HS1⟩, by simp [intOf]; omega⟩
        · have hl0 : ¬ (0 : Int) < (l.length : Int) := by omega
          have hlt : (i : Int) < (os.length : Int) := by omega
          have HP := hide hperm
          obtain ⟨i1, i2, i3, i4, i5⟩ := unhide HI
          have hcat := KRow.cat i4
          have R4 := capsDay_any wr A t ((unhide H).keep i1) ao2 cap2 day mm hcat
          rw [(day_perm hperm (unhide HDE).2).1, (day_perm hperm (unhide HDE).2).2, (unhide HDE).1, ← hperm.length_eq] at R4
          simp only [dyC] at R4
          have HB1 := hide i2
          have HF := hide i1
          have HD1 := hide i3
          clear HI i1 i2 i3 i4 i5 hcat
          go_wp2_with (refine wpList_load_tariff rfl (.tmp 4) rfl (g := B) (A := A) (t := t) rfl (unhide HB1) ?_)
          refine R4.mono ?_
          rintro e w7 ⟨rfl, hF⟩
          replace HF := hide ((unhide HF).trans hF (fun _ _ t => t))
          replace HD1 := hide ((unhide HD1).keep hF)
          clear hF R4 HB1
          go_upto_region 16 with (fail)
          obtain ⟨w8, hw8⟩ : ∃ w8, w8 = w7.alloc (.cells #[.int .i64 r0, .int .i64 r1, .int .i64 r2, .int .i64 r3, .int .i64 r4, .int .i64 r5, .int .i64 r6] 36) := ⟨_, rfl⟩
          obtain ⟨D2, hD2⟩ : ∃ D2, D2 = w7.heap.size := ⟨_, rfl⟩
          rw [← hw8, ← hD2]
          have hF : Fr (fun _ => False) w7 w8 := by rw [hw8]; exact (Fr.refl _ _).alloc _
          have HB2 : Bx w8 D2 #[.int .i64 r0, .int .i64 r1, .int .i64 r2, .int .i64 r3, .int .i64 r4, .int .i64 r5, .int .i64 r6] 36 := by rw [hw8, hD2]; exact Bx.new _ _ _
          have HB1' := (unhide HD1).keep hF
          replace HF := hide ((unhide HF).trans hF (fun _ _ t => t))
          clear hF hw8 hD2 HD1
          have a0 : w8.cell? ⟨D1, 0, none⟩ = some (.int .i64 r0) := HB1'.cell 0
          have a1 : w8.cell? ⟨D1, 1, none⟩ = some (.int .i64 r1) := HB1'.cell 1
          have a2 : w8.cell? ⟨D1, 2, none⟩ = some (.int .i64 r2) := HB1'.cell 2
          have a3 : w8.cell? ⟨D1, 3, none⟩ = some (.int .i64 r3) := HB1'.cell 3
          have a4 : w8.cell? ⟨D1, 4, none⟩ = some (.int .i64 r4) := HB1'.cell 4
          have a5 : w8.cell? ⟨D1, 5, none⟩ = some (.int .i64 r5) := HB1'.cell 5
          have a6 : w8.cell? ⟨D1, 6, none⟩ = some (.int .i64 r6) := HB1'.cell 6
          have b0 : w8.cell? ⟨D2, 0, none⟩ = some (.int .i64 r0) := HB2.cell 0
          have b1 : w8.cell? ⟨D2, 1, none⟩ = some (.int .i64 r1) := HB2.cell 1
          have b2 : w8.cell? ⟨D2, 2, none⟩ = some (.int .i64 r2) := HB2.cell 2
          have b3 : w8.cell? ⟨D2, 3, none⟩ = some (.int .i64 r3) := HB2.cell 3
          have b4 : w8.cell? ⟨D2, 4, none⟩ = some (.int .i64 r4) := HB2.cell 4
          have b5 : w8.cell? ⟨D2, 5, none⟩ = some (.int .i64 r5) := HB2.cell 5
          have b6 : w8.cell? ⟨D2, 6, none⟩ = some (.int .i64 r6) := HB2.cell 6
          have q1 := egD
          have q2 := eqD
          clear HB2 HB1'
          go_wp2
          go_ret
          exact ⟨by first | rfl | simp, unhide HF⟩
      · have hlt : ¬ (i : Int) < (os.length : Int) := by omega
        have HP := hide hperm
        obtain ⟨i1, i2, i3, i4, i5⟩ := unhide HI
        have hcat := KRow.cat i4
        have R4 := capsDay_any wr A t ((unhide H).keep i1) ao2 cap2 day mm hcat
        rw [(day_perm hperm (unhide HDE).2).1, (day_perm hperm (unhide HDE).2).2, (unhide HDE).1, ← hperm.length_eq] at R4
        simp only [dyC] at R4
        have HB1 := hide i2
        have HF := hide i1
        have HD1 := hide i3
        clear HI i1 i2 i3 i4 i5 hcat
        go_wp2_with (refine wpList_load_tariff rfl (.tmp 4) rfl (g := B) (A := A) (t := t) rfl (unhide HB1) ?_)
        refine R4.mono ?_
        rintro e w7 ⟨rfl, hF⟩
        replace HF := hide ((unhide HF).trans hF (fun _ _ t => t))
        replace HD1 := hide ((unhide HD1).keep hF)
        clear hF R4 HB1
        go_upto_region 16 with (fail)
        obtain ⟨w8, hw8⟩ : ∃ w8, w8 = w7.alloc (.cells #[.int .i64 r0, .int .i64 r1, .int .i64 r2, .int .i64 r3, .int .i64 r4, .int .i64 r5, .int .i64 r6] 36) := ⟨_, rfl⟩
        obtain ⟨D2, hD2⟩ : ∃ D2, D2 = w7.heap.size := ⟨_, rfl⟩
        rw [← hw8, ← hD2]
        have hF : Fr (fun _ => False) w7 w8 := by rw [hw8]; exact (Fr.refl _ _).alloc _
        have HB2 : Bx w8 D2 #[.int .i64 r0, .int .i64 r1, .int .i64 r2, .int .i64 r3, .int .i64 r4, .int .i64 r5, .int .i64 r6] 36 := by rw [hw8, hD2]; exact Bx.new _ _ _
        have HB1' := (unhide HD1).keep hF
        replace HF := hide ((unhide HF).trans hF (fun _ _ t => t))
        clear hF hw8 hD2 HD1
        have a0 : w8.cell? ⟨D1, 0, none⟩ = some (.int .i64 r0) := HB1'.cell 0
        have a1 : w8.cell? ⟨D1, 1, none⟩ = some (.int .i64 r1) := HB1'.cell 1
        have a2 : w8.cell? ⟨D1, 2, none⟩ = some (.int .i64 r2) := HB1'.cell 2
        have a3 : w8.cell? ⟨D1, 3, none⟩ = some (.int .i64 r3) := HB1'.cell 3
        have a4 : w8.cell? ⟨D1, 4, none⟩ = some (.int .i64 r4) := HB1'.cell 4
        have a5 : w8.cell? ⟨D1, 5, none⟩ = some (.int .i64 r5) := HB1'.cell 5
        have a6 : w8.cell? ⟨D1, 6, none⟩ = some (.int .i64 r6) := HB1'.cell 6
        have b0 : w8.cell? ⟨D2, 0, none⟩ = some (.int .i64 r0) := HB2.cell 0
        have b1 : w8.cell? ⟨D2, 1, none⟩ = some (.int .i64 r1) := HB2.cell 1
        have b2 : w8.cell? ⟨D2, 2, none⟩ = some (.int .i64 r2) := HB2.cell 2
        have b3 : w8.cell? ⟨D2, 3, none⟩ = some (.int .i64 r3) := HB2.cell 3
        have b4 : w8.cell? ⟨D2, 4, none⟩ = some (.int .i64 r4) := HB2.cell 4
        have b5 : w8.cell? ⟨D2, 5, none⟩ = some (.int .i64 r5) := HB2.cell 5
        have b6 : w8.cell? ⟨D2, 6, none⟩ = some (.int .i64 r6) := HB2.cell 6
        have q1 := egD
        have q2 := eqD
        clear HB2 HB1'
        go_wp2
        go_ret
        exact ⟨by first | rfl | simp, unhide HF⟩
  · have hz := unhide HDZ hE0
    injection hz with z0 z1 z2 z3 z4 z5 z6
    subst z0 z1 z2 z3 z4 z5 z6
    have hb2 : (E == 0) = false := by simp [hE0]
    have hb3 : (E != 0) = true := by simp [hE0]
    have hx := unhide HD1
    have a0 : w3.cell? ⟨D1, 0, none⟩ = some (.int .i64 0) := hx.cell 0
    have a1 : w3.cell? ⟨D1, 1, none⟩ = some (.int .i64 0) := hx.cell 1
    have a2 : w3.cell? ⟨D1, 2, none⟩ = some (.int .i64 0) := hx.cell 2
    have a3 : w3.cell? ⟨D1, 3, none⟩ = some (.int .i64 0) := hx.cell 3
    have a4 : w3.cell? ⟨D1, 4, none⟩ = some (.int .i64 0) := hx.cell 4
    have a5 : w3.cell? ⟨D1, 5, none⟩ = some (.int .i64 0) := hx.cell 5
    have a6 : w3.cell? ⟨D1, 6, none⟩ = some (.int .i64 0) := hx.cell 6
    have q1 := egD
    have q2 := eqD
    clear hx HD1 HDZ hD hE hE0
    go_wp2
    go_ret
    exact ⟨by first | rfl | simp, unhide HF⟩

end Go.Proofs.Ytkbcochjeooicaa

