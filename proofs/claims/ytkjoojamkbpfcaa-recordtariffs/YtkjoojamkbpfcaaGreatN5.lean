/- Lists of records, written. -/
import Derived.Test.YtkjoojamkbpfcaaGreatN4
namespace Go.Proofs.YtkjoojamkbpfcaaGreat
open Go.RowKit

set_option maxHeartbeats 1000000 in
theorem listStation_w {w : World} {p g b : Nat} {st : Option (List UInt8)} {cs : Array Value} {t : TypeId} (h : WB w p g b st cs t) (o : Nat) (ao : Option Addr) (cap : Nat) (l : List Stn) (ho : cs[o]? = some (.slice ao l.length cap)) (hc : CAt w ao (stV l))
    (hsep : ∀ q off, ao = some ⟨q, off, none⟩ → 0 < l.length → q ≠ p ∧ q ≠ g) (hm : ∀ x ∈ l, x.id ≤ 9223372036854775807 ∧ x.zone ≤ 9223372036854775807 ∧ x.group ≤ 9223372036854775807) (hl : l.length ≤ 65535) (Lm : Nat) (hL : Most st Lm) (hfit : Lm + 2 + l.length * wide stationK + 66200 ≤ 140737488355328) (most : Nat) :
    Calls Tryz.prog 37 #[walkW p, .pointer (some ⟨b, o, none⟩), .int .i64 most, .func (Fn.func 38) #[] #[]] w (WDone p g (stepW st (wrM stationK (l.map stC))) w) := by
  have H := hide h
  have HO := hide ho
  have HC := hide hc
  have HSP := hide hsep
  have HM := hide hm
  have HL := hide hL
  have HT := hide hfit
  have hp := h.plt
  have hb := h.x.lt
  have hgl := h.gl
  clear h ho hc hsep hm hL hfit
  go_enter Tryz.func37, Tryz.ntmps37
  go_wp2_with fail
  have HX0 : Hid (Bx (w.alloc (.cells #[.pointer (some ⟨p, 0, none⟩), .pointer none] 59)) w.heap.size #[.pointer (some ⟨p, 0, none⟩), .pointer none] 59) := hide (Bx.new _ _ _)
  have HB0 := hide ((unhide H).alloc (.cells #[.pointer (some ⟨p, 0, none⟩), .pointer none] 59))
  have HF0 : Hid (Fr (fun _ => False) w (w.alloc (.cells #[.pointer (some ⟨p, 0, none⟩), .pointer none] 59))) := hide ((Fr.refl _ _).alloc _)
  obtain ⟨N, HN⟩ : ∃ N, Hid (w.heap.size = N) := ⟨_, rfl⟩
  have hNp : N ≠ p := by have := unhide HN; omega
  have hN0 : N ≠ g := by have := unhide HN; omega
  rw [unhide HN] at HX0 ⊢
  generalize w.alloc (.cells #[.pointer (some ⟨p, 0, none⟩), .pointer none] 59) = w0 at *
  have m0 : w0.cell? ⟨N, 0, none⟩ = some (.pointer (some ⟨p, 0, none⟩)) := (unhide HX0).cell 0
  have m1 : w0.cell? ⟨b, o, none⟩ = some (.slice ao l.length cap) := ((unhide HB0).x.cell o).trans (unhide HO)
  have HL0 : Hid (WL w w0 p g g b N st cs t) := hide ⟨unhide HB0, unhide HX0, (unhide HF0).mono (fun _ _ t => t.elim), Or.inl rfl, hN0, hNp⟩
  have HC0 := hide (wcount_any (unhide HB0).drew.s (fun bs e => by have := unhide HL bs e; have := unhide HT; omega) (l.length : Int))
  go_region_held3 (fun w' => w'.cell? ⟨N, 0, none⟩ = some (.pointer (some ⟨p, 0, none⟩)) ∧ w'.cell? ⟨b, o, none⟩ = some (.slice ao l.length cap)) (go_keep)
    ((go_at_call 80; refine (unhide HC0).mono ?_; rintro e w1 ⟨rfl, hP⟩; obtain ⟨g1, hL1⟩ := (unhide HL0).next ((Fr.refl (fun _ => False) w0).drew) (WP.of hP (unhide HB0).gl); have k0 : w1.cell? ⟨N, 0, none⟩ = some (.pointer (some ⟨p, 0, none⟩)) := hL1.wk.cell 0; have k1 : w1.cell? ⟨b, o, none⟩ = some (.slice ao l.length cap) := (hL1.wb.x.cell o).trans (unhide HO); have HL1 := hide hL1; clear hP hL1))
  clear HC0 HL0 HB0 HX0 HF0 m0 m1
  go_wp2
  go_loopw [9, 25] (fun _ iv wr => ∃ i : Nat, i ≤ l.length ∧ iv = .int .i64 i ∧ ∃ g2, Hid (WL w wr p g g2 b N (stepW (stepW st (wCount (l.length : Int))) (wrN stationK ((l.take i).map stC))) cs t)) (fun _ iv _ => l.length - (intOf iv).toNat)
  case atStart =>
    refine ⟨0, Nat.zero_le _, rfl, g1, ?_⟩
    have e : stepW (stepW st (wCount (l.length : Int))) (wrN stationK ((l.take 0).map stC)) = stepW st (wCount (l.length : Int)) := by simp [wrN, stepW_nil]
    rw [e]
    exact unhide HL1
  case round =>
    clear HL1
    obtain ⟨i, hi, rfl, g2, HS⟩ := hrel
    by_cases hlt : i < l.length
    · have c0 : wr.cell? ⟨N, 0, none⟩ = some (.pointer (some ⟨p, 0, none⟩)) := (unhide HS).wk.cell 0
      have c1 : wr.cell? ⟨N, 1, none⟩ = some (.pointer none) := (unhide HS).wk.cell 1
      have hNl : N < wr.heap.size := (unhide HS).wk.lt
      have hcat : CAt wr ao (stV l) := (unhide HC).frame (unhide HS).fr (fun q off e h0 => by
        have := unhide HSP q off e (by omega)
        omega)
      obtain ⟨q, off, rfl, hcell⟩ := cat_cell stC 3 (fun _ => rfl) hcat hlt (by omega)
      obtain ⟨hx0, hx1, hx2⟩ := unhide HM l[i] (List.getElem_mem hlt)
      obtain ⟨st1, Hst⟩ : ∃ st1, Hid (stepW (stepW st (wCount (l.length : Int))) (wrN stationK ((l.take i).map stC)) = st1) := ⟨_, rfl⟩
      have hM1 : Most st1 (Lm + 2 + l.length * wide stationK) := by
        rw [← unhide Hst]
        refine (((unhide HL).step (Most.count _)).step (Most.wrN _ _)).mono ?_
        rw [List.length_map, List.length_take]
        have : min i l.length * wide stationK ≤ l.length * wide stationK := Nat.mul_le_mul_right _ (by omega)
        omega
      have HM1 := hide hM1
      rw [unhide Hst] at HS
      have HNX : Hid (stepW (stepW st (wCount (l.length : Int))) (wrN stationK ((l.take (i + 1)).map stC)) = stepW st1 (wrL stationK (stC l[i]))) := hide (by
        rw [List.take_succ_eq_append_getElem hlt, List.map_append, List.map_cons, List.map_nil, wrN_snoc, ← stepW_assoc, unhide Hst])
      generalize l[i] = x at hcell HNX hx0 hx1 hx2
      have e0 : wr.cell? ⟨q, off + i * 3, none⟩ = some (.int .i64 x.id) := hcell 0 (by omega)
      have e1 : wr.cell? ⟨q, off + i * 3 + 1, none⟩ = some (.int .i64 x.zone) := hcell 1 (by omega)
      have e2 : wr.cell? ⟨q, off + i * 3 + 2, none⟩ = some (.int .i64 x.group) := hcell 2 (by omega)
      clear hcat hcell hM1
      have HBX : Hid (WB (wr.alloc (.cells #[.int .i64 x.id, .int .i64 x.zone, .int .i64 x.group] 42)) p g2 wr.heap.size st1 #[.int .i64 x.id, .int .i64 x.zone, .int .i64 x.group] 42) := hide ((unhide HS).elem ((Fr.refl (fun _ => False) wr).alloc (.cells #[.int .i64 x.id, .int .i64 x.zone, .int .i64 x.group] 42)) (Bx.new wr #[.int .i64 x.id, .int .i64 x.zone, .int .i64 x.group] 42))
      go_wp2_with fail
      refine (station_w x.id x.zone x.group (unhide HBX) hx0 hx1 hx2 _ (unhide HM1) (by have := unhide HT; omega)).mono ?_
      rintro e w2 ⟨rfl, hP⟩
      obtain ⟨g3, hL3⟩ := (unhide HS).next ((Fr.refl (fun _ => False) wr).alloc (.cells #[.int .i64 x.id, .int .i64 x.zone, .int .i64 x.group] 42)) hP
      have HL3 : Hid (WL w w2 p g g3 b N (stepW (stepW st (wCount (l.length : Int))) (wrN stationK ((l.take (i + 1)).map stC))) cs t) := hide (by rw [unhide HNX]; exact hL3)
      clear hP hL3 c0 c1 e0 e1 e2 HBX
      go_wp2
      exact ⟨⟨i + 1, by omega, by go_num, g3, unhide HL3⟩, by simp [intOf]; omega⟩
    · obtain rfl : i = l.length := by omega
      go_wp2
      have hS := unhide HS
      rw [List.take_length, stepW_assoc] at hS
      have e : stepW st (wrM stationK (l.map stC)) = stepW st (stepW (wCount (l.length : Int)) (wrN stationK (l.map stC))) := by unfold wrM; rw [List.length_map]
      exact bodyPost_ret (v := .tuple #[]) (results_none rfl _ _ _) rfl ⟨rfl, by rw [e]; exact ⟨g2, hS.wb.s, hS.wb.gl, hS.gg, hS.fr⟩⟩

set_option maxHeartbeats 1000000 in
theorem listSpan_w {w : World} {p g b : Nat} {st : Option (List UInt8)} {cs : Array Value} {t : TypeId} (h : WB w p g b st cs t) (o : Nat) (ao : Option Addr) (cap : Nat) (l : List Spn) (ho : cs[o]? = some (.slice ao l.length cap)) (hc : CAt w ao (spV l))
    (hsep : ∀ q off, ao = some ⟨q, off, none⟩ → 0 < l.length → q ≠ p ∧ q ≠ g) (hm : ∀ x ∈ l, x.fr ≤ 9223372036854775807 ∧ x.to ≤ 9223372036854775807 ∧ x.single ≤ 9223372036854775807 ∧ x.daily ≤ 9223372036854775807 ∧ x.weekly ≤ 9223372036854775807) (hl : l.length ≤ 65535) (Lm : Nat) (hL : Most st Lm) (hfit : Lm + 2 + l.length * wide spanK + 66200 ≤ 140737488355328) (most : Nat) :
    Calls Tryz.prog 39 #[walkW p, .pointer (some ⟨b, o, none⟩), .int .i64 most, .func (Fn.func 40) #[] #[]] w (WDone p g (stepW st (wrM spanK (l.map spC))) w) := by
  have H := hide h
  have HO := hide ho
  have HC := hide hc
  have HSP := hide hsep
  have HM := hide hm
  have HL := hide hL
  have HT := hide hfit
  have hp := h.plt
  have hb := h.x.lt
  have hgl := h.gl
  clear h ho hc hsep hm hL hfit
  go_enter Tryz.func39, Tryz.ntmps39
  go_wp2_with fail
  have HX0 : Hid (Bx (w.alloc (.cells #[.pointer (some ⟨p, 0, none⟩), .pointer none] 59)) w.heap.size #[.pointer (some ⟨p, 0, none⟩), .pointer none] 59) := hide (Bx.new _ _ _)
  have HB0 := hide ((unhide H).alloc (.cells #[.pointer (some ⟨p, 0, none⟩), .pointer none] 59))
  have HF0 : Hid (Fr (fun _ => False) w (w.alloc (.cells #[.pointer (some ⟨p, 0, none⟩), .pointer none] 59))) := hide ((Fr.refl _ _).alloc _)
  obtain ⟨N, HN⟩ : ∃ N, Hid (w.heap.size = N) := ⟨_, rfl⟩
  have hNp : N ≠ p := by have := unhide HN; omega
  have hN0 : N ≠ g := by have := unhide HN; omega
  rw [unhide HN] at HX0 ⊢
  generalize w.alloc (.cells #[.pointer (some ⟨p, 0, none⟩), .pointer none] 59) = w0 at *
  have m0 : w0.cell? ⟨N, 0, none⟩ = some (.pointer (some ⟨p, 0, none⟩)) := (unhide HX0).cell 0
  have m1 : w0.cell? ⟨b, o, none⟩ = some (.slice ao l.length cap) := ((unhide HB0).x.cell o).trans (unhide HO)
  have HL0 : Hid (WL w w0 p g g b N st cs t) := hide ⟨unhide HB0, unhide HX0, (unhide HF0).mono (fun _ _ t => t.elim), Or.inl rfl, hN0, hNp⟩
  have HC0 := hide (wcount_any (unhide HB0).drew.s (fun bs e => by have := unhide HL bs e; have := unhide HT; omega) (l.length : Int))
  go_region_held3 (fun w' => w'.cell? ⟨N, 0, none⟩ = some (.pointer (some ⟨p, 0, none⟩)) ∧ w'.cell? ⟨b, o, none⟩ = some (.slice ao l.length cap)) (go_keep)
    ((go_at_call 80; refine (unhide HC0).mono ?_; rintro e w1 ⟨rfl, hP⟩; obtain ⟨g1, hL1⟩ := (unhide HL0).next ((Fr.refl (fun _ => False) w0).drew) (WP.of hP (unhide HB0).gl); have k0 : w1.cell? ⟨N, 0, none⟩ = some (.pointer (some ⟨p, 0, none⟩)) := hL1.wk.cell 0; have k1 : w1.cell? ⟨b, o, none⟩ = some (.slice ao l.length cap) := (hL1.wb.x.cell o).trans (unhide HO); have HL1 := hide hL1; clear hP hL1))
  clear HC0 HL0 HB0 HX0 HF0 m0 m1
  go_wp2
  go_loopw [9, 25] (fun _ iv wr => ∃ i : Nat, i ≤ l.length ∧ iv = .int .i64 i ∧ ∃ g2, Hid (WL w wr p g g2 b N (stepW (stepW st (wCount (l.length : Int))) (wrN spanK ((l.take i).map spC))) cs t)) (fun _ iv _ => l.length - (intOf iv).toNat)
  case atStart =>
    refine ⟨0, Nat.zero_le _, rfl, g1, ?_⟩
    have e : stepW (stepW st (wCount (l.length : Int))) (wrN spanK ((l.take 0).map spC)) = stepW st (wCount (l.length : Int)) := by simp [wrN, stepW_nil]
    rw [e]
    exact unhide HL1
  case round =>
    clear HL1
    obtain ⟨i, hi, rfl, g2, HS⟩ := hrel
    by_cases hlt : i < l.length
    · have c0 : wr.cell? ⟨N, 0, none⟩ = some (.pointer (some ⟨p, 0, none⟩)) := (unhide HS).wk.cell 0
      have c1 : wr.cell? ⟨N, 1, none⟩ = some (.pointer none) := (unhide HS).wk.cell 1
      have hNl : N < wr.heap.size := (unhide HS).wk.lt
      have hcat : CAt wr ao (spV l) := (unhide HC).frame (unhide HS).fr (fun q off e h0 => by
        have := unhide HSP q off e (by omega)
        omega)
      obtain ⟨q, off, rfl, hcell⟩ := cat_cell spC 5 (fun _ => rfl) hcat hlt (by omega)
      obtain ⟨hx0, hx1, hx2, hx3, hx4⟩ := unhide HM l[i] (List.getElem_mem hlt)
      obtain ⟨st1, Hst⟩ : ∃ st1, Hid (stepW (stepW st (wCount (l.length : Int))) (wrN spanK ((l.take i).map spC)) = st1) := ⟨_, rfl⟩
      have hM1 : Most st1 (Lm + 2 + l.length * wide spanK) := by
        rw [← unhide Hst]
        refine (((unhide HL).step (Most.count _)).step (Most.wrN _ _)).mono ?_
        rw [List.length_map, List.length_take]
        have : min i l.length * wide spanK ≤ l.length * wide spanK := Nat.mul_le_mul_right _ (by omega)
        omega
      have HM1 := hide hM1
      rw [unhide Hst] at HS
      have HNX : Hid (stepW (stepW st (wCount (l.length : Int))) (wrN spanK ((l.take (i + 1)).map spC)) = stepW st1 (wrL spanK (spC l[i]))) := hide (by
        rw [List.take_succ_eq_append_getElem hlt, List.map_append, List.map_cons, List.map_nil, wrN_snoc, ← stepW_assoc, unhide Hst])
      generalize l[i] = x at hcell HNX hx0 hx1 hx2 hx3 hx4
      have e0 : wr.cell? ⟨q, off + i * 5, none⟩ = some (.int .i64 x.fr) := hcell 0 (by omega)
      have e1 : wr.cell? ⟨q, off + i * 5 + 1, none⟩ = some (.int .i64 x.to) := hcell 1 (by omega)
      have e2 : wr.cell? ⟨q, off + i * 5 + 2, none⟩ = some (.int .i64 x.single) := hcell 2 (by omega)
      have e3 : wr.cell? ⟨q, off + i * 5 + 3, none⟩ = some (.int .i64 x.daily) := hcell 3 (by omega)
      have e4 : wr.cell? ⟨q, off + i * 5 + 4, none⟩ = some (.int .i64 x.weekly) := hcell 4 (by omega)
      clear hcat hcell hM1
      have HBX : Hid (WB (wr.alloc (.cells #[.int .i64 x.fr, .int .i64 x.to, .int .i64 x.single, .int .i64 x.daily, .int .i64 x.weekly] 44)) p g2 wr.heap.size st1 #[.int .i64 x.fr, .int .i64 x.to, .int .i64 x.single, .int .i64 x.daily, .int .i64 x.weekly] 44) := hide ((unhide HS).elem ((Fr.refl (fun _ => False) wr).alloc (.cells #[.int .i64 x.fr, .int .i64 x.to, .int .i64 x.single, .int .i64 x.daily, .int .i64 x.weekly] 44)) (Bx.new wr #[.int .i64 x.fr, .int .i64 x.to, .int .i64 x.single, .int .i64 x.daily, .int .i64 x.weekly] 44))
      go_wp2_with fail
      refine (span_w x.fr x.to x.single x.daily x.weekly (unhide HBX) hx0 hx1 hx2 hx3 hx4 _ (unhide HM1) (by have := unhide HT; omega)).mono ?_
      rintro e w2 ⟨rfl, hP⟩
      obtain ⟨g3, hL3⟩ := (unhide HS).next ((Fr.refl (fun _ => False) wr).alloc (.cells #[.int .i64 x.fr, .int .i64 x.to, .int .i64 x.single, .int .i64 x.daily, .int .i64 x.weekly] 44)) hP
      have HL3 : Hid (WL w w2 p g g3 b N (stepW (stepW st (wCount (l.length : Int))) (wrN spanK ((l.take (i + 1)).map spC))) cs t) := hide (by rw [unhide HNX]; exact hL3)
      clear hP hL3 c0 c1 e0 e1 e2 e3 e4 HBX
      go_wp2
      exact ⟨⟨i + 1, by omega, by go_num, g3, unhide HL3⟩, by simp [intOf]; omega⟩
    · obtain rfl : i = l.length := by omega
      go_wp2
      have hS := unhide HS
      rw [List.take_length, stepW_assoc] at hS
      have e : stepW st (wrM spanK (l.map spC)) = stepW st (stepW (wCount (l.length : Int)) (wrN spanK (l.map spC))) := by unfold wrM; rw [List.length_map]
      exact bodyPost_ret (v := .tuple #[]) (results_none rfl _ _ _) rfl ⟨rfl, by rw [e]; exact ⟨g2, hS.wb.s, hS.wb.gl, hS.gg, hS.fr⟩⟩

set_option maxHeartbeats 1000000 in
theorem listBand_w {w : World} {p g b : Nat} {st : Option (List UInt8)} {cs : Array Value} {t : TypeId} (h : WB w p g b st cs t) (o : Nat) (ao : Option Addr) (cap : Nat) (l : List (Int × Int)) (ho : cs[o]? = some (.slice ao l.length cap)) (hc : CAt w ao (bdV l))
    (hsep : ∀ q off, ao = some ⟨q, off, none⟩ → 0 < l.length → q ≠ p ∧ q ≠ g) (hm : ∀ x ∈ l, x.1 ≤ 9223372036854775807 ∧ x.2 ≤ 9223372036854775807) (hl : l.length ≤ 65535) (Lm : Nat) (hL : Most st Lm) (hfit : Lm + 2 + l.length * wide bandK + 66200 ≤ 140737488355328) (most : Nat) :
    Calls Tryz.prog 41 #[walkW p, .pointer (some ⟨b, o, none⟩), .int .i64 most, .func (Fn.func 42) #[] #[]] w (WDone p g (stepW st (wrM bandK (l.map bdC))) w) := by
  have H := hide h
  have HO := hide ho
  have HC := hide hc
  have HSP := hide hsep
  have HM := hide hm
  have HL := hide hL
  have HT := hide hfit
  have hp := h.plt
  have hb := h.x.lt
  have hgl := h.gl
  clear h ho hc hsep hm hL hfit
  go_enter Tryz.func41, Tryz.ntmps41
  go_wp2_with fail
  have HX0 : Hid (Bx (w.alloc (.cells #[.pointer (some ⟨p, 0, none⟩), .pointer none] 59)) w.heap.size #[.pointer (some ⟨p, 0, none⟩), .pointer none] 59) := hide (Bx.new _ _ _)
  have HB0 := hide ((unhide H).alloc (.cells #[.pointer (some ⟨p, 0, none⟩), .pointer none] 59))
  have HF0 : Hid (Fr (fun _ => False) w (w.alloc (.cells #[.pointer (some ⟨p, 0, none⟩), .pointer none] 59))) := hide ((Fr.refl _ _).alloc _)
  obtain ⟨N, HN⟩ : ∃ N, Hid (w.heap.size = N) := ⟨_, rfl⟩
  have hNp : N ≠ p := by have := unhide HN; omega
  have hN0 : N ≠ g := by have := unhide HN; omega
  rw [unhide HN] at HX0 ⊢
  generalize w.alloc (.cells #[.pointer (some ⟨p, 0, none⟩), .pointer none] 59) = w0 at *
  have m0 : w0.cell? ⟨N, 0, none⟩ = some (.pointer (some ⟨p, 0, none⟩)) := (unhide HX0).cell 0
  have m1 : w0.cell? ⟨b, o, none⟩ = some (.slice ao l.length cap) := ((unhide HB0).x.cell o).trans (unhide HO)
  have HL0 : Hid (WL w w0 p g g b N st cs t) := hide ⟨unhide HB0, unhide HX0, (unhide HF0).mono (fun _ _ t => t.elim), Or.inl rfl, hN0, hNp⟩
  have HC0 := hide (wcount_any (unhide HB0).drew.s (fun bs e => by have := unhide HL bs e; have := unhide HT; omega) (l.length : Int))
  go_region_held3 (fun w' => w'.cell? ⟨N, 0, none⟩ = some (.pointer (some ⟨p, 0, none⟩)) ∧ w'.cell? ⟨b, o, none⟩ = some (.slice ao l.length cap)) (go_keep)
    ((go_at_call 80; refine (unhide HC0).mono ?_; rintro e w1 ⟨rfl, hP⟩; obtain ⟨g1, hL1⟩ := (unhide HL0).next ((Fr.refl (fun _ => False) w0).drew) (WP.of hP (unhide HB0).gl); have k0 : w1.cell? ⟨N, 0, none⟩ = some (.pointer (some ⟨p, 0, none⟩)) := hL1.wk.cell 0; have k1 : w1.cell? ⟨b, o, none⟩ = some (.slice ao l.length cap) := (hL1.wb.x.cell o).trans (unhide HO); have HL1 := hide hL1; clear hP hL1))
  clear HC0 HL0 HB0 HX0 HF0 m0 m1
  go_wp2
  go_loopw [9, 25] (fun _ iv wr => ∃ i : Nat, i ≤ l.length ∧ iv = .int .i64 i ∧ ∃ g2, Hid (WL w wr p g g2 b N (stepW (stepW st (wCount (l.length : Int))) (wrN bandK ((l.take i).map bdC))) cs t)) (fun _ iv _ => l.length - (intOf iv).toNat)
  case atStart =>
    refine ⟨0, Nat.zero_le _, rfl, g1, ?_⟩
    have e : stepW (stepW st (wCount (l.length : Int))) (wrN bandK ((l.take 0).map bdC)) = stepW st (wCount (l.length : Int)) := by simp [wrN, stepW_nil]
    rw [e]
    exact unhide HL1
  case round =>
    clear HL1
    obtain ⟨i, hi, rfl, g2, HS⟩ := hrel
    by_cases hlt : i < l.length
    · have c0 : wr.cell? ⟨N, 0, none⟩ = some (.pointer (some ⟨p, 0, none⟩)) := (unhide HS).wk.cell 0
      have c1 : wr.cell? ⟨N, 1, none⟩ = some (.pointer none) := (unhide HS).wk.cell 1
      have hNl : N < wr.heap.size := (unhide HS).wk.lt
      have hcat : CAt wr ao (bdV l) := (unhide HC).frame (unhide HS).fr (fun q off e h0 => by
        have := unhide HSP q off e (by omega)
        omega)
      obtain ⟨q, off, rfl, hcell⟩ := cat_cell bdC 2 (fun _ => rfl) hcat hlt (by omega)
      obtain ⟨hx0, hx1⟩ := unhide HM l[i] (List.getElem_mem hlt)
      obtain ⟨st1, Hst⟩ : ∃ st1, Hid (stepW (stepW st (wCount (l.length : Int))) (wrN bandK ((l.take i).map bdC)) = st1) := ⟨_, rfl⟩
      have hM1 : Most st1 (Lm + 2 + l.length * wide bandK) := by
        rw [← unhide Hst]
        refine (((unhide HL).step (Most.count _)).step (Most.wrN _ _)).mono ?_
        rw [List.length_map, List.length_take]
        have : min i l.length * wide bandK ≤ l.length * wide bandK := Nat.mul_le_mul_right _ (by omega)
        omega
      have HM1 := hide hM1
      rw [unhide Hst] at HS
      have HNX : Hid (stepW (stepW st (wCount (l.length : Int))) (wrN bandK ((l.take (i + 1)).map bdC)) = stepW st1 (wrL bandK (bdC l[i]))) := hide (by
        rw [List.take_succ_eq_append_getElem hlt, List.map_append, List.map_cons, List.map_nil, wrN_snoc, ← stepW_assoc, unhide Hst])
      generalize l[i] = x at hcell HNX hx0 hx1
      have e0 : wr.cell? ⟨q, off + i * 2, none⟩ = some (.int .i64 x.1) := hcell 0 (by omega)
      have e1 : wr.cell? ⟨q, off + i * 2 + 1, none⟩ = some (.int .i64 x.2) := hcell 1 (by omega)
      clear hcat hcell hM1
      have HBX : Hid (WB (wr.alloc (.cells #[.int .i64 x.1, .int .i64 x.2] 52)) p g2 wr.heap.size st1 #[.int .i64 x.1, .int .i64 x.2] 52) := hide ((unhide HS).elem ((Fr.refl (fun _ => False) wr).alloc (.cells #[.int .i64 x.1, .int .i64 x.2] 52)) (Bx.new wr #[.int .i64 x.1, .int .i64 x.2] 52))
      go_wp2_with fail
      refine (band_w x.1 x.2 (unhide HBX) hx0 hx1 _ (unhide HM1) (by have := unhide HT; omega)).mono ?_
      rintro e w2 ⟨rfl, hP⟩
      obtain ⟨g3, hL3⟩ := (unhide HS).next ((Fr.refl (fun _ => False) wr).alloc (.cells #[.int .i64 x.1, .int .i64 x.2] 52)) hP
      have HL3 : Hid (WL w w2 p g g3 b N (stepW (stepW st (wCount (l.length : Int))) (wrN bandK ((l.take (i + 1)).map bdC))) cs t) := hide (by rw [unhide HNX]; exact hL3)
      clear hP hL3 c0 c1 e0 e1 HBX
      go_wp2
      exact ⟨⟨i + 1, by omega, by go_num, g3, unhide HL3⟩, by simp [intOf]; omega⟩
    · obtain rfl : i = l.length := by omega
      go_wp2
      have hS := unhide HS
      rw [List.take_length, stepW_assoc] at hS
      have e : stepW st (wrM bandK (l.map bdC)) = stepW st (stepW (wCount (l.length : Int)) (wrN bandK (l.map bdC))) := by unfold wrM; rw [List.length_map]
      exact bodyPost_ret (v := .tuple #[]) (results_none rfl _ _ _) rfl ⟨rfl, by rw [e]; exact ⟨g2, hS.wb.s, hS.wb.gl, hS.gg, hS.fr⟩⟩

end Go.Proofs.YtkjoojamkbpfcaaGreat
