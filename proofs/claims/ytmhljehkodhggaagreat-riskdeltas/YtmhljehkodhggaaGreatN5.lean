import Derived.Test.YtmhljehkodhggaaGreatN4
/- Lists of records, written. -/
namespace Go.Proofs.YtmhljehkodhggaaGreat
open Go.RowKit

set_option maxHeartbeats 1000000 in
theorem listToken_w {w : World} {p g b : Nat} {st : Option (List UInt8)} {cs : Array Value} {t : TypeId} (h : WB w p g b st cs t) (o : Nat) (ao : Option Addr) (cap : Nat) (l : List ByteArray) (ho : cs[o]? = some (.slice ao l.length cap)) (hc : CAt w ao (tkV l))
    (hsep : ∀ q off, ao = some ⟨q, off, none⟩ → 0 < l.length → q ≠ p ∧ q ≠ g) (hl : l.length ≤ 65535) (Lm : Nat) (hL : Most st Lm) (hfit : Lm + 2 + l.length * wide tokenK + 66200 ≤ 140737488355328) (most : Nat) :
    Calls Tryz.prog 75 #[walkW p, .pointer (some ⟨b, o, none⟩), .int .i64 most, .func (Fn.func 76) #[] #[]] w (WDone p g (stepW st (wrM tokenK (l.map tkC))) w) := by
  have H := hide h
  have HO := hide ho
  have HC := hide hc
  have HSP := hide hsep
  have HL := hide hL
  have HT := hide hfit
  have hp := h.plt
  have hb := h.x.lt
  have hgl := h.gl
  clear h ho hc hsep hL hfit
  go_enter Tryz.func75, Tryz.ntmps75
  go_wp2_with fail
  have HX0 : Hid (Bx (w.alloc (.cells #[.pointer (some ⟨p, 0, none⟩), .pointer none] 71)) w.heap.size #[.pointer (some ⟨p, 0, none⟩), .pointer none] 71) := hide (Bx.new _ _ _)
  have HB0 := hide ((unhide H).alloc (.cells #[.pointer (some ⟨p, 0, none⟩), .pointer none] 71))
  have HF0 : Hid (Fr (fun _ => False) w (w.alloc (.cells #[.pointer (some ⟨p, 0, none⟩), .pointer none] 71))) := hide ((Fr.refl _ _).alloc _)
  obtain ⟨N, HN⟩ : ∃ N, Hid (w.heap.size = N) := ⟨_, rfl⟩
  have hNp : N ≠ p := by have := unhide HN; omega
  have hN0 : N ≠ g := by have := unhide HN; omega
  rw [unhide HN] at HX0 ⊢
  generalize w.alloc (.cells #[.pointer (some ⟨p, 0, none⟩), .pointer none] 71) = w0 at *
  have m0 : w0.cell? ⟨N, 0, none⟩ = some (.pointer (some ⟨p, 0, none⟩)) := (unhide HX0).cell 0
  have m1 : w0.cell? ⟨b, o, none⟩ = some (.slice ao l.length cap) := ((unhide HB0).x.cell o).trans (unhide HO)
  have HL0 : Hid (WL w w0 p g g b N st cs t) := hide ⟨unhide HB0, unhide HX0, (unhide HF0).mono (fun _ _ t => t.elim), Or.inl rfl, hN0, hNp⟩
  have HC0 := hide (wcount_any (unhide HB0).drew.s (fun bs e => by have := unhide HL bs e; have := unhide HT; omega) (l.length : Int))
  go_region_held3 (fun w' => w'.cell? ⟨N, 0, none⟩ = some (.pointer (some ⟨p, 0, none⟩)) ∧ w'.cell? ⟨b, o, none⟩ = some (.slice ao l.length cap)) (go_keep)
    ((go_at_call 90; refine (unhide HC0).mono ?_; rintro e w1 ⟨rfl, hP⟩; obtain ⟨g1, hL1⟩ := (unhide HL0).next ((Fr.refl (fun _ => False) w0).drew) (WP.of hP (unhide HB0).gl); have k0 : w1.cell? ⟨N, 0, none⟩ = some (.pointer (some ⟨p, 0, none⟩)) := hL1.wk.cell 0; have k1 : w1.cell? ⟨b, o, none⟩ = some (.slice ao l.length cap) := (hL1.wb.x.cell o).trans (unhide HO); have HL1 := hide hL1; clear hP hL1))
  clear HC0 HL0 HB0 HX0 HF0 m0 m1
  go_wp2
  go_loopw [9, 25] (fun _ iv wr => ∃ i : Nat, i ≤ l.length ∧ iv = .int .i64 i ∧ ∃ g2, Hid (WL w wr p g g2 b N (stepW (stepW st (wCount (l.length : Int))) (wrN tokenK ((l.take i).map tkC))) cs t)) (fun _ iv _ => l.length - (intOf iv).toNat)
  case atStart =>
    refine ⟨0, Nat.zero_le _, rfl, g1, ?_⟩
    have e : stepW (stepW st (wCount (l.length : Int))) (wrN tokenK ((l.take 0).map tkC)) = stepW st (wCount (l.length : Int)) := by simp [wrN, stepW_nil]
    rw [e]
    exact unhide HL1
  case round =>
    clear HL1
    obtain ⟨i, hi, rfl, g2, HS⟩ := hrel
    by_cases hlt : i < l.length
    · have c0 : wr.cell? ⟨N, 0, none⟩ = some (.pointer (some ⟨p, 0, none⟩)) := (unhide HS).wk.cell 0
      have c1 : wr.cell? ⟨N, 1, none⟩ = some (.pointer none) := (unhide HS).wk.cell 1
      have hNl : N < wr.heap.size := (unhide HS).wk.lt
      have hcat : CAt wr ao (tkV l) := (unhide HC).frame (unhide HS).fr (fun q off e h0 => by
        have := unhide HSP q off e (by omega)
        omega)
      obtain ⟨q, off, rfl, hcell⟩ := cat_cell tkC 1 (fun _ => rfl) hcat hlt (by omega)
      obtain ⟨st1, Hst⟩ : ∃ st1, Hid (stepW (stepW st (wCount (l.length : Int))) (wrN tokenK ((l.take i).map tkC)) = st1) := ⟨_, rfl⟩
      have hM1 : Most st1 (Lm + 2 + l.length * wide tokenK) := by
        rw [← unhide Hst]
        refine (((unhide HL).step (Most.count _)).step (Most.wrN _ _)).mono ?_
        rw [List.length_map, List.length_take]
        have : min i l.length * wide tokenK ≤ l.length * wide tokenK := Nat.mul_le_mul_right _ (by omega)
        omega
      have HM1 := hide hM1
      rw [unhide Hst] at HS
      have HNX : Hid (stepW (stepW st (wCount (l.length : Int))) (wrN tokenK ((l.take (i + 1)).map tkC)) = stepW st1 (wrL tokenK (tkC l[i]))) := hide (by
        rw [List.take_succ_eq_append_getElem hlt, List.map_append, List.map_cons, List.map_nil, wrN_snoc, ← stepW_assoc, unhide Hst])
      generalize l[i] = x at hcell HNX
      have e0 : wr.cell? ⟨q, off + i, none⟩ = some (.string x) := by have := hcell 0 (by omega); rw [Nat.mul_one] at this; exact this
      clear hcat hcell hM1
      have HBX : Hid (WB (wr.alloc (.cells #[.string x] 9)) p g2 wr.heap.size st1 #[.string x] 9) := hide ((unhide HS).elem ((Fr.refl (fun _ => False) wr).alloc (.cells #[.string x] 9)) (Bx.new wr #[.string x] 9))
      go_wp2_with fail
      refine (tokenE_w x (unhide HBX) _ (unhide HM1) (by have := unhide HT; omega)).mono ?_
      rintro e w2 ⟨rfl, hP⟩
      obtain ⟨g3, hL3⟩ := (unhide HS).next ((Fr.refl (fun _ => False) wr).alloc (.cells #[.string x] 9)) hP
      have HL3 : Hid (WL w w2 p g g3 b N (stepW (stepW st (wCount (l.length : Int))) (wrN tokenK ((l.take (i + 1)).map tkC))) cs t) := hide (by rw [unhide HNX]; exact hL3)
      clear hP hL3 c0 c1 e0 HBX
      go_wp2
      exact ⟨⟨i + 1, by omega, by go_num, g3, unhide HL3⟩, by simp [intOf]; omega⟩
    · obtain rfl : i = l.length := by omega
      go_wp2
      have hS := unhide HS
      rw [List.take_length, stepW_assoc] at hS
      have e : stepW st (wrM tokenK (l.map tkC)) = stepW st (stepW (wCount (l.length : Int)) (wrN tokenK (l.map tkC))) := by unfold wrM; rw [List.length_map]
      exact bodyPost_ret (v := .tuple #[]) (results_none rfl _ _ _) rfl ⟨rfl, by rw [e]; exact ⟨g2, hS.wb.s, hS.wb.gl, hS.gg, hS.fr⟩⟩

end Go.Proofs.YtmhljehkodhggaaGreat

