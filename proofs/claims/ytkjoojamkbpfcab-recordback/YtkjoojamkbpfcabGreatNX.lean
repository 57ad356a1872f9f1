import Derived.Test.YtkjoojamkbpfcabGreatEX
import Derived.Test.YtkjoojamkbpfcabGreatN7
import Derived.Test.YtkjoojamkbpfcabGreatN8
/- Deltas and outages as bytes: written, the exported calls. -/
namespace Go.Proofs.YtkjoojamkbpfcabGreat
open Go.RowKit

theorem CAt.low {w : World} {ao : Option Addr} {vs : List Value} (h : CAt w ao vs) (q off : Nat) (e : ao = some ⟨q, off, none⟩) (h0 : 0 < vs.length) : q < w.heap.size := by
  obtain ⟨b, o, e1, hc⟩ := h h0
  rw [e] at e1
  injection e1 with e1
  injection e1 with e1 e2 e3
  subst e1
  exact World.block_lt_of_cell? _ _ (hc 0 h0)

/-- A delta that is handed in. -/
structure DIn (w : World) (d : Dl) (a1 : Option Addr) (c1 : Nat) (a2 : Option Addr) (c2 : Nat) : Prop where
  add : CAt w a1 (tkV d.add)
  gone : CAt w a2 (tkV d.gone)
  l1 : d.add.length ≤ 140737488355328
  l2 : d.gone.length ≤ 140737488355328
  ver : d.ver ≤ 9223372036854775807
  n1 : d.add.length ≤ c1
  n2 : d.gone.length ≤ c2
theorem DIn.keep {w w' : World} {d : Dl} {a1 : Option Addr} {c1 : Nat} {a2 : Option Addr} {c2 : Nat} (h : DIn w d a1 c1 a2 c2) (hf : Fr (fun _ => False) w w') : DIn w' d a1 c1 a2 c2 := ⟨h.add.keep hf, h.gone.keep hf, h.l1, h.l2, h.ver, h.n1, h.n2⟩

/-- Outages that are handed in. -/
structure OIn (w : World) (l : List Otg) (ao : Option Addr) (cap : Nat) : Prop where
  row : CAt w ao (otV l)
  len : l.length ≤ 140737488355328
  n1 : l.length ≤ cap
theorem OIn.keep {w w' : World} {l : List Otg} {ao : Option Addr} {cap : Nat} (h : OIn w l ao cap) (hf : Fr (fun _ => False) w w') : OIn w' l ao cap := ⟨h.row.keep hf, h.len, h.n1⟩

theorem outs_small (l : List Otg) (h : outsOk l = true) : ∀ x ∈ l, x.st ≤ 9223372036854775807 ∧ x.fr ≤ 9223372036854775807 ∧ x.to ≤ 9223372036854775807 := by
  simp only [outsOk, Bool.and_eq_true, List.all_eq_true] at h
  intro x hx
  have := h.2 x hx
  simp only [outOk, Bool.and_eq_true, isIn_iff] at this
  omega

def deltaB (d : Dl) : Option (List UInt8) := stepW (stepW (stepW (some []) (wrL (List.replicate 1 (.num 8)) ([d.ver].map (Value.int .i64)))) (wrM tokenK (d.add.map tkC))) (wrM tokenK (d.gone.map tkC))
/-- What writing answers. -/
def deltaW (d : Dl) : List UInt8 × Int := if deltaOk d then ((deltaB d).getD [], codeOf (deltaB d)) else ([], 80)
theorem deltaB_most (d : Dl) (h : deltaOk d = true) : Most (deltaB d) 20000 := by
  simp only [deltaOk, Bool.and_eq_true] at h
  have h1 := listOk_len h.1.1.2
  have h2 := listOk_len h.1.2
  refine ((((Most.nil.step (Most.wr _ _)).step (Most.list tokenK (d.add.map tkC))).step (Most.list tokenK (d.gone.map tkC)))).mono ?_
  simp only [wide, List.foldr, Kd.n, List.length_map, List.replicate]
  omega

theorem deltaW_le (d : Dl) : (deltaW d).1.length ≤ 20000 := by
  unfold deltaW
  split
  · rename_i hk
    cases h : deltaB d with
    | none => simp
    | some bs => exact deltaB_most d hk bs h
  · simp

set_option maxHeartbeats 1000000 in
theorem writtenDelta_any (d : Dl) (w : World) (a1 : Option Addr) (c1 : Nat) (a2 : Option Addr) (c2 : Nat) (h : DIn w d a1 c1 a2 c2) :
    Calls Tryz.prog 27 #[.agg (dlC d a1 c1 a2 c2), .func (Fn.func 28) #[] #[], .func (Fn.func 29) #[] #[]] w (Wrote w (deltaW d).1 (deltaW d).2) := by
  have R := hide (fun (w' : World) (hf : Fr (fun _ => False) w w') => deltaError_any d w' a1 c1 a2 c2 (cat_sat (h.add.keep hf)) (cat_sat (h.gone.keep hf)) h.l1 h.l2)
  have HI := hide h
  obtain ⟨b, hb⟩ : ∃ b, deltaOk d = b := ⟨_, rfl⟩
  have HA : Hid (deltaW d = if b then ((deltaB d).getD [], codeOf (deltaB d)) else ([], 80)) := hide (by unfold deltaW; rw [hb])
  have HE : Hid (deltaE d = if b then 0 else 80) := hide (by unfold deltaE; rw [hb])
  have HK := hide hb
  have HBT : Hid (deltaB d = stepW (stepW (stepW (some []) (wrL (List.replicate 1 (.num 8)) ([d.ver].map (Value.int .i64)))) (wrM tokenK (d.add.map tkC))) (wrM tokenK (d.gone.map tkC))) := hide rfl
  have HM := hide (deltaB_most d)
  simp only [unhide HE] at R
  rw [unhide HA]
  generalize hX : deltaB d = X at HBT HM ⊢
  clear HA HE hb hX h
  unfold dlC at *
  have HA0 : Hid (Fr (fun _ => False) w (w.alloc (.cells #[.int .i64 d.ver, .slice a1 d.add.length c1, .slice a2 d.gone.length c2] 26))) := hide ((Fr.refl _ w).alloc _)
  cases b
  · simp only [Bool.false_eq_true, if_false] at R ⊢
    clear HI HBT HM HK
    go_enter Tryz.func27, Tryz.ntmps27
    go_wp2_with fail
    refine (unhide R _ (unhide HA0)).mono ?_
    rintro e w1 ⟨rfl, hF⟩
    have HF1 : Hid (Fr (fun _ => False) w w1) := hide ((unhide HA0).trans hF (fun _ _ t => t))
    clear hF
    go_wp2
    go_ret2
    exact ⟨none, 0, 0, rfl, Row.nil _ _, fun h => absurd h (by omega), unhide HF1⟩
  · simp only [if_true] at R ⊢
    go_enter Tryz.func27, Tryz.ntmps27
    go_wp2_with fail
    refine (unhide R _ (unhide HA0)).mono ?_
    rintro e w1 ⟨rfl, hF⟩
    have HB1 := hide ((Bx.new w #[.int .i64 d.ver, .slice a1 d.add.length c1, .slice a2 d.gone.length c2] 26).keep hF)
    have HF1 : Hid (Fr (fun _ => False) w w1) := hide ((unhide HA0).trans hF (fun _ _ t => t))
    obtain ⟨B, HB⟩ : ∃ B, Hid (w.heap.size = B) := ⟨_, rfl⟩
    have HBL : Hid (B < w1.heap.size) := hide (by rw [← unhide HB]; exact (unhide HB1).lt)
    rw [unhide HB] at HB1 ⊢
    clear hF HA0 R
    go_wp2_with fail
    refine (newwriter_any _).mono ?_
    rintro e w2 ⟨rfl, rfl⟩
    have HW2 : Hid (WB ((w1.alloc (.cells #[.slice none 0 0, .bool false] 167)).alloc (.cells #[.pointer (some ⟨w1.heap.size, 0, none⟩), .pointer none] 75)) w1.heap.size w1.heap.size B (some []) #[.int .i64 d.ver, .slice a1 d.add.length c1, .slice a2 d.gone.length c2] 26) :=
      hide ⟨WSt.alloc (show WSt _ _ _ (some []) from newW) _, ((unhide HB1).alloc _).alloc _, by have := unhide HBL; omega, by have := unhide HBL; omega, by rw [heap_alloc, heap_alloc]; omega⟩
    have HN2 : Hid (Bx ((w1.alloc (.cells #[.slice none 0 0, .bool false] 167)).alloc (.cells #[.pointer (some ⟨w1.heap.size, 0, none⟩), .pointer none] 75)) (w1.heap.size + 1) #[.pointer (some ⟨w1.heap.size, 0, none⟩), .pointer none] 75) := hide (by
      have := Bx.new (w1.alloc (.cells #[.slice none 0 0, .bool false] 167)) #[.pointer (some ⟨w1.heap.size, 0, none⟩), .pointer none] 75
      rw [heap_alloc] at this
      exact this)
    have HF2 : Hid (Fr (fun _ => False) w ((w1.alloc (.cells #[.slice none 0 0, .bool false] 167)).alloc (.cells #[.pointer (some ⟨w1.heap.size, 0, none⟩), .pointer none] 75))) := hide (((unhide HF1).alloc _).alloc _)
    have HS2 : Hid (w.heap.size ≤ w1.heap.size ∧ w.heap.size ≤ ((w1.alloc (.cells #[.slice none 0 0, .bool false] 167)).alloc (.cells #[.pointer (some ⟨w1.heap.size, 0, none⟩), .pointer none] 75)).heap.size) := hide ⟨(unhide HF1).size, (unhide HF2).size⟩
    go_wp2_with fail
    generalize ((w1.alloc (.cells #[.slice none 0 0, .bool false] 167)).alloc (.cells #[.pointer (some ⟨w1.heap.size, 0, none⟩), .pointer none] 75)) = w2 at *
    obtain ⟨p, Hp⟩ : ∃ p, Hid (w1.heap.size = p) := ⟨_, rfl⟩
    rw [unhide Hp] at HW2 HN2 HS2 ⊢
    have HPL : Hid (w.heap.size ≤ p) := hide (unhide HS2).1
    have hI := unhide HI
    have hok := unhide HK
    simp only [deltaOk, Bool.and_eq_true] at hok
    have hsep : ∀ q, q < w.heap.size → q ≠ p ∧ q ≠ p ∧ q < w2.heap.size := fun q hq => by have := unhide HS2; omega
    refine (delta_w d.ver a1 c1 d.add a2 c2 d.gone (unhide HW2) (hI.add.keep (unhide HF2)) (fun q off e h0 => hsep q (hI.add.low q off e (by simpa [tkV_length] using h0))) (listOk_len hok.1.1.2) (hI.gone.keep (unhide HF2)) (fun q off e h0 => hsep q (hI.gone.low q off e (by simpa [tkV_length] using h0))) (listOk_len hok.1.2) hI.ver 0 Most.nil (by omega)).mono ?_
    rintro e w3 ⟨rfl, hP⟩
    clear hI hok hsep
    have hF3 : Fr (fun k => k = p ∨ k = p) w2 w3 := by obtain ⟨g', _, _, _, h4⟩ := hP; exact h4
    have n0 : w3.cell? ⟨p + 1, 0, none⟩ = some (.pointer (some ⟨p, 0, none⟩)) := ((unhide HN2).frame hF3 (by omega)).cell 0
    have HF3 := hide (WP.fresh (unhide HF2) (unhide HPL) (unhide HPL) hP)
    obtain ⟨g', h1, _, _, _⟩ := hP
    rw [← unhide HBT] at h1
    have HW3 := hide h1
    clear h1 hF3
    go_wp2_with fail
    refine (wbytes (unhide HW3) 20000 (unhide HM (unhide HK)) (by omega)).mono ?_
    rintro e w4 hWr
    obtain ⟨ao', cap', gb, rfl, h2⟩ := Wrote.later (unhide HF3) hWr
    have H4 := hide h2
    clear hWr h2 n0
    go_wp2
    go_ret2
    exact ⟨ao', cap', gb, rfl, unhide H4⟩

theorem recDelta_any (d : Dl) (w : World) (a1 : Option Addr) (c1 : Nat) (a2 : Option Addr) (c2 : Nat) (h : DIn w d a1 c1 a2 c2) : Calls Tryz.prog 9 #[.agg (dlC d a1 c1 a2 c2)] w (Wrote w (deltaW d).1 (deltaW d).2) := by
  have R := hide (fun (w' : World) (hf : Fr (fun _ => False) w w') => writtenDelta_any d w' a1 c1 a2 c2 (h.keep hf))
  generalize (deltaW d).1 = bs at *
  generalize (deltaW d).2 = c at *
  clear h
  unfold dlC at *
  go_enter Tryz.func9, Tryz.ntmps9
  go_wp2_with fail
  refine (unhide R _ ((Fr.refl _ w).alloc _)).mono ?_
  rintro e w1 ⟨ao', cap', gb, rfl, h2⟩
  have H2 : Hid (Wrote w bs c (.returned (.tuple #[.slice ao' bs.length cap', .int .i64 c])) w1) := hide (Wrote.later ((Fr.refl (fun _ => False) w).alloc (.cells #[.int .i64 d.ver, .slice a1 d.add.length c1, .slice a2 d.gone.length c2] 26)) ⟨ao', cap', gb, rfl, h2⟩)
  clear h2
  go_wp2
  go_ret2
  exact unhide H2

def outsB (l : List Otg) : Option (List UInt8) := stepW (some []) (wrM outageK (l.map otC))
/-- What writing answers. -/
def outsW (l : List Otg) : List UInt8 × Int := if outsOk l then ((outsB l).getD [], codeOf (outsB l)) else ([], 80)
theorem outsB_most (l : List Otg) (h : outsOk l = true) : Most (outsB l) 20000 := by
  simp only [outsOk, Bool.and_eq_true, decide_eq_true_eq] at h
  refine (Most.nil.step (Most.list outageK (l.map otC))).mono ?_
  simp only [wide, List.foldr, Kd.n, List.length_map]
  omega

theorem outsW_le (l : List Otg) : (outsW l).1.length ≤ 20000 := by
  unfold outsW
  split
  · rename_i hk
    cases h : outsB l with
    | none => simp
    | some bs => exact outsB_most l hk bs h
  · simp

set_option maxHeartbeats 1000000 in
theorem writtenOutages_any (l : List Otg) (w : World) (ao : Option Addr) (cap : Nat) (h : OIn w l ao cap) :
    Calls Tryz.prog 40 #[.slice ao l.length cap, .func (Fn.func 41) #[] #[], .func (Fn.func 42) #[] #[]] w (Wrote w (outsW l).1 (outsW l).2) := by
  have R := hide (fun (w' : World) (hf : Fr (fun _ => False) w w') => outagesError_any w' ao cap l (h.row.keep hf) h.len)
  have HI := hide h
  obtain ⟨b, hb⟩ : ∃ b, outsOk l = b := ⟨_, rfl⟩
  have HA : Hid (outsW l = if b then ((outsB l).getD [], codeOf (outsB l)) else ([], 80)) := hide (by unfold outsW; rw [hb])
  have HE : Hid (outsE l = if b then 0 else 80) := hide (by unfold outsE; rw [hb])
  have HK := hide hb
  have HBT : Hid (outsB l = stepW (some []) (wrM outageK (l.map otC))) := hide rfl
  have HM := hide (outsB_most l)
  simp only [unhide HE] at R
  rw [unhide HA]
  generalize hX : outsB l = X at HBT HM ⊢
  clear HA HE hb hX h
  skip
  have HA0 : Hid (Fr (fun _ => False) w (w.alloc (.cells #[.slice ao l.length cap] 31))) := hide ((Fr.refl _ w).alloc _)
  cases b
  · simp only [Bool.false_eq_true, if_false] at R ⊢
    clear HI HBT HM HK
    go_enter Tryz.func40, Tryz.ntmps40
    go_wp2_with fail
    refine (unhide R _ (unhide HA0)).mono ?_
    rintro e w1 ⟨rfl, hF⟩
    have HF1 : Hid (Fr (fun _ => False) w w1) := hide ((unhide HA0).trans hF (fun _ _ t => t))
    clear hF
    go_wp2
    go_ret2
    exact ⟨none, 0, 0, rfl, Row.nil _ _, fun h => absurd h (by omega), unhide HF1⟩
  · simp only [if_true] at R ⊢
    go_enter Tryz.func40, Tryz.ntmps40
    go_wp2_with fail
    refine (unhide R _ (unhide HA0)).mono ?_
    rintro e w1 ⟨rfl, hF⟩
    have HB1 := hide ((Bx.new w #[.slice ao l.length cap] 31).keep hF)
    have HF1 : Hid (Fr (fun _ => False) w w1) := hide ((unhide HA0).trans hF (fun _ _ t => t))
    obtain ⟨B, HB⟩ : ∃ B, Hid (w.heap.size = B) := ⟨_, rfl⟩
    have HBL : Hid (B < w1.heap.size) := hide (by rw [← unhide HB]; exact (unhide HB1).lt)
    rw [unhide HB] at HB1 ⊢
    clear hF HA0 R
    go_wp2_with fail
    refine (newwriter_any _).mono ?_
    rintro e w2 ⟨rfl, rfl⟩
    have HW2 : Hid (WB ((w1.alloc (.cells #[.slice none 0 0, .bool false] 167)).alloc (.cells #[.pointer (some ⟨w1.heap.size, 0, none⟩), .pointer none] 75)) w1.heap.size w1.heap.size B (some []) #[.slice ao l.length cap] 31) :=
      hide ⟨WSt.alloc (show WSt _ _ _ (some []) from newW) _, ((unhide HB1).alloc _).alloc _, by have := unhide HBL; omega, by have := unhide HBL; omega, by rw [heap_alloc, heap_alloc]; omega⟩
    have HN2 : Hid (Bx ((w1.alloc (.cells #[.slice none 0 0, .bool false] 167)).alloc (.cells #[.pointer (some ⟨w1.heap.size, 0, none⟩), .pointer none] 75)) (w1.heap.size + 1) #[.pointer (some ⟨w1.heap.size, 0, none⟩), .pointer none] 75) := hide (by
      have := Bx.new (w1.alloc (.cells #[.slice none 0 0, .bool false] 167)) #[.pointer (some ⟨w1.heap.size, 0, none⟩), .pointer none] 75
      rw [heap_alloc] at this
      exact this)
    have HF2 : Hid (Fr (fun _ => False) w ((w1.alloc (.cells #[.slice none 0 0, .bool false] 167)).alloc (.cells #[.pointer (some ⟨w1.heap.size, 0, none⟩), .pointer none] 75))) := hide (((unhide HF1).alloc _).alloc _)
    have HS2 : Hid (w.heap.size ≤ w1.heap.size ∧ w.heap.size ≤ ((w1.alloc (.cells #[.slice none 0 0, .bool false] 167)).alloc (.cells #[.pointer (some ⟨w1.heap.size, 0, none⟩), .pointer none] 75)).heap.size) := hide ⟨(unhide HF1).size, (unhide HF2).size⟩
    go_wp2_with fail
    generalize ((w1.alloc (.cells #[.slice none 0 0, .bool false] 167)).alloc (.cells #[.pointer (some ⟨w1.heap.size, 0, none⟩), .pointer none] 75)) = w2 at *
    obtain ⟨p, Hp⟩ : ∃ p, Hid (w1.heap.size = p) := ⟨_, rfl⟩
    rw [unhide Hp] at HW2 HN2 HS2 ⊢
    have HPL : Hid (w.heap.size ≤ p) := hide (unhide HS2).1
    have hI := unhide HI
    have hok := unhide HK
    simp only [outsOk, Bool.and_eq_true, decide_eq_true_eq] at hok
    have hsep : ∀ q, q < w.heap.size → q ≠ p ∧ q ≠ p ∧ q < w2.heap.size := fun q hq => by have := unhide HS2; omega
    refine (outages_w ao cap l (unhide HW2) (hI.row.keep (unhide HF2)) (fun q off e h0 => hsep q (hI.row.low q off e (by rw [otV_length]; omega))) (outs_small l (unhide HK)) hok.1 0 Most.nil (by omega)).mono ?_
    rintro e w3 ⟨rfl, hP⟩
    clear hI hok hsep
    have hF3 : Fr (fun k => k = p ∨ k = p) w2 w3 := by obtain ⟨g', _, _, _, h4⟩ := hP; exact h4
    have n0 : w3.cell? ⟨p + 1, 0, none⟩ = some (.pointer (some ⟨p, 0, none⟩)) := ((unhide HN2).frame hF3 (by omega)).cell 0
    have HF3 := hide (WP.fresh (unhide HF2) (unhide HPL) (unhide HPL) hP)
    obtain ⟨g', h1, _, _, _⟩ := hP
    rw [← unhide HBT] at h1
    have HW3 := hide h1
    clear h1 hF3
    go_wp2_with fail
    refine (wbytes (unhide HW3) 20000 (unhide HM (unhide HK)) (by omega)).mono ?_
    rintro e w4 hWr
    obtain ⟨ao', cap', gb, rfl, h2⟩ := Wrote.later (unhide HF3) hWr
    have H4 := hide h2
    clear hWr h2 n0
    go_wp2
    go_ret2
    exact ⟨ao', cap', gb, rfl, unhide H4⟩

theorem recOutages_any (l : List Otg) (w : World) (ao : Option Addr) (cap : Nat) (h : OIn w l ao cap) : Calls Tryz.prog 16 #[.slice ao l.length cap] w (Wrote w (outsW l).1 (outsW l).2) := by
  have R := hide (fun (w' : World) (hf : Fr (fun _ => False) w w') => writtenOutages_any l w' ao cap (h.keep hf))
  generalize (outsW l).1 = bs at *
  generalize (outsW l).2 = c at *
  clear h
  skip
  go_enter Tryz.func16, Tryz.ntmps16
  go_wp2_with fail
  refine (unhide R _ (Fr.refl _ w)).mono ?_
  rintro e w1 ⟨ao', cap', gb, rfl, h2⟩
  have H2 : Hid (Wrote w bs c (.returned (.tuple #[.slice ao' bs.length cap', .int .i64 c])) w1) := hide (Wrote.later (Fr.refl (fun _ => False) w) ⟨ao', cap', gb, rfl, h2⟩)
  clear h2
  go_wp2
  go_ret2
  exact unhide H2

end Go.Proofs.YtkjoojamkbpfcabGreat

/- Deltas and outages out of bytes: taken, the exported calls. -/
namespace Go.Proofs.YtkjoojamkbpfcabGreat
open Go.RowKit

theorem KL.go {S : Nat → Prop} {w0 w w' : World} {ao : Option Addr} {cap gl k : Nat} {vs : List Value} (h : KL w0 w ao cap gl k vs) (hk : 0 < k) (hf : Fr S w w') (hS : ∀ q, S q → q < w0.heap.size) : KL w0 w' ao cap gl k vs :=
  ⟨h.row.stay (fun hc => hf.block gl (h.row.lt hk hc) (fun hq => by have := h.new hc; have := hS gl hq; omega)), h.new⟩

theorem KRow.catN {w : World} {ao : Option Addr} {cap g k : Nat} {vs : List Value} (h : KRow w ao cap g k vs) : CAt w ao vs := fun h0 => by
  have h1 := h.le
  have hc : 0 < cap := by
    rcases Nat.eq_zero_or_pos cap with e | e
    · subst e; omega
    · exact e
  exact ⟨g, 0, h.ad hc, fun j hj => by rw [Nat.zero_add]; exact h.cells j hj⟩

theorem KRow.cap_le {w : World} {ao : Option Addr} {cap g k n : Nat} {vs : List Value} (h : KRow w ao cap g k vs) (hn : vs.length = n * k) (hk : 0 < k) : n ≤ cap := by
  have := h.le
  rw [hn] at this
  exact Nat.le_of_mul_le_mul_right this hk

/-- A text out of its cell; an outage out of its cells. -/
def tokOf : List Value → ByteArray
  | [.string s] => s
  | _ => ⟨#[]⟩
def otOf : List Value → Otg
  | [.int _ a, .int _ b, .int _ c] => ⟨a, b, c⟩
  | _ => ⟨0, 0, 0⟩

theorem tok_shape (bs : List UInt8) (s : RS) : (rdL bs tokenK s).1 = tkC (tokOf (rdL bs tokenK s).1) := by
  have h := rdL_has bs tokenK s
  generalize (rdL bs tokenK s).1 = vs at h ⊢
  match vs, h with
  | [v0], ⟨⟨_, e0⟩, _⟩ =>
    subst e0
    rfl
theorem ot_shape (bs : List UInt8) (s : RS) : (rdL bs outageK s).1 = otC (otOf (rdL bs outageK s).1) := by
  have h := rdL_has bs outageK s
  generalize (rdL bs outageK s).1 = vs at h ⊢
  match vs, h with
  | [v0, v1, v2], ⟨⟨_, e0⟩, ⟨_, e1⟩, ⟨_, e2⟩, _⟩ =>
    subst e0 e1 e2
    rfl

theorem shape_list {A : Type} (C : A → List Value) (f : List Value → A) : ∀ (rs : List (List Value)), (∀ r ∈ rs, r = C (f r)) → rs = (rs.map f).map C ∧ rs.flatten = (rs.map f).flatMap C
  | [], _ => ⟨rfl, rfl⟩
  | r :: rs, h => by
    obtain ⟨h1, h2⟩ := shape_list C f rs (fun r hr => h r (List.mem_cons_of_mem _ hr))
    have h0 := h r (List.mem_cons_self ..)
    constructor
    · rw [List.map_cons, List.map_cons, ← h1, ← h0]
    · rw [List.map_cons, List.flatMap_cons, ← h2, ← h0, List.flatten_cons]

theorem rdM_length (bs : List UInt8) (most : Nat) (ks : List Kd) (s : RS) : (rdM bs most ks s).1.length ≤ most := by
  unfold rdM
  rw [rdN_length]
  exact (cnt_spec bs most s).2
theorem tokens_shape (bs : List UInt8) (most : Nat) (s : RS) : (rdM bs most tokenK s).1 = ((rdM bs most tokenK s).1.map tokOf).map tkC ∧ (rdM bs most tokenK s).1.flatten = tkV ((rdM bs most tokenK s).1.map tokOf) :=
  shape_list tkC tokOf _ (fun r hr => by obtain ⟨s', rfl⟩ := rdN_mem bs tokenK _ _ r hr; exact tok_shape bs s')
theorem outs_shape (bs : List UInt8) (most : Nat) (s : RS) : (rdM bs most outageK s).1 = ((rdM bs most outageK s).1.map otOf).map otC ∧ (rdM bs most outageK s).1.flatten = otV ((rdM bs most outageK s).1.map otOf) :=
  shape_list otC otOf _ (fun r hr => by obtain ⟨s', rfl⟩ := rdN_mem bs outageK _ _ r hr; exact ot_shape bs s')

/-- A delta that came into being since. -/
structure DNew (w0 w : World) (d : Dl) (a1 : Option Addr) (c1 g1 : Nat) (a2 : Option Addr) (c2 g2 : Nat) : Prop where
  k1 : KL w0 w a1 c1 g1 1 (tkV d.add)
  k2 : KL w0 w a2 c2 g2 1 (tkV d.gone)
  ne : 0 < c1 → 0 < c2 → g1 ≠ g2
theorem DNew.go {S : Nat → Prop} {w0 w w' : World} {d : Dl} {a1 : Option Addr} {c1 g1 : Nat} {a2 : Option Addr} {c2 g2 : Nat} (h : DNew w0 w d a1 c1 g1 a2 c2 g2) (hf : Fr S w w') (hS : ∀ q, S q → q < w0.heap.size) : DNew w0 w' d a1 c1 g1 a2 c2 g2 := ⟨h.k1.go (by omega) hf hS, h.k2.go (by omega) hf hS, h.ne⟩
theorem DNew.later {w0 w1 w : World} {d : Dl} {a1 : Option Addr} {c1 g1 : Nat} {a2 : Option Addr} {c2 g2 : Nat} (h : DNew w1 w d a1 c1 g1 a2 c2 g2) (hs : w0.heap.size ≤ w1.heap.size) : DNew w0 w d a1 c1 g1 a2 c2 g2 := ⟨h.k1.later hs, h.k2.later hs, h.ne⟩

def deltaZ : Dl := ⟨0, [], []⟩
theorem KL.none (w0 w : World) (g k : Nat) : KL w0 w none 0 g k [] := ⟨KRow.nil _ _ _, fun h => absurd h (by omega)⟩
theorem DNew.zero (w0 w : World) : DNew w0 w deltaZ none 0 0 none 0 0 := ⟨KL.none _ _ _ _, KL.none _ _ _ _, fun h => absurd h (by omega)⟩

def numOf : Value → Int
  | .int _ n => n
  | _ => 0
def deltaOf (bs : List UInt8) (s : RS) : Dl := ⟨numOf ((deltaQ0 bs s).1.getD 0 undef), (deltaQ1 bs s).1.map tokOf, (deltaQ2 bs s).1.map tokOf⟩

theorem delta_shape (bs : List UInt8) (s : RS) : (deltaQ0 bs s).1.getD 0 undef = .int .i64 (deltaOf bs s).ver ∧ (deltaQ1 bs s).1.length = (deltaOf bs s).add.length ∧ (deltaQ2 bs s).1.length = (deltaOf bs s).gone.length ∧ (deltaQ1 bs s).1.flatten = tkV (deltaOf bs s).add ∧ (deltaQ2 bs s).1.flatten = tkV (deltaOf bs s).gone ∧ (deltaOf bs s).add.length ≤ 1000 ∧ (deltaOf bs s).gone.length ≤ 1000 := by
  refine ⟨?_, (by simp [deltaOf]), (by simp [deltaOf]), (tokens_shape bs 1000 _).2, (tokens_shape bs 1000 _).2, ?_, ?_⟩
  · obtain ⟨n, hn⟩ := rd_num bs (.num 8) s (Or.inl ⟨_, rfl⟩)
    have h0 : (deltaQ0 bs s).1.getD 0 undef = ((Kd.num 8).rd bs s).1 := rfl
    show _ = Value.int .i64 (numOf ((deltaQ0 bs s).1.getD 0 undef))
    rw [h0, hn]
    rfl
  · rw [show (deltaOf bs s).add.length = (deltaQ1 bs s).1.length from by simp [deltaOf]]
    exact rdM_length _ _ _ _
  · rw [show (deltaOf bs s).gone.length = (deltaQ2 bs s).1.length from by simp [deltaOf]]
    exact rdM_length _ _ _ _

theorem delta_size (cs : Array Value) (h : cs.size = 3) : (Tryz.prog.info? 26).map (·.size) = some cs.size := by rw [h]; kernel_rfl

/-- What reading answers: the record, the fault. -/
def deltaRd (bs : List UInt8) : Dl × Int × Int :=
  if (endR (deltaS3 bs s00) bs.length).c ≠ 0 then (deltaZ, (endR (deltaS3 bs s00) bs.length).c, (endR (deltaS3 bs s00) bs.length).f)
  else if deltaOk (deltaOf bs s00) then (deltaOf bs s00, 0, 0) else (deltaZ, 80, -1)

def ReadDelta (w : World) (r : Dl × Int × Int) (e : Ending) (w' : World) : Prop := ∃ a1 c1 g1 a2 c2 g2, e = .returned (.tuple #[.agg (dlC r.1 a1 c1 a2 c2), .agg #[.int .i64 r.2.1, .int .i64 r.2.2]]) ∧ DNew w w' r.1 a1 c1 g1 a2 c2 g2 ∧ Fr (fun _ => False) w w'

set_option maxHeartbeats 2000000 in
theorem takenDelta_any (w : World) (ao : Option Addr) (cap : Nat) (bs : List UInt8) (hB : BIn w ao cap bs) :
    Calls Tryz.prog 30 #[.slice ao bs.length cap, .func (Fn.func 28) #[] #[], .func (Fn.func 29) #[] #[]] w (ReadDelta w (deltaRd bs)) := by
  have HB := hide hB
  have HSH := hide (delta_shape bs s00)
  obtain ⟨d, Hd⟩ : ∃ d, Hid (deltaOf bs s00 = d) := ⟨_, rfl⟩
  obtain ⟨q, Hq⟩ : ∃ q, Hid (deltaS3 bs s00 = q) := ⟨_, rfl⟩
  obtain ⟨z, Hz⟩ : ∃ z, Hid (endR q bs.length = z) := ⟨_, rfl⟩
  obtain ⟨R, HRe⟩ : ∃ R, Hid (deltaRd bs = R) := ⟨_, rfl⟩
  have HR : Hid (R = if z.c ≠ 0 then (deltaZ, z.c, z.f) else if deltaOk d then (d, 0, 0) else (deltaZ, 80, -1)) := hide (by rw [← unhide HRe]; unfold deltaRd; rw [unhide Hq, unhide Hd, unhide Hz])
  rw [unhide Hd] at HSH
  rw [unhide HRe]
  clear hB HRe
  go_enter Tryz.func30, Tryz.ntmps30
  go_wp2_with fail
  have HX0 : Hid (Fr (fun _ => False) w ((((w.alloc (.cells #[.int .i64 0, .slice none 0 0, .slice none 0 0] 26)).alloc (.cells #[.int .i64 0, .int .i64 0] 44)).alloc (.cells #[.int .i64 0, .slice none 0 0, .slice none 0 0] 26)).alloc (.cells #[.int .i64 0, .slice none 0 0, .slice none 0 0] 26)) ∧ Bx ((((w.alloc (.cells #[.int .i64 0, .slice none 0 0, .slice none 0 0] 26)).alloc (.cells #[.int .i64 0, .int .i64 0] 44)).alloc (.cells #[.int .i64 0, .slice none 0 0, .slice none 0 0] 26)).alloc (.cells #[.int .i64 0, .slice none 0 0, .slice none 0 0] 26)) w.heap.size #[.int .i64 0, .slice none 0 0, .slice none 0 0] 26 ∧ Bx ((((w.alloc (.cells #[.int .i64 0, .slice none 0 0, .slice none 0 0] 26)).alloc (.cells #[.int .i64 0, .int .i64 0] 44)).alloc (.cells #[.int .i64 0, .slice none 0 0, .slice none 0 0] 26)).alloc (.cells #[.int .i64 0, .slice none 0 0, .slice none 0 0] 26)) (w.heap.size + 1) #[.int .i64 0, .int .i64 0] 44 ∧ Bx ((((w.alloc (.cells #[.int .i64 0, .slice none 0 0, .slice none 0 0] 26)).alloc (.cells #[.int .i64 0, .int .i64 0] 44)).alloc (.cells #[.int .i64 0, .slice none 0 0, .slice none 0 0] 26)).alloc (.cells #[.int .i64 0, .slice none 0 0, .slice none 0 0] 26)) (w.heap.size + 1 + 1) #[.int .i64 0, .slice none 0 0, .slice none 0 0] 26 ∧ Bx ((((w.alloc (.cells #[.int .i64 0, .slice none 0 0, .slice none 0 0] 26)).alloc (.cells #[.int .i64 0, .int .i64 0] 44)).alloc (.cells #[.int .i64 0, .slice none 0 0, .slice none 0 0] 26)).alloc (.cells #[.int .i64 0, .slice none 0 0, .slice none 0 0] 26)) (w.heap.size + 1 + 1 + 1) #[.int .i64 0, .slice none 0 0, .slice none 0 0] 26) := hide (four_boxes w _ _ _ _ _ _ _ _)
  obtain ⟨B, HBe⟩ : ∃ B, Hid (w.heap.size = B) := ⟨_, rfl⟩
  rw [unhide HBe] at HX0 ⊢
  generalize ((((w.alloc (.cells #[.int .i64 0, .slice none 0 0, .slice none 0 0] 26)).alloc (.cells #[.int .i64 0, .int .i64 0] 44)).alloc (.cells #[.int .i64 0, .slice none 0 0, .slice none 0 0] 26)).alloc (.cells #[.int .i64 0, .slice none 0 0, .slice none 0 0] 26)) = w0 at *
  obtain ⟨R1, hR1⟩ : ∃ x, B + 1 = x := ⟨_, rfl⟩
  obtain ⟨X0, hX0⟩ : ∃ x, B + 1 + 1 = x := ⟨_, rfl⟩
  obtain ⟨X1, hX1⟩ : ∃ x, B + 1 + 1 + 1 = x := ⟨_, rfl⟩
  rw [hX1, hX0, hR1] at HX0 ⊢
  have HD : Hid (B < R1 ∧ R1 < X0 ∧ X0 < X1 ∧ X1 < w0.heap.size ∧ w.heap.size = B) := hide ⟨by omega, by omega, by omega, (unhide HX0).2.2.2.2.lt, unhide HBe⟩
  clear hR1 hX0 hX1
  have hbin := (unhide HB).keep (unhide HX0).1
  refine (newreader_any _ ao cap bs hbin.nil hbin.cell hbin.fit).mono ?_
  rintro e w1 ⟨p, g, rfl, hR, hF1, hg, hp⟩
  have HX1 : Hid (Fr (fun _ => False) w w1 ∧ Bx w1 B #[.int .i64 0, .slice none 0 0, .slice none 0 0] 26 ∧ Bx w1 R1 #[.int .i64 0, .int .i64 0] 44 ∧ Bx w1 X0 #[.int .i64 0, .slice none 0 0, .slice none 0 0] 26 ∧ Bx w1 X1 #[.int .i64 0, .slice none 0 0, .slice none 0 0] 26) := hide (by
    obtain ⟨k0, k1, k2, k3, k4⟩ := unhide HX0
    exact ⟨k0.trans hF1 (fun _ _ t => t), k1.keep hF1, k2.keep hF1, k3.keep hF1, k4.keep hF1⟩)
  have HD1 : Hid (X1 < p ∧ X1 < g) := hide (by obtain ⟨d1, d2, d3, d4, d5⟩ := unhide HD; omega)
  have HR1 := hide hR
  clear hR hF1 hg hp hbin HX0
  go_wp2_with fail
  have HX2 : Hid (Fr (fun _ => False) w (w1.alloc (.cells #[.pointer none, .pointer (some ⟨p, 0, none⟩)] 75)) ∧ Bx (w1.alloc (.cells #[.pointer none, .pointer (some ⟨p, 0, none⟩)] 75)) B #[.int .i64 0, .slice none 0 0, .slice none 0 0] 26 ∧ Bx (w1.alloc (.cells #[.pointer none, .pointer (some ⟨p, 0, none⟩)] 75)) R1 #[.int .i64 0, .int .i64 0] 44 ∧ Bx (w1.alloc (.cells #[.pointer none, .pointer (some ⟨p, 0, none⟩)] 75)) X1 #[.int .i64 0, .slice none 0 0, .slice none 0 0] 26 ∧ Bx (w1.alloc (.cells #[.pointer none, .pointer (some ⟨p, 0, none⟩)] 75)) w1.heap.size #[.pointer none, .pointer (some ⟨p, 0, none⟩)] 75) := hide (by
    obtain ⟨k0, k1, k2, k3, k4⟩ := unhide HX1
    exact ⟨k0.alloc _, k1.alloc _, k2.alloc _, k4.alloc _, Bx.new _ _ _⟩)
  have HB2 : Hid (RB (w1.alloc (.cells #[.pointer none, .pointer (some ⟨p, 0, none⟩)] 75)) p g X0 bs s00 #[.int .i64 0, .slice none 0 0, .slice none 0 0] 26) := hide ⟨RAt.alloc (unhide HR1) _, (unhide HX1).2.2.2.1.alloc _, by have := unhide HD; have := unhide HD1; omega, fun _ => by have := unhide HD; have := unhide HD1; omega⟩
  have HBLL : Hid (B < p ∧ R1 < p) := hide (by have := unhide HD; have := unhide HD1; omega)
  have HN : Hid (w1.heap.size ≠ p ∧ w1.heap.size ≠ X0) := hide ⟨by have := RAt.lt (unhide HR1); omega, by have := (unhide HX1).2.2.2.1.lt; omega⟩
  have HP2 : Hid (p < (w1.alloc (.cells #[.pointer none, .pointer (some ⟨p, 0, none⟩)] 75)).heap.size ∧ w.heap.size ≤ (w1.alloc (.cells #[.pointer none, .pointer (some ⟨p, 0, none⟩)] 75)).heap.size) := hide (by
    rw [heap_alloc]
    have h1 := RAt.lt (unhide HR1)
    have h2 := (unhide HX1).1.size
    exact ⟨by omega, by omega⟩)
  generalize w1.alloc (.cells #[.pointer none, .pointer (some ⟨p, 0, none⟩)] 75) = w2 at *
  generalize w1.heap.size = N at *
  refine (delta_r _ (unhide HB2)).mono ?_
  obtain ⟨sh0, sh1, sh2, sh3, sh4, sh5, sh6⟩ := unhide HSH
  rw [unhide Hq, sh0, sh1, sh2, sh3, sh4]
  rintro e w3 ⟨rfl, a1, c1, g1, a2, c2, g2, hB3, ⟨hk1, hk2⟩, hne, hF3⟩
  have HK3 : Hid (DNew w2 w3 d a1 c1 g1 a2 c2 g2) := hide ⟨hk1, hk2, hne⟩
  have RE : Hid (∀ w', DNew w2 w' d a1 c1 g1 a2 c2 g2 → Calls Tryz.prog 29 #[.agg #[.int .i64 d.ver, .slice a1 d.add.length c1, .slice a2 d.gone.length c2]] w' fun e w'' => e = .returned (.int .i64 (deltaE d)) ∧ Fr (fun _ => False) w' w'') := hide (fun w' hN => deltaError_any d w' a1 c1 a2 c2 (cat_sat hN.k1.row.catN) (cat_sat hN.k2.row.catN) (by omega) (by omega))
  clear hk1 hk2 hne sh0 sh1 sh2 sh3 sh4 sh5 sh6
  have HX3 : Hid (Fr (fun _ => False) w w3 ∧ Bx w3 B #[.int .i64 0, .slice none 0 0, .slice none 0 0] 26 ∧ Bx w3 R1 #[.int .i64 0, .int .i64 0] 44 ∧ Bx w3 X1 #[.int .i64 0, .slice none 0 0, .slice none 0 0] 26 ∧ Bx w3 N #[.pointer none, .pointer (some ⟨p, 0, none⟩)] 75) := hide (by
    obtain ⟨k0, k1, k2, k3, k4⟩ := unhide HX2
    obtain ⟨d1, d2, d3, d4, d5⟩ := unhide HD
    obtain ⟨d6, d7⟩ := unhide HD1
    obtain ⟨d8, d9⟩ := unhide HN
    exact ⟨k0.trans hF3 (fun _ _ t => by omega), k1.frame hF3 (by omega), k2.frame hF3 (by omega), k3.frame hF3 (by omega), k4.frame hF3 (by omega)⟩)
  have HB3 : Hid (RB w3 p g X0 bs q #[.int .i64 d.ver, .slice a1 d.add.length c1, .slice a2 d.gone.length c2] 26) := hide hB3
  have n1 : w3.cell? ⟨N, 1, none⟩ = some (.pointer (some ⟨p, 0, none⟩)) := (unhide HX3).2.2.2.2.cell 1
  clear hB3 hF3 HX2 HB2 HX1 HR1
  go_wp2_with fail
  refine (end_any (unhide HB3).r).mono ?_
  rw [unhide Hz]
  rintro e w4 ⟨rfl, hR4, hF4⟩
  have HX4 : Hid (Fr (fun _ => False) w w4 ∧ Bx w4 B #[.int .i64 0, .slice none 0 0, .slice none 0 0] 26 ∧ Bx w4 R1 #[.int .i64 0, .int .i64 0] 44 ∧ Bx w4 X1 #[.int .i64 0, .slice none 0 0, .slice none 0 0] 26 ∧ Bx w4 X0 #[.int .i64 d.ver, .slice a1 d.add.length c1, .slice a2 d.gone.length c2] 26) := hide (by
    obtain ⟨k0, k1, k2, k3, k4⟩ := unhide HX3
    obtain ⟨d1, d2, d3, d4, d5⟩ := unhide HD
    obtain ⟨d6, d7⟩ := unhide HD1
    exact ⟨k0.trans hF4 (fun _ _ t => by omega), k1.frame hF4 (by omega), k2.frame hF4 (by omega), k3.frame hF4 (by omega), (unhide HB3).x.frame hF4 (unhide HB3).np⟩)
  have HK4 : Hid (DNew w2 w4 d a1 c1 g1 a2 c2 g2) := hide ((unhide HK3).go hF4 (fun q hq => by have := unhide HP2; omega))
  clear hR4 hF4 HX3 HB3 n1 HK3
  have zc := unhide HR
  generalize hzc : z.c = c at zc ⊢
  generalize hzf : z.f = f at zc ⊢
  have HRR := hide zc
  clear zc hzc hzf
  have HX5 : Hid (Fr (fun _ => False) w (w4.alloc (.cells #[.int .i64 c, .int .i64 f] 44)) ∧ Bx (w4.alloc (.cells #[.int .i64 c, .int .i64 f] 44)) B #[.int .i64 0, .slice none 0 0, .slice none 0 0] 26 ∧ Bx (w4.alloc (.cells #[.int .i64 c, .int .i64 f] 44)) R1 #[.int .i64 0, .int .i64 0] 44 ∧ Bx (w4.alloc (.cells #[.int .i64 c, .int .i64 f] 44)) X1 #[.int .i64 0, .slice none 0 0, .slice none 0 0] 26 ∧ Bx (w4.alloc (.cells #[.int .i64 c, .int .i64 f] 44)) X0 #[.int .i64 d.ver, .slice a1 d.add.length c1, .slice a2 d.gone.length c2] 26 ∧ Bx (w4.alloc (.cells #[.int .i64 c, .int .i64 f] 44)) w4.heap.size #[.int .i64 c, .int .i64 f] 44) := hide (by
    obtain ⟨k0, k1, k2, k3, k4⟩ := unhide HX4
    exact ⟨k0.alloc _, k1.alloc _, k2.alloc _, k3.alloc _, k4.alloc _, Bx.new _ _ _⟩)
  have HK5 : Hid (DNew w2 (w4.alloc (.cells #[.int .i64 c, .int .i64 f] 44)) d a1 c1 g1 a2 c2 g2) := hide ((unhide HK4).go ((Fr.refl (fun _ => False) _).alloc _) (fun q hq => absurd hq (fun t => t)))
  have HFB : Hid (X1 < w4.heap.size) := hide (unhide HX4).2.2.2.1.lt
  by_cases hc : c = 0
  · have hcb : (c != 0) = false := by simp [hc]
    obtain ⟨b, hb⟩ : ∃ b, deltaOk d = b := ⟨_, rfl⟩
    have HRE : Hid (R = if b then (d, 0, 0) else (deltaZ, 80, -1)) := hide (by rw [unhide HRR, if_neg (fun h => h hc), hb])
    have HEV : Hid (deltaE d = if b then 0 else 80) := hide (by unfold deltaE; rw [hb])
    simp only [unhide HEV] at RE
    rw [unhide HRE]
    clear hc HRR HEV hb
    cases b
    · simp only [Bool.false_eq_true, if_false] at RE ⊢
      have y0 : (w4.alloc (.cells #[.int .i64 c, .int .i64 f] 44)).cell? ⟨w4.heap.size, 0, none⟩ = some (.int .i64 c) := (unhide HX5).2.2.2.2.2.cell 0
      have x0 : (w4.alloc (.cells #[.int .i64 c, .int .i64 f] 44)).cell? ⟨X0, 0, none⟩ = some (.int .i64 d.ver) := (unhide HX5).2.2.2.2.1.cell 0
      have x1 : (w4.alloc (.cells #[.int .i64 c, .int .i64 f] 44)).cell? ⟨X0, 1, none⟩ = some (.slice a1 d.add.length c1) := (unhide HX5).2.2.2.2.1.cell 1
      have x2 : (w4.alloc (.cells #[.int .i64 c, .int .i64 f] 44)).cell? ⟨X0, 2, none⟩ = some (.slice a2 d.gone.length c2) := (unhide HX5).2.2.2.2.1.cell 2
      go_wp2_with fail
      refine (unhide RE _ (unhide HK5)).mono ?_
      rintro e w5 ⟨rfl, hF5⟩
      obtain ⟨k0, k1, k2, k3, k4, k5⟩ := unhide HX5
      have HX6 : Hid (Fr (fun _ => False) w w5 ∧ Bx w5 B #[.int .i64 0, .slice none 0 0, .slice none 0 0] 26 ∧ Bx w5 R1 #[.int .i64 0, .int .i64 0] 44 ∧ Bx w5 X1 #[.int .i64 0, .slice none 0 0, .slice none 0 0] 26 ∧ Bx w5 X0 #[.int .i64 d.ver, .slice a1 d.add.length c1, .slice a2 d.gone.length c2] 26) := hide ⟨k0.trans hF5 (fun _ _ t => t), k1.keep hF5, k2.keep hF5, k3.keep hF5, k4.keep hF5⟩
      clear k0 k1 k2 k3 k4 k5 hF5 y0 x0 x1 x2
      have HBL : Hid (¬ B < w.heap.size ∧ ¬ R1 < w.heap.size) := hide (by have := unhide HD; omega)
      obtain ⟨d1, d2, d3, d4, d5⟩ := unhide HD
      have hBR : B ≠ R1 := by omega
      have hRB : R1 ≠ B := by omega
      have hBX : B ≠ X1 := by omega
      have hXB : X1 ≠ B := by omega
      have hBY : B ≠ X0 := by omega
      have hYB : X0 ≠ B := by omega
      clear d1 d2 d3 d4 d5
      have x0 : w5.cell? ⟨X1, 0, none⟩ = some (.int .i64 0) := (unhide HX6).2.2.2.1.cell 0
      have x1 : w5.cell? ⟨X1, 1, none⟩ = some (.slice none 0 0) := (unhide HX6).2.2.2.1.cell 1
      have x2 : w5.cell? ⟨X1, 2, none⟩ = some (.slice none 0 0) := (unhide HX6).2.2.2.1.cell 2
      have r0 : w5.cell? ⟨B, 0, none⟩ = some (.int .i64 0) := (unhide HX6).2.1.cell 0
      have s0 : w5.frozen? ⟨B, 0, none⟩ = false := (unhide HX6).2.1.frozen 0
      have r1 : w5.cell? ⟨B, 1, none⟩ = some (.slice none 0 0) := (unhide HX6).2.1.cell 1
      have s1 : w5.frozen? ⟨B, 1, none⟩ = false := (unhide HX6).2.1.frozen 1
      have r2 : w5.cell? ⟨B, 2, none⟩ = some (.slice none 0 0) := (unhide HX6).2.1.cell 2
      have s2 : w5.frozen? ⟨B, 2, none⟩ = false := (unhide HX6).2.1.frozen 2
      have u0 : w5.cell? ⟨R1, 0, none⟩ = some (.int .i64 0) := (unhide HX6).2.2.1.cell 0
      have v0 : w5.frozen? ⟨R1, 0, none⟩ = false := (unhide HX6).2.2.1.frozen 0
      have u1 : w5.cell? ⟨R1, 1, none⟩ = some (.int .i64 0) := (unhide HX6).2.2.1.cell 1
      have v1 : w5.frozen? ⟨R1, 1, none⟩ = false := (unhide HX6).2.2.1.frozen 1
      go_wp2
      obtain ⟨k0, k1, k2, k3, k4⟩ := unhide HX6
      have e1 := (Bx.setOther (Bx.setOther (Bx.setCell (Bx.setCell (Bx.setCell k1 0 (.int .i64 0)) 1 (.slice none 0 0)) 2 (.slice none 0 0)) hBR 0 (.int .i64 80)) hBR 1 (.int .i64 (-1)))
      have e2 := (Bx.setCell (Bx.setCell (Bx.setOther (Bx.setOther (Bx.setOther k2 hRB 0 (.int .i64 0)) hRB 1 (.slice none 0 0)) hRB 2 (.slice none 0 0)) 0 (.int .i64 80)) 1 (.int .i64 (-1)))
      have e3 : Fr (fun _ => False) w ((((((w5.setCell ⟨B, 0, none⟩ (.int .i64 0)).setCell ⟨B, 1, none⟩ (.slice none 0 0)).setCell ⟨B, 2, none⟩ (.slice none 0 0)).setCell ⟨R1, 0, none⟩ (.int .i64 80)).setCell ⟨R1, 1, none⟩ (.int .i64 (-1)))) := (Fr.setCell (Fr.setCell (Fr.setCell (Fr.setCell (Fr.setCell k0 (p := ⟨B, 0, none⟩) (fun h => absurd h (unhide HBL).1) (.int .i64 0)) (p := ⟨B, 1, none⟩) (fun h => absurd h (unhide HBL).1) (.slice none 0 0)) (p := ⟨B, 2, none⟩) (fun h => absurd h (unhide HBL).1) (.slice none 0 0)) (p := ⟨R1, 0, none⟩) (fun h => absurd h (unhide HBL).2) (.int .i64 80)) (p := ⟨R1, 1, none⟩) (fun h => absurd h (unhide HBL).2) (.int .i64 (-1)))
      exact bodyPost_ret (v := .tuple #[.agg #[.int .i64 0, .slice none 0 0, .slice none 0 0], .agg #[.int .i64 80, .int .i64 (-1)]]) (results_bx2 rfl _ rfl rfl e1 e2 Tryz.underlying26 rfl (delta_size _ rfl) Tryz.underlying44 rfl (fault_size _ _)) rfl ⟨none, 0, 0, none, 0, 0, by first | rfl | (rw [unhide HRE]; rfl), (by first | exact DNew.zero _ _ | (rw [unhide HRE]; exact DNew.zero _ _)), e3⟩
    · simp only [if_true] at RE ⊢
      have y0 : (w4.alloc (.cells #[.int .i64 c, .int .i64 f] 44)).cell? ⟨w4.heap.size, 0, none⟩ = some (.int .i64 c) := (unhide HX5).2.2.2.2.2.cell 0
      have x0 : (w4.alloc (.cells #[.int .i64 c, .int .i64 f] 44)).cell? ⟨X0, 0, none⟩ = some (.int .i64 d.ver) := (unhide HX5).2.2.2.2.1.cell 0
      have x1 : (w4.alloc (.cells #[.int .i64 c, .int .i64 f] 44)).cell? ⟨X0, 1, none⟩ = some (.slice a1 d.add.length c1) := (unhide HX5).2.2.2.2.1.cell 1
      have x2 : (w4.alloc (.cells #[.int .i64 c, .int .i64 f] 44)).cell? ⟨X0, 2, none⟩ = some (.slice a2 d.gone.length c2) := (unhide HX5).2.2.2.2.1.cell 2
      go_wp2_with fail
      refine (unhide RE _ (unhide HK5)).mono ?_
      rintro e w5 ⟨rfl, hF5⟩
      obtain ⟨k0, k1, k2, k3, k4, k5⟩ := unhide HX5
      have HX6 : Hid (Fr (fun _ => False) w w5 ∧ Bx w5 B #[.int .i64 0, .slice none 0 0, .slice none 0 0] 26 ∧ Bx w5 R1 #[.int .i64 0, .int .i64 0] 44 ∧ Bx w5 X1 #[.int .i64 0, .slice none 0 0, .slice none 0 0] 26 ∧ Bx w5 X0 #[.int .i64 d.ver, .slice a1 d.add.length c1, .slice a2 d.gone.length c2] 26) := hide ⟨k0.trans hF5 (fun _ _ t => t), k1.keep hF5, k2.keep hF5, k3.keep hF5, k4.keep hF5⟩
      have HK6 : Hid (DNew w2 w5 d a1 c1 g1 a2 c2 g2) := hide ((unhide HK5).go hF5 (fun q hq => absurd hq (fun t => t)))
      clear k0 k1 k2 k3 k4 k5 hF5 y0 x0 x1 x2
      have HBL : Hid (¬ B < w.heap.size ∧ ¬ R1 < w.heap.size) := hide (by have := unhide HD; omega)
      obtain ⟨d1, d2, d3, d4, d5⟩ := unhide HD
      have hBR : B ≠ R1 := by omega
      have hRB : R1 ≠ B := by omega
      have hBX : B ≠ X1 := by omega
      have hXB : X1 ≠ B := by omega
      have hBY : B ≠ X0 := by omega
      have hYB : X0 ≠ B := by omega
      clear d1 d2 d3 d4 d5
      have x0 : w5.cell? ⟨X0, 0, none⟩ = some (.int .i64 d.ver) := (unhide HX6).2.2.2.2.cell 0
      have x1 : w5.cell? ⟨X0, 1, none⟩ = some (.slice a1 d.add.length c1) := (unhide HX6).2.2.2.2.cell 1
      have x2 : w5.cell? ⟨X0, 2, none⟩ = some (.slice a2 d.gone.length c2) := (unhide HX6).2.2.2.2.cell 2
      have r0 : w5.cell? ⟨B, 0, none⟩ = some (.int .i64 0) := (unhide HX6).2.1.cell 0
      have s0 : w5.frozen? ⟨B, 0, none⟩ = false := (unhide HX6).2.1.frozen 0
      have r1 : w5.cell? ⟨B, 1, none⟩ = some (.slice none 0 0) := (unhide HX6).2.1.cell 1
      have s1 : w5.frozen? ⟨B, 1, none⟩ = false := (unhide HX6).2.1.frozen 1
      have r2 : w5.cell? ⟨B, 2, none⟩ = some (.slice none 0 0) := (unhide HX6).2.1.cell 2
      have s2 : w5.frozen? ⟨B, 2, none⟩ = false := (unhide HX6).2.1.frozen 2
      have u0 : w5.cell? ⟨R1, 0, none⟩ = some (.int .i64 0) := (unhide HX6).2.2.1.cell 0
      have v0 : w5.frozen? ⟨R1, 0, none⟩ = false := (unhide HX6).2.2.1.frozen 0
      have u1 : w5.cell? ⟨R1, 1, none⟩ = some (.int .i64 0) := (unhide HX6).2.2.1.cell 1
      have v1 : w5.frozen? ⟨R1, 1, none⟩ = false := (unhide HX6).2.2.1.frozen 1
      go_wp2
      obtain ⟨k0, k1, k2, k3, k4⟩ := unhide HX6
      have e1 := (Bx.setOther (Bx.setOther (Bx.setCell (Bx.setCell (Bx.setCell k1 0 (.int .i64 d.ver)) 1 (.slice a1 d.add.length c1)) 2 (.slice a2 d.gone.length c2)) hBR 0 (.int .i64 0)) hBR 1 (.int .i64 0))
      have e2 := (Bx.setCell (Bx.setCell (Bx.setOther (Bx.setOther (Bx.setOther k2 hRB 0 (.int .i64 d.ver)) hRB 1 (.slice a1 d.add.length c1)) hRB 2 (.slice a2 d.gone.length c2)) 0 (.int .i64 0)) 1 (.int .i64 0))
      have e3 : Fr (fun _ => False) w ((((((w5.setCell ⟨B, 0, none⟩ (.int .i64 d.ver)).setCell ⟨B, 1, none⟩ (.slice a1 d.add.length c1)).setCell ⟨B, 2, none⟩ (.slice a2 d.gone.length c2)).setCell ⟨R1, 0, none⟩ (.int .i64 0)).setCell ⟨R1, 1, none⟩ (.int .i64 0))) := (Fr.setCell (Fr.setCell (Fr.setCell (Fr.setCell (Fr.setCell k0 (p := ⟨B, 0, none⟩) (fun h => absurd h (unhide HBL).1) (.int .i64 d.ver)) (p := ⟨B, 1, none⟩) (fun h => absurd h (unhide HBL).1) (.slice a1 d.add.length c1)) (p := ⟨B, 2, none⟩) (fun h => absurd h (unhide HBL).1) (.slice a2 d.gone.length c2)) (p := ⟨R1, 0, none⟩) (fun h => absurd h (unhide HBL).2) (.int .i64 0)) (p := ⟨R1, 1, none⟩) (fun h => absurd h (unhide HBL).2) (.int .i64 0))
      exact bodyPost_ret (v := .tuple #[.agg #[.int .i64 d.ver, .slice a1 d.add.length c1, .slice a2 d.gone.length c2], .agg #[.int .i64 0, .int .i64 0]]) (results_bx2 rfl _ rfl rfl e1 e2 Tryz.underlying26 rfl (delta_size _ rfl) Tryz.underlying44 rfl (fault_size _ _)) rfl ⟨a1, c1, g1, a2, c2, g2, by first | rfl | (rw [unhide HRE]; rfl), (by rw [unhide HRE]; exact DNew.later (DNew.go (unhide HK6) (S := fun q => q = B ∨ q = R1) ((Fr.setCell (Fr.setCell (Fr.setCell (Fr.setCell (Fr.setCell (Fr.refl _ w5) (p := ⟨B, 0, none⟩) (fun _ => Or.inl rfl) (.int .i64 d.ver)) (p := ⟨B, 1, none⟩) (fun _ => Or.inl rfl) (.slice a1 d.add.length c1)) (p := ⟨B, 2, none⟩) (fun _ => Or.inl rfl) (.slice a2 d.gone.length c2)) (p := ⟨R1, 0, none⟩) (fun _ => Or.inr rfl) (.int .i64 0)) (p := ⟨R1, 1, none⟩) (fun _ => Or.inr rfl) (.int .i64 0))) (fun q hq => by have := unhide HP2; have := unhide HBLL; omega)) (unhide HP2).2), e3⟩
  · have hcb : (c != 0) = true := by simp [hc]
    have HRE : Hid (R = (deltaZ, c, f)) := hide (by rw [unhide HRR, if_pos hc])
    clear hc HRR
    rw [unhide HRE]
    go_wp2_with fail
    generalize w4.alloc (.cells #[.int .i64 c, .int .i64 f] 44) = w5 at *
    generalize w4.heap.size = Fb at *
    have HBL : Hid (¬ B < w.heap.size ∧ ¬ R1 < w.heap.size) := hide (by have := unhide HD; omega)
    have x0 : w5.cell? ⟨X1, 0, none⟩ = some (.int .i64 0) := (unhide HX5).2.2.2.1.cell 0
    have x1 : w5.cell? ⟨X1, 1, none⟩ = some (.slice none 0 0) := (unhide HX5).2.2.2.1.cell 1
    have x2 : w5.cell? ⟨X1, 2, none⟩ = some (.slice none 0 0) := (unhide HX5).2.2.2.1.cell 2
    have y0 : w5.cell? ⟨Fb, 0, none⟩ = some (.int .i64 c) := (unhide HX5).2.2.2.2.2.cell 0
    have y1 : w5.cell? ⟨Fb, 1, none⟩ = some (.int .i64 f) := (unhide HX5).2.2.2.2.2.cell 1
    have r0 : w5.cell? ⟨B, 0, none⟩ = some (.int .i64 0) := (unhide HX5).2.1.cell 0
    have s0 : w5.frozen? ⟨B, 0, none⟩ = false := (unhide HX5).2.1.frozen 0
    have r1 : w5.cell? ⟨B, 1, none⟩ = some (.slice none 0 0) := (unhide HX5).2.1.cell 1
    have s1 : w5.frozen? ⟨B, 1, none⟩ = false := (unhide HX5).2.1.frozen 1
    have r2 : w5.cell? ⟨B, 2, none⟩ = some (.slice none 0 0) := (unhide HX5).2.1.cell 2
    have s2 : w5.frozen? ⟨B, 2, none⟩ = false := (unhide HX5).2.1.frozen 2
    have u0 : w5.cell? ⟨R1, 0, none⟩ = some (.int .i64 0) := (unhide HX5).2.2.1.cell 0
    have v0 : w5.frozen? ⟨R1, 0, none⟩ = false := (unhide HX5).2.2.1.frozen 0
    have u1 : w5.cell? ⟨R1, 1, none⟩ = some (.int .i64 0) := (unhide HX5).2.2.1.cell 1
    have v1 : w5.frozen? ⟨R1, 1, none⟩ = false := (unhide HX5).2.2.1.frozen 1
    obtain ⟨d1, d2, d3, d4, d5⟩ := unhide HD
    have HFL : Hid (X1 < Fb) := unhide HFB
    have hBR : B ≠ R1 := by omega
    have hRB : R1 ≠ B := by omega
    have hBX : B ≠ X1 := by omega
    have hXB : X1 ≠ B := by omega
    have hBF : B ≠ Fb := by have := unhide HFL; omega
    have hFB : Fb ≠ B := hBF.symm
    have hRX : R1 ≠ X1 := by omega
    have hXR : X1 ≠ R1 := by omega
    have hRF : R1 ≠ Fb := by have := unhide HFL; omega
    have hFR : Fb ≠ R1 := hRF.symm
    clear d1 d2 d3 d4 d5
    go_region_held3 (fun w' => w'.cell? ⟨X1, 0, none⟩ = some (.int .i64 0) ∧ w'.cell? ⟨X1, 1, none⟩ = some (.slice none 0 0) ∧ w'.cell? ⟨X1, 2, none⟩ = some (.slice none 0 0) ∧ w'.cell? ⟨Fb, 0, none⟩ = some (.int .i64 c) ∧ w'.cell? ⟨Fb, 1, none⟩ = some (.int .i64 f)) (go_keep) (fail)
    go_wp2
    obtain ⟨k0, k1, k2, k3, k4, k5⟩ := unhide HX5
    have e1 := (Bx.setOther (Bx.setOther (Bx.setCell (Bx.setCell (Bx.setCell k1 0 (.int .i64 0)) 1 (.slice none 0 0)) 2 (.slice none 0 0)) hBR 0 (.int .i64 c)) hBR 1 (.int .i64 f))
    have e2 := (Bx.setCell (Bx.setCell (Bx.setOther (Bx.setOther (Bx.setOther k2 hRB 0 (.int .i64 0)) hRB 1 (.slice none 0 0)) hRB 2 (.slice none 0 0)) 0 (.int .i64 c)) 1 (.int .i64 f))
    have e3 : Fr (fun _ => False) w ((((((((w5.setCell ⟨B, 0, none⟩ (.int .i64 0)).setCell ⟨B, 1, none⟩ (.slice none 0 0)).setCell ⟨B, 2, none⟩ (.slice none 0 0)).setCell ⟨R1, 0, none⟩ (.int .i64 c)).setCell ⟨R1, 1, none⟩ (.int .i64 f))).drew)) := Fr.drew (Fr.setCell (Fr.setCell (Fr.setCell (Fr.setCell (Fr.setCell k0 (p := ⟨B, 0, none⟩) (fun h => absurd h (unhide HBL).1) (.int .i64 0)) (p := ⟨B, 1, none⟩) (fun h => absurd h (unhide HBL).1) (.slice none 0 0)) (p := ⟨B, 2, none⟩) (fun h => absurd h (unhide HBL).1) (.slice none 0 0)) (p := ⟨R1, 0, none⟩) (fun h => absurd h (unhide HBL).2) (.int .i64 c)) (p := ⟨R1, 1, none⟩) (fun h => absurd h (unhide HBL).2) (.int .i64 f))
    rw [unhide HRE]
    exact bodyPost_ret (v := .tuple #[.agg #[.int .i64 0, .slice none 0 0, .slice none 0 0], .agg #[.int .i64 c, .int .i64 f]]) (results_bx2 rfl _ rfl rfl e1.drew e2.drew Tryz.underlying26 rfl (delta_size _ rfl) Tryz.underlying44 rfl (fault_size _ _)) rfl ⟨none, 0, 0, none, 0, 0, by first | rfl | (rw [unhide HRE]; rfl), (by first | exact DNew.zero _ _ | (rw [unhide HRE]; exact DNew.zero _ _)), e3⟩

set_option maxHeartbeats 1000000 in
theorem readDelta_any (w : World) (ao : Option Addr) (cap : Nat) (bs : List UInt8) (hB : BIn w ao cap bs) : Calls Tryz.prog 10 #[.slice ao bs.length cap] w (ReadDelta w (deltaRd bs)) := by
  have R := hide (fun w' (h : Fr (fun _ => False) w w') => takenDelta_any w' ao cap bs (hB.keep h))
  obtain ⟨t, Ht⟩ : ∃ t, Hid (deltaRd bs = t) := ⟨_, rfl⟩
  rw [unhide Ht] at R ⊢
  unfold ReadDelta at *
  obtain ⟨d, c, f⟩ := t
  simp only at R ⊢
  unfold dlC at *
  clear hB Ht
  go_enter Tryz.func10, Tryz.ntmps10
  go_wp2_with fail
  have HX : Hid (Fr (fun _ => False) w ((w.alloc (.cells #[.int .i64 0, .slice none 0 0, .slice none 0 0] 26)).alloc (.cells #[.int .i64 0, .int .i64 0] 44)) ∧ Bx ((w.alloc (.cells #[.int .i64 0, .slice none 0 0, .slice none 0 0] 26)).alloc (.cells #[.int .i64 0, .int .i64 0] 44)) w.heap.size #[.int .i64 0, .slice none 0 0, .slice none 0 0] 26 ∧ Bx ((w.alloc (.cells #[.int .i64 0, .slice none 0 0, .slice none 0 0] 26)).alloc (.cells #[.int .i64 0, .int .i64 0] 44)) (w.heap.size + 1) #[.int .i64 0, .int .i64 0] 44) := hide (by
    have h2 := Bx.new (w.alloc (.cells #[.int .i64 0, .slice none 0 0, .slice none 0 0] 26)) #[.int .i64 0, .int .i64 0] 44
    rw [heap_alloc] at h2
    exact ⟨((Fr.refl _ w).alloc _).alloc _, (Bx.new _ _ _).alloc _, h2⟩)
  refine (unhide R _ (unhide HX).1).mono ?_
  rintro e w5 ⟨a1, c1, g1, a2, c2, g2, rfl, hN, hF⟩
  have HK5 := hide hN
  have HS : Hid (w.heap.size < ((w.alloc (.cells #[.int .i64 0, .slice none 0 0, .slice none 0 0] 26)).alloc (.cells #[.int .i64 0, .int .i64 0] 44)).heap.size ∧ w.heap.size + 1 < ((w.alloc (.cells #[.int .i64 0, .slice none 0 0, .slice none 0 0] 26)).alloc (.cells #[.int .i64 0, .int .i64 0] 44)).heap.size) := hide (by rw [heap_alloc, heap_alloc]; omega)
  clear hN
  obtain ⟨B, hBe⟩ : ∃ B, w.heap.size = B := ⟨_, rfl⟩
  obtain ⟨R1, hR1⟩ : ∃ x, B + 1 = x := ⟨_, rfl⟩
  have hBR : B ≠ R1 := by omega
  have hRB : R1 ≠ B := by omega
  have HX5 : Hid (Fr (fun _ => False) w w5 ∧ Bx w5 B #[.int .i64 0, .slice none 0 0, .slice none 0 0] 26 ∧ Bx w5 R1 #[.int .i64 0, .int .i64 0] 44) := hide (by
    rw [hBe, hR1] at HX
    exact ⟨(unhide HX).1.trans hF (fun _ _ t => t), (unhide HX).2.1.keep hF, (unhide HX).2.2.keep hF⟩)
  have HBL : Hid (¬ B < w.heap.size ∧ ¬ R1 < w.heap.size) := hide (by omega)
  rw [hBe, hR1] at HS ⊢
  generalize ((w.alloc (.cells #[.int .i64 0, .slice none 0 0, .slice none 0 0] 26)).alloc (.cells #[.int .i64 0, .int .i64 0] 44)) = w0 at *
  have HS0 : Hid (w.heap.size ≤ w0.heap.size) := hide (by have := unhide HS; omega)
  clear hF HX hBe hR1 R
  have r0 : w5.cell? ⟨B, 0, none⟩ = some (.int .i64 0) := (unhide HX5).2.1.cell 0
  have s0 : w5.frozen? ⟨B, 0, none⟩ = false := (unhide HX5).2.1.frozen 0
  have r1 : w5.cell? ⟨B, 1, none⟩ = some (.slice none 0 0) := (unhide HX5).2.1.cell 1
  have s1 : w5.frozen? ⟨B, 1, none⟩ = false := (unhide HX5).2.1.frozen 1
  have r2 : w5.cell? ⟨B, 2, none⟩ = some (.slice none 0 0) := (unhide HX5).2.1.cell 2
  have s2 : w5.frozen? ⟨B, 2, none⟩ = false := (unhide HX5).2.1.frozen 2
  have u0 : w5.cell? ⟨R1, 0, none⟩ = some (.int .i64 0) := (unhide HX5).2.2.cell 0
  have v0 : w5.frozen? ⟨R1, 0, none⟩ = false := (unhide HX5).2.2.frozen 0
  have u1 : w5.cell? ⟨R1, 1, none⟩ = some (.int .i64 0) := (unhide HX5).2.2.cell 1
  have v1 : w5.frozen? ⟨R1, 1, none⟩ = false := (unhide HX5).2.2.frozen 1
  go_wp2
  obtain ⟨k0, k1, k2⟩ := unhide HX5
  have e1 := (Bx.setOther (Bx.setOther (Bx.setCell (Bx.setCell (Bx.setCell k1 0 (.int .i64 d.ver)) 1 (.slice a1 d.add.length c1)) 2 (.slice a2 d.gone.length c2)) hBR 0 (.int .i64 c)) hBR 1 (.int .i64 f))
  have e2 := (Bx.setCell (Bx.setCell (Bx.setOther (Bx.setOther (Bx.setOther k2 hRB 0 (.int .i64 d.ver)) hRB 1 (.slice a1 d.add.length c1)) hRB 2 (.slice a2 d.gone.length c2)) 0 (.int .i64 c)) 1 (.int .i64 f))
  have e3 : Fr (fun _ => False) w ((((((w5.setCell ⟨B, 0, none⟩ (.int .i64 d.ver)).setCell ⟨B, 1, none⟩ (.slice a1 d.add.length c1)).setCell ⟨B, 2, none⟩ (.slice a2 d.gone.length c2)).setCell ⟨R1, 0, none⟩ (.int .i64 c)).setCell ⟨R1, 1, none⟩ (.int .i64 f))) := (Fr.setCell (Fr.setCell (Fr.setCell (Fr.setCell (Fr.setCell k0 (p := ⟨B, 0, none⟩) (fun h => absurd h (unhide HBL).1) (.int .i64 d.ver)) (p := ⟨B, 1, none⟩) (fun h => absurd h (unhide HBL).1) (.slice a1 d.add.length c1)) (p := ⟨B, 2, none⟩) (fun h => absurd h (unhide HBL).1) (.slice a2 d.gone.length c2)) (p := ⟨R1, 0, none⟩) (fun h => absurd h (unhide HBL).2) (.int .i64 c)) (p := ⟨R1, 1, none⟩) (fun h => absurd h (unhide HBL).2) (.int .i64 f))
  exact bodyPost_ret (v := .tuple #[.agg #[.int .i64 d.ver, .slice a1 d.add.length c1, .slice a2 d.gone.length c2], .agg #[.int .i64 c, .int .i64 f]]) (results_bx2 rfl _ rfl rfl e1 e2 Tryz.underlying26 rfl (delta_size _ rfl) Tryz.underlying44 rfl (fault_size _ _)) rfl ⟨a1, c1, g1, a2, c2, g2, rfl, DNew.later (DNew.go (unhide HK5) (S := fun q => q = B ∨ q = R1) ((Fr.setCell (Fr.setCell (Fr.setCell (Fr.setCell (Fr.setCell (Fr.refl _ w5) (p := ⟨B, 0, none⟩) (fun _ => Or.inl rfl) (.int .i64 d.ver)) (p := ⟨B, 1, none⟩) (fun _ => Or.inl rfl) (.slice a1 d.add.length c1)) (p := ⟨B, 2, none⟩) (fun _ => Or.inl rfl) (.slice a2 d.gone.length c2)) (p := ⟨R1, 0, none⟩) (fun _ => Or.inr rfl) (.int .i64 c)) (p := ⟨R1, 1, none⟩) (fun _ => Or.inr rfl) (.int .i64 f))) (fun q hq => by have := unhide HS; omega)) (unhide HS0), e3⟩

end Go.Proofs.YtkjoojamkbpfcabGreat

/- Outages out of bytes: taken, the exported call. -/
namespace Go.Proofs.YtkjoojamkbpfcabGreat
open Go.RowKit

section
variable {P : Program} {w : World}

theorem results_tb {fn : Func} {p q : Tmp} {U : TypeId} {g' : Nat} {cs' : Array Value} {v : Value} (h : fn.results = #[.tmp p, .cell q U]) (tmps : Array Value) (hp : tmps.getD p undef = v) (hq : tmps.getD q undef = .pointer (some ⟨g', 0, none⟩)) (hg' : Bx w g' cs' U)
    {d' : TypeDesc} (hu' : P.underlying U = some d') (hd' : (match d' with | .struct _ | .array _ _ => true | _ => false) = true) (hi' : (P.info? U).map (·.size) = some cs'.size) :
    (results fn tmps).run P w = .ok (.tuple #[v, .agg cs']) w := by
  have hp' : tmps[p]?.getD undef = v := by simpa using hp
  have hq' : tmps[q]?.getD undef = .pointer (some ⟨g', 0, none⟩) := by simpa using hq
  simp [results, h, hp', hq', asAddr, run_loadVar_row w g' U U cs' (0, 0) d' hg' hu' hd' hi']

end

def outsOf (bs : List UInt8) : List Otg := (rdM bs 100 outageK s00).1.map otOf
/-- What reading answers: the outages, the fault. -/
def outsRd (bs : List UInt8) : List Otg × Int × Int :=
  if (endR (rdM bs 100 outageK s00).2 bs.length).c ≠ 0 then ([], (endR (rdM bs 100 outageK s00).2 bs.length).c, (endR (rdM bs 100 outageK s00).2 bs.length).f)
  else if outsOk (outsOf bs) then (outsOf bs, 0, 0) else ([], 80, -1)

theorem outsRd_len (bs : List UInt8) : (outsRd bs).1.length ≤ 100 := by
  unfold outsRd
  have h : (outsOf bs).length ≤ 100 := by unfold outsOf; rw [List.length_map]; exact rdM_length _ _ _ _
  split
  · exact Nat.zero_le _
  · split
    · exact h
    · exact Nat.zero_le _

def ReadOuts (w : World) (r : List Otg × Int × Int) (e : Ending) (w' : World) : Prop := ∃ a c g, e = .returned (.tuple #[.slice a r.1.length c, .agg #[.int .i64 r.2.1, .int .i64 r.2.2]]) ∧ KL w w' a c g 3 (otV r.1) ∧ Fr (fun _ => False) w w'

set_option maxHeartbeats 2000000 in
theorem takenOutages_any (w : World) (ao : Option Addr) (cap : Nat) (bs : List UInt8) (hB : BIn w ao cap bs) :
    Calls Tryz.prog 43 #[.slice ao bs.length cap, .func (Fn.func 41) #[] #[], .func (Fn.func 42) #[] #[]] w (ReadOuts w (outsRd bs)) := by
  have HB := hide hB
  have HSH := hide (outs_shape bs 100 s00)
  have HLN : Hid ((outsOf bs).length = (rdM bs 100 outageK s00).1.length ∧ (outsOf bs).length ≤ 100) := hide ⟨by unfold outsOf; rw [List.length_map], by unfold outsOf; rw [List.length_map]; exact rdM_length _ _ _ _⟩
  obtain ⟨l, Hl⟩ : ∃ l, Hid (outsOf bs = l) := ⟨_, rfl⟩
  have HFL : Hid ((rdM bs 100 outageK s00).1.flatten = otV l) := hide (by rw [← unhide Hl]; exact (unhide HSH).2)
  rw [unhide Hl] at HLN
  obtain ⟨z, Hz⟩ : ∃ z, Hid (endR (rdM bs 100 outageK s00).2 bs.length = z) := ⟨_, rfl⟩
  obtain ⟨R, HRe⟩ : ∃ R, Hid (outsRd bs = R) := ⟨_, rfl⟩
  have HR : Hid (R = if z.c ≠ 0 then ([], z.c, z.f) else if outsOk l then (l, 0, 0) else ([], 80, -1)) := hide (by rw [← unhide HRe]; unfold outsRd; rw [unhide Hl, unhide Hz])
  rw [unhide HRe]
  clear hB HRe HSH
  go_enter Tryz.func43, Tryz.ntmps43
  go_wp2_with fail
  have HX0 : Hid (Fr (fun _ => False) w ((w.alloc (.cells #[.int .i64 0, .int .i64 0] 44)).alloc (.cells #[.slice none 0 0] 31)) ∧ Bx ((w.alloc (.cells #[.int .i64 0, .int .i64 0] 44)).alloc (.cells #[.slice none 0 0] 31)) w.heap.size #[.int .i64 0, .int .i64 0] 44 ∧ Bx ((w.alloc (.cells #[.int .i64 0, .int .i64 0] 44)).alloc (.cells #[.slice none 0 0] 31)) (w.heap.size + 1) #[.slice none 0 0] 31) := hide (by
    have h2 := Bx.new (w.alloc (.cells #[.int .i64 0, .int .i64 0] 44)) #[.slice none 0 0] 31
    rw [heap_alloc] at h2
    exact ⟨((Fr.refl _ w).alloc _).alloc _, (Bx.new _ _ _).alloc _, h2⟩)
  obtain ⟨R1, HR1e⟩ : ∃ B, Hid (w.heap.size = B) := ⟨_, rfl⟩
  rw [unhide HR1e] at HX0 ⊢
  generalize ((w.alloc (.cells #[.int .i64 0, .int .i64 0] 44)).alloc (.cells #[.slice none 0 0] 31)) = w0 at *
  obtain ⟨X0, hX0⟩ : ∃ x, R1 + 1 = x := ⟨_, rfl⟩
  rw [hX0] at HX0 ⊢
  have HD : Hid (R1 < X0 ∧ X0 < w0.heap.size ∧ w.heap.size = R1) := hide ⟨by omega, (unhide HX0).2.2.lt, unhide HR1e⟩
  clear hX0
  have hbin := (unhide HB).keep (unhide HX0).1
  refine (newreader_any _ ao cap bs hbin.nil hbin.cell hbin.fit).mono ?_
  rintro e w1 ⟨p, g, rfl, hR, hF1, hg, hp⟩
  have HX1 : Hid (Fr (fun _ => False) w w1 ∧ Bx w1 R1 #[.int .i64 0, .int .i64 0] 44 ∧ Bx w1 X0 #[.slice none 0 0] 31) := hide (by
    obtain ⟨k0, k1, k2⟩ := unhide HX0
    exact ⟨k0.trans hF1 (fun _ _ t => t), k1.keep hF1, k2.keep hF1⟩)
  have HD1 : Hid (X0 < p ∧ X0 < g) := hide (by obtain ⟨d1, d2, d3⟩ := unhide HD; omega)
  have HR1 := hide hR
  clear hR hF1 hg hp hbin HX0
  go_wp2_with fail
  have HX2 : Hid (Fr (fun _ => False) w (w1.alloc (.cells #[.pointer none, .pointer (some ⟨p, 0, none⟩)] 75)) ∧ Bx (w1.alloc (.cells #[.pointer none, .pointer (some ⟨p, 0, none⟩)] 75)) R1 #[.int .i64 0, .int .i64 0] 44 ∧ Bx (w1.alloc (.cells #[.pointer none, .pointer (some ⟨p, 0, none⟩)] 75)) w1.heap.size #[.pointer none, .pointer (some ⟨p, 0, none⟩)] 75) := hide (by
    obtain ⟨k0, k1, k2⟩ := unhide HX1
    exact ⟨k0.alloc _, k1.alloc _, Bx.new _ _ _⟩)
  have HB2 : Hid (RB (w1.alloc (.cells #[.pointer none, .pointer (some ⟨p, 0, none⟩)] 75)) p g X0 bs s00 #[.slice none 0 0] 31) := hide ⟨RAt.alloc (unhide HR1) _, (unhide HX1).2.2.alloc _, by have := unhide HD; have := unhide HD1; omega, fun _ => by have := unhide HD; have := unhide HD1; omega⟩
  have HN : Hid (w1.heap.size ≠ p ∧ w1.heap.size ≠ X0) := hide ⟨by have := RAt.lt (unhide HR1); omega, by have := (unhide HX1).2.2.lt; omega⟩
  have HP2 : Hid (p < (w1.alloc (.cells #[.pointer none, .pointer (some ⟨p, 0, none⟩)] 75)).heap.size ∧ w.heap.size ≤ (w1.alloc (.cells #[.pointer none, .pointer (some ⟨p, 0, none⟩)] 75)).heap.size) := hide (by
    rw [heap_alloc]
    have h1 := RAt.lt (unhide HR1)
    have h2 := (unhide HX1).1.size
    exact ⟨by omega, by omega⟩)
  generalize w1.alloc (.cells #[.pointer none, .pointer (some ⟨p, 0, none⟩)] 75) = w2 at *
  generalize w1.heap.size = N at *
  refine (outages_r (unhide HB2)).mono ?_
  rw [← (unhide HLN).1, unhide HFL]
  obtain ⟨q, Hq⟩ : ∃ q, Hid ((rdM bs 100 outageK s00).2 = q) := ⟨_, rfl⟩
  rw [unhide Hq] at Hz ⊢
  rintro e w3 ⟨rfl, la, lc, gl, hB3, hk, hF3⟩
  have HX3 : Hid (Fr (fun _ => False) w w3 ∧ Bx w3 R1 #[.int .i64 0, .int .i64 0] 44 ∧ Bx w3 N #[.pointer none, .pointer (some ⟨p, 0, none⟩)] 75) := hide (by
    obtain ⟨k0, k1, k2⟩ := unhide HX2
    obtain ⟨d1, d2, d3⟩ := unhide HD
    obtain ⟨d6, d7⟩ := unhide HD1
    obtain ⟨d8, d9⟩ := unhide HN
    exact ⟨k0.trans hF3 (fun _ _ t => by omega), k1.frame hF3 (by omega), k2.frame hF3 (by omega)⟩)
  have HB3 : Hid (RB w3 p g X0 bs q #[.slice la l.length lc] 31) := hide hB3
  have HK3 := hide hk
  have n1 : w3.cell? ⟨N, 1, none⟩ = some (.pointer (some ⟨p, 0, none⟩)) := (unhide HX3).2.2.cell 1
  clear hB3 hF3 hk HX2 HB2 HX1 HR1
  go_wp2_with fail
  refine (end_any (unhide HB3).r).mono ?_
  rw [unhide Hz]
  rintro e w4 ⟨rfl, hR4, hF4⟩
  have HX4 : Hid (Fr (fun _ => False) w w4 ∧ Bx w4 R1 #[.int .i64 0, .int .i64 0] 44 ∧ Bx w4 X0 #[.slice la l.length lc] 31) := hide (by
    obtain ⟨k0, k1, k2⟩ := unhide HX3
    obtain ⟨d1, d2, d3⟩ := unhide HD
    obtain ⟨d6, d7⟩ := unhide HD1
    exact ⟨k0.trans hF4 (fun _ _ t => by omega), k1.frame hF4 (by omega), (unhide HB3).x.frame hF4 (unhide HB3).np⟩)
  have HK4 : Hid (KL w2 w4 la lc gl 3 (otV l)) := hide ((unhide HK3).go (by omega) hF4 (fun q hq => by have := unhide HP2; omega))
  clear hR4 hF4 HX3 HB3 n1 HK3
  have zc := unhide HR
  generalize hzc : z.c = c at zc ⊢
  generalize hzf : z.f = f at zc ⊢
  have HRR := hide zc
  clear zc hzc hzf
  have HX5 : Hid (Fr (fun _ => False) w (w4.alloc (.cells #[.int .i64 c, .int .i64 f] 44)) ∧ Bx (w4.alloc (.cells #[.int .i64 c, .int .i64 f] 44)) R1 #[.int .i64 0, .int .i64 0] 44 ∧ Bx (w4.alloc (.cells #[.int .i64 c, .int .i64 f] 44)) X0 #[.slice la l.length lc] 31 ∧ Bx (w4.alloc (.cells #[.int .i64 c, .int .i64 f] 44)) w4.heap.size #[.int .i64 c, .int .i64 f] 44) := hide (by
    obtain ⟨k0, k1, k2⟩ := unhide HX4
    exact ⟨k0.alloc _, k1.alloc _, k2.alloc _, Bx.new _ _ _⟩)
  have HK5 : Hid (KL w2 (w4.alloc (.cells #[.int .i64 c, .int .i64 f] 44)) la lc gl 3 (otV l)) := hide ((unhide HK4).go (by omega) ((Fr.refl (fun _ => False) _).alloc _) (fun _ hq => hq.elim))
  have HFB : Hid (X0 < w4.heap.size) := hide (unhide HX4).2.2.lt
  have HBL : Hid (¬ R1 < w.heap.size ∧ R1 < p) := hide (by have := unhide HD; have := unhide HD1; omega)
  by_cases hc : c = 0
  · have hcb : (c != 0) = false := by simp [hc]
    obtain ⟨b, hb⟩ : ∃ b, outsOk l = b := ⟨_, rfl⟩
    have HRE : Hid (R = if b then (l, 0, 0) else ([], 80, -1)) := hide (by rw [unhide HRR, if_neg (fun h => h hc), hb])
    have RE := hide (outagesError_any (w4.alloc (.cells #[.int .i64 c, .int .i64 f] 44)) la lc l (unhide HK5).row.catN (by have := unhide HLN; omega))
    have HEV : Hid (outsE l = if b then 0 else 80) := hide (by unfold outsE; rw [hb])
    rw [unhide HEV] at RE
    rw [unhide HRE]
    clear hc HRR HEV hb
    cases b
    · simp only [Bool.false_eq_true, if_false] at RE ⊢
      have y0 : (w4.alloc (.cells #[.int .i64 c, .int .i64 f] 44)).cell? ⟨w4.heap.size, 0, none⟩ = some (.int .i64 c) := (unhide HX5).2.2.2.cell 0
      have x0 : (w4.alloc (.cells #[.int .i64 c, .int .i64 f] 44)).cell? ⟨X0, 0, none⟩ = some (.slice la l.length lc) := (unhide HX5).2.2.1.cell 0
      go_wp2_with fail
      refine (unhide RE).mono ?_
      rintro e w5 ⟨rfl, hF5⟩
      have HX6 : Hid (Fr (fun _ => False) w w5 ∧ Bx w5 R1 #[.int .i64 0, .int .i64 0] 44 ∧ Bx w5 X0 #[.slice la l.length lc] 31) := hide (by
        obtain ⟨k0, k1, k2, k3⟩ := unhide HX5
        exact ⟨k0.trans hF5 (fun _ _ t => t), k1.keep hF5, k2.keep hF5⟩)
      have HK6 : Hid (KL w2 w5 la lc gl 3 (otV l)) := hide ((unhide HK5).go (by omega) hF5 (fun _ hq => hq.elim))
      clear hF5 y0 x0
      obtain ⟨d1, d2, d3⟩ := unhide HD
      have hRX : R1 ≠ X0 := by omega
      have hXR : X0 ≠ R1 := by omega
      clear d1 d2 d3
      have x0 : w5.cell? ⟨X0, 0, none⟩ = some (.slice la l.length lc) := (unhide HX6).2.2.cell 0
      have u0 : w5.cell? ⟨R1, 0, none⟩ = some (.int .i64 0) := (unhide HX6).2.1.cell 0
      have u1 : w5.cell? ⟨R1, 1, none⟩ = some (.int .i64 0) := (unhide HX6).2.1.cell 1
      have v0 : w5.frozen? ⟨R1, 0, none⟩ = false := (unhide HX6).2.1.frozen 0
      have v1 : w5.frozen? ⟨R1, 1, none⟩ = false := (unhide HX6).2.1.frozen 1
      go_wp2
      obtain ⟨k0, k1, k2⟩ := unhide HX6
      have e2 := (k1.setCell 0 (.int .i64 80)).setCell 1 (.int .i64 (-1))
      have e3 := (k0.setCell (p := ⟨R1, 0, none⟩) (fun h => absurd h (unhide HBL).1) (.int .i64 80)).setCell (p := ⟨R1, 1, none⟩) (fun h => absurd h (unhide HBL).1) (.int .i64 (-1))
      exact bodyPost_ret (v := .tuple #[.slice none 0 0, .agg #[.int .i64 80, .int .i64 (-1)]]) (results_tb rfl _ rfl rfl e2 Tryz.underlying44 rfl (fault_size _ _)) rfl ⟨none, 0, 0, by first | rfl | (rw [unhide HRE]; rfl), (by first | exact KL.none _ _ _ _ | (rw [unhide HRE]; exact KL.none _ _ _ _)), e3⟩
    · simp only [if_true] at RE ⊢
      have y0 : (w4.alloc (.cells #[.int .i64 c, .int .i64 f] 44)).cell? ⟨w4.heap.size, 0, none⟩ = some (.int .i64 c) := (unhide HX5).2.2.2.cell 0
      have x0 : (w4.alloc (.cells #[.int .i64 c, .int .i64 f] 44)).cell? ⟨X0, 0, none⟩ = some (.slice la l.length lc) := (unhide HX5).2.2.1.cell 0
      go_wp2_with fail
      refine (unhide RE).mono ?_
      rintro e w5 ⟨rfl, hF5⟩
      have HX6 : Hid (Fr (fun _ => False) w w5 ∧ Bx w5 R1 #[.int .i64 0, .int .i64 0] 44 ∧ Bx w5 X0 #[.slice la l.length lc] 31) := hide (by
        obtain ⟨k0, k1, k2, k3⟩ := unhide HX5
        exact ⟨k0.trans hF5 (fun _ _ t => t), k1.keep hF5, k2.keep hF5⟩)
      have HK6 : Hid (KL w2 w5 la lc gl 3 (otV l)) := hide ((unhide HK5).go (by omega) hF5 (fun _ hq => hq.elim))
      clear hF5 y0 x0
      obtain ⟨d1, d2, d3⟩ := unhide HD
      have hRX : R1 ≠ X0 := by omega
      have hXR : X0 ≠ R1 := by omega
      clear d1 d2 d3
      have x0 : w5.cell? ⟨X0, 0, none⟩ = some (.slice la l.length lc) := (unhide HX6).2.2.cell 0
      have u0 : w5.cell? ⟨R1, 0, none⟩ = some (.int .i64 0) := (unhide HX6).2.1.cell 0
      have u1 : w5.cell? ⟨R1, 1, none⟩ = some (.int .i64 0) := (unhide HX6).2.1.cell 1
      have v0 : w5.frozen? ⟨R1, 0, none⟩ = false := (unhide HX6).2.1.frozen 0
      have v1 : w5.frozen? ⟨R1, 1, none⟩ = false := (unhide HX6).2.1.frozen 1
      go_wp2
      obtain ⟨k0, k1, k2⟩ := unhide HX6
      have e2 := (k1.setCell 0 (.int .i64 0)).setCell 1 (.int .i64 0)
      have e3 := (k0.setCell (p := ⟨R1, 0, none⟩) (fun h => absurd h (unhide HBL).1) (.int .i64 0)).setCell (p := ⟨R1, 1, none⟩) (fun h => absurd h (unhide HBL).1) (.int .i64 0)
      have e4 : Fr (fun q => q = R1) w5 _ := ((Fr.refl (fun q => q = R1) w5).setCell (p := ⟨R1, 0, none⟩) (fun _ => rfl) (.int .i64 0)).setCell (p := ⟨R1, 1, none⟩) (fun _ => rfl) (.int .i64 0)
      exact bodyPost_ret (v := .tuple #[.slice la l.length lc, .agg #[.int .i64 0, .int .i64 0]]) (results_tb rfl _ rfl rfl e2 Tryz.underlying44 rfl (fault_size _ _)) rfl ⟨la, lc, gl, by first | rfl | (rw [unhide HRE]; rfl), (by first | exact ((unhide HK6).go (by omega) e4 (fun q hq => by have := unhide HP2; have := unhide HBL; omega)).later (unhide HP2).2 | (rw [unhide HRE]; exact ((unhide HK6).go (by omega) e4 (fun q hq => by have := unhide HP2; have := unhide HBL; omega)).later (unhide HP2).2)), e3⟩
  · have hcb : (c != 0) = true := by simp [hc]
    have HRE : Hid (R = ([], c, f)) := hide (by rw [unhide HRR, if_pos hc])
    clear hc HRR
    rw [unhide HRE]
    go_wp2_with fail
    generalize w4.alloc (.cells #[.int .i64 c, .int .i64 f] 44) = w5 at *
    generalize w4.heap.size = Fb at *
    have y0 : w5.cell? ⟨Fb, 0, none⟩ = some (.int .i64 c) := (unhide HX5).2.2.2.cell 0
    have y1 : w5.cell? ⟨Fb, 1, none⟩ = some (.int .i64 f) := (unhide HX5).2.2.2.cell 1
    have u0 : w5.cell? ⟨R1, 0, none⟩ = some (.int .i64 0) := (unhide HX5).2.1.cell 0
    have u1 : w5.cell? ⟨R1, 1, none⟩ = some (.int .i64 0) := (unhide HX5).2.1.cell 1
    have v0 : w5.frozen? ⟨R1, 0, none⟩ = false := (unhide HX5).2.1.frozen 0
    have v1 : w5.frozen? ⟨R1, 1, none⟩ = false := (unhide HX5).2.1.frozen 1
    obtain ⟨d1, d2, d3⟩ := unhide HD
    have hRF : R1 ≠ Fb := by have := unhide HFB; omega
    have hFR : Fb ≠ R1 := hRF.symm
    clear d1 d2 d3
    go_region_held3 (fun w' => w'.cell? ⟨Fb, 0, none⟩ = some (.int .i64 c) ∧ w'.cell? ⟨Fb, 1, none⟩ = some (.int .i64 f)) (go_keep) (fail)
    go_wp2
    obtain ⟨k0, k1, k2, k3⟩ := unhide HX5
    have e2 := ((k1.setCell 0 (.int .i64 c)).setCell 1 (.int .i64 f)).drew
    have e3 := ((k0.setCell (p := ⟨R1, 0, none⟩) (fun h => absurd h (unhide HBL).1) (.int .i64 c)).setCell (p := ⟨R1, 1, none⟩) (fun h => absurd h (unhide HBL).1) (.int .i64 f)).drew
    exact bodyPost_ret (v := .tuple #[.slice none 0 0, .agg #[.int .i64 c, .int .i64 f]]) (results_tb rfl _ rfl rfl e2 Tryz.underlying44 rfl (fault_size _ _)) rfl ⟨none, 0, 0, by first | rfl | (rw [unhide HRE]; rfl), (by first | exact KL.none _ _ _ _ | (rw [unhide HRE]; exact KL.none _ _ _ _)), e3⟩

set_option maxHeartbeats 1000000 in
theorem readOutages_any (w : World) (ao : Option Addr) (cap : Nat) (bs : List UInt8) (hB : BIn w ao cap bs) : Calls Tryz.prog 17 #[.slice ao bs.length cap] w (ReadOuts w (outsRd bs)) := by
  have R := hide (fun w' (h : Fr (fun _ => False) w w') => takenOutages_any w' ao cap bs (hB.keep h))
  obtain ⟨t, Ht⟩ : ∃ t, Hid (outsRd bs = t) := ⟨_, rfl⟩
  rw [unhide Ht] at R ⊢
  unfold ReadOuts at *
  obtain ⟨l, c, f⟩ := t
  simp only at R ⊢
  clear hB Ht
  go_enter Tryz.func17, Tryz.ntmps17
  go_wp2_with fail
  have HX : Hid (Fr (fun _ => False) w (w.alloc (.cells #[.int .i64 0, .int .i64 0] 44)) ∧ Bx (w.alloc (.cells #[.int .i64 0, .int .i64 0] 44)) w.heap.size #[.int .i64 0, .int .i64 0] 44 ∧ w.heap.size < (w.alloc (.cells #[.int .i64 0, .int .i64 0] 44)).heap.size) := hide ⟨(Fr.refl _ w).alloc _, Bx.new _ _ _, by rw [heap_alloc]; omega⟩
  refine (unhide R _ (unhide HX).1).mono ?_
  rintro e w5 ⟨la, lc, gl, rfl, hN, hF⟩
  obtain ⟨R1, hBe⟩ : ∃ B, w.heap.size = B := ⟨_, rfl⟩
  have HX5 : Hid (Fr (fun _ => False) w w5 ∧ Bx w5 R1 #[.int .i64 0, .int .i64 0] 44) := hide (by
    rw [hBe] at HX
    exact ⟨(unhide HX).1.trans hF (fun _ _ t => t), (unhide HX).2.1.keep hF⟩)
  have HBL : Hid (¬ R1 < w.heap.size) := hide (by omega)
  have HK5 := hide hN
  have HS := hide (unhide HX).2.2
  rw [hBe] at HS ⊢
  generalize (w.alloc (.cells #[.int .i64 0, .int .i64 0] 44)) = w0 at *
  have HS0 : Hid (w.heap.size ≤ w0.heap.size) := hide (by have := unhide HS; omega)
  clear hF HX hBe hN R
  have u0 : w5.cell? ⟨R1, 0, none⟩ = some (.int .i64 0) := (unhide HX5).2.cell 0
  have u1 : w5.cell? ⟨R1, 1, none⟩ = some (.int .i64 0) := (unhide HX5).2.cell 1
  have v0 : w5.frozen? ⟨R1, 0, none⟩ = false := (unhide HX5).2.frozen 0
  have v1 : w5.frozen? ⟨R1, 1, none⟩ = false := (unhide HX5).2.frozen 1
  go_wp2
  obtain ⟨k0, k1⟩ := unhide HX5
  have e2 := (k1.setCell 0 (.int .i64 c)).setCell 1 (.int .i64 f)
  have e3 := (k0.setCell (p := ⟨R1, 0, none⟩) (fun h => absurd h (unhide HBL)) (.int .i64 c)).setCell (p := ⟨R1, 1, none⟩) (fun h => absurd h (unhide HBL)) (.int .i64 f)
  have e4 : Fr (fun q => q = R1) w5 _ := ((Fr.refl (fun q => q = R1) w5).setCell (p := ⟨R1, 0, none⟩) (fun _ => rfl) (.int .i64 c)).setCell (p := ⟨R1, 1, none⟩) (fun _ => rfl) (.int .i64 f)
  exact bodyPost_ret (v := .tuple #[.slice la l.length lc, .agg #[.int .i64 c, .int .i64 f]]) (results_tb rfl _ rfl rfl e2 Tryz.underlying44 rfl (fault_size _ _)) rfl ⟨la, lc, gl, rfl, ((unhide HK5).go (by omega) e4 (fun q hq => by have := unhide HS; omega)).later (unhide HS0), e3⟩

end Go.Proofs.YtkjoojamkbpfcabGreat

