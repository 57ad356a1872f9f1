import Derived.Test.YtmhljehkodhggaaGreatEX
import Derived.Test.YtmhljehkodhggaaGreatE6
import Derived.Test.YtmhljehkodhggaaGreatN7
/- Deltas and outages as bytes: written, the exported calls. -/
namespace Go.Proofs.YtmhljehkodhggaaGreat
open Go.RowKit

theorem CAt.low {w : World} {ao : Option Addr} {vs : List Value} (h : CAt w ao vs) (q off : Nat) (e : ao = some ⟨q, off, none⟩) (h0 : 0 < vs.length) : q < w.heap.size := by
  obtain ⟨b, o, e1, hc⟩ := h h0
  rw [e] at e1
  injection e1 with e1
  injection e1 with e1 e2 e3
  subst e1
  exact World.block_lt_of_cell? _ _ (hc 0 h0)

/-- A delta that is handed in. -/
structure DIn (w : World) (d : Dl) (a1 : Option Addr) (c1 : Nat) (a2 : Option Addr) (c2 : Nat) : Prop where
  add : CAt w a1 (tkV d.add)
  gone : CAt w a2 (tkV d.gone)
  l1 : d.add.length ≤ 140737488355328
  l2 : d.gone.length ≤ 140737488355328
  ver : d.ver ≤ 9223372036854775807
  n1 : d.add.length ≤ c1
  n2 : d.gone.length ≤ c2
theorem DIn.keep {w w' : World} {d : Dl} {a1 : Option Addr} {c1 : Nat} {a2 : Option Addr} {c2 : Nat} (h : DIn w d a1 c1 a2 c2) (hf : Fr (fun _ => False) w w') : DIn w' d a1 c1 a2 c2 := ⟨h.add.keep hf, h.gone.keep hf, h.l1, h.l2, h.ver, h.n1, h.n2⟩

/-- Outages that are handed in. -/
structure OIn (w : World) (l : List Otg) (ao : Option Addr) (cap : Nat) : Prop where
  row : CAt w ao (otV l)
  len : l.length ≤ 140737488355328
  n1 : l.length ≤ cap
theorem OIn.keep {w w' : World} {l : List Otg} {ao : Option Addr} {cap : Nat} (h : OIn w l ao cap) (hf : Fr (fun _ => False) w w') : OIn w' l ao cap := ⟨h.row.keep hf, h.len, h.n1⟩

theorem outs_small (l : List Otg) (h : outsOk l = true) : ∀ x ∈ l, x.st ≤ 9223372036854775807 ∧ x.fr ≤ 9223372036854775807 ∧ x.to ≤ 9223372036854775807 := by
  simp only [outsOk, Bool.and_eq_true, List.all_eq_true] at h
  intro x hx
  have := h.2 x hx
  simp only [outOk, Bool.and_eq_true, isIn_iff] at this
  omega

def deltaB (d : Dl) : Option (List UInt8) := stepW (stepW (stepW (some []) (wrL (List.replicate 1 (.num 8)) ([d.ver].map (Value.int .i64)))) (wrM tokenK (d.add.map tkC))) (wrM tokenK (d.gone.map tkC))
/-- What writing answers. -/
def deltaW (d : Dl) : List UInt8 × Int := if deltaOk d then ((deltaB d).getD [], codeOf (deltaB d)) else ([], 80)
theorem deltaB_most (d : Dl) (h : deltaOk d = true) : Most (deltaB d) 20000 := by
  simp only [deltaOk, Bool.and_eq_true] at h
  have h1 := listOk_len h.1.1.2
  have h2 := listOk_len h.1.2
  refine ((((Most.nil.step (Most.wr _ _)).step (Most.list tokenK (d.add.map tkC))).step (Most.list tokenK (d.gone.map tkC)))).mono ?_
  simp only [wide, List.foldr, Kd.n, List.length_map, List.replicate]
  omega

theorem deltaW_le (d : Dl) : (deltaW d).1.length ≤ 20000 := by
  unfold deltaW
  split
  · rename_i hk
    cases h : deltaB d with
    | none => simp
    | some bs => exact deltaB_most d hk bs h
  · simp

set_option maxHeartbeats 1000000 in
theorem writtenDelta_any (d : Dl) (w : World) (a1 : Option Addr) (c1 : Nat) (a2 : Option Addr) (c2 : Nat) (h : DIn w d a1 c1 a2 c2) :
    Calls Tryz.prog 57 #[.agg (dlC d a1 c1 a2 c2), .func (Fn.func 58) #[] #[], .func (Fn.func 59) #[] #[]] w (Wrote w (deltaW d).1 (deltaW d).2) := by
  have R := hide (fun (w' : World) (hf : Fr (fun _ => False) w w') => deltaError_any d w' a1 c1 a2 c2 (cat_sat (h.add.keep hf)) (cat_sat (h.gone.keep hf)) h.l1 h.l2)
  have HI := hide h
  obtain ⟨b, hb⟩ : ∃ b, deltaOk d = b := ⟨_, rfl⟩
  have HA : Hid (deltaW d = if b then ((deltaB d).getD [], codeOf (deltaB d)) else ([], 80)) := hide (by unfold deltaW; rw [hb])
  have HE : Hid (deltaE d = if b then 0 else 80) := hide (by unfold deltaE; rw [hb])
  have HK := hide hb
  have HBT : Hid (deltaB d = stepW (stepW (stepW (some []) (wrL (List.replicate 1 (.num 8)) ([d.ver].map (Value.int .i64)))) (wrM tokenK (d.add.map tkC))) (wrM tokenK (d.gone.map tkC))) := hide rfl
  have HM := hide (deltaB_most d)
  simp only [unhide HE] at R
  rw [unhide HA]
  generalize hX : deltaB d = X at HBT HM ⊢
  clear HA HE hb hX h
  unfold dlC at *
  have HA0 : Hid (Fr (fun _ => False) w (w.alloc (.cells #[.int .i64 d.ver, .slice a1 d.add.length c1, .slice a2 d.gone.length c2] 26))) := hide ((Fr.refl _ w).alloc _)
  cases b
  · simp only [Bool.false_eq_true, if_false] at R ⊢
    clear HI HBT HM HK
    go_enter Tryz.func57, Tryz.ntmps57
    go_wp2_with fail
    refine (unhide R _ (unhide HA0)).mono ?_
    rintro e w1 ⟨rfl, hF⟩
    have HF1 : Hid (Fr (fun _ => False) w w1) := hide ((unhide HA0).trans hF (fun _ _ t => t))
    clear hF
    go_wp2
    go_ret2
    exact ⟨none, 0, 0, rfl, Row.nil _ _, fun h => absurd h (by omega), unhide HF1⟩
  · simp only [if_true] at R ⊢
    go_enter Tryz.func57, Tryz.ntmps57
    go_wp2_with fail
    refine (unhide R _ (unhide HA0)).mono ?_
    rintro e w1 ⟨rfl, hF⟩
    have HB1 := hide ((Bx.new w #[.int .i64 d.ver, .slice a1 d.add.length c1, .slice a2 d.gone.length c2] 26).keep hF)
    have HF1 : Hid (Fr (fun _ => False) w w1) := hide ((unhide HA0).trans hF (fun _ _ t => t))
    obtain ⟨B, HB⟩ : ∃ B, Hid (w.heap.size = B) := ⟨_, rfl⟩
    have HBL : Hid (B < w1.heap.size) := hide (by rw [← unhide HB]; exact (unhide HB1).lt)
    rw [unhide HB] at HB1 ⊢
    clear hF HA0 R
    go_wp2_with fail
    refine (newwriter_any _).mono ?_
    rintro e w2 ⟨rfl, rfl⟩
    have HW2 : Hid (WB ((w1.alloc (.cells #[.slice none 0 0, .bool false] 103)).alloc (.cells #[.pointer (some ⟨w1.heap.size, 0, none⟩), .pointer none] 71)) w1.heap.size w1.heap.size B (some []) #[.int .i64 d.ver, .slice a1 d.add.length c1, .slice a2 d.gone.length c2] 26) :=
      hide ⟨WSt.alloc (show WSt _ _ _ (some []) from newW) _, ((unhide HB1).alloc _).alloc _, by have := unhide HBL; omega, by have := unhide HBL; omega, by rw [heap_alloc, heap_alloc]; omega⟩
    have HN2 : Hid (Bx ((w1.alloc (.cells #[.slice none 0 0, .bool false] 103)).alloc (.cells #[.pointer (some ⟨w1.heap.size, 0, none⟩), .pointer none] 71)) (w1.heap.size + 1) #[.pointer (some ⟨w1.heap.size, 0, none⟩), .pointer none] 71) := hide (by
      have := Bx.new (w1.alloc (.cells #[.slice none 0 0, .bool false] 103)) #[.pointer (some ⟨w1.heap.size, 0, none⟩), .pointer none] 71
      rw [heap_alloc] at this
      exact this)
    have HF2 : Hid (Fr (fun _ => False) w ((w1.alloc (.cells #[.slice none 0 0, .bool false] 103)).alloc (.cells #[.pointer (some ⟨w1.heap.size, 0, none⟩), .pointer none] 71))) := hide (((unhide HF1).alloc _).alloc _)
    have HS2 : Hid (w.heap.size ≤ w1.heap.size ∧ w.heap.size ≤ ((w1.alloc (.cells #[.slice none 0 0, .bool false] 103)).alloc (.cells #[.pointer (some ⟨w1.heap.size, 0, none⟩), .pointer none] 71)).heap.size) := hide ⟨(unhide HF1).size, (unhide HF2).size⟩
    go_wp2_with fail
    generalize ((w1.alloc (.cells #[.slice none 0 0, .bool false] 103)).alloc (.cells #[.pointer (some ⟨w1.heap.size, 0, none⟩), .pointer none] 71)) = w2 at *
    obtain ⟨p, Hp⟩ : ∃ p, Hid (w1.heap.size = p) := ⟨_, rfl⟩
    rw [unhide Hp] at HW2 HN2 HS2 ⊢
    have HPL : Hid (w.heap.size ≤ p) := hide (unhide HS2).1
    have hI := unhide HI
    have hok := unhide HK
    simp only [deltaOk, Bool.and_eq_true] at hok
    have hsep : ∀ q, q < w.heap.size → q ≠ p ∧ q ≠ p ∧ q < w2.heap.size := fun q hq => by have := unhide HS2; omega
    refine (delta_w d.ver a1 c1 d.add a2 c2 d.gone (unhide HW2) (hI.add.keep (unhide HF2)) (fun q off e h0 => hsep q (hI.add.low q off e (by simpa [tkV_length] using h0))) (listOk_len hok.1.1.2) (hI.gone.keep (unhide HF2)) (fun q off e h0 => hsep q (hI.gone.low q off e (by simpa [tkV_length] using h0))) (listOk_len hok.1.2) hI.ver 0 Most.nil (by omega)).mono ?_
    rintro e w3 ⟨rfl, hP⟩
    clear hI hok hsep
    have hF3 : Fr (fun k => k = p ∨ k = p) w2 w3 := by obtain ⟨g', _, _, _, h4⟩ := hP; exact h4
    have n0 : w3.cell? ⟨p + 1, 0, none⟩ = some (.pointer (some ⟨p, 0, none⟩)) := ((unhide HN2).frame hF3 (by omega)).cell 0
    have HF3 := hide (WP.fresh (unhide HF2) (unhide HPL) (unhide HPL) hP)
    obtain ⟨g', h1, _, _, _⟩ := hP
    rw [← unhide HBT] at h1
    have HW3 := hide h1
    clear h1 hF3
    go_wp2_with fail
    refine (wbytes (unhide HW3) 20000 (unhide HM (unhide HK)) (by omega)).mono ?_
    rintro e w4 hWr
    obtain ⟨ao', cap', gb, rfl, h2⟩ := Wrote.later (unhide HF3) hWr
    have H4 := hide h2
    clear hWr h2 n0
    go_wp2
    go_ret2
    exact ⟨ao', cap', gb, rfl, unhide H4⟩

theorem recDelta_any (d : Dl) (w : World) (a1 : Option Addr) (c1 : Nat) (a2 : Option Addr) (c2 : Nat) (h : DIn w d a1 c1 a2 c2) : Calls Tryz.prog 52 #[.agg (dlC d a1 c1 a2 c2)] w (Wrote w (deltaW d).1 (deltaW d).2) := by
  have R := hide (fun (w' : World) (hf : Fr (fun _ => False) w w') => writtenDelta_any d w' a1 c1 a2 c2 (h.keep hf))
  generalize (deltaW d).1 = bs at *
  generalize (deltaW d).2 = c at *
  clear h
  unfold dlC at *
  go_enter Tryz.func52, Tryz.ntmps52
  go_wp2_with fail
  refine (unhide R _ ((Fr.refl _ w).alloc _)).mono ?_
  rintro e w1 ⟨ao', cap', gb, rfl, h2⟩
  have H2 : Hid (Wrote w bs c (.returned (.tuple #[.slice ao' bs.length cap', .int .i64 c])) w1) := hide (Wrote.later ((Fr.refl (fun _ => False) w).alloc (.cells #[.int .i64 d.ver, .slice a1 d.add.length c1, .slice a2 d.gone.length c2] 26)) ⟨ao', cap', gb, rfl, h2⟩)
  clear h2
  go_wp2
  go_ret2
  exact unhide H2

def outsB (l : List Otg) : Option (List UInt8) := stepW (some []) (wrM outageK (l.map otC))
/-- What writing answers. -/
def outsW (l : List Otg) : List UInt8 × Int := if outsOk l then ((outsB l).getD [], codeOf (outsB l)) else ([], 80)
theorem outsB_most (l : List Otg) (h : outsOk l = true) : Most (outsB l) 20000 := by
  simp only [outsOk, Bool.and_eq_true, decide_eq_true_eq] at h
  refine (Most.nil.step (Most.list outageK (l.map otC))).mono ?_
  simp only [wide, List.foldr, Kd.n, List.length_map]
  omega

theorem outsW_le (l : List Otg) : (outsW l).1.length ≤ 20000 := by
  unfold outsW
  split
  · rename_i hk
    cases h : outsB l with
    | none => simp
    | some bs => exact outsB_most l hk bs h
  · simp

end Go.Proofs.YtmhljehkodhggaaGreat

