import Derived.Test.YtlhgfnpialndaaaDB2
import Derived.Test.YtlhgfnpialndaaaX1
import Derived.Test.YtlhgfnpialndaaaEX
import Derived.Test.YtlhgfnpialndaaaQK1
import Derived.Lib.SliceRun
/- The tokens of a book, in order; Listed. -/
namespace Go.Proofs.Ytlhgfnpialndaaa
open Go.RowKit Go.Maps

/-- A row of texts of one's own. -/
def TRow (w : World) (ao : Option Addr) (cap g : Nat) (l : List ByteArray) : Prop := KRow w ao cap g 1 (l.map Value.string)
theorem TRow.len {w : World} {ao : Option Addr} {cap g : Nat} {l : List ByteArray} (h : TRow w ao cap g l) : l.length ≤ cap := by
  have := KRow.le h
  rw [List.length_map] at this
  omega
theorem TRow.at {w : World} {ao : Option Addr} {cap g : Nat} {l : List ByteArray} (h : TRow w ao cap g l) {i : Nat} (hi : i < l.length) : ao = some ⟨g, 0, none⟩ ∧ w.cell? ⟨g, i, none⟩ = some (.string l[i]) := by
  have hl := h.len
  refine ⟨KRow.ad h (by omega), ?_⟩
  rw [KRow.cells h i (by rw [List.length_map]; exact hi)]
  simp
theorem TRow.sat {w : World} {ao : Option Addr} {cap g : Nat} {l : List ByteArray} (h : TRow w ao cap g l) : SAt w ao l := fun h0 =>
  ⟨g, 0, (h.at h0).1, fun j hj => by rw [Nat.zero_add, (h.at hj).2, getD_eq hj]⟩
theorem TRow.stay {w w' : World} {ao : Option Addr} {cap g : Nat} {l : List ByteArray} (h : TRow w ao cap g l) (hb : 0 < cap → w'.heap[g]? = w.heap[g]?) : TRow w' ao cap g l := KRow.stay h hb
theorem TRow.keep {w w' : World} {ao : Option Addr} {cap g : Nat} {l : List ByteArray} (h : TRow w ao cap g l) (hf : Fr (fun _ => False) w w') : TRow w' ao cap g l := KRow.keep h (by omega) hf
theorem TRow.lt {w : World} {ao : Option Addr} {cap g : Nat} {l : List ByteArray} (h : TRow w ao cap g l) (hc : 0 < cap) : g < w.heap.size := KRow.lt h (by omega) hc
theorem TRow.frame {S : Nat → Prop} {w w' : World} {ao : Option Addr} {cap g : Nat} {l : List ByteArray} (h : TRow w ao cap g l) (hf : Fr S w w') (hS : 0 < cap → ¬ S g) : TRow w' ao cap g l := h.stay (fun hc => hf.block g (h.lt hc) (hS hc))
/-- One text written over. -/
theorem TRow.set {w : World} {ao : Option Addr} {cap g : Nat} {l : List ByteArray} (h : TRow w ao cap g l) {j : Nat} (hj : j < l.length) (s : ByteArray) : TRow (w.setCell ⟨g, j, none⟩ (.string s)) ao cap g (l.set j s) := by
  have hlen := h.len
  have hr : KRow w ao cap g 1 (l.map Value.string) := h
  refine ⟨by simp; omega, hr.max, hr.ad, fun i hi => ⟨?_, by rw [World.frozen?_setCell]; exact (hr.room i hi).2⟩, fun i hi => ?_, fun u hu => ?_⟩
  · by_cases e : i = j
    · subst e
      rw [World.cell?_setCell_same _ _ _ (h.at hj).2]; rfl
    · rw [World.cell?_setCell_other _ _ _ _ (by intro t; injection t with t1 t2; exact e t2.symm)]
      exact (hr.room i hi).1
  · have hi2 : i < l.length := by simpa using hi
    by_cases e : i = j
    · subst e
      rw [World.cell?_setCell_same _ _ _ (h.at hj).2]
      simp
    · rw [World.cell?_setCell_other _ _ _ _ (by intro t; injection t with t1 t2; exact e t2.symm), (h.at hi2).2]
      simp [List.getElem_set_ne (fun t => e t.symm)]
  · obtain ⟨x, _, rfl⟩ := List.mem_map.1 hu
    rfl
/-- The first texts; what stands behind them was made nothing. -/
theorem TRow.front {w : World} {cap g : Nat} {l : List ByteArray} (h : TRow w (some ⟨g, 0, none⟩) cap g l) {i : Nat} (hi : i < l.length) : TRow (w.setCells g i (List.replicate (l.length - i) (.string ⟨#[]⟩))) (some ⟨g, 0, none⟩) cap g (l.take i) := by
  have hlen := h.len
  have hr : KRow w (some ⟨g, 0, none⟩) cap g 1 (l.map Value.string) := h
  have hin := World.cell?_setCells_in g (List.replicate (l.length - i) (.string ⟨#[]⟩)) i w (fun j hj => (hr.room (i + j) (by simp at hj; omega)).1)
  have hout := World.cell?_setCells_out g (List.replicate (l.length - i) (.string ⟨#[]⟩)) i w
  refine ⟨by simp; omega, hr.max, hr.ad, fun j hj => ⟨?_, by rw [World.frozen?_setCells]; exact (hr.room j hj).2⟩, fun j hj => ?_, fun u hu => ?_⟩
  · by_cases e : i ≤ j ∧ j < l.length
    · have := hin (j - i) (by simp; omega)
      rw [show i + (j - i) = j by omega] at this
      rw [this]
      rfl
    · rw [hout ⟨g, j, none⟩ (fun _ _ => by simp; omega)]
      exact (hr.room j hj).1
  · have hj2 : j < i ∧ j < l.length := by simp at hj; omega
    rw [hout ⟨g, j, none⟩ (fun _ _ => Or.inl hj2.1), (h.at hj2.2).2]
    simp
  · obtain ⟨x, _, rfl⟩ := List.mem_map.1 hu
    rfl

/-- What the library's sort hands back. -/
theorem own_trow {w : World} {base n : Nat} {v : Value} {ts : List ByteArray} (h : w.ownsRow base 9 1 v n (ts.map Value.string)) : ∃ ao cap g, v = .slice ao ts.length cap ∧ TRow w ao cap g ts ∧ (0 < cap → base ≤ g) := by
  obtain ⟨hl, h⟩ := h
  have hn : ts.length = n := by simpa using hl
  rcases h with ⟨rfl, h0⟩ | ⟨g, cap, cur, rfl, hb, hg, h1, h2, h3, h4⟩
  · have e : ts = [] := List.eq_nil_of_length_eq_zero (by omega)
    subst e
    exact ⟨none, 0, 0, rfl, KRow.nil _ _ _, fun q => absurd q (by omega)⟩
  · refine ⟨_, cap, g, by rw [hn], ⟨by simp; omega, h2, fun _ => rfl, fun j hj => ⟨?_, ?_⟩, fun j hj => ?_, fun u hu => ?_⟩, fun _ => hb⟩
    · have hj2 : j < cur.size := by omega
      simp [World.cell?, hg, hj2]
    · simp [World.frozen?, hg]
    · have hj2 : j < ts.length := by simpa using hj
      have hj3 : j < cur.size := by omega
      have e := congrArg (·[j]?) h4
      simp only [Nat.mul_one] at e
      rw [List.getElem?_take_of_lt (by omega), Array.getElem?_toList] at e
      rw [show w.cell? ⟨g, j, none⟩ = cur[j]? by simp [World.cell?, hg], e]
      simp [hj2]
    · obtain ⟨x, _, rfl⟩ := List.mem_map.1 hu
      rfl

section
variable {w : World} {p b : Nat} {l : List Ac}

theorem enc_tok (l : List Ac) : (l.map (fun a => bsT a.tok)).map Go.Proofs.encStr = (l.map (·.tok)).map Value.string := by
  rw [List.map_map, List.map_map]
  refine List.map_congr_left fun a _ => ?_
  show Go.Proofs.encStr _ = _
  simp [Go.Proofs.encStr]

set_option maxRecDepth 20000 in
theorem btokens_any (h : BM w p b l) : Calls Try.prog 30 #[.pointer (some ⟨p, 0, none⟩)] w fun e w' => ∃ ao cap g, e = .returned (.slice ao l.length cap) ∧ TRow w' ao cap g (l.map (·.tok)) ∧ (0 < cap → w.heap.size ≤ g) ∧ Fr (fun _ => False) w w' := by
  have hc := h.cell
  have HK := hide (callsIn_wide.1 (Try.maps_Keys_38 (some b) w))
  have hfew := h.bk.few
  have HS := hide (callsIn_wide.1 (Try.slices_Sorted_keys_37_38 b l.length (.map (dlK l)) acR w h.mp.1 (by rw [dlK_size]; simp only [maxLen]; omega) (by rw [dlK_size]; omega)))
  have HR := hide h.bk.rk
  clear h hfew
  go_enter Try.func30, Try.ntmps30
  go_wp2_with fail
  refine (unhide HK).mono ?_
  rintro e w1 ⟨rfl, hw1⟩
  subst hw1
  clear HK
  go_wp2_with fail
  refine (unhide HS).mono ?_
  rintro e w2 ⟨v, ss, rfl, hp, hrow, _, hb⟩
  rw [dlK_keys] at hp
  rw [keys_sorted (unhide HR) hp, enc_tok] at hrow
  obtain ⟨ao, cap, g, hv, hT, hnew⟩ := own_trow hrow
  rw [List.length_map] at hv
  subst hv
  have HT : Hid (TRow w2 ao cap g (l.map (·.tok)) ∧ (0 < cap → w.heap.size ≤ g) ∧ Fr (fun _ => False) w w2) := hide ⟨hT, fun q => by have := hnew q; rw [heap_alloc] at this; omega, ((Fr.refl (fun _ => False) w).alloc (.cells #[.map (some b)] 56)).trans (Fr.of_below hb (fun k hk hk2 => by omega)) (fun _ _ t => t)⟩
  clear hT hnew hrow hp hb HS
  go_wp2
  go_ret
  exact ⟨ao, cap, g, rfl, unhide HT⟩
end
end Go.Proofs.Ytlhgfnpialndaaa

