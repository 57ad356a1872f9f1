import Derived.Test.YtkjoojamkbpfcabGreatBI
import Derived.Laws.MakeOwn
/- The law's own functions on rows of bytes: same, lent, kept, owned. -/
namespace Go.Proofs.YtkjoojamkbpfcabGreat
open Go.RowKit

theorem conv_bin {w : World} {ao : Option Addr} {cap : Nat} {bs : List UInt8} (h : BIn w ao cap bs) : (convert 39 9 (.slice ao bs.length cap)).run Tryz.prog w = .ok (.string ⟨bs.toArray⟩) w := by
  by_cases hk : 0 < bs.length
  · obtain ⟨b, off, e, hc⟩ := h.cell hk
    rw [e]
    refine run_convert_bytes_back (P := Tryz.prog) w 39 9 5 ⟨b, off, none⟩ cap bs Tryz.underlying39 Tryz.underlying5 Tryz.underlying9 (fun j hj => ?_)
    have hplain : (⟨b, off, none⟩ : Addr).add j = ⟨b, off + j, none⟩ := Addr.add_lit ..
    rw [hplain]
    exact hc j hj
  · obtain rfl : bs = [] := List.eq_nil_of_length_eq_zero (by omega)
    cases ao with
    | none =>
      rw [show ([] : List UInt8).length = 0 from rfl, run_convert_bytes_nil w 39 5 Tryz.underlying39 Tryz.underlying5 0 cap 9 Tryz.underlying9]
      rfl
    | some x => exact run_convert_bytes_back (P := Tryz.prog) w 39 9 5 x cap [] Tryz.underlying39 Tryz.underlying5 Tryz.underlying9 (fun j hj => by simp at hj)

theorem same_is {w : World} {a1 a2 : Option Addr} {c1 c2 : Nat} {bs : List UInt8} (h1 : BIn w a1 c1 bs) (h2 : BIn w a2 c2 bs) :
    Calls Tryz.prog 22 #[.slice a1 bs.length c1, .slice a2 bs.length c2] w fun e w' => e = .returned (.bool true) ∧ w' = w := by
  have k1 := conv_bin h1
  have k2 := conv_bin h2
  generalize (⟨bs.toArray⟩ : ByteArray) = S at k1 k2
  clear h1 h2
  go_enter Tryz.func22, Tryz.ntmps22
  go_wp2
  go_ret
  exact ⟨by first | rfl | simp, rfl⟩

/-- A row that was lent: the bytes, and two marks behind them. -/
structure LentB (w0 w : World) (ao : Option Addr) (cap g : Nat) (bs : List UInt8) : Prop where
  row : Row w (.slice ao (bs ++ [171, 172]).length cap) g (bs ++ [171, 172])
  new : w0.heap.size ≤ g

theorem LentB.keep {w0 w w' : World} {ao : Option Addr} {cap g : Nat} {bs : List UInt8} (h : LentB w0 w ao cap g bs) (hf : Fr (fun _ => False) w w') : LentB w0 w' ao cap g bs := ⟨h.row.frame hf (fun t => t), h.new⟩

theorem LentB.cap {w0 w : World} {ao : Option Addr} {cap g : Nat} {bs : List UInt8} (h : LentB w0 w ao cap g bs) : bs.length + 2 ≤ cap ∧ ao = some ⟨g, 0, none⟩ ∧ cap ≤ maxLen := by
  obtain ⟨ao', cap', e, h1, h2, h3, h4⟩ := h.row.shape
  injection e with e1 e2 e3
  subst e1 e3
  rw [List.length_append] at h1
  simp only [List.length_cons, List.length_nil] at h1
  exact ⟨h1, h3 (by omega), h2⟩

theorem LentB.bin {w0 w : World} {ao : Option Addr} {cap g : Nat} {bs : List UInt8} (h : LentB w0 w ao cap g bs) (hf : bs.length ≤ 140737488355328) : BInC w ao cap bs := by
  obtain ⟨h1, h2, h3⟩ := h.cap
  refine ⟨⟨fun e => (by rw [h2] at e; cases e), fun h0 => ⟨g, 0, h2, fun j hj => ?_⟩, hf⟩, by omega, h3⟩
  have hc := h.row.cells j (by rw [List.length_append]; omega)
  rw [Nat.zero_add, hc, List.getElem_append_left hj]

theorem two_bytes (w : World) (t : TypeId) (i : Nat) (hi : i < ([171, 172] : List UInt8).length) : (w.alloc (.cells #[.int .u8 171, .int .u8 172] t)).cell? ⟨w.heap.size, 0 + i, none⟩ = some (.int .u8 (([171, 172] : List UInt8)[i].toNat)) := by
  match i, hi with
  | 0, _ => simp
  | 1, _ => simp

theorem VRow.set {w : World} {ao : Option Addr} {cap g : Nat} {vs : List Value} (h : VRow w ao cap g vs) (j : Nat) (hj : j < vs.length) (v : Value) (hv : v.oneCell' = true) : VRow (w.setCell ⟨g, j, none⟩ v) ao cap g (vs.set j v) := by
  refine ⟨by rw [List.length_set]; exact h.le, h.max, h.ad, fun i hi => ⟨?_, by rw [World.frozen?_setCell]; exact (h.room i hi).2⟩, fun i hi => ?_, fun u hu => ?_⟩
  · by_cases e : i = j
    · subst e
      rw [World.cell?_setCell_same _ _ _ (h.cells i hj)]; rfl
    · rw [World.cell?_setCell_other _ _ _ _ (by intro t; injection t with t1 t2; exact e t2.symm)]
      exact (h.room i hi).1
  · rw [List.length_set] at hi
    by_cases e : i = j
    · subst e
      rw [World.cell?_setCell_same _ _ _ (h.cells i hj), List.getElem_set_self]
    · rw [World.cell?_setCell_other _ _ _ _ (by intro t; injection t with t1 t2; exact e t2.symm), h.cells i hi, List.getElem_set_ne (fun t => e t.symm)]
  · rcases List.mem_or_eq_of_mem_set hu with h1 | h1
    · exact h.one u h1
    · rw [h1]; exact hv

theorem src_two (w : World) (t : TypeId) (a b : Int) : Src Tryz.prog 1 39 (.slice (some ⟨w.heap.size, 0, none⟩) 2 2) 2 [.int .u8 a, .int .u8 b] (w.alloc (.cells #[.int .u8 a, .int .u8 b] t)) := by
  refine Src.ofSlice _ Tryz.underlying39 ⟨w.heap.size, 0, none⟩ 2 2 [.int .u8 a, .int .u8 b] rfl (fun j u hj => ?_) (fun u hu => ?_)
  · match j, hj with
    | 0, hj => cases hj; rw [Addr.add_lit, World.cell?_alloc_new]; rfl
    | 1, hj => cases hj; rw [Addr.add_lit, World.cell?_alloc_new]; rfl
    | j + 2, hj => simp at hj
  · simp only [List.mem_cons, List.not_mem_nil, or_false] at hu
    rcases hu with rfl | rfl <;> rfl

theorem BIn.frame {S : Nat → Prop} {w w' : World} {ao : Option Addr} {cap : Nat} {bs : List UInt8} (h : BIn w ao cap bs) (hf : Fr S w w') (hS : ∀ b off, ao = some ⟨b, off, none⟩ → 0 < bs.length → ¬ S b) : BIn w' ao cap bs :=
  ⟨h.nil, fun h0 => by
    obtain ⟨b, off, e, hc⟩ := h.cell h0
    exact ⟨b, off, e, fun j hj => (hf.cell (a := ⟨b, off + j, none⟩) (World.block_lt_of_cell? _ _ (hc j hj)) (hS b off e h0)).trans (hc j hj)⟩, h.fit⟩

end Go.Proofs.YtkjoojamkbpfcabGreat

