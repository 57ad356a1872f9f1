import Derived.Test.YtkjoojamkbpfcaaGreatBI
import Derived.Laws.MakeOwn
/- The law's own functions on rows of bytes: same, lent, kept, owned. -/
namespace Go.Proofs.YtkjoojamkbpfcaaGreat
open Go.RowKit

theorem conv_bin {w : World} {ao : Option Addr} {cap : Nat} {bs : List UInt8} (h : BIn w ao cap bs) : (convert 28 9 (.slice ao bs.length cap)).run Tryz.prog w = .ok (.string ⟨bs.toArray⟩) w := by
  by_cases hk : 0 < bs.length
  · obtain ⟨b, off, e, hc⟩ := h.cell hk
    rw [e]
    refine run_convert_bytes_back (P := Tryz.prog) w 28 9 5 ⟨b, off, none⟩ cap bs Tryz.underlying28 Tryz.underlying5 Tryz.underlying9 (fun j hj => ?_)
    have hplain : (⟨b, off, none⟩ : Addr).add j = ⟨b, off + j, none⟩ := Addr.add_lit ..
    rw [hplain]
    exact hc j hj
  · obtain rfl : bs = [] := List.eq_nil_of_length_eq_zero (by omega)
    cases ao with
    | none =>
      rw [show ([] : List UInt8).length = 0 from rfl, run_convert_bytes_nil w 28 5 Tryz.underlying28 Tryz.underlying5 0 cap 9 Tryz.underlying9]
      rfl
    | some x => exact run_convert_bytes_back (P := Tryz.prog) w 28 9 5 x cap [] Tryz.underlying28 Tryz.underlying5 Tryz.underlying9 (fun j hj => by simp at hj)

theorem same_is {w : World} {a1 a2 : Option Addr} {c1 c2 : Nat} {bs : List UInt8} (h1 : BIn w a1 c1 bs) (h2 : BIn w a2 c2 bs) :
    Calls Tryz.prog 14 #[.slice a1 bs.length c1, .slice a2 bs.length c2] w fun e w' => e = .returned (.bool true) ∧ w' = w := by
  have k1 := conv_bin h1
  have k2 := conv_bin h2
  generalize (⟨bs.toArray⟩ : ByteArray) = S at k1 k2
  clear h1 h2
  go_enter Tryz.func14, Tryz.ntmps14
  go_wp2
  go_ret
  exact ⟨by first | rfl | simp, rfl⟩

/-- A row that was lent: the bytes, and two marks behind them. -/
structure LentB (w0 w : World) (ao : Option Addr) (cap g : Nat) (bs : List UInt8) : Prop where
  row : Row w (.slice ao (bs ++ [171, 172]).length cap) g (bs ++ [171, 172])
  new : w0.heap.size ≤ g

theorem LentB.keep {w0 w w' : World} {ao : Option Addr} {cap g : Nat} {bs : List UInt8} (h : LentB w0 w ao cap g bs) (hf : Fr (fun _ => False) w w') : LentB w0 w' ao cap g bs := ⟨h.row.frame hf (fun t => t), h.new⟩

theorem LentB.cap {w0 w : World} {ao : Option Addr} {cap g : Nat} {bs : List UInt8} (h : LentB w0 w ao cap g bs) : bs.length + 2 ≤ cap ∧ ao = some ⟨g, 0, none⟩ ∧ cap ≤ maxLen := by
  obtain ⟨ao', cap', e, h1, h2, h3, h4⟩ := h.row.shape
  injection e with e1 e2 e3
  subst e1 e3
  rw [List.length_append] at h1
  simp only [List.length_cons, List.length_nil] at h1
  exact ⟨h1, h3 (by omega), h2⟩

theorem LentB.bin {w0 w : World} {ao : Option Addr} {cap g : Nat} {bs : List UInt8} (h : LentB w0 w ao cap g bs) (hf : bs.length ≤ 140737488355328) : BInC w ao cap bs := by
  obtain ⟨h1, h2, h3⟩ := h.cap
  refine ⟨⟨fun e => (by rw [h2] at e; cases e), fun h0 => ⟨g, 0, h2, fun j hj => ?_⟩, hf⟩, by omega, h3⟩
  have hc := h.row.cells j (by rw [List.length_append]; omega)
  rw [Nat.zero_add, hc, List.getElem_append_left hj]

theorem two_bytes (w : World) (t : TypeId) (i : Nat) (hi : i < ([171, 172] : List UInt8).length) : (w.alloc (.cells #[.int .u8 171, .int .u8 172] t)).cell? ⟨w.heap.size, 0 + i, none⟩ = some (.int .u8 (([171, 172] : List UInt8)[i].toNat)) := by
  match i, hi with
  | 0, _ => simp
  | 1, _ => simp

set_option maxHeartbeats 1000000 in
theorem lent_any {w : World} {ao : Option Addr} {cap : Nat} {bs : List UInt8} (h : BIn w ao cap bs) (hfit : bs.length + 2 ≤ 140737488355328) :
    Calls Tryz.prog 9 #[.slice ao bs.length cap] w fun e w' => ∃ ao' cap' g, e = .returned (.slice ao' bs.length cap') ∧ LentB w w' ao' cap' g bs ∧ Fr (fun _ => False) w w' := by
  obtain ⟨i0, hi, hz0, hz1, hz2⟩ := info_parts Tryz.info5
  have HI := hide (And.intro hi (And.intro hz0 (And.intro hz1 hz2)))
  have HB := hide h
  have hmk := run_make (P := Tryz.prog) w 28 5 i0 (.int .u8 0) Tryz.underlying28 hi hz0 .i64 .i64 0 ((bs.length : Int) + 2) (by omega) (by omega) (by rw [hz2]; omega) (by omega)
  rw [hz1, show ((bs.length : Int) + 2).toNat = bs.length + 2 by omega, show (0 : Int).toNat = 0 from rfl, Nat.mul_one] at hmk
  obtain ⟨w1, Hw1⟩ : ∃ w1, Hid (w.alloc (.cells (madeCells (Value.int .u8 0).cells (bs.length + 2)) 5) = w1) := ⟨_, rfl⟩
  have hw1 : (Instr.makeSlice 28 (.int .i64 0) (.int .i64 ((bs.length : Int) + 2))).run Tryz.prog w = .ok (.slice (some ⟨w.heap.size, 0, none⟩) 0 (bs.length + 2)) w1 := by rw [← unhide Hw1]; exact hmk
  have HR1 : Hid (Row w1 (.slice (some ⟨w.heap.size, 0, none⟩) ([] : List UInt8).length (bs.length + 2)) w.heap.size [] ∧ Fr (fun _ => False) w w1) := hide (by
    rw [← unhide Hw1]
    refine ⟨⟨⟨_, _, rfl, Nat.zero_le _, by simp only [maxLen]; omega, fun _ => rfl, fun j hj => ⟨?_, World.frozen?_alloc_new _ _ _ _⟩⟩, fun j hj => absurd hj (by simp)⟩, (Fr.refl _ _).alloc _⟩
    rw [World.cell?_alloc_new, Array.getElem?_eq_getElem (by rw [size_madeCells]; simpa [Value.cells] using hj)]
    rfl)
  clear h hmk hi hz0 hz1 hz2 Hw1
  go_enter Tryz.func9, Tryz.ntmps9
  have HSR : Hid (Src Tryz.prog 1 28 (.slice ao bs.length cap) bs.length (bytesV bs) w1) := hide (src_slice Tryz.underlying28 w1 ao cap bs (fun h0 => ((unhide HB).keep (unhide HR1).2).cell h0))
  go_wp2_with (at_builtin; refine wpList_append_row _ rfl (.tmp 7) (.tmp 8) 28 28 rfl 5 i0 Tryz.underlying28 (unhide HI).1 (unhide HI).2.1 (unhide HI).2.2.1 (unhide HI).2.2.2 (g := w.heap.size) (bs := []) (cap := bs.length + 2) rfl (unhide HR1).1 _ bs rfl (unhide HSR) ?_ ?_)
  · simp only [List.length_nil, Nat.zero_add]; omega
  intro ao2 cap2 w2 g2 hrow hfr hg
  have HR2 : Hid (Row w2 (.slice ao2 bs.length cap2) g2 bs ∧ Fr (fun _ => False) w w2 ∧ w.heap.size ≤ g2) := hide ⟨hrow, (unhide HR1).2.trans hfr (fun i hi t => by omega), by
    rcases hg with ⟨e, _⟩ | e
    · omega
    · exact Nat.le_trans (unhide HR1).2.size e⟩
  clear hrow hfr hg HR1 HSR hw1
  go_wp2_with (at_builtin; refine wpList_append_row _ rfl (.tmp 10) (.tmp 11) 28 28 rfl 5 i0 Tryz.underlying28 (unhide HI).1 (unhide HI).2.1 (unhide HI).2.2.1 (unhide HI).2.2.2 (g := g2) (bs := bs) (cap := cap2) rfl ((unhide HR2).1.stay (fun hx => Below.heap_alloc w2 _ _ hx)) _ [171, 172] rfl (src_slice Tryz.underlying28 _ _ 2 [171, 172] (fun _ => ⟨w2.heap.size, 0, rfl, fun i hi1 => two_bytes w2 _ i hi1⟩)) ?_ ?_)
  · simp only [List.length_cons, List.length_nil]; omega
  intro ao3 cap3 w3 g3 hrow hfr hg
  have hL : LentB w w3 ao3 cap3 g3 bs := ⟨by rw [List.length_append]; exact hrow, by
    have h1 := (unhide HR2).2.1.size
    have h2 := (unhide HR2).2.2
    rcases hg with ⟨e, _⟩ | e
    · omega
    · omega⟩
  have HL := hide hL
  have HF : Hid (Fr (fun _ => False) w w3) := hide (((unhide HR2).2.1.alloc _).trans hfr (fun i hi t => by have := (unhide HR2).2.2; omega))
  obtain ⟨h1, h2, h3⟩ := hL.cap
  have hcut : (bs.length : Int) ≤ cap3 := by omega
  clear hrow hfr hg hL HR2 HB h3
  subst h2
  go_wp2
  go_ret
  exact ⟨_, cap3, g3, rfl, unhide HL, unhide HF⟩

set_option maxHeartbeats 1000000 in
theorem kept_any {w0 w : World} {ao : Option Addr} {cap : Nat} {bs : List UInt8} (h : BIn w ao cap bs) {ai : Option Addr} {ci g : Nat} (hl : LentB w0 w ai ci g bs) (hfit : bs.length + 2 ≤ 140737488355328) :
    Calls Tryz.prog 11 #[.slice ai bs.length ci, .slice ao bs.length cap] w fun e w' => e = .returned (.bool true) ∧ Fr (· = g) w w' := by
  obtain ⟨h1, rfl, h3⟩ := hl.cap
  have HS := hide (same_is (hl.bin h.fit).b h)
  have ca : w.cell? ⟨g, bs.length, none⟩ = some (.int .u8 171) := by
    have := hl.row.cells bs.length (by simp)
    rw [this]; simp
  have cb : w.cell? ⟨g, bs.length + 1, none⟩ = some (.int .u8 172) := by
    have := hl.row.cells (bs.length + 1) (by simp)
    rw [this]; simp
  have HRM : Hid (∀ j, j < ci → (w.cell? ⟨g, j, none⟩).isSome = true ∧ w.frozen? ⟨g, j, none⟩ = false) := hide (by
    obtain ⟨ao', cap', e, q1, q2, q3, q4⟩ := hl.row.shape
    injection e with e1 e2 e3
    subst e3
    exact q4)
  have hc1 : (bs.length : Int) + 2 ≤ ci := by omega
  have hc2 : ci ≤ 9223372036854775807 := by simp only [maxLen] at h3; omega
  clear h hl h3
  go_enter Tryz.func11, Tryz.ntmps11
  go_wp2_with fail
  refine (unhide HS).mono ?_
  rintro e w1 ⟨rfl, rfl⟩
  go_wp2
  go_loopw [7] (fun iv wr => ∃ i : Nat, i ≤ bs.length + 2 ∧ iv = .int .i64 i ∧ Hid (Fr (· = g) w1 wr ∧ ∀ j, j < ci → (wr.cell? ⟨g, j, none⟩).isSome = true ∧ wr.frozen? ⟨g, j, none⟩ = false)) (fun iv _ => bs.length + 2 - (intOf iv).toNat)
  case atStart => exact ⟨0, Nat.zero_le _, rfl, Fr.refl _ _, unhide HRM⟩
  case round =>
    obtain ⟨i, hi, rfl, HI⟩ := hrel
    by_cases hlt : i < bs.length + 2
    · obtain ⟨v, hv⟩ := Option.isSome_iff_exists.1 ((unhide HI).2 i (by omega)).1
      have fi := ((unhide HI).2 i (by omega)).2
      have HN : Hid (Fr (· = g) w1 (wr.setCell ⟨g, i, none⟩ (.int .u8 99)) ∧ ∀ j, j < ci → ((wr.setCell ⟨g, i, none⟩ (.int .u8 99)).cell? ⟨g, j, none⟩).isSome = true ∧ (wr.setCell ⟨g, i, none⟩ (.int .u8 99)).frozen? ⟨g, j, none⟩ = false) := hide (by
        refine ⟨(unhide HI).1.setCell (p := ⟨g, i, none⟩) (fun _ => rfl) _, fun j hj => ⟨?_, by rw [World.frozen?_setCell]; exact ((unhide HI).2 j hj).2⟩⟩
        by_cases e : j = i
        · subst e
          rw [World.cell?_setCell_same _ _ _ hv]; rfl
        · rw [World.cell?_setCell_other _ _ _ _ (by intro t; injection t with t1 t2; exact e t2.symm)]
          exact ((unhide HI).2 j hj).1)
      go_wp2
      exact ⟨⟨i + 1, by omega, by go_num, unhide HN⟩, by simp [intOf]; omega⟩
    · obtain rfl : i = bs.length + 2 := by omega
      go_wp2
      go_ret
      exact ⟨rfl, (unhide HI).1⟩

theorem VRow.set {w : World} {ao : Option Addr} {cap g : Nat} {vs : List Value} (h : VRow w ao cap g vs) (j : Nat) (hj : j < vs.length) (v : Value) (hv : v.oneCell' = true) : VRow (w.setCell ⟨g, j, none⟩ v) ao cap g (vs.set j v) := by
  refine ⟨by rw [List.length_set]; exact h.le, h.max, h.ad, fun i hi => ⟨?_, by rw [World.frozen?_setCell]; exact (h.room i hi).2⟩, fun i hi => ?_, fun u hu => ?_⟩
  · by_cases e : i = j
    · subst e
      rw [World.cell?_setCell_same _ _ _ (h.cells i hj)]; rfl
    · rw [World.cell?_setCell_other _ _ _ _ (by intro t; injection t with t1 t2; exact e t2.symm)]
      exact (h.room i hi).1
  · rw [List.length_set] at hi
    by_cases e : i = j
    · subst e
      rw [World.cell?_setCell_same _ _ _ (h.cells i hj), List.getElem_set_self]
    · rw [World.cell?_setCell_other _ _ _ _ (by intro t; injection t with t1 t2; exact e t2.symm), h.cells i hi, List.getElem_set_ne (fun t => e t.symm)]
  · rcases List.mem_or_eq_of_mem_set hu with h1 | h1
    · exact h.one u h1
    · rw [h1]; exact hv

theorem src_two (w : World) (t : TypeId) (a b : Int) : Src Tryz.prog 1 28 (.slice (some ⟨w.heap.size, 0, none⟩) 2 2) 2 [.int .u8 a, .int .u8 b] (w.alloc (.cells #[.int .u8 a, .int .u8 b] t)) := by
  refine Src.ofSlice _ Tryz.underlying28 ⟨w.heap.size, 0, none⟩ 2 2 [.int .u8 a, .int .u8 b] rfl (fun j u hj => ?_) (fun u hu => ?_)
  · match j, hj with
    | 0, hj => cases hj; rw [Addr.add_lit, World.cell?_alloc_new]; rfl
    | 1, hj => cases hj; rw [Addr.add_lit, World.cell?_alloc_new]; rfl
    | j + 2, hj => simp at hj
  · simp only [List.mem_cons, List.not_mem_nil, or_false] at hu
    rcases hu with rfl | rfl <;> rfl

theorem BIn.frame {S : Nat → Prop} {w w' : World} {ao : Option Addr} {cap : Nat} {bs : List UInt8} (h : BIn w ao cap bs) (hf : Fr S w w') (hS : ∀ b off, ao = some ⟨b, off, none⟩ → 0 < bs.length → ¬ S b) : BIn w' ao cap bs :=
  ⟨h.nil, fun h0 => by
    obtain ⟨b, off, e, hc⟩ := h.cell h0
    exact ⟨b, off, e, fun j hj => (hf.cell (a := ⟨b, off + j, none⟩) (World.block_lt_of_cell? _ _ (hc j hj)) (hS b off e h0)).trans (hc j hj)⟩, h.fit⟩

end Go.Proofs.YtkjoojamkbpfcaaGreat

