/- The contracts of isLong and padOf; a string's bytes in memory; sixty-four bytes made and filled. -/
import Derived.Test.YtgklgbomfipagaaDoorM0
import Derived.Test.YtgklgbomfipagaaDoorH9
import Derived.Test.YtgklgbomfipagaaDoorL1
import Derived.Laws.IdiomStrings
namespace Go.Proofs.YtgklgbomfipagaaDoor
open Go.RowKit

theorem islong_any (w : World) (s : List UInt8) : Calls Tryd.prog 25 #[.string ⟨s.toArray⟩] w fun e w' => e = .returned (.bool (decide (200 < s.length))) ∧ w' = w := by
  go_enter Tryd.func25, Tryd.ntmps25
  have hd : decide ((200 : Int) < (s.length : Int)) = decide (200 < s.length) := by
    by_cases h : 200 < s.length
    · rw [decide_eq_true h, decide_eq_true (by omega)]
    · rw [decide_eq_false h, decide_eq_false (by omega)]
  obtain ⟨b, hb⟩ : ∃ b, b = decide (200 < s.length) := ⟨_, rfl⟩
  rw [← hb] at hd ⊢
  have HB := hide hb
  clear hb
  go_wp2
  go_ret
  exact ⟨rfl, rfl⟩

/-- Bytes in a new block that bears the mark of a conversion behind its end. -/
theorem Row.mark (w : World) (C : Array Value) (t : TypeId) (bs : List UInt8) (cap : Nat) (hC : C.size = cap) (hm : cap ≤ maxLen) (hl : bs.length ≤ cap) (hb : ∀ j (hj : j < bs.length), C[j]? = some (.int .u8 bs[j].toNat)) :
    Row (w.alloc (.cells C t (C.size, C.size + 1))) (.slice (some ⟨w.heap.size, 0, none⟩) bs.length cap) w.heap.size bs := by
  have hc : ∀ j, (w.alloc (.cells C t (C.size, C.size + 1))).cell? ⟨w.heap.size, j, none⟩ = C[j]? := fun j => cell_of_row _ _ _ _ t _ (heap_alloc_new w _)
  refine ⟨⟨_, _, rfl, hl, hm, fun _ => rfl, fun j hj => ⟨?_, ?_⟩⟩, fun j hj => ?_⟩
  · rw [hc j, Array.getElem?_eq_getElem (by omega)]; rfl
  · simp [World.frozen?, World.alloc, -World.alloc_eq]; omega
  · rw [hc j, hb j hj]

/-- '[]byte(s)'. -/
theorem conv_str (w : World) (s : List UInt8) (hs : s.length ≤ 140737488355328) : ∃ C w1, (convert 9 22 (.string ⟨s.toArray⟩)).run Tryd.prog w = .ok (.slice (some ⟨w.heap.size, 0, none⟩) s.length C) w1 ∧ Hid (Row w1 (.slice (some ⟨w.heap.size, 0, none⟩) s.length C) w.heap.size s ∧ Fr (fun _ => False) w w1 ∧ w1.heap.size = w.heap.size + 1) := by
  have h := run_bytes_of_string (P := Tryd.prog) w 9 22 5 ⟨s.toArray⟩ Tryd.underlying9 Tryd.underlying22 Tryd.underlying5
  have hsz : (⟨s.toArray⟩ : ByteArray).size = s.length := rfl
  rw [hsz] at h
  have hge := grownCap_ge w s.length 0 5
  have hcm := grownCap_le_maxLen w s.length 0 5 (by simp only [maxLen]; omega)
  generalize grownCap w s.length 0 5 = C at h hge hcm
  refine ⟨C, _, h, Row.mark w.drew (bytesRow ⟨s.toArray⟩ C) 5 s C ?_ hcm hge (fun j hj => ?_), ((Fr.refl _ w).drew.alloc _), ?_⟩
  · simp [bytesRow, hsz]; omega
  · simp [bytesRow, Array.getElem?_append, hj]
  · simp

/-- Sixty-four new bytes with others copied to their front. -/
theorem copy64 (w : World) (ao : Option Addr) (cap : Nat) (bs : List UInt8) (hB : BAt w ao cap bs) (hl : bs.length ≤ 64) :
    ∃ w2, (Builtin.copy_ #[22, 22] 3 #[.slice (some ⟨w.heap.size, 0, none⟩) 64 64, .slice ao bs.length cap]).run Tryd.prog (w.alloc (.cells (madeCells #[.int .u8 0] 64) 5)) = .ok (goInt bs.length) w2 ∧
      Hid (Row w2 (.slice (some ⟨w.heap.size, 0, none⟩) 64 64) w.heap.size (to64 bs) ∧ Fr (fun _ => False) w w2) := by
  have hcell : ∀ j, j < 64 → (w.alloc (.cells (madeCells #[.int .u8 0] 64) 5)).cell? ⟨w.heap.size, j, none⟩ = some (.int .u8 0) := fun j hj => by
    rw [World.cell?_alloc_new]
    simp [madeCells, hj, Nat.mod_one]
  have hfz : ∀ j, (w.alloc (.cells (madeCells #[.int .u8 0] 64) 5)).frozen? ⟨w.heap.size, j, none⟩ = false := fun j => World.frozen?_alloc_new _ _ _ _
  have hF0 := (Fr.refl (fun _ => False) w).alloc (.cells (madeCells #[.int .u8 0] 64) 5)
  have hL := to64_length bs hl
  have fin : ∀ w2, Fr (fun _ => False) w w2 → (∀ j, j < 64 → w2.cell? ⟨w.heap.size, j, none⟩ = some (.int .u8 (if h : j < bs.length then (bs[j].toNat : Int) else 0)) ∧ w2.frozen? ⟨w.heap.size, j, none⟩ = false) → Hid (Row w2 (.slice (some ⟨w.heap.size, 0, none⟩) 64 64) w.heap.size (to64 bs) ∧ Fr (fun _ => False) w w2) := by
    intro w2 hF hc
    refine ⟨⟨⟨_, _, by rw [hL], by omega, by simp [maxLen], fun _ => rfl, fun j hj => ⟨by rw [(hc j hj).1]; rfl, (hc j hj).2⟩⟩, fun j hj => ?_⟩, hF⟩
    rw [(hc j (by omega)).1, to64_get]
    split <;> rfl
  by_cases h0 : 0 < bs.length
  · obtain ⟨b, off, e, hc⟩ := hB.2.1 h0
    subst e
    have hbl : (bytesV bs).length = bs.length := by simp [bytesV]
    have hmin : Nat.min bs.length 64 = bs.length := Nat.min_eq_left hl
    have hcp := run_copy_cells (P := Tryd.prog) (w.alloc (.cells (madeCells #[.int .u8 0] 64) 5)) 22 22 3 5 w.heap.size 0 64 64 ⟨b, off, none⟩ bs.length cap (bytesV bs)
      Tryd.underlying22 Tryd.size5 (by rw [hbl, hmin]) (fun j v hv => by
        have hj : j < bs.length := by
          rw [← hbl]; exact (List.getElem?_eq_some_iff.1 hv).1
        have hv2 : v = .int .u8 (bs[j].toNat) := by
          have := (List.getElem?_eq_some_iff.1 hv).2
          rw [← this]; simp [bytesV]
        rw [show (⟨b, off, none⟩ : Addr).add j = ⟨b, off + j, none⟩ from Addr.add_lit .., hv2, World.cell?_alloc_lt _ _ _ (World.block_lt_of_cell? _ _ (hc j hj))]
        exact hc j hj) (fun j hj => by rw [Nat.zero_add, hcell j (by omega)]; rfl) (fun j hj => hfz _) (fun v hv => by
        simp [bytesV] at hv
        obtain ⟨x, _, rfl⟩ := hv
        rfl)
    rw [hbl] at hcp
    refine ⟨_, hcp, fin _ (Fr.setCells2 (fun t => absurd t (Nat.lt_irrefl _)) _ _ _ hF0) (fun j hj => ⟨?_, ?_⟩)⟩
    · by_cases hjl : j < bs.length
      · have := World.cell?_setCells_in w.heap.size (bytesV bs) 0 (w.alloc (.cells (madeCells #[.int .u8 0] 64) 5)) (fun i hi => by rw [Nat.zero_add, hcell i (by omega)]; rfl) j (by omega)
        rw [Nat.zero_add] at this
        rw [this, dif_pos hjl]
        simp [bytesV]
      · rw [World.cell?_setCells_out _ _ _ _ _ (fun _ _ => .inr (by simp only []; omega)), hcell j hj, dif_neg hjl]
    · rw [World.frozen?_setCells]; exact hfz j
  · have hb : bs = [] := List.eq_nil_of_length_eq_zero (by omega)
    subst hb
    have hcp := run_copy_none (P := Tryd.prog) (w.alloc (.cells (madeCells #[.int .u8 0] 64) 5)) 22 22 3 5 (some ⟨w.heap.size, 0, none⟩) ao 64 64 0 cap Tryd.underlying22 Tryd.size5 rfl
    exact ⟨_, hcp, fin _ hF0 (fun j hj => ⟨by rw [hcell j hj, dif_neg (by simp)], hfz j⟩)⟩

theorem make64 (w : World) : (Instr.makeSlice 22 (.int .i64 64) (.int .i64 64)).run Tryd.prog w = .ok (.slice (some ⟨w.heap.size, 0, none⟩) 64 64) (w.alloc (.cells (madeCells #[.int .u8 0] 64) 5)) :=
  run_make_row' (P := Tryd.prog) 22 5 (.int .u8 0) 1 Tryd.underlying22 Tryd.info5 rfl .i64 .i64 64 (by omega) (by omega) w

theorem New.on {w w1 w2 : World} {bs : List UInt8} {v : Value} (h : New w1 bs v w2) (hF : Fr (fun _ => False) w w1) : New w bs v w2 := by
  obtain ⟨g, h1, h2, h3⟩ := h
  exact ⟨g, h1, hF.trans h2 (fun _ _ t => t), Nat.le_trans hF.size h3⟩

theorem padOf_any (w : World) (hT : TabP w) (s : List UInt8) (hs : s.length ≤ 200) : Calls Tryd.prog 33 #[.string ⟨s.toArray⟩] w fun e w' => ∃ ao cap, e = .returned (.slice ao 64 cap) ∧ New w (pad s) (.slice ao 64 cap) w' := by
  have HT := hide hT
  clear hT
  obtain ⟨C, w1, hcv, H1⟩ := conv_str w s (by omega)
  have hmk := make64
  have hB1 := ((unhide H1).1.bat (by omega)).2
  have hle : s.length ≤ C := by
    obtain ⟨_, _, e, h, _⟩ := (unhide H1).1.shape
    injection e with _ _ e
    omega
  by_cases hlt : 64 < s.length
  · have hd : decide ((64 : Int) < (s.length : Int)) = true := by simp; omega
    have HS := hide (sum_any w1 ((unhide HT).later (unhide H1).2.1) _ C s hB1 hle)
    have hk : pad s = to64 (digest s) := by unfold pad keyed; rw [if_pos hlt]
    have HK := hide hk
    clear hk hB1
    go_enter Tryd.func33, Tryd.ntmps33
    go_wp2_with fail
    refine (unhide HS).mono ?_
    rintro e w2 ⟨v, rfl, g, r1, r2, r3⟩
    obtain ⟨ao, cap, rfl, hlc, _, had, _⟩ := r1.shape
    have hb2 := (r1.bat (by rw [dig_len]; omega)).2
    obtain ⟨w3, hcp, H3⟩ := copy64 w2 ao cap (digest s) hb2 (by rw [dig_len]; omega)
    have HF := hide ((unhide H1).2.1.trans r2 (fun _ _ t => t))
    rw [dig_len] at hcp ⊢
    clear r1 r2 r3 hb2 had hlc HS
    go_wp2
    go_ret
    refine ⟨_, _, rfl, w2.heap.size, ?_, (unhide HF).trans (unhide H3).2 (fun _ _ t => t), (unhide HF).size⟩
    rw [unhide HK]
    exact (unhide H3).1
  · have hd : decide ((64 : Int) < (s.length : Int)) = false := by simp; omega
    have hk : pad s = to64 s := by unfold pad keyed; rw [if_neg hlt]
    have HK := hide hk
    obtain ⟨w3, hcp, H3⟩ := copy64 w1 _ C s hB1 (by omega)
    clear hk hB1
    go_enter Tryd.func33, Tryd.ntmps33
    go_wp2
    go_ret
    refine ⟨_, _, rfl, w1.heap.size, ?_, (unhide H1).2.1.trans (unhide H3).2 (fun _ _ t => t), (unhide H1).2.1.size⟩
    rw [unhide HK]
    exact (unhide H3).1

end Go.Proofs.YtgklgbomfipagaaDoor
