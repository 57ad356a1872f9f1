import Derived.Test.YtabhfeocelljdaaGreatDoorZHC
import Derived.Test.YtabhfeocelljdaaGreatDoorI6
import Derived.Laws.IdiomStrings
import Derived.Laws.BitsAllLaws
/- The contracts of isLong and padOf; a string's bytes in memory; sixty-four bytes made and filled. -/
namespace Go.Proofs.YtabhfeocelljdaaGreatDoor
open Go.RowKit

set_option maxRecDepth 20000 in
theorem islong_any (w : World) (s : List UInt8) : Calls Tryz.prog 48 #[.string ⟨s.toArray⟩] w fun e w' => e = .returned (.bool (decide (200 < s.length))) ∧ w' = w := by
  go_enter Tryz.func48, Tryz.ntmps48
  have hd : decide ((200 : Int) < (s.length : Int)) = decide (200 < s.length) := by
    by_cases h : 200 < s.length
    · rw [decide_eq_true h, decide_eq_true (by omega)]
    · rw [decide_eq_false h, decide_eq_false (by omega)]
  obtain ⟨b, hb⟩ : ∃ b, b = decide (200 < s.length) := ⟨_, rfl⟩
  rw [← hb] at hd ⊢
  have HB := hide hb
  clear hb
  go_wp2
  go_ret
  exact ⟨rfl, rfl⟩

/-- Bytes in a new block that bears the mark of a conversion behind its end. -/
theorem Row.markZ (w : World) (C : Array Value) (t : TypeId) (bs : List UInt8) (cap : Nat) (hC : C.size = cap) (hm : cap ≤ maxLen) (hl : bs.length ≤ cap) (hb : ∀ j (hj : j < bs.length), C[j]? = some (.int .u8 bs[j].toNat)) :
    Row (w.alloc (.cells C t (C.size, C.size + 1))) (.slice (some ⟨w.heap.size, 0, none⟩) bs.length cap) w.heap.size bs := by
  have hc : ∀ j, (w.alloc (.cells C t (C.size, C.size + 1))).cell? ⟨w.heap.size, j, none⟩ = C[j]? := fun j => cell_of_row _ _ _ _ t _ (heap_alloc_new w _)
  refine ⟨⟨_, _, rfl, hl, hm, fun _ => rfl, fun j hj => ⟨?_, ?_⟩⟩, fun j hj => ?_⟩
  · rw [hc j, Array.getElem?_eq_getElem (by omega)]; rfl
  · simp [World.frozen?, World.alloc, -World.alloc_eq]; omega
  · rw [hc j, hb j hj]

/-- '[]byte(s)'. -/
theorem conv_strZ (w : World) (s : List UInt8) (hs : s.length ≤ 140737488355328) : ∃ C w1, (convert 9 23 (.string ⟨s.toArray⟩)).run Tryz.prog w = .ok (.slice (some ⟨w.heap.size, 0, none⟩) s.length C) w1 ∧ Hid (Row w1 (.slice (some ⟨w.heap.size, 0, none⟩) s.length C) w.heap.size s ∧ Fr (fun _ => False) w w1 ∧ w1.heap.size = w.heap.size + 1) := by
  have h := run_bytes_of_string (P := Tryz.prog) w 9 23 5 ⟨s.toArray⟩ Tryz.underlying9 Tryz.underlying23 Tryz.underlying5
  have hsz : (⟨s.toArray⟩ : ByteArray).size = s.length := rfl
  rw [hsz] at h
  have hge := grownCap_ge w s.length 0 5
  have hcm := grownCap_le_maxLen w s.length 0 5 (by simp only [maxLen]; omega)
  generalize grownCap w s.length 0 5 = C at h hge hcm
  refine ⟨C, _, h, Row.markZ w.drew (bytesRow ⟨s.toArray⟩ C) 5 s C ?_ hcm hge (fun j hj => ?_), ((Fr.refl _ w).drew.alloc _), ?_⟩
  · simp [bytesRow, hsz]; omega
  · simp [bytesRow, Array.getElem?_append, hj]
  · simp

/-- Sixty-four new bytes with others copied to their front. -/
theorem copy64 (w : World) (ao : Option Addr) (cap : Nat) (bs : List UInt8) (hB : BAt w ao cap bs) (hl : bs.length ≤ 64) :
    ∃ w2, (Builtin.copy_ #[23, 23] 3 #[.slice (some ⟨w.heap.size, 0, none⟩) 64 64, .slice ao bs.length cap]).run Tryz.prog (w.alloc (.cells (madeCells #[.int .u8 0] 64) 5)) = .ok (goInt bs.length) w2 ∧
      Hid (Row w2 (.slice (some ⟨w.heap.size, 0, none⟩) 64 64) w.heap.size (to64 bs) ∧ Fr (fun _ => False) w w2) := by
  have hcell : ∀ j, j < 64 → (w.alloc (.cells (madeCells #[.int .u8 0] 64) 5)).cell? ⟨w.heap.size, j, none⟩ = some (.int .u8 0) := fun j hj => by
    rw [World.cell?_alloc_new]
    simp [madeCells, hj, Nat.mod_one]
  have hfz : ∀ j, (w.alloc (.cells (madeCells #[.int .u8 0] 64) 5)).frozen? ⟨w.heap.size, j, none⟩ = false := fun j => World.frozen?_alloc_new _ _ _ _
  have hF0 := (Fr.refl (fun _ => False) w).alloc (.cells (madeCells #[.int .u8 0] 64) 5)
  have hL := to64_length bs hl
  have fin : ∀ w2, Fr (fun _ => False) w w2 → (∀ j, j < 64 → w2.cell? ⟨w.heap.size, j, none⟩ = some (.int .u8 (if h : j < bs.length then (bs[j].toNat : Int) else 0)) ∧ w2.frozen? ⟨w.heap.size, j, none⟩ = false) → Hid (Row w2 (.slice (some ⟨w.heap.size, 0, none⟩) 64 64) w.heap.size (to64 bs) ∧ Fr (fun _ => False) w w2) := by
    intro w2 hF hc
    refine ⟨⟨⟨_, _, by rw [hL], by omega, by simp [maxLen], fun _ => rfl, fun j hj => ⟨by rw [(hc j hj).1]; rfl, (hc j hj).2⟩⟩, fun j hj => ?_⟩, hF⟩
    rw [(hc j (by omega)).1, to64_get]
    split <;> rfl
  by_cases h0 : 0 < bs.length
  · obtain ⟨b, off, e, hc⟩ := hB.2.1 h0
    subst e
    have hbl : (bytesV bs).length = bs.length := by simp [bytesV]
    have hmin : Nat.min bs.length 64 = bs.length := Nat.min_eq_left hl
    have hcp := run_copy_cells (P := Tryz.prog) (w.alloc (.cells (madeCells #[.int .u8 0] 64) 5)) 23 23 3 5 w.heap.size 0 64 64 ⟨b, off, none⟩ bs.length cap (bytesV bs)
      Tryz.underlying23 Tryz.size5 (by rw [hbl, hmin]) (fun j v hv => by
        have hj : j < bs.length := by
          rw [← hbl]; exact (List.getElem?_eq_some_iff.1 hv).1
        have hv2 : v = .int .u8 (bs[j].toNat) := by
          have := (List.getElem?_eq_some_iff.1 hv).2
          rw [← this]; simp [bytesV]
        rw [show (⟨b, off, none⟩ : Addr).add j = ⟨b, off + j, none⟩ from Addr.add_lit .., hv2, World.cell?_alloc_lt _ _ _ (World.block_lt_of_cell? _ _ (hc j hj))]
        exact hc j hj) (fun j hj => by rw [Nat.zero_add, hcell j (by omega)]; rfl) (fun j hj => hfz _) (fun v hv => by
        simp [bytesV] at hv
        obtain ⟨x, _, rfl⟩ := hv
        rfl)
    rw [hbl] at hcp
    refine ⟨_, hcp, fin _ (Fr.setCells2 (fun t => absurd t (Nat.lt_irrefl _)) _ _ _ hF0) (fun j hj => ⟨?_, ?_⟩)⟩
    · by_cases hjl : j < bs.length
      · have := World.cell?_setCells_in w.heap.size (bytesV bs) 0 (w.alloc (.cells (madeCells #[.int .u8 0] 64) 5)) (fun i hi => by rw [Nat.zero_add, hcell i (by omega)]; rfl) j (by omega)
        rw [Nat.zero_add] at this
        rw [this, dif_pos hjl]
        simp [bytesV]
      · rw [World.cell?_setCells_out _ _ _ _ _ (fun _ _ => .inr (by simp only []; omega)), hcell j hj, dif_neg hjl]
    · rw [World.frozen?_setCells]; exact hfz j
  · have hb : bs = [] := List.eq_nil_of_length_eq_zero (by omega)
    subst hb
    have hcp := run_copy_none (P := Tryz.prog) (w.alloc (.cells (madeCells #[.int .u8 0] 64) 5)) 23 23 3 5 (some ⟨w.heap.size, 0, none⟩) ao 64 64 0 cap Tryz.underlying23 Tryz.size5 rfl
    exact ⟨_, hcp, fin _ hF0 (fun j hj => ⟨by rw [hcell j hj, dif_neg (by simp)], hfz j⟩)⟩

theorem make64 (w : World) : (Instr.makeSlice 23 (.int .i64 64) (.int .i64 64)).run Tryz.prog w = .ok (.slice (some ⟨w.heap.size, 0, none⟩) 64 64) (w.alloc (.cells (madeCells #[.int .u8 0] 64) 5)) :=
  run_make_row' (P := Tryz.prog) 23 5 (.int .u8 0) 1 Tryz.underlying23 Tryz.info5 rfl .i64 .i64 64 (by omega) (by omega) w

theorem New.on {w w1 w2 : World} {bs : List UInt8} {v : Value} (h : New w1 bs v w2) (hF : Fr (fun _ => False) w w1) : New w bs v w2 := by
  obtain ⟨g, h1, h2, h3⟩ := h
  exact ⟨g, h1, hF.trans h2 (fun _ _ t => t), Nat.le_trans hF.size h3⟩

set_option maxRecDepth 20000 in
theorem padOf_any (w : World) (hT : TabP w) (s : List UInt8) (hs : s.length ≤ 200) : Calls Tryz.prog 95 #[.string ⟨s.toArray⟩] w fun e w' => ∃ ao cap, e = .returned (.slice ao 64 cap) ∧ New w (padZ s) (.slice ao 64 cap) w' := by
  have HT := hide hT
  clear hT
  obtain ⟨C, w1, hcv, H1⟩ := conv_strZ w s (by omega)
  have hmk := make64
  have hB1 := ((unhide H1).1.bat (by omega)).2
  have hle : s.length ≤ C := by
    obtain ⟨_, _, e, h, _⟩ := (unhide H1).1.shape
    injection e with _ _ e
    omega
  by_cases hlt : 64 < s.length
  · have hd : decide ((64 : Int) < (s.length : Int)) = true := by simp; omega
    have HS := hide (dsum_any w1 ((unhide HT).later (unhide H1).2.1) _ C s hB1 hle)
    have hk : padZ s = to64 (digest s) := by unfold padZ keyed; rw [if_pos hlt]
    have HK := hide hk
    clear hk hB1
    go_enter Tryz.func95, Tryz.ntmps95
    go_wp2_with fail
    refine (unhide HS).mono ?_
    rintro e w2 ⟨v, rfl, g, r1, r2, r3⟩
    obtain ⟨ao, cap, rfl, hlc, _, had, _⟩ := r1.shape
    have hb2 := (r1.bat (by rw [dig_len]; omega)).2
    obtain ⟨w3, hcp, H3⟩ := copy64 w2 ao cap (digest s) hb2 (by rw [dig_len]; omega)
    have HF := hide ((unhide H1).2.1.trans r2 (fun _ _ t => t))
    rw [dig_len] at hcp ⊢
    clear r1 r2 r3 hb2 had hlc HS
    go_wp2
    go_ret
    refine ⟨_, _, rfl, w2.heap.size, ?_, (unhide HF).trans (unhide H3).2 (fun _ _ t => t), (unhide HF).size⟩
    rw [unhide HK]
    exact (unhide H3).1
  · have hd : decide ((64 : Int) < (s.length : Int)) = false := by simp; omega
    have hk : padZ s = to64 s := by unfold padZ keyed; rw [if_neg hlt]
    have HK := hide hk
    obtain ⟨w3, hcp, H3⟩ := copy64 w1 _ C s hB1 (by omega)
    clear hk hB1
    go_enter Tryz.func95, Tryz.ntmps95
    go_wp2
    go_ret
    refine ⟨_, _, rfl, w1.heap.size, ?_, (unhide H1).2.1.trans (unhide H3).2 (fun _ _ t => t), (unhide H1).2.1.size⟩
    rw [unhide HK]
    exact (unhide H3).1

end Go.Proofs.YtabhfeocelljdaaGreatDoor

/- The contract of the closure that digests bytes behind a padZ under a number. -/
namespace Go.Proofs.YtabhfeocelljdaaGreatDoor
open Go.RowKit

/-- What lies in the first bytes when so many were made. -/
def undF (p : List UInt8) (x : UInt8) (i j : Nat) : Int := if j < i then ((p.getD j 0 ^^^ x).toNat : Int) else 0

theorem undF_all (p : List UInt8) (x : UInt8) (j : Nat) (hp : p.length = 64) (hj : j < (und p x).length) : undF p x 64 j = ((und p x)[j].toNat : Int) := by
  have h : j < p.length := by rw [und_length] at hj; exact hj
  unfold undF
  rw [if_pos (by omega)]
  simp [und, List.getD, h]

def Undg (w wr : World) (p : List UInt8) (x : UInt8) (i : Nat) : Prop :=
  Fr (fun _ => False) w wr ∧ w.heap.size < wr.heap.size ∧ ∀ j, j < 64 → wr.cell? ⟨w.heap.size, j, none⟩ = some (.int .u8 (undF p x i j)) ∧ wr.frozen? ⟨w.heap.size, j, none⟩ = false

theorem Undg.start (w : World) (p : List UInt8) (x : UInt8) : Undg w (w.alloc (.cells (madeCells #[.int .u8 0] 64) 5)) p x 0 := by
  refine ⟨(Fr.refl _ w).alloc _, by simp, fun j hj => ⟨?_, World.frozen?_alloc_new _ _ _ _⟩⟩
  rw [World.cell?_alloc_new]
  simp [madeCells, hj, Nat.mod_one, undF]

theorem Undg.next {w wr : World} {p : List UInt8} {x : UInt8} {i : Nat} (h : Undg w wr p x i) (hi : i < 64) : Undg w (wr.setCell ⟨w.heap.size, i, none⟩ (.int .u8 ((p.getD i 0 ^^^ x).toNat : Int))) p x (i + 1) := by
  refine ⟨h.1.setCell (p := ⟨w.heap.size, i, none⟩) (fun t => absurd t (Nat.lt_irrefl _)) _, by simp [World.setCell]; exact h.2.1, fun j hj => ⟨?_, by rw [World.frozen?_setCell]; exact (h.2.2 j hj).2⟩⟩
  by_cases e : j = i
  · subst e
    rw [World.cell?_setCell_same _ _ _ (h.2.2 j hj).1]
    unfold undF
    rw [if_pos (by omega)]
  · rw [World.cell?_setCell_other _ _ _ _ (by intro h; injection h with h1 h2; exact e h2.symm), (h.2.2 j hj).1]
    unfold undF
    by_cases h2 : j < i
    · rw [if_pos h2, if_pos (by omega)]
    · rw [if_neg h2, if_neg (by omega)]

theorem Undg.row {w wr : World} {p : List UInt8} {x : UInt8} (h : Undg w wr p x 64) (hp : p.length = 64) : Row wr (.slice (some ⟨w.heap.size, 0, none⟩) (und p x).length 64) w.heap.size (und p x) := by
  have hl : (und p x).length = 64 := by rw [und_length, hp]
  refine ⟨⟨_, _, rfl, by omega, by simp [maxLen], fun _ => rfl, fun j hj => ⟨by rw [(h.2.2 j hj).1]; rfl, (h.2.2 j hj).2⟩⟩, fun j hj => ?_⟩
  rw [(h.2.2 j (by omega)).1, undF_all p x j hp hj]

set_option maxRecDepth 20000 in
set_option maxHeartbeats 1000000 in
theorem under_any (w : World) (hT : TabP w) (x : UInt8) (pc : Nat) (po : Option Addr) (pcap : Nat) (p : List UInt8) (hp : p.length = 64) (hP : BAt w po pcap p) (hc : w.cell? ⟨pc, 0, none⟩ = some (.slice po 64 pcap)) (bo : Option Addr) (bcap : Nat) (bs : List UInt8) (hB : BAt w bo bcap bs) (hcap : bs.length ≤ bcap) :
    Calls Tryz.prog 96 #[.int .u8 x.toNat, .slice bo bs.length bcap, .pointer (some ⟨pc, 0, none⟩)] w fun e w' => ∃ ao cap, e = .returned (.slice ao 32 cap) ∧ New w (digest (und p x ++ bs)) (.slice ao 32 cap) w' := by
  have HT := hide hT
  have HB := hide hB
  have hsm := hB.2.2
  obtain ⟨b, off, rfl, hcells⟩ := hP.2.1 (by omega)
  have HP := hide (And.intro hp hcells)
  have hmk := make64
  have hc1 : (w.alloc (.cells (madeCells #[.int .u8 0] 64) 5)).cell? ⟨pc, 0, none⟩ = some (.slice (some ⟨b, off, none⟩) 64 pcap) := (World.cell?_alloc_lt _ _ _ (World.block_lt_of_cell? _ _ hc)).trans hc
  have HS := hide (Undg.start w p x)
  clear hT hB hP hcells hc hp
  go_enter Tryz.func96, Tryz.ntmps96
  go_wp2
  generalize (w.alloc (.cells (madeCells #[.int .u8 0] 64) 5)) = w0 at *
  clear hmk hc1
  go_loopw [7, 8, 13] (fun _ _ iv wr => ∃ i : Nat, i ≤ 64 ∧ iv = .int .i64 i ∧ Hid (Undg w wr p x i)) (fun _ _ iv _ => 64 - (intOf iv).toNat)
  case atStart => exact ⟨0, Nat.zero_le _, rfl, unhide HS⟩
  case round =>
    clear HS
    obtain ⟨i, hi, rfl, HI⟩ := hrel
    by_cases hlt : i < 64
    · have ci := ((unhide HI).2.2 i hlt).1
      have fi := ((unhide HI).2.2 i hlt).2
      have hpi : i < p.length := by rw [(unhide HP).1]; exact hlt
      have cb : wr.cell? ⟨b, off + i, none⟩ = some (.int .u8 (p.getD i 0).toNat) := by
        rw [(unhide HI).1.cell (a := ⟨b, off + i, none⟩) (World.block_lt_of_cell? _ _ ((unhide HP).2 i hpi)) (fun t => t), (unhide HP).2 i hpi]
        simp [List.getD, hpi]
      have hx : bits .xor .u8 ((p.getD i 0).toNat : Int) (x.toNat : Int) = ((p.getD i 0 ^^^ x).toNat : Int) := by
        rw [u8_xor_nat _ _ (p.getD i 0).toNat_lt x.toNat_lt, UInt8.toNat_xor]
      have HN := hide ((unhide HI).next hlt)
      generalize p.getD i 0 = c at *
      go_wp2
      exact ⟨⟨i + 1, by omega, by go_num, unhide HN⟩, by simp [intOf]; omega⟩
    · obtain rfl : i = 64 := by omega
      have hT1 := (unhide HT).later (unhide HI).1
      have HT1 := hide hT1
      have hrow := (unhide HI).row (unhide HP).1
      have hul : (und p x).length = 64 := by rw [und_length]; exact (unhide HP).1
      have HR := hide (And.intro hrow (And.intro (unhide HI).1 (And.intro (unhide HI).2.1 hul)))
      obtain ⟨U, hU⟩ : ∃ U, U = und p x := ⟨_, rfl⟩
      rw [← hU] at HR
      have HU := hide hU
      clear hT1 hrow hul hU
      go_wp2_with fail
      refine (hnew_any wr (unhide HT1)).mono ?_
      rintro e w1 ⟨q, rfl, h1, h2, h3⟩
      have hq3 : (1 < q ∧ 3 < q) := by have := (unhide HT1).gt; omega
      have hwq : w.heap.size < q := by have := (unhide HR).2.2.1; omega
      have H1 := hide (And.intro h1 (And.intro h2 h3))
      clear h1 h2 h3
      go_wp2_with fail
      have hwr := hwrite_any w1 ((unhide HT1).later (unhide H1).2.1) q [] (unhide H1).1 hq3 (some ⟨w.heap.size, 0, none⟩) 64 U (((unhide HR).1.frame (unhide H1).2.1 (fun t => t)).bat (by rw [(unhide HR).2.2.2]; omega)).2 (by rw [(unhide HR).2.2.2]; omega) (fun b off e _ => by injection e with e; injection e with e _; omega) (by rw [(unhide HR).2.2.2]; simp)
      rw [(unhide HR).2.2.2] at hwr
      refine hwr.mono ?_
      rintro e w2 ⟨rfl, k1, k2⟩
      clear hwr
      have hF2 : Fr (fun _ => False) w w2 := (((unhide HR).2.1.trans (unhide H1).2.1 (fun _ _ t => t))).trans k2 (fun i hi t => by omega)
      have H2 := hide (And.intro k1 hF2)
      clear k1 k2 hF2 H1
      go_wp2_with fail
      refine (hwrite_any w2 ((unhide HT).later (unhide H2).2) q ([] ++ U) (unhide H2).1 hq3 bo bcap bs ((unhide HB).later (unhide H2).2) hcap (sep_row (unhide HB) rfl (by omega)) (by rw [List.nil_append, (unhide HR).2.2.2]; omega)).mono ?_
      rintro e w3 ⟨rfl, k1, k2⟩
      have hF3 : Fr (fun _ => False) w w3 := (unhide H2).2.trans k2 (fun i hi t => by omega)
      have H3 := hide (And.intro k1 hF3)
      clear k1 k2 hF3 H2
      go_wp2_with fail
      refine (hsum_any w3 ((unhide HT).later (unhide H3).2) q ([] ++ U ++ bs) (unhide H3).1 (by rw [List.nil_append, List.length_append, (unhide HR).2.2.2]; omega)).mono ?_
      rintro e w4 ⟨v, rfl, hN⟩
      have hN2 := hN.on (unhide H3).2
      rw [List.nil_append] at hN2
      obtain ⟨ao, cap, rfl⟩ : ∃ ao cap, v = .slice ao 32 cap := by
        obtain ⟨g, r, _⟩ := hN2
        obtain ⟨ao, cap, e, _⟩ := r.shape
        rw [dig_len] at e
        exact ⟨ao, cap, e⟩
      rw [unhide HU] at hN2
      have H4 := hide hN2
      clear hN hN2
      go_wp2
      go_ret
      exact ⟨_, _, rfl, unhide H4⟩

end Go.Proofs.YtabhfeocelljdaaGreatDoor

/- The contracts of mac and sealOf. -/
namespace Go.Proofs.YtabhfeocelljdaaGreatDoor
open Go.RowKit

theorem Row.batn {w : World} {ao : Option Addr} {n cap g : Nat} {bs : List UInt8} (h : Row w (.slice ao n cap) g bs) (hfit : n ≤ 140737488355328) : BAt w ao cap bs ∧ bs.length = n ∧ n ≤ cap := by
  obtain ⟨ao0, cap0, hv0, h1, _⟩ := h.shape
  injection hv0 with e1 e2 e3
  have := h.bat (by omega)
  exact ⟨this.2, this.1.symm, by omega⟩

set_option maxRecDepth 20000 in
theorem mac_any (w : World) (hT : TabP w) (s : List UInt8) (hs : s.length ≤ 200) (bo : Option Addr) (bcap : Nat) (bs : List UInt8) (hB : BAt w bo bcap bs) (hcap : bs.length ≤ bcap) :
    Calls Tryz.prog 72 #[.string ⟨s.toArray⟩, .slice bo bs.length bcap] w fun e w' => ∃ ao cap, e = .returned (.slice ao 32 cap) ∧ New w (hmac s bs) (.slice ao 32 cap) w' := by
  have HT := hide hT
  have HB := hide hB
  clear hT hB
  go_enter Tryz.func72, Tryz.ntmps72
  go_wp2_with fail
  refine (padOf_any w (unhide HT) s hs).mono ?_
  rintro e w1 ⟨ao, cap, rfl, g, r1, r2, r3⟩
  have hb := r1.batn (by omega)
  have HR := hide (And.intro hb.1 r2)
  clear r1 r2 r3 hb
  go_wp2_with fail
  have HW : Hid (Fr (fun _ => False) w1 (w1.alloc (.cells #[.slice ao 64 cap] 23)) ∧ (w1.alloc (.cells #[.slice ao 64 cap] 23)).cell? ⟨w1.heap.size, 0, none⟩ = some (.slice ao 64 cap)) := ⟨(Fr.refl _ w1).alloc _, World.cell?_alloc_new w1 _ _ 0⟩
  generalize (w1.alloc (.cells #[.slice ao 64 cap] 23)) = w2 at *
  have hF2 := (unhide HR).2.trans (unhide HW).1 (fun _ _ t => t)
  refine (under_any w2 ((unhide HT).later hF2) 54 w1.heap.size ao cap (padZ s) (pad_length s) ((unhide HR).1.later (unhide HW).1) (unhide HW).2 bo bcap bs ((unhide HB).later hF2) hcap).mono ?_
  rintro e w3 ⟨io, ic, rfl, g3, i1, i2, i3⟩
  have hb3 := i1.batn (by omega)
  have hF3 := hF2.trans i2 (fun _ _ t => t)
  have HU := hide (under_any w3 ((unhide HT).later hF3) 92 w1.heap.size ao cap (padZ s) (pad_length s) (((unhide HR).1.later (unhide HW).1).later i2) ((i2.cell (a := ⟨w1.heap.size, 0, none⟩) (World.block_lt_of_cell? _ _ (unhide HW).2) (fun t => t)).trans (unhide HW).2) io ic (digest (und (padZ s) 54 ++ bs)) hb3.1 (by omega))
  rw [dig_len] at HU
  have HF3 := hide hF3
  clear i1 i2 i3 hb3 hF3 hF2 HW HR
  go_wp2_with fail
  refine (unhide HU).mono ?_
  rintro e w4 ⟨ro, rc, rfl, hN⟩
  have H4 := hide (hN.on (unhide HF3))
  clear hN
  go_wp2
  go_ret
  exact ⟨_, _, rfl, unhide H4⟩

/-- The first bytes of a row. -/
theorem Row.front {w : World} {ao : Option Addr} {n cap g : Nat} {bs : List UInt8} (h : Row w (.slice ao n cap) g bs) (k : Nat) (hk : k ≤ n) : Row w (.slice ao k cap) g (bs.take k) := by
  obtain ⟨ao0, cap0, hv0, h1, h2, h3, h4⟩ := h.shape
  injection hv0 with e1 e2 e3
  subst e1 e3
  have hl : (bs.take k).length = k := by rw [List.length_take]; omega
  refine ⟨⟨ao, cap, by rw [hl], by omega, h2, h3, h4⟩, fun j hj => ?_⟩
  rw [h.cells j (by omega), List.getElem_take]

set_option maxRecDepth 20000 in
theorem sealof_any (w : World) (hT : TabP w) (s : List UInt8) (hs : s.length ≤ 200) (bo : Option Addr) (bcap : Nat) (bs : List UInt8) (hB : BAt w bo bcap bs) (hcap : bs.length ≤ bcap) :
    Calls Tryz.prog 49 #[.string ⟨s.toArray⟩, .slice bo bs.length bcap] w fun e w' => ∃ ao cap, e = .returned (.slice ao 16 cap) ∧ New w ((hmac s bs).take 16) (.slice ao 16 cap) w' := by
  have HM := hide (mac_any w hT s hs bo bcap bs hB hcap)
  clear hT hB
  go_enter Tryz.func49, Tryz.ntmps49
  go_wp2_with fail
  refine (unhide HM).mono ?_
  rintro e w1 ⟨ao, cap, rfl, g, r1, r2, r3⟩
  have h32 := (r1.batn (by omega)).2.2
  have HR := hide (And.intro (r1.front 16 (by omega)) (And.intro r2 r3))
  clear r1 r2 r3
  go_wp2
  go_ret
  exact ⟨_, _, rfl, g, unhide HR⟩

end Go.Proofs.YtabhfeocelljdaaGreatDoor

/- The contract of Same. -/
namespace Go.Proofs.YtabhfeocelljdaaGreatDoor
open Go.RowKit

/-- What of the first bytes differs. -/
def dif (a b : List UInt8) : Nat → UInt8
  | 0 => 0
  | i + 1 => dif a b i ||| (a.getD i 0 ^^^ b.getD i 0)

theorem dif_zero (a b : List UInt8) (n : Nat) : dif a b n = 0 ↔ ∀ i, i < n → a.getD i 0 = b.getD i 0 := by
  induction n with
  | zero => simp [dif]
  | succ n ih =>
    unfold dif
    rw [UInt8.or_eq_zero_iff, ih, UInt8.xor_eq_zero_iff]
    constructor
    · rintro ⟨h1, h2⟩ i hi
      by_cases e : i = n
      · rw [e]; exact h2
      · exact h1 i (by omega)
    · exact fun h => ⟨fun i hi => h i (by omega), h n (by omega)⟩

theorem dif_all (a b : List UInt8) (h : a.length = b.length) : ((((dif a b a.length).toNat : Nat) : Int) == 0) = decide (a = b) := by
  have e : (((dif a b a.length).toNat : Nat) : Int) = 0 ↔ a = b := by
    rw [show ((((dif a b a.length).toNat : Nat) : Int) = 0) ↔ dif a b a.length = 0 from by rw [← UInt8.toNat_inj]; simp, dif_zero]
    constructor
    · intro k
      apply List.ext_getElem h
      intro i h1 h2
      have := k i h1
      simpa [List.getD, h1, h2] using this
    · rintro rfl i _
      rfl
  by_cases k : a = b
  · rw [decide_eq_true k, e.2 k]; rfl
  · rw [decide_eq_false k]
    simpa using fun t => k (e.1 t)

set_option maxRecDepth 20000 in
set_option maxHeartbeats 1000000 in
theorem ssame_any (w : World) (ao : Option Addr) (ac : Nat) (a : List UInt8) (hA : BAt w ao ac a) (bo : Option Addr) (bc : Nat) (b : List UInt8) (hB : BAt w bo bc b) :
    Calls Tryz.prog 59 #[.slice ao a.length ac, .slice bo b.length bc] w fun e w' => e = .returned (.bool (decide (a = b))) ∧ w' = w := by
  have HA := hide hA
  have HB := hide hB
  have hsm := hA.2.2
  clear hA hB
  by_cases hl : a.length = b.length
  · have hd : ((a.length : Int) != (b.length : Int)) = false := by simp; omega
    have HE := hide (dif_all a b hl)
    have HL := hide hl
    obtain ⟨bl, hbl⟩ : ∃ bl, bl = b.length := ⟨_, rfl⟩
    rw [← hbl] at hd ⊢
    have HBL := hide hbl
    clear hl hbl
    go_enter Tryz.func59, Tryz.ntmps59
    go_wp2
    go_loopw [5, 6, 7, 15] (fun dv _ _ iv wr => ∃ i : Nat, i ≤ a.length ∧ iv = .int .i64 i ∧ dv = .int .u8 (dif a b i).toNat ∧ wr = w) (fun _ _ _ iv _ => a.length - (intOf iv).toNat)
    case atStart => exact ⟨0, Nat.zero_le _, rfl, rfl, rfl⟩
    case round =>
      obtain ⟨i, hi, rfl, rfl, rfl⟩ := hrel
      by_cases hlt : i < a.length
      · obtain ⟨b1, o1, rfl, c1⟩ := (unhide HA).2.1 (by omega)
        have hbi : i < b.length := by have := unhide HL; omega
        have hbi2 : (i : Int) < (bl : Int) := by have := unhide HBL; omega
        obtain ⟨b2, o2, rfl, c2⟩ := (unhide HB).2.1 (by omega)
        have ca : wr.cell? ⟨b1, o1 + i, none⟩ = some (.int .u8 (a.getD i 0).toNat) := by rw [c1 i hlt]; simp [List.getD, hlt]
        have cb : wr.cell? ⟨b2, o2 + i, none⟩ = some (.int .u8 (b.getD i 0).toNat) := by rw [c2 i hbi]; simp [List.getD, hbi]
        have hx : bits .xor .u8 ((a.getD i 0).toNat : Int) ((b.getD i 0).toNat : Int) = ((a.getD i 0 ^^^ b.getD i 0).toNat : Int) := by
          rw [u8_xor_nat _ _ (a.getD i 0).toNat_lt (b.getD i 0).toNat_lt, UInt8.toNat_xor]
        have ho : bits .or .u8 ((dif a b i).toNat : Int) ((a.getD i 0 ^^^ b.getD i 0).toNat : Int) = ((dif a b (i + 1)).toNat : Int) := by
          rw [u8_or_nat _ _ (dif a b i).toNat_lt (a.getD i 0 ^^^ b.getD i 0).toNat_lt, ← UInt8.toNat_or]; rfl
        clear c1 c2 hbi
        generalize (a.getD i 0 ^^^ b.getD i 0) = z at *
        obtain ⟨d1, hd1⟩ : ∃ d, d = dif a b (i + 1) := ⟨_, rfl⟩
        rw [← hd1] at ho
        have HD1 := hide hd1
        clear hd1
        generalize dif a b i = d0, a.getD i 0 = x, b.getD i 0 = y at *
        go_wp2
        exact ⟨⟨i + 1, by omega, by go_num, by rw [← unhide HD1], trivial⟩, by simp [intOf]; omega⟩
      · obtain rfl : i = a.length := by omega
        have he := unhide HE
        generalize (dif a b a.length) = d at *
        go_wp2
        go_ret
        exact ⟨rfl, rfl⟩
  · have hd : ((a.length : Int) != (b.length : Int)) = true := by simp; omega
    have hf : decide (a = b) = false := decide_eq_false (fun t => hl (by rw [t]))
    rw [hf]
    clear hf
    go_enter Tryz.func59, Tryz.ntmps59
    go_wp2
    go_ret
    exact ⟨rfl, rfl⟩

end Go.Proofs.YtabhfeocelljdaaGreatDoor

