import Derived.Test.YtjkghgcdkfkekaaGreatDoorSS2
/- Contracts: slices.Concat (of two), Frame, Open. -/
namespace Go.Proofs.YtjkghgcdkfkekaaGreatDoor
open Go.RowKit

/-- The bytes of some pieces. -/
def allB (ps : List (Option Addr × Nat × List UInt8)) : List UInt8 := ps.flatMap fun p => p.2.2
theorem allB_snoc (ps : List (Option Addr × Nat × List UInt8)) (i : Nat) (h : i < ps.length) : allB (ps.take (i + 1)) = allB (ps.take i) ++ ps[i].2.2 := by
  rw [List.take_succ_eq_append_getElem h, allB, List.flatMap_append]; simp [allB]
theorem allB_le (ps : List (Option Addr × Nat × List UInt8)) (i : Nat) : (allB (ps.take i)).length ≤ (allB ps).length := by
  conv => rhs; rw [← List.take_append_drop i ps]
  rw [allB, allB, List.flatMap_append, List.length_append]; omega

set_option maxHeartbeats 1000000 in
set_option maxRecDepth 20000 in
theorem concat_any (w : World) (r : Nat) (ps : List (Option Addr × Nat × List UInt8)) (h0 : ∀ i (h : i < ps.length), w.cell? ⟨r, i, none⟩ = some (.slice ps[i].1 ps[i].2.2.length ps[i].2.1)) (hn : ps.length ≤ 100)
    (hX : ∀ i (h : i < ps.length), BAt w ps[i].1 ps[i].2.1 ps[i].2.2) (hpos : 0 < (allB ps).length) (hfit : (allB ps).length ≤ 140737488355328) :
    Calls Tryz.prog 62 #[.slice (some ⟨r, 0, none⟩) ps.length ps.length] w fun e w' => ∃ v, e = .returned v ∧ New w (allB ps) v w' := by
  obtain ⟨i0, hi, hz0, hz1, hz2⟩ := info_parts Tryz.info5
  have HX := hide hX
  have H0 := hide h0
  have hn' : (ps.length : Int) ≤ 100 := by omega
  clear hX h0 hn
  go_enter Tryz.func62, Tryz.ntmps62
  go_wp2
  go_loopw [3, 5, 11] (fun sv _ iv wr => (∃ i : Nat, i ≤ ps.length ∧ iv = .int .i64 i ∧ sv = .int .i64 ((allB (ps.take i)).length : Nat)) ∧ w = wr) (fun _ _ iv _ => ps.length - (intOf iv).toNat)
  case atStart => exact ⟨⟨0, Nat.zero_le _, rfl, rfl⟩, rfl⟩
  case round =>
    obtain ⟨⟨i, hin, rfl, rfl⟩, rfl⟩ := hrel
    by_cases hlt : i < ps.length
    · have h0 := unhide H0 i hlt
      have HS := hide (allB_snoc ps i hlt)
      have h1 := allB_le ps (i + 1)
      have h2 : (allB (ps.take (i + 1))).length = (allB (ps.take i)).length + ps[i].2.2.length := by rw [unhide HS, List.length_append]
      have H2 := hide h2
      rw [h2] at h1
      clear h2
      generalize (allB (ps.take i)).length = A at *
      generalize ps[i].2.2.length = B at *
      generalize ps[i].1 = xo at *
      generalize ps[i].2.1 = xc at *
      have h3 : (A : Int) + (B : Int) ≤ 140737488355328 := by omega
      clear h1 hfit hpos
      go_wp2
      exact ⟨⟨⟨i + 1, by omega, by go_num, by rw [unhide H2]; go_num⟩, trivial⟩, by simp [intOf]; omega⟩
    · obtain rfl : i = ps.length := by omega
      rw [List.take_length]
      generalize hL : (allB ps).length = L at *
      have HL := hide hL
      clear hL
      go_wp2_with fail
      refine (grow_any _ L hpos hfit).mono ?_
      rintro e w1 ⟨v, rfl, g, hrow, hF, hg⟩
      obtain ⟨ao, cap, rfl, _⟩ := hrow.shape
      have HR := hide (And.intro hrow (And.intro hF hg))
      clear hrow hF hg
      go_wp2
      go_loopw [6, 8, 27] (fun nv _ iv wr => ∃ i : Nat, i ≤ ps.length ∧ iv = .int .i64 i ∧ ∃ ao cap g, nv = .slice ao (allB (ps.take i)).length cap ∧ Hid (Row wr (.slice ao (allB (ps.take i)).length cap) g (allB (ps.take i)) ∧ Fr (fun _ => False) w wr ∧ w.heap.size ≤ g)) (fun _ _ iv _ => ps.length - (intOf iv).toNat)
      case atStart => exact ⟨0, Nat.zero_le _, rfl, ao, cap, g, rfl, unhide HR⟩
      case round =>
        obtain ⟨i, hin, rfl, ao, cap, g, rfl, HS⟩ := hrel
        by_cases hlt : i < ps.length
        · have h0 : wr.cell? ⟨r, i, none⟩ = some (.slice ps[i].1 ps[i].2.2.length ps[i].2.1) := ((unhide HS).2.1.cell (a := ⟨r, i, none⟩) (World.block_lt_of_cell? _ _ (unhide H0 i hlt)) (fun t => t)).trans (unhide H0 i hlt)
          have hsrc := src_slice Tryz.underlying28 wr ps[i].1 ps[i].2.1 ps[i].2.2 ((unhide HX i hlt).later (unhide HS).2.1).2.1
          have HSN := hide (allB_snoc ps i hlt)
          have hfit2 : (allB (ps.take i)).length + ps[i].2.2.length ≤ 140737488355328 := by
            rw [← List.length_append, ← unhide HSN]; have := allB_le ps (i + 1); have := unhide HL; omega
          have HC := hide (And.intro hsrc hfit2)
          clear hsrc hfit2
          generalize ps[i].1 = xo at *
          generalize ps[i].2.1 = xc at *
          generalize ps[i].2.2 = xs at *
          go_wp2_with (at_builtin; refine wpList_append_row _ rfl (.tmp 31) (.tmp 32) 28 28 rfl 5 i0 Tryz.underlying28 hi hz0 hz1 hz2 (ao := ao) (g := g) (bs := allB (ps.take i)) (cap := cap) rfl (unhide HS).1 _ xs rfl (unhide HC).1 (unhide HC).2 ?next)
          case next =>
            intro ao' cap' w' g' hrow hfr hg
            have HQ := hide (And.intro hrow (And.intro hfr hg))
            clear hrow hfr hg HC
            go_wp2
            obtain ⟨k1, k2, k3⟩ := unhide HQ
            obtain ⟨l1, l2, l3⟩ := unhide HS
            have := l2.size
            refine ⟨⟨i + 1, by omega, by go_num, ao', cap', g', by rw [unhide HSN, List.length_append], by rw [unhide HSN, List.length_append]; exact k1, l2.trans k2 (fun i hi t => by omega), by omega⟩, by simp [intOf]; omega⟩
        · obtain rfl : i = ps.length := by omega
          go_wp2
          go_ret
          refine ⟨_, rfl, g, ?_⟩
          have := unhide HS
          rw [List.take_length] at *
          exact this

/-- The frame of bytes. -/
def frameF (bs : List UInt8) : List UInt8 := bs ++ le4 (sumF bs)

theorem frameF_length (bs : List UInt8) : (frameF bs).length = bs.length + 4 := by simp [frameF, le4]

theorem frame_any (w : World) (hT : TabAt w) (ao : Option Addr) (cap : Nat) (bs : List UInt8) (hB : BAt w ao cap bs) (hfit : bs.length + 4 ≤ 140737488355328) :
    Calls Tryz.prog 112 #[.slice ao bs.length cap] w fun e w' => ∃ v, e = .returned v ∧ New w (frameF bs) v w' := by
  have HT := hide hT
  have HB := hide hB
  clear hT hB
  go_enter Tryz.func112, Tryz.ntmps112
  go_wp2_with fail
  refine (sumbytes_any _ (unhide HT) ao cap bs (unhide HB)).mono ?_
  rintro e w1 ⟨v, rfl, g, hrow, hF, hg⟩
  obtain ⟨so, sc, rfl, _⟩ := hrow.shape
  have HR := hide (And.intro hrow (And.intro hF hg))
  clear hrow hF hg
  rw [le4_length] at *
  go_wp2_with fail
  have hF1 := (unhide HR).2.1.alloc (.cells #[.slice ao bs.length cap, .slice so 4 sc] 28)
  have hR1 := (unhide HR).1.stay (w' := w1.alloc (.cells #[.slice ao bs.length cap, .slice so 4 sc] 28)) (fun hlt => Below.heap_alloc _ _ _ hlt)
  have hb1 := (unhide HB).later hF1
  have hb2 := (hR1.bat (by simp [le4])).2
  refine (concat_any _ w1.heap.size [(ao, cap, bs), (so, sc, le4 (sumF bs))] (fun i h => ?c0) (by simp) (fun i h => ?b0) (by simp [allB, le4]) (by simp [allB, le4]; omega)).mono ?_
  case c0 => match i, h with | 0, _ => simp | 1, _ => simp [le4]
  case b0 => match i, h with | 0, _ => exact hb1 | 1, _ => exact hb2
  clear hb1 hb2
  rw [show allB [(ao, cap, bs), (so, sc, le4 (sumF bs))] = frameF bs by simp [allB, frameF]]
  rintro e w2 ⟨v, rfl, g2, k1, k2, k3⟩
  have HQ := hide (And.intro k1 (And.intro (hF1.trans k2 (fun _ _ t => t)) (Nat.le_trans hF1.size k3)))
  clear hF1 hR1 k1 k2 k3 HR
  go_wp2
  go_ret
  exact ⟨_, rfl, g2, unhide HQ⟩

end Go.Proofs.YtjkghgcdkfkekaaGreatDoor

