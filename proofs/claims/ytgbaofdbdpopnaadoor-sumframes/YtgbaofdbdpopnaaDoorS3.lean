/- Contracts: slices.Concat (of two), Frame, Open. -/
import Derived.Test.YtgbaofdbdpopnaaDoorS2
namespace Go.Proofs.YtgbaofdbdpopnaaDoor
open Go.RowKit

set_option maxHeartbeats 1000000 in
theorem concat_any (w : World) (r : Nat) (xo : Option Addr) (cx : Nat) (xs : List UInt8) (yo : Option Addr) (cy : Nat) (ys : List UInt8) (h0 : w.cell? ⟨r, 0, none⟩ = some (.slice xo xs.length cx)) (h1 : w.cell? ⟨r, 1, none⟩ = some (.slice yo ys.length cy))
    (hX : BAt w xo cx xs) (hY : BAt w yo cy ys) (hpos : 0 < xs.length + ys.length) (hfit : xs.length + ys.length ≤ 140737488355328) :
    Calls Tryd.prog 29 #[.slice (some ⟨r, 0, none⟩) 2 2] w fun e w' => ∃ v, e = .returned v ∧ New w (xs ++ ys) v w' := by
  obtain ⟨i0, hi, hz0, hz1, hz2⟩ := info_parts Tryd.info5
  have HX := hide hX
  have HY := hide hY
  have H0 := hide h0
  have H1 := hide h1
  clear hX hY h0 h1
  go_enter Tryd.func29, Tryd.ntmps29
  go_wp2
  go_loopw [3, 5, 11] (fun sv _ iv wr => ((iv = .int .i64 0 ∧ sv = .int .i64 0) ∨ (iv = .int .i64 1 ∧ sv = .int .i64 xs.length) ∨ (iv = .int .i64 2 ∧ sv = .int .i64 (xs.length + ys.length : Nat))) ∧ w = wr) (fun _ _ iv _ => 2 - (intOf iv).toNat)
  case atStart => exact ⟨.inl ⟨rfl, rfl⟩, rfl⟩
  case round =>
    obtain ⟨hc, rfl⟩ := hrel
    have h0 := unhide H0
    have h1 := unhide H1
    rcases hc with ⟨rfl, rfl⟩ | ⟨rfl, rfl⟩ | ⟨rfl, rfl⟩
    · go_wp2
      exact ⟨⟨.inr (.inl ⟨rfl, by simp⟩), trivial⟩, by simp [intOf]⟩
    · go_wp2
      exact ⟨⟨.inr (.inr ⟨rfl, by simp⟩), trivial⟩, by simp [intOf]⟩
    · clear h0 h1
      go_wp2_with fail
      refine (grow_any _ (xs.length + ys.length) hpos hfit).mono ?_
      rintro e w1 ⟨v, rfl, g, hrow, hF, hg⟩
      obtain ⟨ao, cap, rfl, _⟩ := hrow.shape
      have HR := hide (And.intro hrow (And.intro hF hg))
      clear hrow hF hg
      go_wp2
      go_loopw [6, 8, 27] (fun nv _ iv wr => ∃ ms : List UInt8, ((iv = .int .i64 0 ∧ ms = []) ∨ (iv = .int .i64 1 ∧ ms = xs) ∨ (iv = .int .i64 2 ∧ ms = xs ++ ys)) ∧ ∃ ao cap g, nv = .slice ao ms.length cap ∧ Hid (Row wr (.slice ao ms.length cap) g ms ∧ Fr (fun _ => False) w wr ∧ w.heap.size ≤ g)) (fun _ _ iv _ => 2 - (intOf iv).toNat)
      case atStart => exact ⟨[], .inl ⟨rfl, rfl⟩, ao, cap, g, rfl, unhide HR⟩
      case round =>
        obtain ⟨ms, hc, ao, cap, g, rfl, HS⟩ := hrel
        have h0 : wr.cell? ⟨r, 0, none⟩ = some (.slice xo xs.length cx) := ((unhide HS).2.1.cell (a := ⟨r, 0, none⟩) (World.block_lt_of_cell? _ _ (unhide H0)) (fun t => t)).trans (unhide H0)
        have h1 : wr.cell? ⟨r, 1, none⟩ = some (.slice yo ys.length cy) := ((unhide HS).2.1.cell (a := ⟨r, 1, none⟩) (World.block_lt_of_cell? _ _ (unhide H1)) (fun t => t)).trans (unhide H1)
        rcases hc with ⟨rfl, rfl⟩ | ⟨rfl, rfl⟩ | ⟨rfl, rfl⟩
        · go_wp2_with (at_builtin; refine wpList_append_row _ rfl (.tmp 31) (.tmp 32) 22 22 rfl 5 i0 Tryd.underlying22 hi hz0 hz1 hz2 (ao := ao) (g := g) (bs := []) (cap := cap) rfl (unhide HS).1 _ xs rfl ?hsrc ?hfit ?next)
          case hsrc => exact src_slice Tryd.underlying22 _ xo cx xs ((unhide HX).later (unhide HS).2.1).2.1
          case hfit => simp; omega
          case next =>
            intro ao' cap' w' g' hrow hfr hg
            have HQ := hide (And.intro hrow (And.intro hfr hg))
            clear hrow hfr hg
            go_wp2
            obtain ⟨k1, k2, k3⟩ := unhide HQ
            obtain ⟨l1, l2, l3⟩ := unhide HS
            have := l2.size
            refine ⟨⟨xs, .inr (.inl ⟨rfl, rfl⟩), ao', cap', g', by simp, by simpa using k1, l2.trans k2 (fun i hi t => by omega), by omega⟩, by simp [intOf]⟩
        · go_wp2_with (at_builtin; refine wpList_append_row _ rfl (.tmp 31) (.tmp 32) 22 22 rfl 5 i0 Tryd.underlying22 hi hz0 hz1 hz2 (ao := ao) (g := g) (bs := ms) (cap := cap) rfl (unhide HS).1 _ ys rfl ?hsrc ?hfit ?next)
          case hsrc => exact src_slice Tryd.underlying22 _ yo cy ys ((unhide HY).later (unhide HS).2.1).2.1
          case hfit => exact hfit
          case next =>
            intro ao' cap' w' g' hrow hfr hg
            have HQ := hide (And.intro hrow (And.intro hfr hg))
            clear hrow hfr hg
            go_wp2
            obtain ⟨k1, k2, k3⟩ := unhide HQ
            obtain ⟨l1, l2, l3⟩ := unhide HS
            have := l2.size
            refine ⟨⟨ms ++ ys, .inr (.inr ⟨rfl, rfl⟩), ao', cap', g', by simp, by rw [List.length_append]; exact k1, l2.trans k2 (fun i hi t => by omega), by omega⟩, by simp [intOf]⟩
        · clear h0 h1
          go_wp2
          go_ret
          exact ⟨_, rfl, g, unhide HS⟩

/-- The frame of bytes. -/
def frameF (bs : List UInt8) : List UInt8 := bs ++ le4 (sumF bs)

theorem frameF_length (bs : List UInt8) : (frameF bs).length = bs.length + 4 := by simp [frameF, le4]

theorem frame_any (w : World) (hT : TabAt w) (ao : Option Addr) (cap : Nat) (bs : List UInt8) (hB : BAt w ao cap bs) (hfit : bs.length + 4 ≤ 140737488355328) :
    Calls Tryd.prog 18 #[.slice ao bs.length cap] w fun e w' => ∃ v, e = .returned v ∧ New w (frameF bs) v w' := by
  have HT := hide hT
  have HB := hide hB
  clear hT hB
  go_enter Tryd.func18, Tryd.ntmps18
  go_wp2_with fail
  refine (sumbytes_any _ (unhide HT) ao cap bs (unhide HB)).mono ?_
  rintro e w1 ⟨v, rfl, g, hrow, hF, hg⟩
  obtain ⟨so, sc, rfl, _⟩ := hrow.shape
  have HR := hide (And.intro hrow (And.intro hF hg))
  clear hrow hF hg
  rw [le4_length] at *
  go_wp2_with fail
  have hF1 := (unhide HR).2.1.alloc (.cells #[.slice ao bs.length cap, .slice so 4 sc] 22)
  have hR1 := (unhide HR).1.stay (w' := w1.alloc (.cells #[.slice ao bs.length cap, .slice so 4 sc] 22)) (fun hlt => Below.heap_alloc _ _ _ hlt)
  refine (concat_any _ w1.heap.size ao cap bs so sc (le4 (sumF bs)) (by simp) (by simp [le4]) ((unhide HB).later hF1) (hR1.bat (by simp [le4])).2 (by simp [le4]) (by simp [le4]; omega)).mono ?_
  rintro e w2 ⟨v, rfl, g2, k1, k2, k3⟩
  have HQ := hide (And.intro k1 (And.intro (hF1.trans k2 (fun _ _ t => t)) (Nat.le_trans hF1.size k3)))
  clear hF1 hR1 k1 k2 k3 HR
  go_wp2
  go_ret
  exact ⟨_, rfl, g2, unhide HQ⟩

end Go.Proofs.YtgbaofdbdpopnaaDoor
