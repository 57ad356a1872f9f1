/- The document's own filling. -/
import Derived.Test.YtgklgbomfipagaaDoorR2
import Derived.Test.YtgklgbomfipagaaDoorH6
namespace Go.Proofs.YtgklgbomfipagaaDoor
open Go.RowKit

/-- The byte that a round appends. -/
theorem src_byte (w : World) (x : UInt8) (z : Int) (hz : (x.toNat : Int) = z) : Src Tryd.prog 1 22 (.slice (some ⟨w.heap.size, 0, none⟩) 1 1) [x].length (bytesV [x]) (w.alloc (.cells #[.int .u8 z] 5)) := by
  subst hz
  exact src_slice Tryd.underlying22 _ _ 1 [x] (bat_lit w [x] 5 (0, 0) (by simp)).2.1

/-- Bytes that are being made. -/
def Mk (w wr : World) (ao : Option Addr) (l cap : Nat) (bs : List UInt8) : Prop := l = bs.length ∧ ∃ g, Row wr (.slice ao l cap) g bs ∧ Fr (fun _ => False) w wr ∧ w.heap.size ≤ g

theorem Mk.next {w wr w3 : World} {ao3 : Option Addr} {cap cap3 g g3 : Nat} {bs : List UInt8} {x : UInt8} {o : Obj} (hF : Fr (fun _ => False) w wr) (hg : w.heap.size ≤ g)
    (k1 : Row w3 (.slice ao3 (bs.length + 1) cap3) g3 (bs ++ [x])) (k2 : Fr (fun k => k = g ∧ 0 < cap) (wr.alloc o) w3) (k3 : (g3 = g ∧ cap3 = cap) ∨ wr.heap.size + 1 ≤ g3) : Mk w w3 ao3 (bs.length + 1) cap3 (bs ++ [x]) := by
  have h9 := hF.size
  refine ⟨by simp, g3, k1, (hF.alloc o).trans k2 (fun i hi t => by omega), ?_⟩
  rcases k3 with ⟨e, _⟩ | k3 <;> omega

theorem be8_take (n m : Nat) (hm : m < 8) : (be8 n).take (m + 1) = (be8 n).take m ++ [UInt8.ofNat (n / 2 ^ (8 * (7 - m)))] := by
  have h := be8_get n (7 - m) (by omega)
  rw [show 7 - (7 - m) = m by omega] at h
  rw [List.take_add_one, h]
  rfl

set_option maxHeartbeats 2000000 in
theorem filled_any (w : World) (ao : Option Addr) (cap : Nat) (bs : List UInt8) (hB : BAt w ao cap bs) (hfit : bs.length + 72 ≤ 140737488355328) :
    Calls Tryd.prog 35 #[.slice ao bs.length cap] w fun e w' => ∃ v, e = .returned v ∧ New w (bs ++ fill bs.length) v w' := by
  obtain ⟨i0, hi, hz0, hz1, hz2⟩ := info_parts Tryd.info5
  have HI := hide hi
  have HB := hide hB
  clear hi hB
  go_enter Tryd.func35, Tryd.ntmps35
  go_wp2_with (at_builtin; refine wpList_append_row _ rfl (.tmp 6) (.tmp 7) 22 22 rfl 5 i0 Tryd.underlying22 (unhide HI) hz0 hz1 hz2 (g := w.heap.size) (bs := []) (cap := 0) rfl (Row.nil _ _) _ bs rfl ?src1 ?fit1 ?next1)
  case src1 => exact src_slice Tryd.underlying22 _ ao cap bs (unhide HB).2.1
  case fit1 => simp; omega
  intro ao1 cap1 w1 g1 hrow hfr hg
  have hF1 : Fr (fun _ => False) w w1 := hfr.mono (fun i hi t => by omega)
  have hrow' : Row w1 (.slice ao1 bs.length cap1) g1 bs := by simpa using hrow
  have HR1 := hide (And.intro hrow' (And.intro hF1 (show w.heap.size ≤ g1 by omega)))
  clear hrow hrow' hfr hg hF1
  go_wp2_with (at_builtin; refine wpList_append_row _ rfl (.tmp 9) (.tmp 10) 22 22 rfl 5 i0 Tryd.underlying22 (unhide HI) hz0 hz1 hz2 (ao := ao1) (cap := cap1) (g := g1) (bs := bs) rfl ((unhide HR1).1.stay (fun hx => Below.heap_alloc w1 _ _ hx)) _ [128] rfl (src_byte w1 128 128 rfl) (by simp; omega) ?next2)
  intro ao2 cap2 w2 g2 k1 k2 k3
  have HM := hide (Mk.next (unhide HR1).2.1 (unhide HR1).2.2 k1 k2 k3)
  clear k1 k2 k3 HR1
  obtain ⟨N0, hN0⟩ : ∃ N, N = 63 - (bs.length + 8) % 64 := ⟨_, rfl⟩
  have HN0 := hide hN0
  clear hN0
  go_wp2
  go_loopw [3] (fun ov wr => ∃ k ao cap l, k ≤ N0 ∧ l = bs.length + 1 + k ∧ ov = .slice ao l cap ∧ Hid (Mk w wr ao l cap (bs ++ [128] ++ List.replicate k 0))) (fun ov _ => bs.length + 1 + N0 - slen ov)
  case atStart => exact ⟨0, ao2, cap2, _, Nat.zero_le _, rfl, rfl, by show Mk _ _ _ _ _ _; simpa using unhide HM⟩
  case round =>
    clear HM
    obtain ⟨k, ao, cap, l, hk, hl, rfl, HS⟩ := hrel
    have hn0 := unhide HN0
    by_cases hlt : k < N0
    · have hm : ((l : Int) % 64 != 56) = true := by
        simp only [bne_iff_ne, ne_eq]
        omega
      obtain ⟨e, g, m1, m2, m3⟩ := unhide HS
      have HK := hide (And.intro m1 (And.intro m2 m3))
      have HE := hide hl
      have hlf : l + 1 ≤ 140737488355328 := by omega
      generalize hR : bs ++ [128] ++ List.replicate k 0 = R at *
      have hRn : bs ++ [128] ++ List.replicate (k + 1) 0 = R ++ [0] := by rw [← hR, List.replicate_succ', List.append_assoc, List.append_assoc, List.append_assoc]
      have HRN := hide hRn
      clear m1 m2 m3 hl hn0 hRn hR HS
      subst e
      go_wp2_with (at_builtin; refine wpList_append_row _ rfl (.tmp 16) (.tmp 17) 22 22 rfl 5 i0 Tryd.underlying22 (unhide HI) hz0 hz1 hz2 (ao := ao) (cap := cap) (g := g) (bs := R) rfl ((unhide HK).1.stay (fun hx => Below.heap_alloc wr _ _ hx)) _ [0] rfl (src_byte wr 0 0 rfl) (by simp; omega) ?next3)
      intro ao3 cap3 w3 g3 k1 k2 k3
      have HM := hide (Mk.next (unhide HK).2.1 (unhide HK).2.2 k1 k2 k3)
      clear k1 k2 k3
      go_wp2
      refine ⟨⟨k + 1, ao3, cap3, R.length + 1, by omega, by have := unhide HE; omega, rfl, ?_⟩, by have := unhide HE; simp [slen]; omega⟩
      rw [unhide HRN]
      exact unhide HM
    · obtain rfl : k = N0 := by omega
      have hm : ((l : Int) % 64 != 56) = false := by
        simp only [bne_eq_false_iff_eq]
        omega
      have h8 : (bs.length : Int) * 8 < 18446744073709551616 := by omega
      have hfl : fill bs.length = [128] ++ List.replicate k 0 ++ (be8 (8 * bs.length)).take 8 := by
        rw [show (be8 (8 * bs.length)).take 8 = be8 (8 * bs.length) from rfl, hn0]; rfl
      have HFL := hide hfl
      have HE := hide hl
      have hk63 : k ≤ 63 := by omega
      clear hfl hn0 hl
      go_wp2
      clear hm
      go_loopw [3, 5] (fun ov iv wr => ∃ m ao cap l', m ≤ 8 ∧ l' = l + m ∧ iv = .int .i64 (7 - (m : Int)) ∧ ov = .slice ao l' cap ∧ Hid (Mk w wr ao l' cap (bs ++ [128] ++ List.replicate k 0 ++ (be8 (8 * bs.length)).take m))) (fun ov _ _ => l + 8 - slen ov)
      case atStart => exact ⟨0, ao, cap, l, by omega, rfl, rfl, rfl, by show Mk _ _ _ _ _ _; simpa using unhide HS⟩
      case round =>
        clear HS
        obtain ⟨m, ao, cap, l', hm8, hl', rfl, rfl, HS⟩ := hrel
        by_cases hlt : m < 8
        · obtain ⟨e, g, m1, m2, m3⟩ := unhide HS
          have HK := hide (And.intro m1 (And.intro m2 m3))
          have hlf : l' + 1 ≤ 140737488355328 := by have := unhide HE; omega
          generalize hR : bs ++ [128] ++ List.replicate k 0 ++ (be8 (8 * bs.length)).take m = R at *
          have hRn : bs ++ [128] ++ List.replicate k 0 ++ (be8 (8 * bs.length)).take (m + 1) = R ++ [UInt8.ofNat (8 * bs.length / 2 ^ (8 * (7 - m)))] := by rw [← hR, be8_take _ m hlt, List.append_assoc _ ((be8 (8 * bs.length)).take m)]
          have HRN := hide (And.intro hRn hl')
          obtain ⟨q, hq⟩ : ∃ q : Nat, q + m = 7 := ⟨7 - m, by omega⟩
          have hqi : 7 - (m : Int) = (q : Int) := by omega
          rw [show 7 - m = q by omega] at HRN
          have hv : ((UInt8.ofNat (8 * bs.length / 2 ^ (8 * q))).toNat : Int) = (bs.length : Int) * 8 / 2 ^ (8 * q) % 256 := by
            rw [UInt8.toNat_ofNat', Int.natCast_emod, Int.natCast_ediv, Int.natCast_pow, Nat.mul_comm, Int.natCast_mul]; rfl
          have HSB := hide (src_byte wr (UInt8.ofNat (8 * bs.length / 2 ^ (8 * q))) _ hv)
          have hq7 : q ≤ 7 := by omega
          have HQ := hide hq
          clear m1 m2 m3 hR hRn HS hv hq hl'
          subst e
          go_wp2_with (at_builtin; refine wpList_append_row _ rfl (.tmp 27) (.tmp 34) 22 22 rfl 5 i0 Tryd.underlying22 (unhide HI) hz0 hz1 hz2 (ao := ao) (cap := cap) (g := g) (bs := R) rfl ((unhide HK).1.stay (fun hx => Below.heap_alloc wr _ _ hx)) _ [UInt8.ofNat (8 * bs.length / 2 ^ (8 * q))] rfl (unhide HSB) (by simp; omega) ?next4)
          intro ao3 cap3 w3 g3 k1 k2 k3
          have HM := hide (Mk.next (unhide HK).2.1 (unhide HK).2.2 k1 k2 k3)
          clear k1 k2 k3
          go_wp2
          refine ⟨⟨m + 1, ao3, cap3, R.length + 1, by omega, by have := (unhide HRN).2; omega, ?_, rfl, ?_⟩, by have := (unhide HRN).2; simp [slen]; omega⟩
          · have := unhide HQ
            refine congrArg (Value.int .i64) ?_
            omega
          · rw [(unhide HRN).1]
            exact unhide HM
        · obtain rfl : m = 8 := by omega
          have HZ : Hid (New w (bs ++ fill bs.length) (.slice ao l' cap) wr) := by
            obtain ⟨e, g, m1, m2, m3⟩ := unhide HS
            refine ⟨g, ?_, m2, m3⟩
            rw [unhide HFL, ← List.append_assoc, ← List.append_assoc]
            exact m1
          go_wp2
          go_ret
          exact ⟨_, rfl, unhide HZ⟩

end Go.Proofs.YtgklgbomfipagaaDoor
