/- The contract of Write. -/
import Derived.Test.YtgklgbomfipagaaDoorH8
namespace Go.Proofs.YtgklgbomfipagaaDoor
open Go.RowKit

set_option maxHeartbeats 4000000 in
set_option maxRecDepth 100000 in
theorem write_any (w : World) (hT : TabP w) (p : Nat) (bs : List UInt8) (hH : HAt w p bs) (hp : 3 < p) (ao : Option Addr) (cap : Nat) (ms : List UInt8) (hB : BAt w ao cap ms) (hcap : ms.length ≤ cap) (hS : Sep ao ms.length p) (hfit : bs.length + ms.length ≤ 1125899906842624) :
    Calls Tryd.prog 31 #[.pointer (some ⟨p, 0, none⟩), .slice ao ms.length cap] w fun e w' => e = .returned (.tuple #[]) ∧ HAt w' p (bs ++ ms) ∧ Fr (fun k => k = p) w w' := by
  have HT := hide hT
  have HI : Hid (BAt w ao cap ms ∧ Sep ao ms.length p ∧ HAt w p bs ∧ Fr (fun k => k = p) w w) := ⟨hB, hS, hH, Fr.refl _ _⟩
  have HM := hide (And.intro hp hfit)
  clear hT hB hS hH hp hfit
  go_enter Tryd.func31, Tryd.ntmps31
  go_wp2
  go_loopw [1, 4] (fun bv _ wr => ∃ don rst ao cap, bv = .slice ao rst.length cap ∧ rst.length ≤ cap ∧ Hid (ms = don ++ rst) ∧ Hid (BAt wr ao cap rst ∧ Sep ao rst.length p ∧ HAt wr p (bs ++ don) ∧ Fr (fun k => k = p) w wr)) (fun bv _ _ => slen bv)
  case atStart => exact ⟨[], ms, ao, cap, rfl, hcap, rfl, by rw [List.append_nil]; exact unhide HI⟩
  case round =>
    clear HI
    obtain ⟨don, rst, ao, cap, rfl, hcap, HD, HS⟩ := hrel
    by_cases h0 : 0 < rst.length
    · obtain ⟨kB, kS, ⟨blk, kH, kR⟩, kF⟩ := unhide HS
      obtain ⟨N, hN⟩ : ∃ N, N = (bs ++ don).length := ⟨_, rfl⟩
      obtain ⟨f, hf⟩ : ∃ f, f = absorb (bs ++ don) ((bs ++ don).length / 64) := ⟨_, rfl⟩
      rw [← hf, ← hN] at kH
      have HK := hide (And.intro kH (And.intro kB (And.intro kS (And.intro kF kR))))
      have c72 := kH.cell 72 (by omega)
      rw [show hcell f blk N 72 = .int .i64 N from rfl] at c72
      have hNl : N ≤ 1125899906842624 ∧ N + rst.length ≤ 1125899906842624 := by
        have h1 := (unhide HM).2
        rw [unhide HD] at h1
        rw [hN]
        simp only [List.length_append] at h1 ⊢
        omega
      obtain ⟨r, hr⟩ : ∃ r, r = N % 64 := ⟨_, rfl⟩
      have hr64 : r < 64 := by omega
      have hrm : (N : Int) % 64 = (r : Int) := by omega
      have hrt : (N : Int).tmod 64 = (r : Int) := by rw [Int.tmod_eq_emod_of_nonneg (by omega)]; exact hrm
      have HN := hide (And.intro hN (And.intro hf hr))
      have hsl := fun w => run_slice_block w p r hr64
      clear HS kB kS kH kR kF hN hf hr
      go_wp2
      obtain ⟨b, off, rfl, _⟩ := (unhide HK).2.1.2.1 h0
      obtain ⟨n, hn⟩ : ∃ n, n = min rst.length (64 - r) := ⟨_, rfl⟩
      have hnb : 0 < n ∧ n ≤ rst.length ∧ n ≤ 64 - r := by omega
      have htk : rst.take (64 - r) = rst.take n := by
        rw [hn]
        by_cases h : rst.length ≤ 64 - r
        · rw [Nat.min_eq_left h, List.take_length, List.take_of_length_le h]
        · rw [Nat.min_eq_right (by omega)]
      have hpl : (rst.take n).length = n := by rw [List.length_take]; omega
      have HT2 := hide (And.intro hn (And.intro htk hpl))
      go_region_law (refine step_copy_hash rfl (.tmp 16) (.tmp 17) rfl p r f blk N (unhide HK).1 hr64 (64 - r) rfl (some ⟨b, off, none⟩) cap rst rfl (unhide HK).2.1 h0 ?_; intro w1 H1 H2)
      rw [← hn]
      rw [htk] at H1
      clear hsl hrm hrt c72 hn htk hpl
      have c72 := (unhide H1).cell 72 (by omega)
      rw [show hcell f (bput blk r (rst.take n)) N 72 = .int .i64 N from rfl] at c72
      have f72 := (unhide H1).frozen 72
      have HB2 := hide ((unhide H1).size (N + n))
      rw [show ((N + n : Nat) : Int) = (N : Int) + (n : Int) by omega] at HB2
      have HF2 := hide (((Fr.refl (fun k => k = p) wr).drew.trans (unhide H2) (fun _ _ t => t)).setCell (p := ⟨p, 72, none⟩) (fun _ => rfl) (.int .i64 ((N : Int) + (n : Int))))
      clear H1 H2
      obtain ⟨hn0, hn1, hn2⟩ := hnb
      by_cases hcn : cap = n
      ·
        by_cases hwh : r + n = 64
        · have hm : (((N : Int) + (n : Int)) % 64 == 0) = true := by
            have := (unhide HN).2.2
            simp; omega
          go_wp2
          generalize (w1.setCell ⟨p, 72, none⟩ (.int .i64 ((N : Int) + (n : Int)))) = w2 at *
          clear c72 f72 hm
          have hTw := ((unhide HT).frame (unhide HK).2.2.2.1 (by have := (unhide HM).1; omega) (by have := (unhide HM).1; omega)).frame (unhide HF2) (by have := (unhide HM).1; omega) (by have := (unhide HM).1; omega)
          have HTW := hide (hTw.later (Fr.refl _ w2).drew)
          clear hTw
          have hfl : ∀ j, f j < 4294967296 := fun j => by rw [(unhide HN).2.1]; exact absorb_lt _ _ _
          have HFL := hide hfl
          clear hfl
          refine region5_any w2 p f (bput blk r (rst.take n)) (N + n) (unhide HB2) (unhide HTW) (unhide HFL) _ _ _ _ _ _ _ _ _ _ _ _ _ _ _ _ _ _ _ _ _ _ _ _ _ _ _ _ _ _ _ _ _ _ _ _ _ _ _ _ _ _ _ _ _ _ _ (fun _ _ _ _ _ h => h) ?_
          intro w4 k1 k2
          have HZ := hide (And.intro ((unhide HF2).trans k2 (fun _ _ t => t)) (hat_whole (unhide HN).1 (unhide HN).2.1 (unhide HN).2.2 (unhide HT2).2.2 (unhide HK).2.2.2.2 hwh k1))
          clear k1 k2 HTW
          go_wp2
          have hw := write_next ⟨b, off, none⟩ (unhide HD) (unhide HK).2.1 (unhide HK).2.2.1 (unhide HK).2.2.2.1 (unhide HT2).1 h0 hcap (fun h => absurd hcn h) (unhide HZ).1 (unhide HZ).2
          rw [hcn, Nat.sub_self] at hw
          exact ⟨hw, by simp [slen]; omega⟩
        · have hm : (((N : Int) + (n : Int)) % 64 == 0) = false := by
            have := (unhide HN).2.2
            simp; omega
          go_wp2
          have hw := write_next ⟨b, off, none⟩ (unhide HD) (unhide HK).2.1 (unhide HK).2.2.1 (unhide HK).2.2.2.1 (unhide HT2).1 h0 hcap (fun h => absurd hcn h) (unhide HF2) (hat_some (unhide HN).1 (unhide HN).2.1 (unhide HN).2.2 (unhide HT2).2.2 (unhide HK).2.2.2.2 (by omega) (unhide HB2))
          rw [hcn, Nat.sub_self] at hw
          exact ⟨hw, by simp [slen]; omega⟩
      ·
        by_cases hwh : r + n = 64
        · have hm : (((N : Int) + (n : Int)) % 64 == 0) = true := by
            have := (unhide HN).2.2
            simp; omega
          go_wp2
          generalize (w1.setCell ⟨p, 72, none⟩ (.int .i64 ((N : Int) + (n : Int)))) = w2 at *
          clear c72 f72 hm
          have hTw := ((unhide HT).frame (unhide HK).2.2.2.1 (by have := (unhide HM).1; omega) (by have := (unhide HM).1; omega)).frame (unhide HF2) (by have := (unhide HM).1; omega) (by have := (unhide HM).1; omega)
          have HTW := hide (hTw.later (Fr.refl _ w2).drew)
          clear hTw
          have hfl : ∀ j, f j < 4294967296 := fun j => by rw [(unhide HN).2.1]; exact absorb_lt _ _ _
          have HFL := hide hfl
          clear hfl
          refine region5_any w2 p f (bput blk r (rst.take n)) (N + n) (unhide HB2) (unhide HTW) (unhide HFL) _ _ _ _ _ _ _ _ _ _ _ _ _ _ _ _ _ _ _ _ _ _ _ _ _ _ _ _ _ _ _ _ _ _ _ _ _ _ _ _ _ _ _ _ _ _ _ (fun _ _ _ _ _ h => h) ?_
          intro w4 k1 k2
          have HZ := hide (And.intro ((unhide HF2).trans k2 (fun _ _ t => t)) (hat_whole (unhide HN).1 (unhide HN).2.1 (unhide HN).2.2 (unhide HT2).2.2 (unhide HK).2.2.2.2 hwh k1))
          clear k1 k2 HTW
          go_wp2
          exact ⟨write_next ⟨b, off + n, none⟩ (unhide HD) (unhide HK).2.1 (unhide HK).2.2.1 (unhide HK).2.2.2.1 (unhide HT2).1 h0 hcap (fun _ => rfl) (unhide HZ).1 (unhide HZ).2, by simp [slen]; omega⟩
        · have hm : (((N : Int) + (n : Int)) % 64 == 0) = false := by
            have := (unhide HN).2.2
            simp; omega
          go_wp2
          exact ⟨write_next ⟨b, off + n, none⟩ (unhide HD) (unhide HK).2.1 (unhide HK).2.2.1 (unhide HK).2.2.2.1 (unhide HT2).1 h0 hcap (fun _ => rfl) (unhide HF2) (hat_some (unhide HN).1 (unhide HN).2.1 (unhide HN).2.2 (unhide HT2).2.2 (unhide HK).2.2.2.2 (by omega) (unhide HB2)), by simp [slen]; omega⟩
    · obtain rfl : rst = [] := List.eq_nil_of_length_eq_zero (by omega)
      have hd := unhide HD
      rw [List.append_nil] at hd
      have HZ := hide (And.intro (unhide HS).2.2.1 (unhide HS).2.2.2)
      rw [← hd] at HZ
      clear hd
      go_wp2
      go_end0
      exact ⟨rfl, unhide HZ⟩

end Go.Proofs.YtgklgbomfipagaaDoor
