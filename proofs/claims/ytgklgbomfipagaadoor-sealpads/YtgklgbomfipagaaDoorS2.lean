/- The contract of the closure that digests bytes behind a pad under a number. -/
import Derived.Test.YtgklgbomfipagaaDoorS1
import Derived.Laws.BitsAllLaws
namespace Go.Proofs.YtgklgbomfipagaaDoor
open Go.RowKit

/-- What lies in the first bytes when so many were made. -/
def undF (p : List UInt8) (x : UInt8) (i j : Nat) : Int := if j < i then ((p.getD j 0 ^^^ x).toNat : Int) else 0

theorem undF_all (p : List UInt8) (x : UInt8) (j : Nat) (hp : p.length = 64) (hj : j < (und p x).length) : undF p x 64 j = ((und p x)[j].toNat : Int) := by
  have h : j < p.length := by rw [und_length] at hj; exact hj
  unfold undF
  rw [if_pos (by omega)]
  simp [und, List.getD, h]

def Undg (w wr : World) (p : List UInt8) (x : UInt8) (i : Nat) : Prop :=
  Fr (fun _ => False) w wr ∧ w.heap.size < wr.heap.size ∧ ∀ j, j < 64 → wr.cell? ⟨w.heap.size, j, none⟩ = some (.int .u8 (undF p x i j)) ∧ wr.frozen? ⟨w.heap.size, j, none⟩ = false

theorem Undg.start (w : World) (p : List UInt8) (x : UInt8) : Undg w (w.alloc (.cells (madeCells #[.int .u8 0] 64) 5)) p x 0 := by
  refine ⟨(Fr.refl _ w).alloc _, by simp, fun j hj => ⟨?_, World.frozen?_alloc_new _ _ _ _⟩⟩
  rw [World.cell?_alloc_new]
  simp [madeCells, hj, Nat.mod_one, undF]

theorem Undg.next {w wr : World} {p : List UInt8} {x : UInt8} {i : Nat} (h : Undg w wr p x i) (hi : i < 64) : Undg w (wr.setCell ⟨w.heap.size, i, none⟩ (.int .u8 ((p.getD i 0 ^^^ x).toNat : Int))) p x (i + 1) := by
  refine ⟨h.1.setCell (p := ⟨w.heap.size, i, none⟩) (fun t => absurd t (Nat.lt_irrefl _)) _, by simp [World.setCell]; exact h.2.1, fun j hj => ⟨?_, by rw [World.frozen?_setCell]; exact (h.2.2 j hj).2⟩⟩
  by_cases e : j = i
  · subst e
    rw [World.cell?_setCell_same _ _ _ (h.2.2 j hj).1]
    unfold undF
    rw [if_pos (by omega)]
  · rw [World.cell?_setCell_other _ _ _ _ (by intro h; injection h with h1 h2; exact e h2.symm), (h.2.2 j hj).1]
    unfold undF
    by_cases h2 : j < i
    · rw [if_pos h2, if_pos (by omega)]
    · rw [if_neg h2, if_neg (by omega)]

theorem Undg.row {w wr : World} {p : List UInt8} {x : UInt8} (h : Undg w wr p x 64) (hp : p.length = 64) : Row wr (.slice (some ⟨w.heap.size, 0, none⟩) (und p x).length 64) w.heap.size (und p x) := by
  have hl : (und p x).length = 64 := by rw [und_length, hp]
  refine ⟨⟨_, _, rfl, by omega, by simp [maxLen], fun _ => rfl, fun j hj => ⟨by rw [(h.2.2 j hj).1]; rfl, (h.2.2 j hj).2⟩⟩, fun j hj => ?_⟩
  rw [(h.2.2 j (by omega)).1, undF_all p x j hp hj]

set_option maxHeartbeats 1000000 in
theorem under_any (w : World) (hT : TabP w) (x : UInt8) (pc : Nat) (po : Option Addr) (pcap : Nat) (p : List UInt8) (hp : p.length = 64) (hP : BAt w po pcap p) (hc : w.cell? ⟨pc, 0, none⟩ = some (.slice po 64 pcap)) (bo : Option Addr) (bcap : Nat) (bs : List UInt8) (hB : BAt w bo bcap bs) (hcap : bs.length ≤ bcap) :
    Calls Tryd.prog 34 #[.int .u8 x.toNat, .slice bo bs.length bcap, .pointer (some ⟨pc, 0, none⟩)] w fun e w' => ∃ ao cap, e = .returned (.slice ao 32 cap) ∧ New w (digest (und p x ++ bs)) (.slice ao 32 cap) w' := by
  have HT := hide hT
  have HB := hide hB
  have hsm := hB.2.2
  obtain ⟨b, off, rfl, hcells⟩ := hP.2.1 (by omega)
  have HP := hide (And.intro hp hcells)
  have hmk := make64
  have hc1 : (w.alloc (.cells (madeCells #[.int .u8 0] 64) 5)).cell? ⟨pc, 0, none⟩ = some (.slice (some ⟨b, off, none⟩) 64 pcap) := (World.cell?_alloc_lt _ _ _ (World.block_lt_of_cell? _ _ hc)).trans hc
  have HS := hide (Undg.start w p x)
  clear hT hB hP hcells hc hp
  go_enter Tryd.func34, Tryd.ntmps34
  go_wp2
  generalize (w.alloc (.cells (madeCells #[.int .u8 0] 64) 5)) = w0 at *
  clear hmk hc1
  go_loopw [7, 8, 13] (fun _ _ iv wr => ∃ i : Nat, i ≤ 64 ∧ iv = .int .i64 i ∧ Hid (Undg w wr p x i)) (fun _ _ iv _ => 64 - (intOf iv).toNat)
  case atStart => exact ⟨0, Nat.zero_le _, rfl, unhide HS⟩
  case round =>
    clear HS
    obtain ⟨i, hi, rfl, HI⟩ := hrel
    by_cases hlt : i < 64
    · have ci := ((unhide HI).2.2 i hlt).1
      have fi := ((unhide HI).2.2 i hlt).2
      have hpi : i < p.length := by rw [(unhide HP).1]; exact hlt
      have cb : wr.cell? ⟨b, off + i, none⟩ = some (.int .u8 (p.getD i 0).toNat) := by
        rw [(unhide HI).1.cell (a := ⟨b, off + i, none⟩) (World.block_lt_of_cell? _ _ ((unhide HP).2 i hpi)) (fun t => t), (unhide HP).2 i hpi]
        simp [List.getD, hpi]
      have hx : bits .xor .u8 ((p.getD i 0).toNat : Int) (x.toNat : Int) = ((p.getD i 0 ^^^ x).toNat : Int) := by
        rw [u8_xor_nat _ _ (p.getD i 0).toNat_lt x.toNat_lt, UInt8.toNat_xor]
      have HN := hide ((unhide HI).next hlt)
      generalize p.getD i 0 = c at *
      go_wp2
      exact ⟨⟨i + 1, by omega, by go_num, unhide HN⟩, by simp [intOf]; omega⟩
    · obtain rfl : i = 64 := by omega
      have hT1 := (unhide HT).later (unhide HI).1
      have HT1 := hide hT1
      have hrow := (unhide HI).row (unhide HP).1
      have hul : (und p x).length = 64 := by rw [und_length]; exact (unhide HP).1
      have HR := hide (And.intro hrow (And.intro (unhide HI).1 (And.intro (unhide HI).2.1 hul)))
      obtain ⟨U, hU⟩ : ∃ U, U = und p x := ⟨_, rfl⟩
      rw [← hU] at HR
      have HU := hide hU
      clear hT1 hrow hul hU
      go_wp2_with fail
      refine (new_any wr (unhide HT1)).mono ?_
      rintro e w1 ⟨q, rfl, h1, h2, h3⟩
      have hq3 : 3 < q := by have := (unhide HT1).gt; omega
      have hwq : w.heap.size < q := by have := (unhide HR).2.2.1; omega
      have H1 := hide (And.intro h1 (And.intro h2 h3))
      clear h1 h2 h3
      go_wp2_with fail
      have hwr := write_any w1 ((unhide HT1).later (unhide H1).2.1) q [] (unhide H1).1 hq3 (some ⟨w.heap.size, 0, none⟩) 64 U (((unhide HR).1.frame (unhide H1).2.1 (fun t => t)).bat (by rw [(unhide HR).2.2.2]; omega)).2 (by rw [(unhide HR).2.2.2]; omega) (fun b off e _ => by injection e with e; injection e with e _; omega) (by rw [(unhide HR).2.2.2]; simp)
      rw [(unhide HR).2.2.2] at hwr
      refine hwr.mono ?_
      rintro e w2 ⟨rfl, k1, k2⟩
      clear hwr
      have hF2 : Fr (fun _ => False) w w2 := (((unhide HR).2.1.trans (unhide H1).2.1 (fun _ _ t => t))).trans k2 (fun i hi t => by omega)
      have H2 := hide (And.intro k1 hF2)
      clear k1 k2 hF2 H1
      go_wp2_with fail
      refine (write_any w2 ((unhide HT).later (unhide H2).2) q ([] ++ U) (unhide H2).1 hq3 bo bcap bs ((unhide HB).later (unhide H2).2) hcap (sep_row (unhide HB) rfl (by omega)) (by rw [List.nil_append, (unhide HR).2.2.2]; omega)).mono ?_
      rintro e w3 ⟨rfl, k1, k2⟩
      have hF3 : Fr (fun _ => False) w w3 := (unhide H2).2.trans k2 (fun i hi t => by omega)
      have H3 := hide (And.intro k1 hF3)
      clear k1 k2 hF3 H2
      go_wp2_with fail
      refine (hsum_any w3 ((unhide HT).later (unhide H3).2) q ([] ++ U ++ bs) (unhide H3).1 (by rw [List.nil_append, List.length_append, (unhide HR).2.2.2]; omega)).mono ?_
      rintro e w4 ⟨v, rfl, hN⟩
      have hN2 := hN.on (unhide H3).2
      rw [List.nil_append] at hN2
      obtain ⟨ao, cap, rfl⟩ : ∃ ao cap, v = .slice ao 32 cap := by
        obtain ⟨g, r, _⟩ := hN2
        obtain ⟨ao, cap, e, _⟩ := r.shape
        rw [dig_len] at e
        exact ⟨ao, cap, e⟩
      rw [unhide HU] at hN2
      have H4 := hide hN2
      clear hN hN2
      go_wp2
      go_ret
      exact ⟨_, _, rfl, unhide H4⟩

end Go.Proofs.YtgklgbomfipagaaDoor
