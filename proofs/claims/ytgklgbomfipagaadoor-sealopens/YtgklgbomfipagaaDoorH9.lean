/- The contracts of a hash's Sum, of Sum. -/
import Derived.Test.YtgklgbomfipagaaDoorH7
namespace Go.Proofs.YtgklgbomfipagaaDoor
open Go.RowKit

theorem TabP.gt {w : World} (h : TabP w) : 3 < w.heap.size := World.block_lt_of_cell? _ _ (h.2 0 (by omega))

set_option maxHeartbeats 1000000 in
theorem hsum_any (w : World) (hT : TabP w) (p : Nat) (bs : List UInt8) (hH : HAt w p bs) (hfit : bs.length ≤ 1125899906842000) :
    Calls Tryd.prog 32 #[.pointer (some ⟨p, 0, none⟩)] w fun e w' => ∃ v, e = .returned v ∧ New w (digest bs) v w' := by
  have HT := hide hT
  have HH := hide hH
  clear hT hH
  go_enter Tryd.func32, Tryd.ntmps32
  go_wp2_with fail
  refine (clone_any w p bs (unhide HH)).mono ?_
  rintro e w1 ⟨q, rfl, h1, h2, h3⟩
  have h72 : w1.cell? ⟨p, 72, none⟩ = some (.int .i64 bs.length) := by
    obtain ⟨blk, hb, _⟩ := (unhide HH).later h2
    exact hb.cell 72 (by omega)
  have H1 := hide (And.intro h1 (And.intro h2 h3))
  clear h1 h2 h3
  go_wp2_with fail
  refine (filling_any w1 bs.length (by omega)).mono ?_
  rintro e w2 ⟨v, rfl, g, hrow, hF, hg⟩
  obtain ⟨ao, cap, rfl, hlc, hmx, had, _⟩ := hrow.shape
  have hfl : (fill bs.length).length ≤ 72 := by rw [fill_length]; omega
  have hbat := (hrow.bat (by omega)).2
  have hpos : 0 < (fill bs.length).length := by rw [fill_length]; omega
  have hsep : Sep ao (fill bs.length).length q := by
    intro b off e _
    rw [had (by omega)] at e
    injection e with e
    injection e with e _
    have := (unhide H1).1.lt
    omega
  have H2 := hide (And.intro hbat (And.intro hsep (And.intro hF hlc)))
  clear hbat hsep hF hg hrow had hlc h72 hmx
  go_wp2_with fail
  refine (write_any w2 (((unhide HT).later (unhide H1).2.1).later (unhide H2).2.2.1) q bs ((unhide H1).1.later (unhide H2).2.2.1) (by have := (unhide HT).gt; have := (unhide H1).2.2; omega) ao cap (fill bs.length) (unhide H2).1 (unhide H2).2.2.2 (unhide H2).2.1 (by omega)).mono ?_
  rintro e w3 ⟨rfl, ⟨blk, k1, _⟩, k3⟩
  have hF3 : Fr (fun _ => False) w w3 := ((unhide H1).2.1.trans (unhide H2).2.2.1 (fun _ _ t => t)).trans k3 (fun i hi t => by have := (unhide H1).2.2; omega)
  obtain ⟨f, hf⟩ : ∃ f, f = absorb (bs ++ fill bs.length) ((bs ++ fill bs.length).length / 64) := ⟨_, rfl⟩
  rw [← hf] at k1
  have H3 := hide (And.intro k1 hF3)
  have hfl2 : ∀ j, f j < 4294967296 := fun j => by rw [hf]; exact absorb_lt _ _ _
  have HL := hide hfl2
  have hd : digest bs = wbytes f 8 := by rw [hf]; rfl
  have HD := hide hd
  clear k1 k3 hF3 hf hfl2 hd H2 H1
  go_wp2_with (refine wpList_load_arr rfl 51 (.tmp 15) rfl q 0 rfl 8 (wv f) _ (fun j hj => ?hc) Tryd.underlying51 rfl n51 ?nx)
  case hc =>
    rw [Nat.zero_add, (unhide H3).1.cell j (by omega)]
    unfold hcell wv
    rw [if_pos hj]
  go_wp2_with fail
  refine (bytes_any w3 f (unhide HL)).mono ?_
  rintro e w4 ⟨v, rfl, g4, m1, m2, m3⟩
  have H4 := hide (And.intro m1 (And.intro ((unhide H3).2.trans m2 (fun _ _ t => t)) (Nat.le_trans (unhide H3).2.size m3)))
  clear m1 m2 m3
  go_wp2
  go_ret
  rw [unhide HD]
  exact ⟨_, rfl, g4, unhide H4⟩

theorem sep_row {w : World} {ao : Option Addr} {cap n p : Nat} {bs : List UInt8} (h : BAt w ao cap bs) (hn : bs.length = n) (hp : w.heap.size ≤ p) : Sep ao n p := by
  intro b off e h0
  obtain ⟨b0, off0, e0, hc⟩ := h.2.1 (by omega)
  rw [e] at e0
  injection e0 with e0
  injection e0 with e0 _
  have h9 : b0 < w.heap.size := World.block_lt_of_cell? _ _ (hc 0 (by omega))
  omega

theorem sum_any (w : World) (hT : TabP w) (ao : Option Addr) (cap : Nat) (bs : List UInt8) (hB : BAt w ao cap bs) (hcap : bs.length ≤ cap) :
    Calls Tryd.prog 24 #[.slice ao bs.length cap] w fun e w' => ∃ v, e = .returned v ∧ New w (digest bs) v w' := by
  have HT := hide hT
  have HB := hide hB
  clear hT hB
  go_enter Tryd.func24, Tryd.ntmps24
  go_wp2_with fail
  refine (new_any w (unhide HT)).mono ?_
  rintro e w1 ⟨p, rfl, h1, h2, h3⟩
  have H1 := hide (And.intro h1 (And.intro h2 h3))
  clear h1 h2 h3
  have hsm := (unhide HB).2.2
  go_wp2_with fail
  refine (write_any w1 ((unhide HT).later (unhide H1).2.1) p [] (unhide H1).1 (by have := (unhide HT).gt; have := (unhide H1).2.2; omega) ao cap bs ((unhide HB).later (unhide H1).2.1) hcap (sep_row (unhide HB) rfl (unhide H1).2.2) (by simp; omega)).mono ?_
  rintro e w2 ⟨rfl, k1, k2⟩
  have hF2 : Fr (fun _ => False) w w2 := (unhide H1).2.1.trans k2 (fun i hi t => by have := (unhide H1).2.2; omega)
  have H2 := hide (And.intro k1 hF2)
  clear k1 k2 hF2 H1
  go_wp2_with fail
  refine (hsum_any w2 ((unhide HT).later (unhide H2).2) p bs (unhide H2).1 (by omega)).mono ?_
  rintro e w3 ⟨v, rfl, g, m1, m2, m3⟩
  have H4 := hide (And.intro m1 (And.intro ((unhide H2).2.trans m2 (fun _ _ t => t)) (Nat.le_trans (unhide H2).2.size m3)))
  clear m1 m2 m3
  go_wp2
  go_ret
  exact ⟨_, rfl, g, unhide H4⟩

end Go.Proofs.YtgklgbomfipagaaDoor
