/- The document's own under and Mac. -/
import Derived.Test.YtgklgbomfipagaaDoorR5
import Derived.Test.YtgklgbomfipagaaDoorS5
namespace Go.Proofs.YtgklgbomfipagaaDoor
open Go.RowKit

/-- What lies in the pad when so many bytes of it are under the number. -/
def undG (p : List UInt8) (x : UInt8) (i j : Nat) : Int := if j < i then ((p.getD j 0 ^^^ x).toNat : Int) else ((p.getD j 0).toNat : Int)

def Undr (w wr : World) (g : Nat) (p : List UInt8) (x : UInt8) (i : Nat) : Prop :=
  Fr (fun _ => False) w wr ∧ w.heap.size ≤ g ∧ ∀ j, j < 64 → wr.cell? ⟨g, j, none⟩ = some (.int .u8 (undG p x i j)) ∧ wr.frozen? ⟨g, j, none⟩ = false

theorem Undr.start {w wr : World} {g : Nat} {p : List UInt8} (x : UInt8) (hp : p.length = 64) (hF : Fr (fun _ => False) w wr) (hg : w.heap.size ≤ g) (h : Row wr (.slice (some ⟨g, 0, none⟩) 64 64) g p) : Undr w wr g p x 0 := by
  refine ⟨hF, hg, fun j hj => ⟨?_, ?_⟩⟩
  · rw [h.cells j (by omega)]
    simp [undG, List.getD, show j < p.length by omega]
  · obtain ⟨_, _, e, _, _, _, hr⟩ := h.shape
    injection e with _ _ e
    subst e
    exact (hr j hj).2

theorem Undr.next {w wr : World} {g : Nat} {p : List UInt8} {x : UInt8} {i : Nat} (h : Undr w wr g p x i) (hi : i < 64) : Undr w (wr.setCell ⟨g, i, none⟩ (.int .u8 ((p.getD i 0 ^^^ x).toNat : Int))) g p x (i + 1) := by
  refine ⟨h.1.setCell (p := ⟨g, i, none⟩) (fun t => absurd t (by have := h.2.1; simp only []; omega)) _, h.2.1, fun j hj => ⟨?_, by rw [World.frozen?_setCell]; exact (h.2.2 j hj).2⟩⟩
  by_cases e : j = i
  · subst e
    rw [World.cell?_setCell_same _ _ _ (h.2.2 j hj).1]
    unfold undG
    rw [if_pos (by omega)]
  · rw [World.cell?_setCell_other _ _ _ _ (by intro h; injection h with h1 h2; exact e h2.symm), (h.2.2 j hj).1]
    unfold undG
    by_cases h2 : j < i
    · rw [if_pos h2, if_pos (by omega)]
    · rw [if_neg h2, if_neg (by omega)]

theorem Undr.row {w wr : World} {g : Nat} {p : List UInt8} {x : UInt8} (h : Undr w wr g p x 64) (hp : p.length = 64) : New w (und p x) (.slice (some ⟨g, 0, none⟩) 64 64) wr := by
  have hl : (und p x).length = 64 := by rw [und_length, hp]
  refine ⟨g, ⟨⟨_, _, by rw [hl], by omega, by simp [maxLen], fun _ => rfl, fun j hj => ⟨by rw [(h.2.2 j hj).1]; rfl, (h.2.2 j hj).2⟩⟩, fun j hj => ?_⟩, h.1, h.2.1⟩
  rw [(h.2.2 j (by omega)).1]
  have : undG p x 64 j = undF p x 64 j := by unfold undG undF; rw [if_pos (by omega), if_pos (by omega)]
  rw [this, undF_all p x j hp hj]

set_option maxHeartbeats 1000000 in
theorem runder_any (w : World) (hT : TabR w) (s : List UInt8) (hs : s.length ≤ 200) (x : UInt8) : Calls Tryd.prog 27 #[.string ⟨s.toArray⟩, .int .u8 x.toNat] w fun e w' => ∃ ao cap, e = .returned (.slice ao 64 cap) ∧ New w (und (pad s) x) (.slice ao 64 cap) w' := by
  have HT := hide hT
  clear hT
  obtain ⟨C, w1, hcv, H1⟩ := conv_str w s (by omega)
  have hmk := make64
  have hb1 := (unhide H1).1.batn (by omega)
  by_cases hlt : 64 < s.length
  · have hd : decide ((64 : Int) < (s.length : Int)) = true := by simp; omega
    have HS := hide (rsum_any w1 ((unhide HT).later (unhide H1).2.1) _ C s hb1.1 (by omega))
    have hk : pad s = to64 (digest s) := by unfold pad keyed; rw [if_pos hlt]
    have HK := hide hk
    clear hk hb1
    go_enter Tryd.func27, Tryd.ntmps27
    go_wp2_with fail
    refine (unhide HS).mono ?_
    rintro e w2 ⟨v, rfl, g, r1, r2, r3⟩
    obtain ⟨ao, cap, rfl, hlc, _, had, _⟩ := r1.shape
    have hb2 := (r1.bat (by rw [dig_len]; omega)).2
    obtain ⟨w3, hcp, H3⟩ := copy64 w2 ao cap (digest s) hb2 (by rw [dig_len]; omega)
    have hF := (unhide H1).2.1.trans r2 (fun _ _ t => t)
    have h3 := (unhide H3).1
    rw [← unhide HK] at h3
    have HU := hide (Undr.start x (pad_length s) (hF.trans (unhide H3).2 (fun _ _ t => t)) hF.size h3)
    rw [dig_len] at hcp ⊢
    clear r1 r2 r3 hb2 had hlc HS HK H3 h3 hF H1
    go_wp2
    obtain ⟨g3, hg3⟩ : ∃ g, w2.heap.size = g := ⟨_, rfl⟩
    rw [hg3] at HU ⊢
    clear hg3 hcp hmk
    obtain ⟨p, hp⟩ : ∃ p, p = pad s := ⟨_, rfl⟩
    rw [← hp] at HU
    have HP := hide hp
    clear hp
    go_loopw [7] (fun iv wr => ∃ i : Nat, i ≤ 64 ∧ iv = .int .i64 i ∧ Hid (Undr w wr g3 p x i)) (fun iv _ => 64 - (intOf iv).toNat)
    case atStart => exact ⟨0, Nat.zero_le _, rfl, unhide HU⟩
    case round =>
      clear HU
      obtain ⟨i, hi, rfl, HI⟩ := hrel
      by_cases hlt : i < 64
      · have ci := ((unhide HI).2.2 i hlt).1
        have fi := ((unhide HI).2.2 i hlt).2
        rw [show undG p x i i = ((p.getD i 0).toNat : Int) by unfold undG; rw [if_neg (by omega)]] at ci
        have hx : bits .xor .u8 ((p.getD i 0).toNat : Int) (x.toNat : Int) = ((p.getD i 0 ^^^ x).toNat : Int) := by
          rw [u8_xor_nat _ _ (p.getD i 0).toNat_lt x.toNat_lt, UInt8.toNat_xor]
        have HN := hide ((unhide HI).next hlt)
        generalize p.getD i 0 = c at *
        go_wp2
        exact ⟨⟨i + 1, by omega, by go_num, unhide HN⟩, by simp [intOf]; omega⟩
      · obtain rfl : i = 64 := by omega
        have hn := (unhide HI).row (by rw [unhide HP]; exact pad_length s)
        rw [unhide HP] at hn
        have HN := hide hn
        clear hn
        go_wp2
        go_ret
        exact ⟨_, _, rfl, unhide HN⟩
  · have hd : decide ((64 : Int) < (s.length : Int)) = false := by simp; omega
    have hk : pad s = to64 s := by unfold pad keyed; rw [if_neg hlt]
    obtain ⟨w3, hcp, H3⟩ := copy64 w1 _ C s hb1.1 (by omega)
    have h3 := (unhide H3).1
    rw [← hk] at h3
    have HU := hide (Undr.start x (pad_length s) ((unhide H1).2.1.trans (unhide H3).2 (fun _ _ t => t)) (unhide H1).2.1.size h3)
    clear hk hb1 h3 H3 H1
    go_enter Tryd.func27, Tryd.ntmps27
    go_wp2
    obtain ⟨g3, hg3⟩ : ∃ g, w1.heap.size = g := ⟨_, rfl⟩
    rw [hg3] at HU ⊢
    clear hg3 hcp hmk
    obtain ⟨p, hp⟩ : ∃ p, p = pad s := ⟨_, rfl⟩
    rw [← hp] at HU
    have HP := hide hp
    clear hp
    go_loopw [7] (fun iv wr => ∃ i : Nat, i ≤ 64 ∧ iv = .int .i64 i ∧ Hid (Undr w wr g3 p x i)) (fun iv _ => 64 - (intOf iv).toNat)
    case atStart => exact ⟨0, Nat.zero_le _, rfl, unhide HU⟩
    case round =>
      clear HU
      obtain ⟨i, hi, rfl, HI⟩ := hrel
      by_cases hlt : i < 64
      · have ci := ((unhide HI).2.2 i hlt).1
        have fi := ((unhide HI).2.2 i hlt).2
        rw [show undG p x i i = ((p.getD i 0).toNat : Int) by unfold undG; rw [if_neg (by omega)]] at ci
        have hx : bits .xor .u8 ((p.getD i 0).toNat : Int) (x.toNat : Int) = ((p.getD i 0 ^^^ x).toNat : Int) := by
          rw [u8_xor_nat _ _ (p.getD i 0).toNat_lt x.toNat_lt, UInt8.toNat_xor]
        have HN := hide ((unhide HI).next hlt)
        generalize p.getD i 0 = c at *
        go_wp2
        exact ⟨⟨i + 1, by omega, by go_num, unhide HN⟩, by simp [intOf]; omega⟩
      · obtain rfl : i = 64 := by omega
        have hn := (unhide HI).row (by rw [unhide HP]; exact pad_length s)
        rw [unhide HP] at hn
        have HN := hide hn
        clear hn
        go_wp2
        go_ret
        exact ⟨_, _, rfl, unhide HN⟩

end Go.Proofs.YtgklgbomfipagaaDoor
