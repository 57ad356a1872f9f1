/- The contracts of mac and sealOf. -/
import Derived.Test.YtgklgbomfipagaaDoorS2
namespace Go.Proofs.YtgklgbomfipagaaDoor
open Go.RowKit

theorem Row.batn {w : World} {ao : Option Addr} {n cap g : Nat} {bs : List UInt8} (h : Row w (.slice ao n cap) g bs) (hfit : n ≤ 140737488355328) : BAt w ao cap bs ∧ bs.length = n ∧ n ≤ cap := by
  obtain ⟨ao0, cap0, hv0, h1, _⟩ := h.shape
  injection hv0 with e1 e2 e3
  have := h.bat (by omega)
  exact ⟨this.2, this.1.symm, by omega⟩

theorem mac_any (w : World) (hT : TabP w) (s : List UInt8) (hs : s.length ≤ 200) (bo : Option Addr) (bcap : Nat) (bs : List UInt8) (hB : BAt w bo bcap bs) (hcap : bs.length ≤ bcap) :
    Calls Tryd.prog 26 #[.string ⟨s.toArray⟩, .slice bo bs.length bcap] w fun e w' => ∃ ao cap, e = .returned (.slice ao 32 cap) ∧ New w (hmac s bs) (.slice ao 32 cap) w' := by
  have HT := hide hT
  have HB := hide hB
  clear hT hB
  go_enter Tryd.func26, Tryd.ntmps26
  go_wp2_with fail
  refine (padOf_any w (unhide HT) s hs).mono ?_
  rintro e w1 ⟨ao, cap, rfl, g, r1, r2, r3⟩
  have hb := r1.batn (by omega)
  have HR := hide (And.intro hb.1 r2)
  clear r1 r2 r3 hb
  go_wp2_with fail
  have HW : Hid (Fr (fun _ => False) w1 (w1.alloc (.cells #[.slice ao 64 cap] 22)) ∧ (w1.alloc (.cells #[.slice ao 64 cap] 22)).cell? ⟨w1.heap.size, 0, none⟩ = some (.slice ao 64 cap)) := ⟨(Fr.refl _ w1).alloc _, World.cell?_alloc_new w1 _ _ 0⟩
  generalize (w1.alloc (.cells #[.slice ao 64 cap] 22)) = w2 at *
  have hF2 := (unhide HR).2.trans (unhide HW).1 (fun _ _ t => t)
  refine (under_any w2 ((unhide HT).later hF2) 54 w1.heap.size ao cap (pad s) (pad_length s) ((unhide HR).1.later (unhide HW).1) (unhide HW).2 bo bcap bs ((unhide HB).later hF2) hcap).mono ?_
  rintro e w3 ⟨io, ic, rfl, g3, i1, i2, i3⟩
  have hb3 := i1.batn (by omega)
  have hF3 := hF2.trans i2 (fun _ _ t => t)
  have HU := hide (under_any w3 ((unhide HT).later hF3) 92 w1.heap.size ao cap (pad s) (pad_length s) (((unhide HR).1.later (unhide HW).1).later i2) ((i2.cell (a := ⟨w1.heap.size, 0, none⟩) (World.block_lt_of_cell? _ _ (unhide HW).2) (fun t => t)).trans (unhide HW).2) io ic (digest (und (pad s) 54 ++ bs)) hb3.1 (by omega))
  rw [dig_len] at HU
  have HF3 := hide hF3
  clear i1 i2 i3 hb3 hF3 hF2 HW HR
  go_wp2_with fail
  refine (unhide HU).mono ?_
  rintro e w4 ⟨ro, rc, rfl, hN⟩
  have H4 := hide (hN.on (unhide HF3))
  clear hN
  go_wp2
  go_ret
  exact ⟨_, _, rfl, unhide H4⟩

/-- The first bytes of a row. -/
theorem Row.front {w : World} {ao : Option Addr} {n cap g : Nat} {bs : List UInt8} (h : Row w (.slice ao n cap) g bs) (k : Nat) (hk : k ≤ n) : Row w (.slice ao k cap) g (bs.take k) := by
  obtain ⟨ao0, cap0, hv0, h1, h2, h3, h4⟩ := h.shape
  injection hv0 with e1 e2 e3
  subst e1 e3
  have hl : (bs.take k).length = k := by rw [List.length_take]; omega
  refine ⟨⟨ao, cap, by rw [hl], by omega, h2, h3, h4⟩, fun j hj => ?_⟩
  rw [h.cells j (by omega), List.getElem_take]

theorem sealof_any (w : World) (hT : TabP w) (s : List UInt8) (hs : s.length ≤ 200) (bo : Option Addr) (bcap : Nat) (bs : List UInt8) (hB : BAt w bo bcap bs) (hcap : bs.length ≤ bcap) :
    Calls Tryd.prog 29 #[.string ⟨s.toArray⟩, .slice bo bs.length bcap] w fun e w' => ∃ ao cap, e = .returned (.slice ao 16 cap) ∧ New w ((hmac s bs).take 16) (.slice ao 16 cap) w' := by
  have HM := hide (mac_any w hT s hs bo bcap bs hB hcap)
  clear hT hB
  go_enter Tryd.func29, Tryd.ntmps29
  go_wp2_with fail
  refine (unhide HM).mono ?_
  rintro e w1 ⟨ao, cap, rfl, g, r1, r2, r3⟩
  have h32 := (r1.batn (by omega)).2.2
  have HR := hide (And.intro (r1.front 16 (by omega)) (And.intro r2 r3))
  clear r1 r2 r3
  go_wp2
  go_ret
  exact ⟨_, _, rfl, g, unhide HR⟩

end Go.Proofs.YtgklgbomfipagaaDoor
