/- The law's own examples (awake). -/
import Derived.Test.YtchdjfhenjbcnaaDoorH9
import Derived.Lib.SlBytesConst
namespace Go.Proofs.YtchdjfhenjbcnaaDoor
open Go.RowKit

set_option maxHeartbeats 2000000 in
theorem awake_any (w : World) (hT : TabP w) : Calls Tryd.prog 7 #[] w fun e w' => e = .returned (.bool true) ∧ Fr (fun _ => False) w w' := by
  have HT := hide hT
  clear hT
  have hcv := fun (w : World) (C : Array Value) (n c : Nat) => Lib.run_convert_bytes_const (P := Tryd.prog) w 22 5 C n c Tryd.underlying22 Tryd.underlying5
  go_enter Tryd.func7, Tryd.ntmps7
  go_wp2_with fail
  have hF0 := (Fr.refl (fun _ => False) w).alloc (.cells (bytesV [97, 98, 99]).toArray 5 (3, 4))
  refine (sum_any _ ((unhide HT).later hF0) _ 3 [97, 98, 99] (bat_lit w [97, 98, 99] 5 _ (by simp)) (by simp)).mono ?_
  rw [aw_abc]
  rintro e w1 ⟨v, rfl, g, r1, r2, r3⟩
  obtain ⟨ao, cap, rfl, hlc, _, had, _⟩ := r1.shape
  have hao : ao = some ⟨g, 0, none⟩ := had (by simp at hlc; omega)
  subst hao
  have HR := hide (And.intro r1 (hF0.trans r2 (fun _ _ t => t)))
  clear r1 r2 r3 hF0 hlc had
  go_wp2_with fail
  refine (new_any w1 ((unhide HT).later (unhide HR).2)).mono ?_
  rintro e w2 ⟨p, rfl, h1, h2, h3⟩
  have HR2 := hide (And.intro ((unhide HR).1.bat (by simp)).2 (And.intro (unhide HR).2 (And.intro h1 (And.intro h2 h3))))
  clear h1 h2 h3 HR
  go_wp2_with fail
  have h3p : 3 < p := by
    have := ((unhide HT).later (unhide HR2).2.1).gt
    have := (unhide HR2).2.2.2.2
    omega
  have hF2 := (Fr.refl (fun _ => False) w2).alloc (.cells (bytesV [97, 98]).toArray 5 (2, 3))
  have hTw := (((unhide HT).later (unhide HR2).2.1).later (unhide HR2).2.2.2.1).later hF2
  refine (write_any _ hTw p [] ((unhide HR2).2.2.1.later hF2) h3p (some ⟨w2.heap.size, 0, none⟩) 2 [97, 98] (bat_lit w2 [97, 98] 5 _ (by simp)) (by simp) (fun b off e _ => by
    injection e with e
    injection e with e _
    have := (unhide HR2).2.2.1.lt
    omega) (by simp)).mono ?_
  rintro e w3 ⟨rfl, k1, k2⟩
  have HW := hide (And.intro hTw (And.intro k1 (hF2.mono (T := fun k => k = p) (fun _ _ t => t.elim) |>.trans k2 (fun _ _ t => t))))
  clear hTw k1 k2 hF2
  go_wp2_with fail
  have hF3 := (Fr.refl (fun _ => False) w3).alloc (.cells (bytesV [99]).toArray 5 (1, 2))
  have hF23 := (unhide HW).2.2.trans hF3 (fun _ _ t => t.elim)
  have hTw := (((unhide HT).later (unhide HR2).2.1).later (unhide HR2).2.2.2.1).frame hF23 (by omega) (by omega)
  refine (write_any _ hTw p ([] ++ [97, 98]) ((unhide HW).2.1.later hF3) h3p (some ⟨w3.heap.size, 0, none⟩) 1 [99] (bat_lit w3 [99] 5 _ (by simp)) (by simp) (fun b off e _ => by
    injection e with e
    injection e with e _
    have := (unhide HW).2.1.lt
    omega) (by simp)).mono ?_
  rintro e w4 ⟨rfl, k1, k2⟩
  have hF24 := hF23.trans k2 (fun _ _ t => t)
  have hgp : g ≠ p := by
    have := (unhide HR2).2.2.2.2
    have h9 := (unhide HR2).1.2.1 (by simp)
    obtain ⟨b0, off0, e0, hc⟩ := h9
    injection e0 with e0
    injection e0 with e0 _
    have h9 : b0 < w1.heap.size := World.block_lt_of_cell? _ _ (hc 0 (by simp))
    omega
  have hba := ((unhide HR2).1.later (unhide HR2).2.2.2.1).keep (p := p) (fun b off e _ => by
    injection e with e
    injection e with e _
    omega) hF24
  have hTw4 := (((unhide HT).later (unhide HR2).2.1).later (unhide HR2).2.2.2.1).frame hF24 (by omega) (by omega)
  have hFw4 : Fr (fun _ => False) w w4 := ((unhide HR2).2.1.trans (unhide HR2).2.2.2.1 (fun _ _ t => t)).trans hF24 (fun i hi t => by
    have := (unhide HR2).2.2.2.2
    have := (unhide HR2).2.1.size
    omega)
  have hc := hba.2.1 (by simp)
  have c0 : w4.cell? ⟨g, 0, none⟩ = some (.int .u8 186) ∧ w4.cell? ⟨g, 1, none⟩ = some (.int .u8 120) ∧ w4.cell? ⟨g, 31, none⟩ = some (.int .u8 173) := by
    obtain ⟨b0, off0, e0, hc⟩ := hc
    injection e0 with e0
    injection e0 with e0 e1
    subst e0 e1
    exact ⟨by simpa using hc 0 (by simp), by simpa using hc 1 (by simp), by simpa using hc 31 (by simp)⟩
  obtain ⟨c0, c1, c31⟩ := c0
  have cv : ∀ wx, Fr (fun _ => False) w4 wx → (convert 22 9 (.slice (some ⟨g, 0, none⟩) 32 cap)).run Tryd.prog wx = .ok (.string ⟨#[0xba, 0x78, 0x16, 0xbf, 0x8f, 0x01, 0xcf, 0xea, 0x41, 0x41, 0x40, 0xde, 0x5d, 0xae, 0x22, 0x23, 0xb0, 0x03, 0x61, 0xa3, 0x96, 0x17, 0x7a, 0x9c, 0xb4, 0x10, 0xff, 0x61, 0xf2, 0x00, 0x15, 0xad]⟩) wx := fun wx hx => conv_bytes (hba.later hx)
  have HC := hide (And.intro cv (And.intro k1 (And.intro hTw4 hFw4)))
  have hdg : digest ([] ++ [97, 98] ++ [99]) = [0xba, 0x78, 0x16, 0xbf, 0x8f, 0x01, 0xcf, 0xea, 0x41, 0x41, 0x40, 0xde, 0x5d, 0xae, 0x22, 0x23, 0xb0, 0x03, 0x61, 0xa3, 0x96, 0x17, 0x7a, 0x9c, 0xb4, 0x10, 0xff, 0x61, 0xf2, 0x00, 0x15, 0xad] := aw_abc
  have HD := hide hdg
  clear k1 k2 hF23 hF24 hF3 hTw hba hTw4 hFw4 hc cv HW HR2 hcv hdg
  obtain ⟨D, hD⟩ : ∃ D : List UInt8, D = [0xba, 0x78, 0x16, 0xbf, 0x8f, 0x01, 0xcf, 0xea, 0x41, 0x41, 0x40, 0xde, 0x5d, 0xae, 0x22, 0x23, 0xb0, 0x03, 0x61, 0xa3, 0x96, 0x17, 0x7a, 0x9c, 0xb4, 0x10, 0xff, 0x61, 0xf2, 0x00, 0x15, 0xad] := ⟨_, rfl⟩
  have hDl : D.length = 32 := by rw [hD]; rfl
  have HC2 : Hid (∀ wx, Fr (fun _ => False) w4 wx → (convert 22 9 (.slice (some ⟨g, 0, none⟩) 32 cap)).run Tryd.prog wx = .ok (.string ⟨D.toArray⟩) wx) := by
    rw [hD]; exact (unhide HC).1
  rw [← hD] at HD
  have HDL := hide hDl
  clear hD hDl
  have cv4 := unhide HC2 w4.drew (Fr.refl _ w4).drew
  have HE := hide (hsum_any w4.drew ((unhide HC).2.2.1.later (Fr.refl _ w4).drew) p ([] ++ [97, 98] ++ [99]) ((unhide HC).2.1.later (Fr.refl _ w4).drew) (by simp))
  rw [unhide HD] at HE
  go_wp2
  go_region_with (first
    | (go_at_call 15; refine (unhide HE).mono ?_; rintro e w6 ⟨v6, rfl, g6, r1, r2, r3⟩; obtain ⟨ao6, cap6, rfl, _⟩ := r1.shape; rw [unhide HDL]; have cv6 := conv_bytes (r1.bat (by rw [unhide HDL]; omega)).2; rw [unhide HDL] at cv6; have cva := unhide HC2 w6 ((Fr.refl _ w4).drew.trans r2 (fun _ _ t => t)); have H6 := hide (And.intro ((unhide HC).2.1.later ((Fr.refl _ w4).drew.trans r2 (fun _ _ t => t))) ((unhide HC).2.2.2.trans ((Fr.refl _ w4).drew.trans r2 (fun _ _ t => t)) (fun _ _ t => t))); clear r1 r2 r3)
    | (go_at_call 17; refine (len_any _ p ([] ++ [97, 98] ++ [99]) (unhide H6).1).mono ?_; rintro e w7 ⟨rfl, rfl⟩))
  all_goals
    go_wp2
    go_ret
    exact ⟨rfl, (unhide H6).2⟩

end Go.Proofs.YtchdjfhenjbcnaaDoor
