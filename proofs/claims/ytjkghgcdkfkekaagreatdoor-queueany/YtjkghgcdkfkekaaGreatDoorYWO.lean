import Derived.Test.YtjkghgcdkfkekaaGreatDoorLSX
/- The document's examples of layer 9. -/
namespace Go.Proofs.YtjkghgcdkfkekaaGreatDoor
open Go.RowKit

theorem bat_new (w : World) (bs : Bs) (hl : bs.length ≤ 140737488355328) (t : TypeId) (g cap : Nat) (hg : g = w.heap.size) : BAt (w.alloc (.cells (bytesV bs).toArray t)) (some ⟨g, 0, none⟩) cap bs := by
  subst hg
  refine ⟨fun e => (by cases e), fun _ => ⟨w.heap.size, 0, rfl, fun j hj => ?_⟩, hl⟩
  have h := (Bx.new w (bytesV bs).toArray t).cell (0 + j)
  rw [h]
  simp [bytesV, hj]

set_option maxHeartbeats 2000000 in
set_option maxRecDepth 20000 in
theorem awake9_any (w : World) (hT : TabAt w) : Calls Tryz.prog 7 #[] w fun e w' => e = .returned (.bool true) ∧ Fr (fun _ => False) w w' := by
  have H1 : Hid (Calls Tryz.prog 8 #[.int .i64 10] w fun e w' => ∃ R' p b, e = .returned (.pointer (some ⟨p, 0, none⟩)) ∧ Hid (Dn w' R' p b 10 (Dk.new 10) ∧ Ch w w' (fun _ => 0) R')) := by
    refine hide ((new_dn w (fun _ => 0) ⟨hT, rfl⟩ (fun _ _ => rfl) 10 (by decide)).mono ?_)
    rintro e w' ⟨R', p, b, rfl, h1, h2, h3⟩
    exact ⟨R', p, b, rfl, hide ⟨h1, (Ch.refl _ _).calm h2 h3⟩⟩
  clear hT
  go_enter Tryz.func7, Tryz.ntmps7
  go_wp2_with fail
  refine (unhide H1).mono ?_
  rintro e w1 ⟨R1, hp, b, rfl, HA⟩
  clear H1
  have H2 : Hid (Calls Tryz.prog 11 #[.pointer (some ⟨hp, 0, none⟩)] w1 fun e w' => ∃ R' q, e = .returned (.pointer (some ⟨q, 0, none⟩)) ∧ Hid (Dsk w' R' q b 10 ∧ Dn w' R' hp b 10 (Dk.new 10) ∧ Ch w w' (fun _ => 0) R')) := by
    obtain ⟨D, c⟩ := unhide HA
    refine hide (D.disk.mono ?_)
    rintro e w' ⟨R', q, he, k1, k2, k3, k4⟩
    exact ⟨R', q, he, hide ⟨k1, k2, c.calm k3 k4⟩⟩
  go_wp2_with fail
  refine (unhide H2).mono ?_
  rintro e w2 ⟨R2, q, rfl, HB⟩
  clear H2 HA
  have H3 : Hid (Calls Tryz.prog 10 #[.pointer (some ⟨q, 0, none⟩)] w2 fun e w' => ∃ lg ro rc, e = .returned (.tuple #[.pointer (some ⟨lg, 0, none⟩), .slice ro 0 rc, .nilIface]) ∧ Hid (∃ R', PW w w' (fun _ => 0) R' hp b q lg 10 [] 0 1 10000 10000)) := by
    obtain ⟨k, D, c⟩ := unhide HB
    have hh : hlf 10 = 4 := rfl
    refine hide ((Dn.first (B := 0) D k rfl rfl (by omega) (by omega) (Nat.le_refl _) (by omega) (hold_new0 _ rfl rfl) c).mono ?_)
    rintro e w' ⟨lg, ro, rc, he, R', _, _, d, G, h, a, p1, p2, p3, p4⟩
    exact ⟨lg, ro, rc, he, hide ⟨R', d, G, h, a, p1, by omega, by omega, p4⟩⟩
  go_wp2_with fail
  refine (unhide H3).mono ?_
  rintro e w3 ⟨lg, ro, rc, rfl, HC⟩
  clear H3 HB
  have H4 : Hid (∀ u, Fr (fun _ => False) w3 u → Calls Tryz.prog 33 #[.pointer (some ⟨lg, 0, none⟩)] u fun e w' => e = .returned (.int .i64 2004) ∧ Hid (Fr (fun _ => False) u w')) := by
    obtain ⟨R3, P⟩ := unhide HC
    exact hide (fun u hu => ((P.keep hu).room (by omega) (by omega)).mono (fun e w' h => ⟨h.1, hide h.2⟩))
  go_wp2_with fail
  refine (unhide H4 _ (Fr.refl _ _)).mono ?_
  rintro e w4 ⟨rfl, hF4⟩
  have H5 : Hid (Calls Tryz.prog 34 #[.int .i64 3] w4 fun e w' => e = .returned (.int .i64 (-1)) ∧ w' = w4) := room_any w4 3
  go_wp2_with fail
  refine (unhide H5).mono ?_
  rintro e w5 ⟨rfl, rfl⟩
  have H6 : Hid (Calls Tryz.prog 12 #[.pointer (some ⟨lg, 0, none⟩), .slice (some ⟨w5.heap.size, 0, none⟩) 2 2] (w5.alloc (.cells #[.int .u8 7, .int .u8 8] 5)) fun e w' => e = .returned .nilIface ∧ Hid (∃ R', PW w w' (fun _ => 0) R' hp b q lg 10 [[7, 8]] 0 1 20000 10000)) := by
    obtain ⟨R3, P⟩ := unhide HC
    have hh : hlf 10 = 4 := rfl
    have P4 := (P.keep (unhide hF4)).keep ((Fr.refl _ _).alloc (.cells #[.int .u8 7, .int .u8 8] 5))
    have hz : R3 w5.heap.size = 0 := by
      obtain ⟨d, G, h, a, h1, h2, h3, L, c⟩ := P.keep (unhide hF4)
      exact L.dn.dk.zero _ (Nat.le_refl _)
    refine hide ((P4.append (by omega) (by omega) (by omega) _ _ [7, 8] (bat_new w5 [7, 8] (by decide) 5 _ 2 rfl) (fun b off _ e => ?_) ?_).mono ?_)
    · injection e with e; injection e with e1 e2; rw [← e1]; exact hz
    · rw [strm_snoc, addR_length, hh]; decide
    · rintro e w' ⟨he, R', _, _, d, G, h, a, p1, p2, p3, p4⟩
      exact ⟨he, hide ⟨R', d, G, h, a, p1, by omega, p3, p4⟩⟩
  clear H4 H5 hF4
  go_wp2_with fail
  refine (unhide H6).mono ?_
  rintro e w6 ⟨rfl, HD⟩
  clear H6 HC
  have H7 : Hid (Calls Tryz.prog 33 #[.pointer (some ⟨lg, 0, none⟩)] w6 fun e w' => e = .returned (.int .i64 1990) ∧ Hid (Fr (fun _ => False) w6 w')) := by
    obtain ⟨R3, P⟩ := unhide HD
    have hb : bgn (strm [[7, 8]]).length = 14 := by
      have : (strm [[7, 8]]).length = 14 := by rw [show ([[7, 8]] : List Bs) = [] ++ [[7, 8]] from rfl, strm_snoc, addR_length]; rfl
      rw [this]; rfl
    have h := P.room (by omega) (by omega)
    rw [hb] at h
    exact hide (h.mono (fun e w' h => ⟨h.1, hide h.2⟩))
  go_wp2_with fail
  refine (unhide H7).mono ?_
  rintro e w7 ⟨rfl, hF7⟩
  clear H7
  have H8 : Hid (Calls Tryz.prog 35 #[.pointer (some ⟨lg, 0, none⟩)] w7 fun e w' => e = .returned .nilIface ∧ Hid (∃ R', PW w w' (fun _ => 0) R' hp b q lg 10 [[7, 8]] 1 1 20002 10000)) := by
    obtain ⟨R3, P⟩ := unhide HD
    refine hide (((P.keep (unhide hF7)).sync (by omega)).mono ?_)
    rintro e w' ⟨he, R', _, _, h⟩
    exact ⟨he, hide ⟨R', h⟩⟩
  go_wp2_with fail
  refine (unhide H8).mono ?_
  rintro e w8 ⟨rfl, HE⟩
  clear H8 HD hF7
  have H9 : Hid (Calls Tryz.prog 25 #[.pointer (some ⟨hp, 0, none⟩), .slice none 0 0] w8 fun e w' => e = .returned (.tuple #[]) ∧ Hid (∃ R', PD w w' (fun _ => 0) R' hp b 10 [[7, 8]] 20002 10000)) := by
    obtain ⟨R3, P⟩ := unhide HE
    refine hide ((P.crash (by omega) none 0 [] ⟨fun h => (by cases h), by decide⟩ (fun h => by cases h)).mono ?_)
    rintro e w' ⟨he, R', _, _, h⟩
    exact ⟨he, hide ⟨R', h⟩⟩
  go_wp2_with fail
  refine (unhide H9).mono ?_
  rintro e w9 ⟨rfl, HF⟩
  clear H9 HE
  have H10 : Hid (Calls Tryz.prog 11 #[.pointer (some ⟨hp, 0, none⟩)] w9 fun e w' => ∃ q, e = .returned (.pointer (some ⟨q, 0, none⟩)) ∧ Hid (∃ R', Dsk w' R' q b 10 ∧ PD w w' (fun _ => 0) R' hp b 10 [[7, 8]] 20002 10000)) := by
    obtain ⟨R3, P⟩ := unhide HF
    refine hide (P.disk.mono ?_)
    rintro e w' ⟨R', q, he, k1, _, _, h⟩
    exact ⟨q, he, hide ⟨R', k1, h⟩⟩
  go_wp2_with fail
  refine (unhide H10).mono ?_
  rintro e w10 ⟨q2, rfl, HG⟩
  clear H10 HF
  have H11 : Hid (Calls Tryz.prog 10 #[.pointer (some ⟨q2, 0, none⟩)] w10 fun e w' => ∃ lg ro rc, e = .returned (.tuple #[.pointer (some ⟨lg, 0, none⟩), .slice ro 1 rc, .nilIface]) ∧ Hid (∃ R', PW w w' (fun _ => 0) R' hp b q2 lg 10 [[7, 8]] 1 1 30000 20000 ∧ RecsP (fun k => R' k = 0) w' ro rc [[7, 8]])) := by
    obtain ⟨R3, k, P⟩ := unhide HG
    have hh : hlf 10 = 4 := rfl
    refine hide ((P.open k (by omega) (by omega) (by omega) (by omega)).mono ?_)
    rintro e w' ⟨lg, ro, rc, he, R', _, _, ⟨d, G, h, a, p1, p2, p3, p4⟩, hr⟩
    exact ⟨lg, ro, rc, he, hide ⟨R', ⟨d, G, h, a, p1, by omega, by omega, p4⟩, hr.mono (fun _ _ h => h.2)⟩⟩
  go_wp2_with fail
  refine (unhide H11).mono ?_
  rintro e w11 ⟨lg2, ro2, rc2, rfl, HI⟩
  clear H11 HG
  have H12 : Hid (Calls Tryz.prog 28 #[.pointer (some ⟨lg2, 0, none⟩), .slice (some ⟨w11.heap.size + 1 + 1, 0, none⟩) 2 2] (((w11.alloc (.cells #[.int .u8 9] 5)).alloc (.cells #[.int .u8 5, .int .u8 6] 5)).alloc (.cells #[.slice (some ⟨w11.heap.size, 0, none⟩) 1 1, .slice (some ⟨w11.heap.size + 1, 0, none⟩) 2 2] 28)) fun e w' => e = .returned .nilIface ∧ Hid (∃ R', PW w w' (fun _ => 0) R' hp b q2 lg2 10 [[9], [5, 6]] 2 2 40000 30000 ∧ RecsP (fun k => R' k = 0) w' ro2 rc2 [[7, 8]])) := by
    obtain ⟨R3, P, hr⟩ := unhide HI
    have hh : hlf 10 = 4 := rfl
    have hF : Fr (fun _ => False) w11 (((w11.alloc (.cells #[.int .u8 9] 5)).alloc (.cells #[.int .u8 5, .int .u8 6] 5)).alloc (.cells #[.slice (some ⟨w11.heap.size, 0, none⟩) 1 1, .slice (some ⟨w11.heap.size + 1, 0, none⟩) 2 2] 28)) := (((Fr.refl _ _).alloc _).alloc _).alloc _
    have hz : ∀ k, w11.heap.size ≤ k → R3 k = 0 := by
      obtain ⟨d, G, h, a, h1, h2, h3, L, c⟩ := P
      exact L.dn.dk.zero
    have h1 := ((Bx.new w11 (bytesV [9]).toArray 5).alloc (.cells #[.int .u8 5, .int .u8 6] 5)).alloc (.cells #[.slice (some ⟨w11.heap.size, 0, none⟩) 1 1, .slice (some ⟨w11.heap.size + 1, 0, none⟩) 2 2] 28)
    have h2 := (Bx.new (w11.alloc (.cells #[.int .u8 9] 5)) (bytesV [5, 6]).toArray 5).alloc (.cells #[.slice (some ⟨w11.heap.size, 0, none⟩) 1 1, .slice (some ⟨w11.heap.size + 1, 0, none⟩) 2 2] 28)
    have h3 := Bx.new ((w11.alloc (.cells #[.int .u8 9] 5)).alloc (.cells #[.int .u8 5, .int .u8 6] 5)) #[.slice (some ⟨w11.heap.size, 0, none⟩) 1 1, .slice (some ⟨w11.heap.size + 1, 0, none⟩) 2 2] 28
    simp only [heap_alloc] at h2 h3
    have b1 := BAt.ofBx h1 (by decide)
    have b2 := BAt.ofBx h2 (by decide)
    have hR : RecsP (fun k => R3 k = 0) (((w11.alloc (.cells #[.int .u8 9] 5)).alloc (.cells #[.int .u8 5, .int .u8 6] 5)).alloc (.cells #[.slice (some ⟨w11.heap.size, 0, none⟩) 1 1, .slice (some ⟨w11.heap.size + 1, 0, none⟩) 2 2] 28)) (some ⟨w11.heap.size + 1 + 1, 0, none⟩) 2 [[9], [5, 6]] := by
      refine ⟨fun _ => ⟨_, 0, rfl, hz _ (by omega), fun i hi => ?_⟩, by decide⟩
      have hi2 : i < 2 := hi
      rcases (by omega : i = 0 ∨ i = 1) with rfl | rfl
      · exact ⟨_, _, h3.cell 0, b1, fun b' off' _ e => by injection e with e; injection e with e1 e2; rw [← e1]; exact hz _ (by omega)⟩
      · exact ⟨_, _, h3.cell 1, b2, fun b' off' _ e => by injection e with e; injection e with e1 e2; rw [← e1]; exact hz _ (by omega)⟩
    refine hide (((P.keep hF).rewrite (by omega) (by omega) (by omega) (by omega) (by omega) _ 2 [[9], [5, 6]] hR ?_).mono ?_)
    · rw [show ([[9], [5, 6]] : List Bs) = ([] ++ [[9]]) ++ [[5, 6]] from rfl, strm_snoc, addR_length, strm_snoc, addR_length, hh]; decide
    · rintro e w' ⟨he, R', k1, k2, d, G, h, a, p1, p2, p3, p4⟩
      refine ⟨he, hide ⟨R', ⟨d, G, h, a, p1, by omega, by omega, p4⟩, ?_⟩⟩
      exact (((hr.mono (Q := fun k => R3 k = 0 ∧ k < w11.heap.size) (fun k hk h => ⟨h, hk⟩)).frame hF (fun _ _ t => t)).frame k2 (fun k hk t => t hk.1)).mono (fun k _ h => by rw [k1 k (Nat.lt_of_lt_of_le h.2 hF.size)]; exact h.1)
  go_wp2_with fail
  refine (unhide H12).mono ?_
  rintro e w12 ⟨rfl, HJ⟩
  clear H12 HI
  have HK : ∃ b2 off2 ao cap, ro2 = some ⟨b2, off2, none⟩ ∧ w12.cell? ⟨b2, off2, none⟩ = some (.slice ao 2 cap) ∧ (convert 28 9 (.slice ao 2 cap)).run Tryz.prog w12 = .ok (.string ⟨#[7, 8]⟩) w12 := by
    obtain ⟨R3, P, hr⟩ := unhide HJ
    obtain ⟨b2, off2, e, _, hc⟩ := hr.cells (by decide)
    obtain ⟨ao, cap, c1, c2, _⟩ := hc 0 (by decide)
    exact ⟨b2, off2, ao, cap, e, c1, conv_bat c2⟩
  obtain ⟨b2, off2, ao, cap, rfl, kc, kv⟩ := HK
  have H13 : Hid (Calls Tryz.prog 36 #[.pointer (some ⟨lg2, 0, none⟩)] w12 fun e w' => e = .returned (.int .i64 2) ∧ w' = w12) := by
    obtain ⟨R3, P, hr⟩ := unhide HJ
    exact hide P.records
  have H14 : Hid (Calls Tryz.prog 37 #[.pointer (some ⟨lg2, 0, none⟩)] w12 fun e w' => e = .returned (.int .i64 2) ∧ w' = w12) := by
    obtain ⟨R3, P, hr⟩ := unhide HJ
    exact hide P.number
  go_wp2_with fail
  refine (unhide H13).mono ?_
  rintro e w13 ⟨rfl, rfl⟩
  go_wp2_with fail
  refine (unhide H14).mono ?_
  rintro e w14 ⟨rfl, rfl⟩
  go_wp2
  go_ret
  refine ⟨rfl, ?_⟩
  obtain ⟨R3, P, hr⟩ := unhide HJ
  exact P.chain.fr.mono (fun k _ t => t rfl)

end Go.Proofs.YtjkghgcdkfkekaaGreatDoor

