/- The document's own readings: records of a fixed number of pieces. -/
import Derived.Test.YtkjoojamkbpfcaaG1
namespace Go.Proofs.Ytkjoojamkbpfcaa
open Go.RowKit

theorem newX (w : World) (ao : Option Addr) (cap : Nat) (bs : List UInt8) (h : BIn w ao cap bs) (hc : bs.length ≤ cap) (hm : cap ≤ 9223372036854775807) (t : TypeId) : XAt (w.alloc (.cells #[.slice ao bs.length cap, .int .i64 0, .int .i64 0, .int .i64 0, .int .i64 0] t)) w.heap.size ao cap bs s00 := by
  have hb := Bx.new w #[.slice ao bs.length cap, .int .i64 0, .int .i64 0, .int .i64 0, .int .i64 0] t
  refine ⟨hb.cell 0, hb.cell 1, hb.cell 2, hb.cell 3, hb.cell 4, fun i _ => hb.frozen i, fun h0 => ?_, Nat.zero_le _, h.fit, hc, hm⟩
  obtain ⟨b, off, e, hcell⟩ := h.cell h0
  exact ⟨b, off, e, Nat.ne_of_lt (World.block_lt_of_cell? _ _ (hcell 0 h0)), fun j hj => (World.cell?_alloc_lt _ _ _ (World.block_lt_of_cell? _ _ (hcell j hj))).trans (hcell j hj)⟩

theorem Fr.ofX {w w' : World} {p : Nat} (h : Fr (· = p) w w') (hp : ¬ p < w.heap.size) : Fr (fun _ => False) w w' := h.mono (fun _ hi t => hp (t ▸ hi))

theorem XAt.frameF {w w' : World} {p : Nat} {ao : Option Addr} {cap : Nat} {bs : List UInt8} {s : RS} (h : XAt w p ao cap bs s) (hf : Fr (fun _ => False) w w') : XAt w' p ao cap bs s :=
  h.stay (hf.block p h.lt (fun t => t)) (fun b _ _ _ hb => hf.block b hb (fun t => t))

/-- Bytes that are handed in, with their room. -/
structure BInC (w : World) (ao : Option Addr) (cap : Nat) (bs : List UInt8) : Prop where
  b : BIn w ao cap bs
  le : bs.length ≤ cap
  max : cap ≤ 9223372036854775807

theorem BInC.keep {w w' : World} {ao : Option Addr} {cap : Nat} {bs : List UInt8} (h : BInC w ao cap bs) (hf : Fr (fun _ => False) w w') : BInC w' ao cap bs := ⟨h.b.keep hf, h.le, h.max⟩

set_option maxHeartbeats 2000000 in
theorem refReadTap_any (w : World) (ao : Option Addr) (cap : Nat) (bs : List UInt8) (hB : BInC w ao cap bs) : Calls Try.prog 14 #[.slice ao bs.length cap] w (ReadTap w (tapRd bs)) := by
  have HSH := hide (tap_shape bs s00)
  obtain ⟨q, Hq⟩ : ∃ q, Hid (rdL bs tapK s00 = q) := ⟨_, rfl⟩
  obtain ⟨t, Ht⟩ : ∃ t, Hid (tapOf q.1 = t) := ⟨_, rfl⟩
  obtain ⟨z, Hz⟩ : ∃ z, Hid (endR q.2 bs.length = z) := ⟨_, rfl⟩
  obtain ⟨R, HRe⟩ : ∃ R, Hid (tapRd bs = R) := ⟨_, rfl⟩
  obtain ⟨okb, Hok⟩ : ∃ b, Hid (tapOk t = b) := ⟨_, rfl⟩
  have HR : Hid (R = if z.c ≠ 0 then (tapZ, z.c, z.f) else if okb then (t, 0, 0) else (tapZ, 80, -1)) := hide (by rw [← unhide HRe]; unfold tapRd; rw [unhide Hq, unhide Ht, unhide Hz, unhide Hok])
  have HCL : Hid (Clean z) := hide (by rw [← unhide Hz, ← unhide Hq]; exact endR_clean (rdL_clean _ clean0) _)
  rw [unhide Hq, unhide Ht] at HSH
  rw [unhide HRe]
  have RE := hide (TapRight_any t)
  rw [unhide Hok] at RE
  have HBI := hide hB
  unfold tpC at HSH RE
  obtain ⟨dev, ctr, tok, kind, place, time⟩ := t
  simp only at HSH RE HR
  clear hB HRe Ht Hok
  go_enter Try.func14, Try.ntmps14
  go_wp2_with fail
  have HX0 : Hid (Fr (fun _ => False) w ((((w.alloc (.cells #[.int .i64 0, .int .i64 0, .string ⟨#[]⟩, .int .i64 0, .int .i64 0, .int .i64 0] 23)).alloc (.cells #[.int .i64 0, .int .i64 0] 31)).alloc (.cells #[.slice ao bs.length cap, .int .i64 0, .int .i64 0, .int .i64 0, .int .i64 0] 84)).alloc (.cells #[.int .i64 0, .int .i64 0, .string ⟨#[]⟩, .int .i64 0, .int .i64 0, .int .i64 0] 23)) ∧ Bx ((((w.alloc (.cells #[.int .i64 0, .int .i64 0, .string ⟨#[]⟩, .int .i64 0, .int .i64 0, .int .i64 0] 23)).alloc (.cells #[.int .i64 0, .int .i64 0] 31)).alloc (.cells #[.slice ao bs.length cap, .int .i64 0, .int .i64 0, .int .i64 0, .int .i64 0] 84)).alloc (.cells #[.int .i64 0, .int .i64 0, .string ⟨#[]⟩, .int .i64 0, .int .i64 0, .int .i64 0] 23)) w.heap.size #[.int .i64 0, .int .i64 0, .string ⟨#[]⟩, .int .i64 0, .int .i64 0, .int .i64 0] 23 ∧ Bx ((((w.alloc (.cells #[.int .i64 0, .int .i64 0, .string ⟨#[]⟩, .int .i64 0, .int .i64 0, .int .i64 0] 23)).alloc (.cells #[.int .i64 0, .int .i64 0] 31)).alloc (.cells #[.slice ao bs.length cap, .int .i64 0, .int .i64 0, .int .i64 0, .int .i64 0] 84)).alloc (.cells #[.int .i64 0, .int .i64 0, .string ⟨#[]⟩, .int .i64 0, .int .i64 0, .int .i64 0] 23)) (w.heap.size + 1) #[.int .i64 0, .int .i64 0] 31 ∧ XB ((((w.alloc (.cells #[.int .i64 0, .int .i64 0, .string ⟨#[]⟩, .int .i64 0, .int .i64 0, .int .i64 0] 23)).alloc (.cells #[.int .i64 0, .int .i64 0] 31)).alloc (.cells #[.slice ao bs.length cap, .int .i64 0, .int .i64 0, .int .i64 0, .int .i64 0] 84)).alloc (.cells #[.int .i64 0, .int .i64 0, .string ⟨#[]⟩, .int .i64 0, .int .i64 0, .int .i64 0] 23)) (w.heap.size + 1 + 1) ao cap bs s00 (w.heap.size + 1 + 1 + 1) #[.int .i64 0, .int .i64 0, .string ⟨#[]⟩, .int .i64 0, .int .i64 0, .int .i64 0] 23) := hide (by
    obtain ⟨k0, k1, k2, k3, k4⟩ := four_boxes w #[.int .i64 0, .int .i64 0, .string ⟨#[]⟩, .int .i64 0, .int .i64 0, .int .i64 0] #[.int .i64 0, .int .i64 0] #[.slice ao bs.length cap, .int .i64 0, .int .i64 0, .int .i64 0, .int .i64 0] #[.int .i64 0, .int .i64 0, .string ⟨#[]⟩, .int .i64 0, .int .i64 0, .int .i64 0] 23 31 84 23
    have hb := (unhide HBI).keep ((((Fr.refl _ w).alloc (.cells #[.int .i64 0, .int .i64 0, .string ⟨#[]⟩, .int .i64 0, .int .i64 0, .int .i64 0] 23)).alloc (.cells #[.int .i64 0, .int .i64 0] 31)))
    have hx := newX _ ao cap bs hb.b hb.le hb.max 84
    simp only [heap_alloc] at hx
    refine ⟨k0, k1, k2, XAt.alloc hx _, k4, by omega, fun b' off e h0 => ?_⟩
    obtain ⟨b, o2, e2, hc⟩ := (unhide HBI).b.cell h0
    have := World.block_lt_of_cell? _ _ (hc 0 h0)
    rw [e] at e2
    injection e2 with e2
    injection e2 with e3 e4
    show w.heap.size + 1 + 1 + 1 ≠ b'
    subst e3
    have h5 : b' < w.heap.size := this
    omega)
  obtain ⟨B, HBe⟩ : ∃ B, Hid (w.heap.size = B) := ⟨_, rfl⟩
  rw [unhide HBe] at HX0 ⊢
  generalize ((((w.alloc (.cells #[.int .i64 0, .int .i64 0, .string ⟨#[]⟩, .int .i64 0, .int .i64 0, .int .i64 0] 23)).alloc (.cells #[.int .i64 0, .int .i64 0] 31)).alloc (.cells #[.slice ao bs.length cap, .int .i64 0, .int .i64 0, .int .i64 0, .int .i64 0] 84)).alloc (.cells #[.int .i64 0, .int .i64 0, .string ⟨#[]⟩, .int .i64 0, .int .i64 0, .int .i64 0] 23)) = w0 at *
  obtain ⟨R1, hR1⟩ : ∃ x, B + 1 = x := ⟨_, rfl⟩
  obtain ⟨p, hp⟩ : ∃ x, B + 1 + 1 = x := ⟨_, rfl⟩
  obtain ⟨X, hX⟩ : ∃ x, B + 1 + 1 + 1 = x := ⟨_, rfl⟩
  rw [hX, hp, hR1] at HX0 ⊢
  have HD : Hid (B < R1 ∧ R1 < p ∧ p < X ∧ w.heap.size = B) := hide ⟨by omega, by omega, by omega, unhide HBe⟩
  have HBL : Hid (¬ B < w.heap.size ∧ ¬ R1 < w.heap.size) := hide (by have := unhide HD; omega)
  clear hR1 hp hX
  have x0 : w0.cell? ⟨X, 0, none⟩ = some (.int .i64 0) := (unhide HX0).2.2.2.x.cell 0
  have f0 : w0.frozen? ⟨X, 0, none⟩ = false := (unhide HX0).2.2.2.x.frozen 0
  go_wp2_with fail
  refine (xNumber (unhide HX0).2.2.2.r 2).mono ?_
  obtain ⟨r0, Hr0⟩ : ∃ r, Hid ((Kd.num 2).rd bs s00 = r) := ⟨_, rfl⟩
  have hr0 : stepR s00 (.int .i64 0) (oNumber bs s00.a 2) = r0 := unhide Hr0
  rw [hr0]
  clear hr0
  obtain ⟨v0, hv0⟩ := rd_num bs (.num 2) s00 (Or.inl ⟨_, rfl⟩)
  rw [unhide Hr0] at hv0
  have Hv0 := hide hv0
  unfold XDone
  rw [hv0]
  clear hv0
  rintro e u0 ⟨rfl, hXA, hF⟩
  have x0n : u0.cell? ⟨X, 0, none⟩ = some (.int .i64 0) := (hF.cell (a := ⟨X, 0, none⟩) (unhide HX0).2.2.2.x.lt (unhide HX0).2.2.2.np).trans x0
  have f0n : u0.frozen? ⟨X, 0, none⟩ = false := (hF.frozen (a := ⟨X, 0, none⟩) (unhide HX0).2.2.2.x.lt (unhide HX0).2.2.2.np).trans f0
  have HX1 : Hid (Fr (fun _ => False) w (u0.setCell ⟨X, 0, none⟩ (.int .i64 v0)) ∧ Bx (u0.setCell ⟨X, 0, none⟩ (.int .i64 v0)) B #[.int .i64 0, .int .i64 0, .string ⟨#[]⟩, .int .i64 0, .int .i64 0, .int .i64 0] 23 ∧ Bx (u0.setCell ⟨X, 0, none⟩ (.int .i64 v0)) R1 #[.int .i64 0, .int .i64 0] 31 ∧ XB (u0.setCell ⟨X, 0, none⟩ (.int .i64 v0)) p ao cap bs r0.2 X #[.int .i64 v0, .int .i64 0, .string ⟨#[]⟩, .int .i64 0, .int .i64 0, .int .i64 0] 23) := hide (by
    obtain ⟨k0, k1, k2, k3⟩ := unhide HX0
    obtain ⟨d1, d2, d3, d4⟩ := unhide HD
    exact ⟨(k0.trans hF (fun _ hi t => by omega)).setCell (p := ⟨X, 0, none⟩) (fun h => by have h6 : X < w.heap.size := h; omega) _, (k1.frame hF (by omega)).setOther (by omega) _ _, (k2.frame hF (by omega)).setOther (by omega) _ _, k3.step hXA hF 0 _⟩)
  clear hXA hF x0 f0 HX0
  go_wp2_with fail
  clear x0n f0n
  generalize u0.setCell ⟨X, 0, none⟩ (.int .i64 v0) = w1 at *
  have x1 : w1.cell? ⟨X, 1, none⟩ = some (.int .i64 0) := (unhide HX1).2.2.2.x.cell 1
  have f1 : w1.frozen? ⟨X, 1, none⟩ = false := (unhide HX1).2.2.2.x.frozen 1
  go_wp2_with fail
  refine (xNumber (unhide HX1).2.2.2.r 4).mono ?_
  obtain ⟨r1, Hr1⟩ : ∃ r, Hid ((Kd.num 4).rd bs r0.2 = r) := ⟨_, rfl⟩
  have hr1 : stepR r0.2 (.int .i64 0) (oNumber bs r0.2.a 4) = r1 := unhide Hr1
  rw [hr1]
  clear hr1
  obtain ⟨v1, hv1⟩ := rd_num bs (.num 4) r0.2 (Or.inl ⟨_, rfl⟩)
  rw [unhide Hr1] at hv1
  have Hv1 := hide hv1
  unfold XDone
  rw [hv1]
  clear hv1
  rintro e u1 ⟨rfl, hXA, hF⟩
  have x1n : u1.cell? ⟨X, 1, none⟩ = some (.int .i64 0) := (hF.cell (a := ⟨X, 1, none⟩) (unhide HX1).2.2.2.x.lt (unhide HX1).2.2.2.np).trans x1
  have f1n : u1.frozen? ⟨X, 1, none⟩ = false := (hF.frozen (a := ⟨X, 1, none⟩) (unhide HX1).2.2.2.x.lt (unhide HX1).2.2.2.np).trans f1
  have HX2 : Hid (Fr (fun _ => False) w (u1.setCell ⟨X, 1, none⟩ (.int .i64 v1)) ∧ Bx (u1.setCell ⟨X, 1, none⟩ (.int .i64 v1)) B #[.int .i64 0, .int .i64 0, .string ⟨#[]⟩, .int .i64 0, .int .i64 0, .int .i64 0] 23 ∧ Bx (u1.setCell ⟨X, 1, none⟩ (.int .i64 v1)) R1 #[.int .i64 0, .int .i64 0] 31 ∧ XB (u1.setCell ⟨X, 1, none⟩ (.int .i64 v1)) p ao cap bs r1.2 X #[.int .i64 v0, .int .i64 v1, .string ⟨#[]⟩, .int .i64 0, .int .i64 0, .int .i64 0] 23) := hide (by
    obtain ⟨k0, k1, k2, k3⟩ := unhide HX1
    obtain ⟨d1, d2, d3, d4⟩ := unhide HD
    exact ⟨(k0.trans hF (fun _ hi t => by omega)).setCell (p := ⟨X, 1, none⟩) (fun h => by have h6 : X < w.heap.size := h; omega) _, (k1.frame hF (by omega)).setOther (by omega) _ _, (k2.frame hF (by omega)).setOther (by omega) _ _, k3.step hXA hF 1 _⟩)
  clear hXA hF x1 f1 HX1
  go_wp2_with fail
  clear x1n f1n
  generalize u1.setCell ⟨X, 1, none⟩ (.int .i64 v1) = w2 at *
  have x2 : w2.cell? ⟨X, 2, none⟩ = some (.string ⟨#[]⟩) := (unhide HX2).2.2.2.x.cell 2
  have f2 : w2.frozen? ⟨X, 2, none⟩ = false := (unhide HX2).2.2.2.x.frozen 2
  go_wp2_with fail
  refine (xFixed (unhide HX2).2.2.2.r 8).mono ?_
  obtain ⟨r2, Hr2⟩ : ∃ r, Hid ((Kd.fix 8).rd bs r1.2 = r) := ⟨_, rfl⟩
  have hr2 : stepR r1.2 (.string ⟨#[]⟩) (oFixed bs r1.2.a 8) = r2 := unhide Hr2
  rw [hr2]
  clear hr2
  obtain ⟨v2, hv2⟩ := rd_fix bs 8 r1.2
  rw [unhide Hr2] at hv2
  have Hv2 := hide hv2
  unfold XDone
  rw [hv2]
  clear hv2
  rintro e u2 ⟨rfl, hXA, hF⟩
  have x2n : u2.cell? ⟨X, 2, none⟩ = some (.string ⟨#[]⟩) := (hF.cell (a := ⟨X, 2, none⟩) (unhide HX2).2.2.2.x.lt (unhide HX2).2.2.2.np).trans x2
  have f2n : u2.frozen? ⟨X, 2, none⟩ = false := (hF.frozen (a := ⟨X, 2, none⟩) (unhide HX2).2.2.2.x.lt (unhide HX2).2.2.2.np).trans f2
  have HX3 : Hid (Fr (fun _ => False) w (u2.setCell ⟨X, 2, none⟩ (.string v2)) ∧ Bx (u2.setCell ⟨X, 2, none⟩ (.string v2)) B #[.int .i64 0, .int .i64 0, .string ⟨#[]⟩, .int .i64 0, .int .i64 0, .int .i64 0] 23 ∧ Bx (u2.setCell ⟨X, 2, none⟩ (.string v2)) R1 #[.int .i64 0, .int .i64 0] 31 ∧ XB (u2.setCell ⟨X, 2, none⟩ (.string v2)) p ao cap bs r2.2 X #[.int .i64 v0, .int .i64 v1, .string v2, .int .i64 0, .int .i64 0, .int .i64 0] 23) := hide (by
    obtain ⟨k0, k1, k2, k3⟩ := unhide HX2
    obtain ⟨d1, d2, d3, d4⟩ := unhide HD
    exact ⟨(k0.trans hF (fun _ hi t => by omega)).setCell (p := ⟨X, 2, none⟩) (fun h => by have h6 : X < w.heap.size := h; omega) _, (k1.frame hF (by omega)).setOther (by omega) _ _, (k2.frame hF (by omega)).setOther (by omega) _ _, k3.step hXA hF 2 _⟩)
  clear hXA hF x2 f2 HX2
  go_wp2_with fail
  clear x2n f2n
  generalize u2.setCell ⟨X, 2, none⟩ (.string v2) = w3 at *
  have x3 : w3.cell? ⟨X, 3, none⟩ = some (.int .i64 0) := (unhide HX3).2.2.2.x.cell 3
  have f3 : w3.frozen? ⟨X, 3, none⟩ = false := (unhide HX3).2.2.2.x.frozen 3
  go_wp2_with fail
  refine (xNumber (unhide HX3).2.2.2.r 1).mono ?_
  obtain ⟨r3, Hr3⟩ : ∃ r, Hid ((Kd.num 1).rd bs r2.2 = r) := ⟨_, rfl⟩
  have hr3 : stepR r2.2 (.int .i64 0) (oNumber bs r2.2.a 1) = r3 := unhide Hr3
  rw [hr3]
  clear hr3
  obtain ⟨v3, hv3⟩ := rd_num bs (.num 1) r2.2 (Or.inl ⟨_, rfl⟩)
  rw [unhide Hr3] at hv3
  have Hv3 := hide hv3
  unfold XDone
  rw [hv3]
  clear hv3
  rintro e u3 ⟨rfl, hXA, hF⟩
  have x3n : u3.cell? ⟨X, 3, none⟩ = some (.int .i64 0) := (hF.cell (a := ⟨X, 3, none⟩) (unhide HX3).2.2.2.x.lt (unhide HX3).2.2.2.np).trans x3
  have f3n : u3.frozen? ⟨X, 3, none⟩ = false := (hF.frozen (a := ⟨X, 3, none⟩) (unhide HX3).2.2.2.x.lt (unhide HX3).2.2.2.np).trans f3
  have HX4 : Hid (Fr (fun _ => False) w (u3.setCell ⟨X, 3, none⟩ (.int .i64 v3)) ∧ Bx (u3.setCell ⟨X, 3, none⟩ (.int .i64 v3)) B #[.int .i64 0, .int .i64 0, .string ⟨#[]⟩, .int .i64 0, .int .i64 0, .int .i64 0] 23 ∧ Bx (u3.setCell ⟨X, 3, none⟩ (.int .i64 v3)) R1 #[.int .i64 0, .int .i64 0] 31 ∧ XB (u3.setCell ⟨X, 3, none⟩ (.int .i64 v3)) p ao cap bs r3.2 X #[.int .i64 v0, .int .i64 v1, .string v2, .int .i64 v3, .int .i64 0, .int .i64 0] 23) := hide (by
    obtain ⟨k0, k1, k2, k3⟩ := unhide HX3
    obtain ⟨d1, d2, d3, d4⟩ := unhide HD
    exact ⟨(k0.trans hF (fun _ hi t => by omega)).setCell (p := ⟨X, 3, none⟩) (fun h => by have h6 : X < w.heap.size := h; omega) _, (k1.frame hF (by omega)).setOther (by omega) _ _, (k2.frame hF (by omega)).setOther (by omega) _ _, k3.step hXA hF 3 _⟩)
  clear hXA hF x3 f3 HX3
  go_wp2_with fail
  clear x3n f3n
  generalize u3.setCell ⟨X, 3, none⟩ (.int .i64 v3) = w4 at *
  have x4 : w4.cell? ⟨X, 4, none⟩ = some (.int .i64 0) := (unhide HX4).2.2.2.x.cell 4
  have f4 : w4.frozen? ⟨X, 4, none⟩ = false := (unhide HX4).2.2.2.x.frozen 4
  go_wp2_with fail
  refine (xNumber (unhide HX4).2.2.2.r 2).mono ?_
  obtain ⟨r4, Hr4⟩ : ∃ r, Hid ((Kd.num 2).rd bs r3.2 = r) := ⟨_, rfl⟩
  have hr4 : stepR r3.2 (.int .i64 0) (oNumber bs r3.2.a 2) = r4 := unhide Hr4
  rw [hr4]
  clear hr4
  obtain ⟨v4, hv4⟩ := rd_num bs (.num 2) r3.2 (Or.inl ⟨_, rfl⟩)
  rw [unhide Hr4] at hv4
  have Hv4 := hide hv4
  unfold XDone
  rw [hv4]
  clear hv4
  rintro e u4 ⟨rfl, hXA, hF⟩
  have x4n : u4.cell? ⟨X, 4, none⟩ = some (.int .i64 0) := (hF.cell (a := ⟨X, 4, none⟩) (unhide HX4).2.2.2.x.lt (unhide HX4).2.2.2.np).trans x4
  have f4n : u4.frozen? ⟨X, 4, none⟩ = false := (hF.frozen (a := ⟨X, 4, none⟩) (unhide HX4).2.2.2.x.lt (unhide HX4).2.2.2.np).trans f4
  have HX5 : Hid (Fr (fun _ => False) w (u4.setCell ⟨X, 4, none⟩ (.int .i64 v4)) ∧ Bx (u4.setCell ⟨X, 4, none⟩ (.int .i64 v4)) B #[.int .i64 0, .int .i64 0, .string ⟨#[]⟩, .int .i64 0, .int .i64 0, .int .i64 0] 23 ∧ Bx (u4.setCell ⟨X, 4, none⟩ (.int .i64 v4)) R1 #[.int .i64 0, .int .i64 0] 31 ∧ XB (u4.setCell ⟨X, 4, none⟩ (.int .i64 v4)) p ao cap bs r4.2 X #[.int .i64 v0, .int .i64 v1, .string v2, .int .i64 v3, .int .i64 v4, .int .i64 0] 23) := hide (by
    obtain ⟨k0, k1, k2, k3⟩ := unhide HX4
    obtain ⟨d1, d2, d3, d4⟩ := unhide HD
    exact ⟨(k0.trans hF (fun _ hi t => by omega)).setCell (p := ⟨X, 4, none⟩) (fun h => by have h6 : X < w.heap.size := h; omega) _, (k1.frame hF (by omega)).setOther (by omega) _ _, (k2.frame hF (by omega)).setOther (by omega) _ _, k3.step hXA hF 4 _⟩)
  clear hXA hF x4 f4 HX4
  go_wp2_with fail
  clear x4n f4n
  generalize u4.setCell ⟨X, 4, none⟩ (.int .i64 v4) = w5 at *
  have x5 : w5.cell? ⟨X, 5, none⟩ = some (.int .i64 0) := (unhide HX5).2.2.2.x.cell 5
  have f5 : w5.frozen? ⟨X, 5, none⟩ = false := (unhide HX5).2.2.2.x.frozen 5
  go_wp2_with fail
  refine (xNumber (unhide HX5).2.2.2.r 4).mono ?_
  obtain ⟨r5, Hr5⟩ : ∃ r, Hid ((Kd.num 4).rd bs r4.2 = r) := ⟨_, rfl⟩
  have hr5 : stepR r4.2 (.int .i64 0) (oNumber bs r4.2.a 4) = r5 := unhide Hr5
  rw [hr5]
  clear hr5
  obtain ⟨v5, hv5⟩ := rd_num bs (.num 4) r4.2 (Or.inl ⟨_, rfl⟩)
  rw [unhide Hr5] at hv5
  have Hv5 := hide hv5
  unfold XDone
  rw [hv5]
  clear hv5
  rintro e u5 ⟨rfl, hXA, hF⟩
  have x5n : u5.cell? ⟨X, 5, none⟩ = some (.int .i64 0) := (hF.cell (a := ⟨X, 5, none⟩) (unhide HX5).2.2.2.x.lt (unhide HX5).2.2.2.np).trans x5
  have f5n : u5.frozen? ⟨X, 5, none⟩ = false := (hF.frozen (a := ⟨X, 5, none⟩) (unhide HX5).2.2.2.x.lt (unhide HX5).2.2.2.np).trans f5
  have HX6 : Hid (Fr (fun _ => False) w (u5.setCell ⟨X, 5, none⟩ (.int .i64 v5)) ∧ Bx (u5.setCell ⟨X, 5, none⟩ (.int .i64 v5)) B #[.int .i64 0, .int .i64 0, .string ⟨#[]⟩, .int .i64 0, .int .i64 0, .int .i64 0] 23 ∧ Bx (u5.setCell ⟨X, 5, none⟩ (.int .i64 v5)) R1 #[.int .i64 0, .int .i64 0] 31 ∧ XB (u5.setCell ⟨X, 5, none⟩ (.int .i64 v5)) p ao cap bs r5.2 X #[.int .i64 v0, .int .i64 v1, .string v2, .int .i64 v3, .int .i64 v4, .int .i64 v5] 23) := hide (by
    obtain ⟨k0, k1, k2, k3⟩ := unhide HX5
    obtain ⟨d1, d2, d3, d4⟩ := unhide HD
    exact ⟨(k0.trans hF (fun _ hi t => by omega)).setCell (p := ⟨X, 5, none⟩) (fun h => by have h6 : X < w.heap.size := h; omega) _, (k1.frame hF (by omega)).setOther (by omega) _ _, (k2.frame hF (by omega)).setOther (by omega) _ _, k3.step hXA hF 5 _⟩)
  clear hXA hF x5 f5 HX5
  have xx0 : (u5.setCell ⟨X, 5, none⟩ (.int .i64 v5)).cell? ⟨X, 0, none⟩ = some (.int .i64 v0) := (unhide HX6).2.2.2.x.cell 0
  have xx1 : (u5.setCell ⟨X, 5, none⟩ (.int .i64 v5)).cell? ⟨X, 1, none⟩ = some (.int .i64 v1) := (unhide HX6).2.2.2.x.cell 1
  have xx2 : (u5.setCell ⟨X, 5, none⟩ (.int .i64 v5)).cell? ⟨X, 2, none⟩ = some (.string v2) := (unhide HX6).2.2.2.x.cell 2
  have xx3 : (u5.setCell ⟨X, 5, none⟩ (.int .i64 v5)).cell? ⟨X, 3, none⟩ = some (.int .i64 v3) := (unhide HX6).2.2.2.x.cell 3
  have xx4 : (u5.setCell ⟨X, 5, none⟩ (.int .i64 v5)).cell? ⟨X, 4, none⟩ = some (.int .i64 v4) := (unhide HX6).2.2.2.x.cell 4
  have xx5 : (u5.setCell ⟨X, 5, none⟩ (.int .i64 v5)).cell? ⟨X, 5, none⟩ = some (.int .i64 v5) := (unhide HX6).2.2.2.x.cell 5
  go_wp2_with fail
  clear x5n f5n
  generalize u5.setCell ⟨X, 5, none⟩ (.int .i64 v5) = w6 at *
  have HQ : Hid (([.int .i64 dev, .int .i64 ctr, .string tok, .int .i64 kind, .int .i64 place, .int .i64 time] : List Value) = [.int .i64 v0, .int .i64 v1, .string v2, .int .i64 v3, .int .i64 v4, .int .i64 v5] ∧ r5.2 = q.2) := hide (by
    have e : rdL bs tapK s00 = ([r0.1, r1.1, r2.1, r3.1, r4.1, r5.1], r5.2) := by
      simp only [rdL, unhide Hr0, unhide Hr1, unhide Hr2, unhide Hr3, unhide Hr4, unhide Hr5]
    rw [unhide Hq] at e
    refine ⟨?_, by rw [e]⟩
    rw [← unhide HSH, e, unhide Hv0, unhide Hv1, unhide Hv2, unhide Hv3, unhide Hv4, unhide Hv5])
  obtain ⟨hq1, hq2⟩ := unhide HQ
  simp only [List.cons.injEq, Value.int.injEq, Value.string.injEq, true_and, and_true] at hq1
  obtain ⟨a0, a1, a2, a3, a4, a5⟩ := hq1
  subst a0 a1 a2 a3 a4 a5
  rw [hq2] at HX6
  clear HQ hq2 HSH
  refine (unhide RE _).mono ?_
  rintro e y1 ⟨rfl, hF⟩
  have HY1 : Hid (Fr (fun _ => False) w y1 ∧ Bx y1 B #[.int .i64 0, .int .i64 0, .string ⟨#[]⟩, .int .i64 0, .int .i64 0, .int .i64 0] 23 ∧ Bx y1 R1 #[.int .i64 0, .int .i64 0] 31 ∧ XAt y1 p ao cap bs q.2 ∧ Bx y1 X #[.int .i64 dev, .int .i64 ctr, .string tok, .int .i64 kind, .int .i64 place, .int .i64 time] 23) := hide (by
    obtain ⟨k0, k1, k2, k3⟩ := unhide HX6
    exact ⟨k0.trans hF (fun _ _ t => t), k1.keep hF, k2.keep hF, k3.r.frameF hF, k3.x.keep hF⟩)
  have HPX : Hid (X ≠ p) := hide (by have := unhide HD; omega)
  clear hF HX6 xx0 xx1 xx2 xx3 xx4 xx5
  go_wp2_with fail
  refine (ended_any (unhide HY1).2.2.2.1 okb).mono ?_
  rw [unhide Hz]
  generalize hE : endF z okb = E
  have HE : Hid (E = if z.c = 0 ∧ okb = false then (80, -1) else (z.c, z.f)) := hide (by rw [← hE]; rfl)
  obtain ⟨Ec, Ef⟩ := E
  simp only
  clear hE
  rintro e y2 ⟨rfl, hF⟩
  have HY2 : Hid (Fr (fun _ => False) w (y2.alloc (.cells #[.int .i64 Ec, .int .i64 Ef] 31)) ∧ Bx (y2.alloc (.cells #[.int .i64 Ec, .int .i64 Ef] 31)) B #[.int .i64 0, .int .i64 0, .string ⟨#[]⟩, .int .i64 0, .int .i64 0, .int .i64 0] 23 ∧ Bx (y2.alloc (.cells #[.int .i64 Ec, .int .i64 Ef] 31)) R1 #[.int .i64 0, .int .i64 0] 31 ∧ Bx (y2.alloc (.cells #[.int .i64 Ec, .int .i64 Ef] 31)) X #[.int .i64 dev, .int .i64 ctr, .string tok, .int .i64 kind, .int .i64 place, .int .i64 time] 23 ∧ Bx (y2.alloc (.cells #[.int .i64 Ec, .int .i64 Ef] 31)) y2.heap.size #[.int .i64 Ec, .int .i64 Ef] 31) := hide (by
    obtain ⟨k0, k1, k2, k3, k4⟩ := unhide HY1
    obtain ⟨d1, d2, d3, d4⟩ := unhide HD
    exact ⟨(k0.trans hF (fun _ hi t => by omega)).alloc _, (k1.frame hF (by omega)).alloc _, (k2.frame hF (by omega)).alloc _, (k4.frame hF (unhide HPX)).alloc _, Bx.new _ _ _⟩)
  have HFB : Hid (X < y2.heap.size) := hide (((unhide HY1).2.2.2.2.frame hF (unhide HPX)).lt)
  clear hF HY1
  have y0 : (y2.alloc (.cells #[.int .i64 Ec, .int .i64 Ef] 31)).cell? ⟨y2.heap.size, 0, none⟩ = some (.int .i64 Ec) := (unhide HY2).2.2.2.2.cell 0
  have hcase : (Ec ≠ 0 ∧ R = (tapZ, Ec, Ef)) ∨ (Ec = 0 ∧ R = (⟨dev, ctr, tok, kind, place, time⟩, Ec, Ef)) := by
    have h1 := unhide HE
    have h2 := unhide HR
    have h3 := unhide HCL
    by_cases hc : z.c = 0
    · cases okb
      · rw [if_pos ⟨hc, rfl⟩] at h1
        rw [if_neg (fun h => h hc)] at h2
        injection h1 with h4 h5
        subst h4 h5
        exact Or.inl ⟨by decide, h2⟩
      · rw [if_neg (by simp)] at h1
        rw [if_neg (fun h => h hc)] at h2
        injection h1 with h4 h5
        subst h4 h5
        rw [h3 hc, hc]
        exact Or.inr ⟨rfl, h2⟩
    · rw [if_neg (fun h => hc h.1)] at h1
      rw [if_pos hc] at h2
      injection h1 with h4 h5
      subst h4 h5
      exact Or.inl ⟨hc, h2⟩
  have HBR : Hid (B ≠ R1 ∧ R1 ≠ B ∧ B ≠ X ∧ X ≠ B ∧ R1 ≠ X ∧ X ≠ R1 ∧ B ≠ y2.heap.size ∧ y2.heap.size ≠ B ∧ R1 ≠ y2.heap.size ∧ y2.heap.size ≠ R1) := hide (by
    obtain ⟨d1, d2, d3, d4⟩ := unhide HD
    have := unhide HFB
    omega)
  clear HE HR HCL
  rcases hcase with ⟨hc, hR⟩ | ⟨hc, hR⟩
  · have hcb : (Ec != 0) = true := by simp [hc]
    have HRE := hide hR
    clear hc hR
    go_wp2_with fail
    generalize y2.alloc (.cells #[.int .i64 Ec, .int .i64 Ef] 31) = w5 at *
    generalize y2.heap.size = Fb at *
    have z0 : w5.cell? ⟨X, 0, none⟩ = some (.int .i64 dev) := (unhide HY2).2.2.2.1.cell 0
    have z1 : w5.cell? ⟨X, 1, none⟩ = some (.int .i64 ctr) := (unhide HY2).2.2.2.1.cell 1
    have z2 : w5.cell? ⟨X, 2, none⟩ = some (.string tok) := (unhide HY2).2.2.2.1.cell 2
    have z3 : w5.cell? ⟨X, 3, none⟩ = some (.int .i64 kind) := (unhide HY2).2.2.2.1.cell 3
    have z4 : w5.cell? ⟨X, 4, none⟩ = some (.int .i64 place) := (unhide HY2).2.2.2.1.cell 4
    have z5 : w5.cell? ⟨X, 5, none⟩ = some (.int .i64 time) := (unhide HY2).2.2.2.1.cell 5
    have y0 : w5.cell? ⟨Fb, 0, none⟩ = some (.int .i64 Ec) := (unhide HY2).2.2.2.2.cell 0
    have y1 : w5.cell? ⟨Fb, 1, none⟩ = some (.int .i64 Ef) := (unhide HY2).2.2.2.2.cell 1
    have r0_ : w5.cell? ⟨B, 0, none⟩ = some (.int .i64 0) := (unhide HY2).2.1.cell 0
    have s0_ : w5.frozen? ⟨B, 0, none⟩ = false := (unhide HY2).2.1.frozen 0
    have r1_ : w5.cell? ⟨B, 1, none⟩ = some (.int .i64 0) := (unhide HY2).2.1.cell 1
    have s1_ : w5.frozen? ⟨B, 1, none⟩ = false := (unhide HY2).2.1.frozen 1
    have r2_ : w5.cell? ⟨B, 2, none⟩ = some (.string ⟨#[]⟩) := (unhide HY2).2.1.cell 2
    have s2_ : w5.frozen? ⟨B, 2, none⟩ = false := (unhide HY2).2.1.frozen 2
    have r3_ : w5.cell? ⟨B, 3, none⟩ = some (.int .i64 0) := (unhide HY2).2.1.cell 3
    have s3_ : w5.frozen? ⟨B, 3, none⟩ = false := (unhide HY2).2.1.frozen 3
    have r4_ : w5.cell? ⟨B, 4, none⟩ = some (.int .i64 0) := (unhide HY2).2.1.cell 4
    have s4_ : w5.frozen? ⟨B, 4, none⟩ = false := (unhide HY2).2.1.frozen 4
    have r5_ : w5.cell? ⟨B, 5, none⟩ = some (.int .i64 0) := (unhide HY2).2.1.cell 5
    have s5_ : w5.frozen? ⟨B, 5, none⟩ = false := (unhide HY2).2.1.frozen 5
    have u0_ : w5.cell? ⟨R1, 0, none⟩ = some (.int .i64 0) := (unhide HY2).2.2.1.cell 0
    have v0_ : w5.frozen? ⟨R1, 0, none⟩ = false := (unhide HY2).2.2.1.frozen 0
    have u1_ : w5.cell? ⟨R1, 1, none⟩ = some (.int .i64 0) := (unhide HY2).2.2.1.cell 1
    have v1_ : w5.frozen? ⟨R1, 1, none⟩ = false := (unhide HY2).2.2.1.frozen 1
    obtain ⟨hBR, hRB, hBX, hXB, hRX, hXR, hBF, hFB, hRF, hFR⟩ := unhide HBR
    go_region_held3 (fun w' => w'.cell? ⟨Fb, 0, none⟩ = some (.int .i64 Ec) ∧ w'.cell? ⟨Fb, 1, none⟩ = some (.int .i64 Ef)) (go_keep) (fail)
    go_wp2
    obtain ⟨k0, k1, k2, k3, k4⟩ := unhide HY2
    have e1 := (Bx.setOther (Bx.setOther (Bx.setCell (Bx.setCell (Bx.setCell (Bx.setCell (Bx.setCell (Bx.setCell k1 0 (.int .i64 0)) 1 (.int .i64 0)) 2 (.string ⟨#[]⟩)) 3 (.int .i64 0)) 4 (.int .i64 0)) 5 (.int .i64 0)) hBR 0 (.int .i64 Ec)) hBR 1 (.int .i64 Ef))
    have e2 := (Bx.setCell (Bx.setCell (Bx.setOther (Bx.setOther (Bx.setOther (Bx.setOther (Bx.setOther (Bx.setOther k2 hRB 0 (.int .i64 0)) hRB 1 (.int .i64 0)) hRB 2 (.string ⟨#[]⟩)) hRB 3 (.int .i64 0)) hRB 4 (.int .i64 0)) hRB 5 (.int .i64 0)) 0 (.int .i64 Ec)) 1 (.int .i64 Ef))
    have e3 : Fr (fun _ => False) w ((((((((((w5.setCell ⟨B, 0, none⟩ (.int .i64 0)).setCell ⟨B, 1, none⟩ (.int .i64 0)).setCell ⟨B, 2, none⟩ (.string ⟨#[]⟩)).setCell ⟨B, 3, none⟩ (.int .i64 0)).setCell ⟨B, 4, none⟩ (.int .i64 0)).setCell ⟨B, 5, none⟩ (.int .i64 0)).setCell ⟨R1, 0, none⟩ (.int .i64 Ec)).setCell ⟨R1, 1, none⟩ (.int .i64 Ef))).drew) := Fr.drew (Fr.setCell (Fr.setCell (Fr.setCell (Fr.setCell (Fr.setCell (Fr.setCell (Fr.setCell (Fr.setCell k0 (p := ⟨B, 0, none⟩) (fun h => absurd h (unhide HBL).1) (.int .i64 0)) (p := ⟨B, 1, none⟩) (fun h => absurd h (unhide HBL).1) (.int .i64 0)) (p := ⟨B, 2, none⟩) (fun h => absurd h (unhide HBL).1) (.string ⟨#[]⟩)) (p := ⟨B, 3, none⟩) (fun h => absurd h (unhide HBL).1) (.int .i64 0)) (p := ⟨B, 4, none⟩) (fun h => absurd h (unhide HBL).1) (.int .i64 0)) (p := ⟨B, 5, none⟩) (fun h => absurd h (unhide HBL).1) (.int .i64 0)) (p := ⟨R1, 0, none⟩) (fun h => absurd h (unhide HBL).2) (.int .i64 Ec)) (p := ⟨R1, 1, none⟩) (fun h => absurd h (unhide HBL).2) (.int .i64 Ef))
    exact bodyPost_ret (v := .tuple #[.agg #[.int .i64 0, .int .i64 0, .string ⟨#[]⟩, .int .i64 0, .int .i64 0, .int .i64 0], .agg #[.int .i64 Ec, .int .i64 Ef]]) (results_bx2 rfl _ rfl rfl e1.drew e2.drew Try.underlying23 rfl (tap_size _ rfl) Try.underlying31 rfl (fault_size _ _)) rfl ⟨by first | rfl | (rw [unhide HRE]; rfl), e3⟩
  · have hcb : (Ec != 0) = false := by simp [hc]
    have HRE := hide hR
    clear hc hR
    go_wp2_with fail
    generalize y2.alloc (.cells #[.int .i64 Ec, .int .i64 Ef] 31) = w5 at *
    generalize y2.heap.size = Fb at *
    have z0 : w5.cell? ⟨X, 0, none⟩ = some (.int .i64 dev) := (unhide HY2).2.2.2.1.cell 0
    have z1 : w5.cell? ⟨X, 1, none⟩ = some (.int .i64 ctr) := (unhide HY2).2.2.2.1.cell 1
    have z2 : w5.cell? ⟨X, 2, none⟩ = some (.string tok) := (unhide HY2).2.2.2.1.cell 2
    have z3 : w5.cell? ⟨X, 3, none⟩ = some (.int .i64 kind) := (unhide HY2).2.2.2.1.cell 3
    have z4 : w5.cell? ⟨X, 4, none⟩ = some (.int .i64 place) := (unhide HY2).2.2.2.1.cell 4
    have z5 : w5.cell? ⟨X, 5, none⟩ = some (.int .i64 time) := (unhide HY2).2.2.2.1.cell 5
    have y0 : w5.cell? ⟨Fb, 0, none⟩ = some (.int .i64 Ec) := (unhide HY2).2.2.2.2.cell 0
    have y1 : w5.cell? ⟨Fb, 1, none⟩ = some (.int .i64 Ef) := (unhide HY2).2.2.2.2.cell 1
    have r0_ : w5.cell? ⟨B, 0, none⟩ = some (.int .i64 0) := (unhide HY2).2.1.cell 0
    have s0_ : w5.frozen? ⟨B, 0, none⟩ = false := (unhide HY2).2.1.frozen 0
    have r1_ : w5.cell? ⟨B, 1, none⟩ = some (.int .i64 0) := (unhide HY2).2.1.cell 1
    have s1_ : w5.frozen? ⟨B, 1, none⟩ = false := (unhide HY2).2.1.frozen 1
    have r2_ : w5.cell? ⟨B, 2, none⟩ = some (.string ⟨#[]⟩) := (unhide HY2).2.1.cell 2
    have s2_ : w5.frozen? ⟨B, 2, none⟩ = false := (unhide HY2).2.1.frozen 2
    have r3_ : w5.cell? ⟨B, 3, none⟩ = some (.int .i64 0) := (unhide HY2).2.1.cell 3
    have s3_ : w5.frozen? ⟨B, 3, none⟩ = false := (unhide HY2).2.1.frozen 3
    have r4_ : w5.cell? ⟨B, 4, none⟩ = some (.int .i64 0) := (unhide HY2).2.1.cell 4
    have s4_ : w5.frozen? ⟨B, 4, none⟩ = false := (unhide HY2).2.1.frozen 4
    have r5_ : w5.cell? ⟨B, 5, none⟩ = some (.int .i64 0) := (unhide HY2).2.1.cell 5
    have s5_ : w5.frozen? ⟨B, 5, none⟩ = false := (unhide HY2).2.1.frozen 5
    have u0_ : w5.cell? ⟨R1, 0, none⟩ = some (.int .i64 0) := (unhide HY2).2.2.1.cell 0
    have v0_ : w5.frozen? ⟨R1, 0, none⟩ = false := (unhide HY2).2.2.1.frozen 0
    have u1_ : w5.cell? ⟨R1, 1, none⟩ = some (.int .i64 0) := (unhide HY2).2.2.1.cell 1
    have v1_ : w5.frozen? ⟨R1, 1, none⟩ = false := (unhide HY2).2.2.1.frozen 1
    obtain ⟨hBR, hRB, hBX, hXB, hRX, hXR, hBF, hFB, hRF, hFR⟩ := unhide HBR
    go_region_held3 (fun w' => w'.cell? ⟨X, 0, none⟩ = some (.int .i64 dev) ∧ w'.cell? ⟨X, 1, none⟩ = some (.int .i64 ctr) ∧ w'.cell? ⟨X, 2, none⟩ = some (.string tok) ∧ w'.cell? ⟨X, 3, none⟩ = some (.int .i64 kind) ∧ w'.cell? ⟨X, 4, none⟩ = some (.int .i64 place) ∧ w'.cell? ⟨X, 5, none⟩ = some (.int .i64 time) ∧ w'.cell? ⟨Fb, 0, none⟩ = some (.int .i64 Ec) ∧ w'.cell? ⟨Fb, 1, none⟩ = some (.int .i64 Ef)) (go_keep) (fail)
    go_wp2
    obtain ⟨k0, k1, k2, k3, k4⟩ := unhide HY2
    have e1 := (Bx.setOther (Bx.setOther (Bx.setCell (Bx.setCell (Bx.setCell (Bx.setCell (Bx.setCell (Bx.setCell k1 0 (.int .i64 dev)) 1 (.int .i64 ctr)) 2 (.string tok)) 3 (.int .i64 kind)) 4 (.int .i64 place)) 5 (.int .i64 time)) hBR 0 (.int .i64 Ec)) hBR 1 (.int .i64 Ef))
    have e2 := (Bx.setCell (Bx.setCell (Bx.setOther (Bx.setOther (Bx.setOther (Bx.setOther (Bx.setOther (Bx.setOther k2 hRB 0 (.int .i64 dev)) hRB 1 (.int .i64 ctr)) hRB 2 (.string tok)) hRB 3 (.int .i64 kind)) hRB 4 (.int .i64 place)) hRB 5 (.int .i64 time)) 0 (.int .i64 Ec)) 1 (.int .i64 Ef))
    have e3 : Fr (fun _ => False) w ((((((((((w5.setCell ⟨B, 0, none⟩ (.int .i64 dev)).setCell ⟨B, 1, none⟩ (.int .i64 ctr)).setCell ⟨B, 2, none⟩ (.string tok)).setCell ⟨B, 3, none⟩ (.int .i64 kind)).setCell ⟨B, 4, none⟩ (.int .i64 place)).setCell ⟨B, 5, none⟩ (.int .i64 time)).setCell ⟨R1, 0, none⟩ (.int .i64 Ec)).setCell ⟨R1, 1, none⟩ (.int .i64 Ef))).drew) := Fr.drew (Fr.setCell (Fr.setCell (Fr.setCell (Fr.setCell (Fr.setCell (Fr.setCell (Fr.setCell (Fr.setCell k0 (p := ⟨B, 0, none⟩) (fun h => absurd h (unhide HBL).1) (.int .i64 dev)) (p := ⟨B, 1, none⟩) (fun h => absurd h (unhide HBL).1) (.int .i64 ctr)) (p := ⟨B, 2, none⟩) (fun h => absurd h (unhide HBL).1) (.string tok)) (p := ⟨B, 3, none⟩) (fun h => absurd h (unhide HBL).1) (.int .i64 kind)) (p := ⟨B, 4, none⟩) (fun h => absurd h (unhide HBL).1) (.int .i64 place)) (p := ⟨B, 5, none⟩) (fun h => absurd h (unhide HBL).1) (.int .i64 time)) (p := ⟨R1, 0, none⟩) (fun h => absurd h (unhide HBL).2) (.int .i64 Ec)) (p := ⟨R1, 1, none⟩) (fun h => absurd h (unhide HBL).2) (.int .i64 Ef))
    exact bodyPost_ret (v := .tuple #[.agg #[.int .i64 dev, .int .i64 ctr, .string tok, .int .i64 kind, .int .i64 place, .int .i64 time], .agg #[.int .i64 Ec, .int .i64 Ef]]) (results_bx2 rfl _ rfl rfl e1.drew e2.drew Try.underlying23 rfl (tap_size _ rfl) Try.underlying31 rfl (fault_size _ _)) rfl ⟨by first | rfl | (rw [unhide HRE]; rfl), e3⟩

set_option maxHeartbeats 2000000 in
theorem refReadEntry_any (w : World) (ao : Option Addr) (cap : Nat) (bs : List UInt8) (hB : BInC w ao cap bs) : Calls Try.prog 30 #[.slice ao bs.length cap] w (ReadEntry w (entryRd bs)) := by
  have HSH := hide (entry_shape bs s00)
  obtain ⟨q, Hq⟩ : ∃ q, Hid (rdL bs entryK s00 = q) := ⟨_, rfl⟩
  obtain ⟨t, Ht⟩ : ∃ t, Hid (entryOf q.1 = t) := ⟨_, rfl⟩
  obtain ⟨z, Hz⟩ : ∃ z, Hid (endR q.2 bs.length = z) := ⟨_, rfl⟩
  obtain ⟨R, HRe⟩ : ∃ R, Hid (entryRd bs = R) := ⟨_, rfl⟩
  obtain ⟨okb, Hok⟩ : ∃ b, Hid (entryOk t = b) := ⟨_, rfl⟩
  have HR : Hid (R = if z.c ≠ 0 then (entryZ, z.c, z.f) else if okb then (t, 0, 0) else (entryZ, 80, -1)) := hide (by rw [← unhide HRe]; unfold entryRd; rw [unhide Hq, unhide Ht, unhide Hz, unhide Hok])
  have HCL : Hid (Clean z) := hide (by rw [← unhide Hz, ← unhide Hq]; exact endR_clean (rdL_clean _ clean0) _)
  rw [unhide Hq, unhide Ht] at HSH
  rw [unhide HRe]
  have RE := hide (EntryRight_any t)
  rw [unhide Hok] at RE
  have HBI := hide hB
  unfold enC at HSH RE
  obtain ⟨run, tok, amount, paid⟩ := t
  simp only at HSH RE HR
  clear hB HRe Ht Hok
  go_enter Try.func30, Try.ntmps30
  go_wp2_with fail
  have HX0 : Hid (Fr (fun _ => False) w ((((w.alloc (.cells #[.int .i64 0, .string ⟨#[]⟩, .int .i64 0, .bool false] 48)).alloc (.cells #[.int .i64 0, .int .i64 0] 31)).alloc (.cells #[.slice ao bs.length cap, .int .i64 0, .int .i64 0, .int .i64 0, .int .i64 0] 84)).alloc (.cells #[.int .i64 0, .string ⟨#[]⟩, .int .i64 0, .bool false] 48)) ∧ Bx ((((w.alloc (.cells #[.int .i64 0, .string ⟨#[]⟩, .int .i64 0, .bool false] 48)).alloc (.cells #[.int .i64 0, .int .i64 0] 31)).alloc (.cells #[.slice ao bs.length cap, .int .i64 0, .int .i64 0, .int .i64 0, .int .i64 0] 84)).alloc (.cells #[.int .i64 0, .string ⟨#[]⟩, .int .i64 0, .bool false] 48)) w.heap.size #[.int .i64 0, .string ⟨#[]⟩, .int .i64 0, .bool false] 48 ∧ Bx ((((w.alloc (.cells #[.int .i64 0, .string ⟨#[]⟩, .int .i64 0, .bool false] 48)).alloc (.cells #[.int .i64 0, .int .i64 0] 31)).alloc (.cells #[.slice ao bs.length cap, .int .i64 0, .int .i64 0, .int .i64 0, .int .i64 0] 84)).alloc (.cells #[.int .i64 0, .string ⟨#[]⟩, .int .i64 0, .bool false] 48)) (w.heap.size + 1) #[.int .i64 0, .int .i64 0] 31 ∧ XB ((((w.alloc (.cells #[.int .i64 0, .string ⟨#[]⟩, .int .i64 0, .bool false] 48)).alloc (.cells #[.int .i64 0, .int .i64 0] 31)).alloc (.cells #[.slice ao bs.length cap, .int .i64 0, .int .i64 0, .int .i64 0, .int .i64 0] 84)).alloc (.cells #[.int .i64 0, .string ⟨#[]⟩, .int .i64 0, .bool false] 48)) (w.heap.size + 1 + 1) ao cap bs s00 (w.heap.size + 1 + 1 + 1) #[.int .i64 0, .string ⟨#[]⟩, .int .i64 0, .bool false] 48) := hide (by
    obtain ⟨k0, k1, k2, k3, k4⟩ := four_boxes w #[.int .i64 0, .string ⟨#[]⟩, .int .i64 0, .bool false] #[.int .i64 0, .int .i64 0] #[.slice ao bs.length cap, .int .i64 0, .int .i64 0, .int .i64 0, .int .i64 0] #[.int .i64 0, .string ⟨#[]⟩, .int .i64 0, .bool false] 48 31 84 48
    have hb := (unhide HBI).keep ((((Fr.refl _ w).alloc (.cells #[.int .i64 0, .string ⟨#[]⟩, .int .i64 0, .bool false] 48)).alloc (.cells #[.int .i64 0, .int .i64 0] 31)))
    have hx := newX _ ao cap bs hb.b hb.le hb.max 84
    simp only [heap_alloc] at hx
    refine ⟨k0, k1, k2, XAt.alloc hx _, k4, by omega, fun b' off e h0 => ?_⟩
    obtain ⟨b, o2, e2, hc⟩ := (unhide HBI).b.cell h0
    have := World.block_lt_of_cell? _ _ (hc 0 h0)
    rw [e] at e2
    injection e2 with e2
    injection e2 with e3 e4
    show w.heap.size + 1 + 1 + 1 ≠ b'
    subst e3
    have h5 : b' < w.heap.size := this
    omega)
  obtain ⟨B, HBe⟩ : ∃ B, Hid (w.heap.size = B) := ⟨_, rfl⟩
  rw [unhide HBe] at HX0 ⊢
  generalize ((((w.alloc (.cells #[.int .i64 0, .string ⟨#[]⟩, .int .i64 0, .bool false] 48)).alloc (.cells #[.int .i64 0, .int .i64 0] 31)).alloc (.cells #[.slice ao bs.length cap, .int .i64 0, .int .i64 0, .int .i64 0, .int .i64 0] 84)).alloc (.cells #[.int .i64 0, .string ⟨#[]⟩, .int .i64 0, .bool false] 48)) = w0 at *
  obtain ⟨R1, hR1⟩ : ∃ x, B + 1 = x := ⟨_, rfl⟩
  obtain ⟨p, hp⟩ : ∃ x, B + 1 + 1 = x := ⟨_, rfl⟩
  obtain ⟨X, hX⟩ : ∃ x, B + 1 + 1 + 1 = x := ⟨_, rfl⟩
  rw [hX, hp, hR1] at HX0 ⊢
  have HD : Hid (B < R1 ∧ R1 < p ∧ p < X ∧ w.heap.size = B) := hide ⟨by omega, by omega, by omega, unhide HBe⟩
  have HBL : Hid (¬ B < w.heap.size ∧ ¬ R1 < w.heap.size) := hide (by have := unhide HD; omega)
  clear hR1 hp hX
  have x0 : w0.cell? ⟨X, 0, none⟩ = some (.int .i64 0) := (unhide HX0).2.2.2.x.cell 0
  have f0 : w0.frozen? ⟨X, 0, none⟩ = false := (unhide HX0).2.2.2.x.frozen 0
  go_wp2_with fail
  refine (xNumber (unhide HX0).2.2.2.r 4).mono ?_
  obtain ⟨r0, Hr0⟩ : ∃ r, Hid ((Kd.num 4).rd bs s00 = r) := ⟨_, rfl⟩
  have hr0 : stepR s00 (.int .i64 0) (oNumber bs s00.a 4) = r0 := unhide Hr0
  rw [hr0]
  clear hr0
  obtain ⟨v0, hv0⟩ := rd_num bs (.num 4) s00 (Or.inl ⟨_, rfl⟩)
  rw [unhide Hr0] at hv0
  have Hv0 := hide hv0
  unfold XDone
  rw [hv0]
  clear hv0
  rintro e u0 ⟨rfl, hXA, hF⟩
  have x0n : u0.cell? ⟨X, 0, none⟩ = some (.int .i64 0) := (hF.cell (a := ⟨X, 0, none⟩) (unhide HX0).2.2.2.x.lt (unhide HX0).2.2.2.np).trans x0
  have f0n : u0.frozen? ⟨X, 0, none⟩ = false := (hF.frozen (a := ⟨X, 0, none⟩) (unhide HX0).2.2.2.x.lt (unhide HX0).2.2.2.np).trans f0
  have HX1 : Hid (Fr (fun _ => False) w (u0.setCell ⟨X, 0, none⟩ (.int .i64 v0)) ∧ Bx (u0.setCell ⟨X, 0, none⟩ (.int .i64 v0)) B #[.int .i64 0, .string ⟨#[]⟩, .int .i64 0, .bool false] 48 ∧ Bx (u0.setCell ⟨X, 0, none⟩ (.int .i64 v0)) R1 #[.int .i64 0, .int .i64 0] 31 ∧ XB (u0.setCell ⟨X, 0, none⟩ (.int .i64 v0)) p ao cap bs r0.2 X #[.int .i64 v0, .string ⟨#[]⟩, .int .i64 0, .bool false] 48) := hide (by
    obtain ⟨k0, k1, k2, k3⟩ := unhide HX0
    obtain ⟨d1, d2, d3, d4⟩ := unhide HD
    exact ⟨(k0.trans hF (fun _ hi t => by omega)).setCell (p := ⟨X, 0, none⟩) (fun h => by have h6 : X < w.heap.size := h; omega) _, (k1.frame hF (by omega)).setOther (by omega) _ _, (k2.frame hF (by omega)).setOther (by omega) _ _, k3.step hXA hF 0 _⟩)
  clear hXA hF x0 f0 HX0
  go_wp2_with fail
  clear x0n f0n
  generalize u0.setCell ⟨X, 0, none⟩ (.int .i64 v0) = w1 at *
  have x1 : w1.cell? ⟨X, 1, none⟩ = some (.string ⟨#[]⟩) := (unhide HX1).2.2.2.x.cell 1
  have f1 : w1.frozen? ⟨X, 1, none⟩ = false := (unhide HX1).2.2.2.x.frozen 1
  go_wp2_with fail
  refine (xFixed (unhide HX1).2.2.2.r 8).mono ?_
  obtain ⟨r1, Hr1⟩ : ∃ r, Hid ((Kd.fix 8).rd bs r0.2 = r) := ⟨_, rfl⟩
  have hr1 : stepR r0.2 (.string ⟨#[]⟩) (oFixed bs r0.2.a 8) = r1 := unhide Hr1
  rw [hr1]
  clear hr1
  obtain ⟨v1, hv1⟩ := rd_fix bs 8 r0.2
  rw [unhide Hr1] at hv1
  have Hv1 := hide hv1
  unfold XDone
  rw [hv1]
  clear hv1
  rintro e u1 ⟨rfl, hXA, hF⟩
  have x1n : u1.cell? ⟨X, 1, none⟩ = some (.string ⟨#[]⟩) := (hF.cell (a := ⟨X, 1, none⟩) (unhide HX1).2.2.2.x.lt (unhide HX1).2.2.2.np).trans x1
  have f1n : u1.frozen? ⟨X, 1, none⟩ = false := (hF.frozen (a := ⟨X, 1, none⟩) (unhide HX1).2.2.2.x.lt (unhide HX1).2.2.2.np).trans f1
  have HX2 : Hid (Fr (fun _ => False) w (u1.setCell ⟨X, 1, none⟩ (.string v1)) ∧ Bx (u1.setCell ⟨X, 1, none⟩ (.string v1)) B #[.int .i64 0, .string ⟨#[]⟩, .int .i64 0, .bool false] 48 ∧ Bx (u1.setCell ⟨X, 1, none⟩ (.string v1)) R1 #[.int .i64 0, .int .i64 0] 31 ∧ XB (u1.setCell ⟨X, 1, none⟩ (.string v1)) p ao cap bs r1.2 X #[.int .i64 v0, .string v1, .int .i64 0, .bool false] 48) := hide (by
    obtain ⟨k0, k1, k2, k3⟩ := unhide HX1
    obtain ⟨d1, d2, d3, d4⟩ := unhide HD
    exact ⟨(k0.trans hF (fun _ hi t => by omega)).setCell (p := ⟨X, 1, none⟩) (fun h => by have h6 : X < w.heap.size := h; omega) _, (k1.frame hF (by omega)).setOther (by omega) _ _, (k2.frame hF (by omega)).setOther (by omega) _ _, k3.step hXA hF 1 _⟩)
  clear hXA hF x1 f1 HX1
  go_wp2_with fail
  clear x1n f1n
  generalize u1.setCell ⟨X, 1, none⟩ (.string v1) = w2 at *
  have x2 : w2.cell? ⟨X, 2, none⟩ = some (.int .i64 0) := (unhide HX2).2.2.2.x.cell 2
  have f2 : w2.frozen? ⟨X, 2, none⟩ = false := (unhide HX2).2.2.2.x.frozen 2
  go_wp2_with fail
  refine (xInt (unhide HX2).2.2.2.r).mono ?_
  obtain ⟨r2, Hr2⟩ : ∃ r, Hid ((Kd.int).rd bs r1.2 = r) := ⟨_, rfl⟩
  have hr2 : stepR r1.2 (.int .i64 0) (oInt bs r1.2.a) = r2 := unhide Hr2
  rw [hr2]
  clear hr2
  obtain ⟨v2, hv2⟩ := rd_num bs .int r1.2 (Or.inr rfl)
  rw [unhide Hr2] at hv2
  have Hv2 := hide hv2
  unfold XDone
  rw [hv2]
  clear hv2
  rintro e u2 ⟨rfl, hXA, hF⟩
  have x2n : u2.cell? ⟨X, 2, none⟩ = some (.int .i64 0) := (hF.cell (a := ⟨X, 2, none⟩) (unhide HX2).2.2.2.x.lt (unhide HX2).2.2.2.np).trans x2
  have f2n : u2.frozen? ⟨X, 2, none⟩ = false := (hF.frozen (a := ⟨X, 2, none⟩) (unhide HX2).2.2.2.x.lt (unhide HX2).2.2.2.np).trans f2
  have HX3 : Hid (Fr (fun _ => False) w (u2.setCell ⟨X, 2, none⟩ (.int .i64 v2)) ∧ Bx (u2.setCell ⟨X, 2, none⟩ (.int .i64 v2)) B #[.int .i64 0, .string ⟨#[]⟩, .int .i64 0, .bool false] 48 ∧ Bx (u2.setCell ⟨X, 2, none⟩ (.int .i64 v2)) R1 #[.int .i64 0, .int .i64 0] 31 ∧ XB (u2.setCell ⟨X, 2, none⟩ (.int .i64 v2)) p ao cap bs r2.2 X #[.int .i64 v0, .string v1, .int .i64 v2, .bool false] 48) := hide (by
    obtain ⟨k0, k1, k2, k3⟩ := unhide HX2
    obtain ⟨d1, d2, d3, d4⟩ := unhide HD
    exact ⟨(k0.trans hF (fun _ hi t => by omega)).setCell (p := ⟨X, 2, none⟩) (fun h => by have h6 : X < w.heap.size := h; omega) _, (k1.frame hF (by omega)).setOther (by omega) _ _, (k2.frame hF (by omega)).setOther (by omega) _ _, k3.step hXA hF 2 _⟩)
  clear hXA hF x2 f2 HX2
  go_wp2_with fail
  clear x2n f2n
  generalize u2.setCell ⟨X, 2, none⟩ (.int .i64 v2) = w3 at *
  have x3 : w3.cell? ⟨X, 3, none⟩ = some (.bool false) := (unhide HX3).2.2.2.x.cell 3
  have f3 : w3.frozen? ⟨X, 3, none⟩ = false := (unhide HX3).2.2.2.x.frozen 3
  go_wp2_with fail
  refine (xBool (unhide HX3).2.2.2.r).mono ?_
  obtain ⟨r3, Hr3⟩ : ∃ r, Hid ((Kd.bool).rd bs r2.2 = r) := ⟨_, rfl⟩
  have hr3 : stepR r2.2 (.bool false) (oBool bs r2.2.a) = r3 := unhide Hr3
  rw [hr3]
  clear hr3
  obtain ⟨v3, hv3⟩ := rd_bool bs r2.2
  rw [unhide Hr3] at hv3
  have Hv3 := hide hv3
  unfold XDone
  rw [hv3]
  clear hv3
  rintro e u3 ⟨rfl, hXA, hF⟩
  have x3n : u3.cell? ⟨X, 3, none⟩ = some (.bool false) := (hF.cell (a := ⟨X, 3, none⟩) (unhide HX3).2.2.2.x.lt (unhide HX3).2.2.2.np).trans x3
  have f3n : u3.frozen? ⟨X, 3, none⟩ = false := (hF.frozen (a := ⟨X, 3, none⟩) (unhide HX3).2.2.2.x.lt (unhide HX3).2.2.2.np).trans f3
  have HX4 : Hid (Fr (fun _ => False) w (u3.setCell ⟨X, 3, none⟩ (.bool v3)) ∧ Bx (u3.setCell ⟨X, 3, none⟩ (.bool v3)) B #[.int .i64 0, .string ⟨#[]⟩, .int .i64 0, .bool false] 48 ∧ Bx (u3.setCell ⟨X, 3, none⟩ (.bool v3)) R1 #[.int .i64 0, .int .i64 0] 31 ∧ XB (u3.setCell ⟨X, 3, none⟩ (.bool v3)) p ao cap bs r3.2 X #[.int .i64 v0, .string v1, .int .i64 v2, .bool v3] 48) := hide (by
    obtain ⟨k0, k1, k2, k3⟩ := unhide HX3
    obtain ⟨d1, d2, d3, d4⟩ := unhide HD
    exact ⟨(k0.trans hF (fun _ hi t => by omega)).setCell (p := ⟨X, 3, none⟩) (fun h => by have h6 : X < w.heap.size := h; omega) _, (k1.frame hF (by omega)).setOther (by omega) _ _, (k2.frame hF (by omega)).setOther (by omega) _ _, k3.step hXA hF 3 _⟩)
  clear hXA hF x3 f3 HX3
  have xx0 : (u3.setCell ⟨X, 3, none⟩ (.bool v3)).cell? ⟨X, 0, none⟩ = some (.int .i64 v0) := (unhide HX4).2.2.2.x.cell 0
  have xx1 : (u3.setCell ⟨X, 3, none⟩ (.bool v3)).cell? ⟨X, 1, none⟩ = some (.string v1) := (unhide HX4).2.2.2.x.cell 1
  have xx2 : (u3.setCell ⟨X, 3, none⟩ (.bool v3)).cell? ⟨X, 2, none⟩ = some (.int .i64 v2) := (unhide HX4).2.2.2.x.cell 2
  have xx3 : (u3.setCell ⟨X, 3, none⟩ (.bool v3)).cell? ⟨X, 3, none⟩ = some (.bool v3) := (unhide HX4).2.2.2.x.cell 3
  go_wp2_with fail
  clear x3n f3n
  generalize u3.setCell ⟨X, 3, none⟩ (.bool v3) = w4 at *
  have HQ : Hid (([.int .i64 run, .string tok, .int .i64 amount, .bool paid] : List Value) = [.int .i64 v0, .string v1, .int .i64 v2, .bool v3] ∧ r3.2 = q.2) := hide (by
    have e : rdL bs entryK s00 = ([r0.1, r1.1, r2.1, r3.1], r3.2) := by
      simp only [rdL, unhide Hr0, unhide Hr1, unhide Hr2, unhide Hr3]
    rw [unhide Hq] at e
    refine ⟨?_, by rw [e]⟩
    rw [← unhide HSH, e, unhide Hv0, unhide Hv1, unhide Hv2, unhide Hv3])
  obtain ⟨hq1, hq2⟩ := unhide HQ
  simp only [List.cons.injEq, Value.int.injEq, Value.string.injEq, Value.bool.injEq, true_and, and_true] at hq1
  obtain ⟨a0, a1, a2, a3⟩ := hq1
  subst a0 a1 a2 a3
  rw [hq2] at HX4
  clear HQ hq2 HSH
  refine (unhide RE _).mono ?_
  rintro e y1 ⟨rfl, hF⟩
  have HY1 : Hid (Fr (fun _ => False) w y1 ∧ Bx y1 B #[.int .i64 0, .string ⟨#[]⟩, .int .i64 0, .bool false] 48 ∧ Bx y1 R1 #[.int .i64 0, .int .i64 0] 31 ∧ XAt y1 p ao cap bs q.2 ∧ Bx y1 X #[.int .i64 run, .string tok, .int .i64 amount, .bool paid] 48) := hide (by
    obtain ⟨k0, k1, k2, k3⟩ := unhide HX4
    exact ⟨k0.trans hF (fun _ _ t => t), k1.keep hF, k2.keep hF, k3.r.frameF hF, k3.x.keep hF⟩)
  have HPX : Hid (X ≠ p) := hide (by have := unhide HD; omega)
  clear hF HX4 xx0 xx1 xx2 xx3
  go_wp2_with fail
  refine (ended_any (unhide HY1).2.2.2.1 okb).mono ?_
  rw [unhide Hz]
  generalize hE : endF z okb = E
  have HE : Hid (E = if z.c = 0 ∧ okb = false then (80, -1) else (z.c, z.f)) := hide (by rw [← hE]; rfl)
  obtain ⟨Ec, Ef⟩ := E
  simp only
  clear hE
  rintro e y2 ⟨rfl, hF⟩
  have HY2 : Hid (Fr (fun _ => False) w (y2.alloc (.cells #[.int .i64 Ec, .int .i64 Ef] 31)) ∧ Bx (y2.alloc (.cells #[.int .i64 Ec, .int .i64 Ef] 31)) B #[.int .i64 0, .string ⟨#[]⟩, .int .i64 0, .bool false] 48 ∧ Bx (y2.alloc (.cells #[.int .i64 Ec, .int .i64 Ef] 31)) R1 #[.int .i64 0, .int .i64 0] 31 ∧ Bx (y2.alloc (.cells #[.int .i64 Ec, .int .i64 Ef] 31)) X #[.int .i64 run, .string tok, .int .i64 amount, .bool paid] 48 ∧ Bx (y2.alloc (.cells #[.int .i64 Ec, .int .i64 Ef] 31)) y2.heap.size #[.int .i64 Ec, .int .i64 Ef] 31) := hide (by
    obtain ⟨k0, k1, k2, k3, k4⟩ := unhide HY1
    obtain ⟨d1, d2, d3, d4⟩ := unhide HD
    exact ⟨(k0.trans hF (fun _ hi t => by omega)).alloc _, (k1.frame hF (by omega)).alloc _, (k2.frame hF (by omega)).alloc _, (k4.frame hF (unhide HPX)).alloc _, Bx.new _ _ _⟩)
  have HFB : Hid (X < y2.heap.size) := hide (((unhide HY1).2.2.2.2.frame hF (unhide HPX)).lt)
  clear hF HY1
  have y0 : (y2.alloc (.cells #[.int .i64 Ec, .int .i64 Ef] 31)).cell? ⟨y2.heap.size, 0, none⟩ = some (.int .i64 Ec) := (unhide HY2).2.2.2.2.cell 0
  have hcase : (Ec ≠ 0 ∧ R = (entryZ, Ec, Ef)) ∨ (Ec = 0 ∧ R = (⟨run, tok, amount, paid⟩, Ec, Ef)) := by
    have h1 := unhide HE
    have h2 := unhide HR
    have h3 := unhide HCL
    by_cases hc : z.c = 0
    · cases okb
      · rw [if_pos ⟨hc, rfl⟩] at h1
        rw [if_neg (fun h => h hc)] at h2
        injection h1 with h4 h5
        subst h4 h5
        exact Or.inl ⟨by decide, h2⟩
      · rw [if_neg (by simp)] at h1
        rw [if_neg (fun h => h hc)] at h2
        injection h1 with h4 h5
        subst h4 h5
        rw [h3 hc, hc]
        exact Or.inr ⟨rfl, h2⟩
    · rw [if_neg (fun h => hc h.1)] at h1
      rw [if_pos hc] at h2
      injection h1 with h4 h5
      subst h4 h5
      exact Or.inl ⟨hc, h2⟩
  have HBR : Hid (B ≠ R1 ∧ R1 ≠ B ∧ B ≠ X ∧ X ≠ B ∧ R1 ≠ X ∧ X ≠ R1 ∧ B ≠ y2.heap.size ∧ y2.heap.size ≠ B ∧ R1 ≠ y2.heap.size ∧ y2.heap.size ≠ R1) := hide (by
    obtain ⟨d1, d2, d3, d4⟩ := unhide HD
    have := unhide HFB
    omega)
  clear HE HR HCL
  rcases hcase with ⟨hc, hR⟩ | ⟨hc, hR⟩
  · have hcb : (Ec != 0) = true := by simp [hc]
    have HRE := hide hR
    clear hc hR
    go_wp2_with fail
    generalize y2.alloc (.cells #[.int .i64 Ec, .int .i64 Ef] 31) = w5 at *
    generalize y2.heap.size = Fb at *
    have z0 : w5.cell? ⟨X, 0, none⟩ = some (.int .i64 run) := (unhide HY2).2.2.2.1.cell 0
    have z1 : w5.cell? ⟨X, 1, none⟩ = some (.string tok) := (unhide HY2).2.2.2.1.cell 1
    have z2 : w5.cell? ⟨X, 2, none⟩ = some (.int .i64 amount) := (unhide HY2).2.2.2.1.cell 2
    have z3 : w5.cell? ⟨X, 3, none⟩ = some (.bool paid) := (unhide HY2).2.2.2.1.cell 3
    have y0 : w5.cell? ⟨Fb, 0, none⟩ = some (.int .i64 Ec) := (unhide HY2).2.2.2.2.cell 0
    have y1 : w5.cell? ⟨Fb, 1, none⟩ = some (.int .i64 Ef) := (unhide HY2).2.2.2.2.cell 1
    have r0_ : w5.cell? ⟨B, 0, none⟩ = some (.int .i64 0) := (unhide HY2).2.1.cell 0
    have s0_ : w5.frozen? ⟨B, 0, none⟩ = false := (unhide HY2).2.1.frozen 0
    have r1_ : w5.cell? ⟨B, 1, none⟩ = some (.string ⟨#[]⟩) := (unhide HY2).2.1.cell 1
    have s1_ : w5.frozen? ⟨B, 1, none⟩ = false := (unhide HY2).2.1.frozen 1
    have r2_ : w5.cell? ⟨B, 2, none⟩ = some (.int .i64 0) := (unhide HY2).2.1.cell 2
    have s2_ : w5.frozen? ⟨B, 2, none⟩ = false := (unhide HY2).2.1.frozen 2
    have r3_ : w5.cell? ⟨B, 3, none⟩ = some (.bool false) := (unhide HY2).2.1.cell 3
    have s3_ : w5.frozen? ⟨B, 3, none⟩ = false := (unhide HY2).2.1.frozen 3
    have u0_ : w5.cell? ⟨R1, 0, none⟩ = some (.int .i64 0) := (unhide HY2).2.2.1.cell 0
    have v0_ : w5.frozen? ⟨R1, 0, none⟩ = false := (unhide HY2).2.2.1.frozen 0
    have u1_ : w5.cell? ⟨R1, 1, none⟩ = some (.int .i64 0) := (unhide HY2).2.2.1.cell 1
    have v1_ : w5.frozen? ⟨R1, 1, none⟩ = false := (unhide HY2).2.2.1.frozen 1
    obtain ⟨hBR, hRB, hBX, hXB, hRX, hXR, hBF, hFB, hRF, hFR⟩ := unhide HBR
    go_region_held3 (fun w' => w'.cell? ⟨Fb, 0, none⟩ = some (.int .i64 Ec) ∧ w'.cell? ⟨Fb, 1, none⟩ = some (.int .i64 Ef)) (go_keep) (fail)
    go_wp2
    obtain ⟨k0, k1, k2, k3, k4⟩ := unhide HY2
    have e1 := (Bx.setOther (Bx.setOther (Bx.setCell (Bx.setCell (Bx.setCell (Bx.setCell k1 0 (.int .i64 0)) 1 (.string ⟨#[]⟩)) 2 (.int .i64 0)) 3 (.bool false)) hBR 0 (.int .i64 Ec)) hBR 1 (.int .i64 Ef))
    have e2 := (Bx.setCell (Bx.setCell (Bx.setOther (Bx.setOther (Bx.setOther (Bx.setOther k2 hRB 0 (.int .i64 0)) hRB 1 (.string ⟨#[]⟩)) hRB 2 (.int .i64 0)) hRB 3 (.bool false)) 0 (.int .i64 Ec)) 1 (.int .i64 Ef))
    have e3 : Fr (fun _ => False) w ((((((((w5.setCell ⟨B, 0, none⟩ (.int .i64 0)).setCell ⟨B, 1, none⟩ (.string ⟨#[]⟩)).setCell ⟨B, 2, none⟩ (.int .i64 0)).setCell ⟨B, 3, none⟩ (.bool false)).setCell ⟨R1, 0, none⟩ (.int .i64 Ec)).setCell ⟨R1, 1, none⟩ (.int .i64 Ef))).drew) := Fr.drew (Fr.setCell (Fr.setCell (Fr.setCell (Fr.setCell (Fr.setCell (Fr.setCell k0 (p := ⟨B, 0, none⟩) (fun h => absurd h (unhide HBL).1) (.int .i64 0)) (p := ⟨B, 1, none⟩) (fun h => absurd h (unhide HBL).1) (.string ⟨#[]⟩)) (p := ⟨B, 2, none⟩) (fun h => absurd h (unhide HBL).1) (.int .i64 0)) (p := ⟨B, 3, none⟩) (fun h => absurd h (unhide HBL).1) (.bool false)) (p := ⟨R1, 0, none⟩) (fun h => absurd h (unhide HBL).2) (.int .i64 Ec)) (p := ⟨R1, 1, none⟩) (fun h => absurd h (unhide HBL).2) (.int .i64 Ef))
    exact bodyPost_ret (v := .tuple #[.agg #[.int .i64 0, .string ⟨#[]⟩, .int .i64 0, .bool false], .agg #[.int .i64 Ec, .int .i64 Ef]]) (results_bx2 rfl _ rfl rfl e1.drew e2.drew Try.underlying48 rfl (entry_size _ rfl) Try.underlying31 rfl (fault_size _ _)) rfl ⟨by first | rfl | (rw [unhide HRE]; rfl), e3⟩
  · have hcb : (Ec != 0) = false := by simp [hc]
    have HRE := hide hR
    clear hc hR
    go_wp2_with fail
    generalize y2.alloc (.cells #[.int .i64 Ec, .int .i64 Ef] 31) = w5 at *
    generalize y2.heap.size = Fb at *
    have z0 : w5.cell? ⟨X, 0, none⟩ = some (.int .i64 run) := (unhide HY2).2.2.2.1.cell 0
    have z1 : w5.cell? ⟨X, 1, none⟩ = some (.string tok) := (unhide HY2).2.2.2.1.cell 1
    have z2 : w5.cell? ⟨X, 2, none⟩ = some (.int .i64 amount) := (unhide HY2).2.2.2.1.cell 2
    have z3 : w5.cell? ⟨X, 3, none⟩ = some (.bool paid) := (unhide HY2).2.2.2.1.cell 3
    have y0 : w5.cell? ⟨Fb, 0, none⟩ = some (.int .i64 Ec) := (unhide HY2).2.2.2.2.cell 0
    have y1 : w5.cell? ⟨Fb, 1, none⟩ = some (.int .i64 Ef) := (unhide HY2).2.2.2.2.cell 1
    have r0_ : w5.cell? ⟨B, 0, none⟩ = some (.int .i64 0) := (unhide HY2).2.1.cell 0
    have s0_ : w5.frozen? ⟨B, 0, none⟩ = false := (unhide HY2).2.1.frozen 0
    have r1_ : w5.cell? ⟨B, 1, none⟩ = some (.string ⟨#[]⟩) := (unhide HY2).2.1.cell 1
    have s1_ : w5.frozen? ⟨B, 1, none⟩ = false := (unhide HY2).2.1.frozen 1
    have r2_ : w5.cell? ⟨B, 2, none⟩ = some (.int .i64 0) := (unhide HY2).2.1.cell 2
    have s2_ : w5.frozen? ⟨B, 2, none⟩ = false := (unhide HY2).2.1.frozen 2
    have r3_ : w5.cell? ⟨B, 3, none⟩ = some (.bool false) := (unhide HY2).2.1.cell 3
    have s3_ : w5.frozen? ⟨B, 3, none⟩ = false := (unhide HY2).2.1.frozen 3
    have u0_ : w5.cell? ⟨R1, 0, none⟩ = some (.int .i64 0) := (unhide HY2).2.2.1.cell 0
    have v0_ : w5.frozen? ⟨R1, 0, none⟩ = false := (unhide HY2).2.2.1.frozen 0
    have u1_ : w5.cell? ⟨R1, 1, none⟩ = some (.int .i64 0) := (unhide HY2).2.2.1.cell 1
    have v1_ : w5.frozen? ⟨R1, 1, none⟩ = false := (unhide HY2).2.2.1.frozen 1
    obtain ⟨hBR, hRB, hBX, hXB, hRX, hXR, hBF, hFB, hRF, hFR⟩ := unhide HBR
    go_region_held3 (fun w' => w'.cell? ⟨X, 0, none⟩ = some (.int .i64 run) ∧ w'.cell? ⟨X, 1, none⟩ = some (.string tok) ∧ w'.cell? ⟨X, 2, none⟩ = some (.int .i64 amount) ∧ w'.cell? ⟨X, 3, none⟩ = some (.bool paid) ∧ w'.cell? ⟨Fb, 0, none⟩ = some (.int .i64 Ec) ∧ w'.cell? ⟨Fb, 1, none⟩ = some (.int .i64 Ef)) (go_keep) (fail)
    go_wp2
    obtain ⟨k0, k1, k2, k3, k4⟩ := unhide HY2
    have e1 := (Bx.setOther (Bx.setOther (Bx.setCell (Bx.setCell (Bx.setCell (Bx.setCell k1 0 (.int .i64 run)) 1 (.string tok)) 2 (.int .i64 amount)) 3 (.bool paid)) hBR 0 (.int .i64 Ec)) hBR 1 (.int .i64 Ef))
    have e2 := (Bx.setCell (Bx.setCell (Bx.setOther (Bx.setOther (Bx.setOther (Bx.setOther k2 hRB 0 (.int .i64 run)) hRB 1 (.string tok)) hRB 2 (.int .i64 amount)) hRB 3 (.bool paid)) 0 (.int .i64 Ec)) 1 (.int .i64 Ef))
    have e3 : Fr (fun _ => False) w ((((((((w5.setCell ⟨B, 0, none⟩ (.int .i64 run)).setCell ⟨B, 1, none⟩ (.string tok)).setCell ⟨B, 2, none⟩ (.int .i64 amount)).setCell ⟨B, 3, none⟩ (.bool paid)).setCell ⟨R1, 0, none⟩ (.int .i64 Ec)).setCell ⟨R1, 1, none⟩ (.int .i64 Ef))).drew) := Fr.drew (Fr.setCell (Fr.setCell (Fr.setCell (Fr.setCell (Fr.setCell (Fr.setCell k0 (p := ⟨B, 0, none⟩) (fun h => absurd h (unhide HBL).1) (.int .i64 run)) (p := ⟨B, 1, none⟩) (fun h => absurd h (unhide HBL).1) (.string tok)) (p := ⟨B, 2, none⟩) (fun h => absurd h (unhide HBL).1) (.int .i64 amount)) (p := ⟨B, 3, none⟩) (fun h => absurd h (unhide HBL).1) (.bool paid)) (p := ⟨R1, 0, none⟩) (fun h => absurd h (unhide HBL).2) (.int .i64 Ec)) (p := ⟨R1, 1, none⟩) (fun h => absurd h (unhide HBL).2) (.int .i64 Ef))
    exact bodyPost_ret (v := .tuple #[.agg #[.int .i64 run, .string tok, .int .i64 amount, .bool paid], .agg #[.int .i64 Ec, .int .i64 Ef]]) (results_bx2 rfl _ rfl rfl e1.drew e2.drew Try.underlying48 rfl (entry_size _ rfl) Try.underlying31 rfl (fault_size _ _)) rfl ⟨by first | rfl | (rw [unhide HRE]; rfl), e3⟩

set_option maxHeartbeats 2000000 in
theorem refReadAccount_any (w : World) (ao : Option Addr) (cap : Nat) (bs : List UInt8) (hB : BInC w ao cap bs) : Calls Try.prog 31 #[.slice ao bs.length cap] w (ReadAccount w (accountRd bs)) := by
  have HSH := hide (account_shape bs s00)
  obtain ⟨q, Hq⟩ : ∃ q, Hid (rdL bs accountK s00 = q) := ⟨_, rfl⟩
  obtain ⟨t, Ht⟩ : ∃ t, Hid (accountOf q.1 = t) := ⟨_, rfl⟩
  obtain ⟨z, Hz⟩ : ∃ z, Hid (endR q.2 bs.length = z) := ⟨_, rfl⟩
  obtain ⟨R, HRe⟩ : ∃ R, Hid (accountRd bs = R) := ⟨_, rfl⟩
  obtain ⟨okb, Hok⟩ : ∃ b, Hid (accountOk t = b) := ⟨_, rfl⟩
  have HR : Hid (R = if z.c ≠ 0 then (accountZ, z.c, z.f) else if okb then (t, 0, 0) else (accountZ, 80, -1)) := hide (by rw [← unhide HRe]; unfold accountRd; rw [unhide Hq, unhide Ht, unhide Hz, unhide Hok])
  have HCL : Hid (Clean z) := hide (by rw [← unhide Hz, ← unhide Hq]; exact endR_clean (rdL_clean _ clean0) _)
  rw [unhide Hq, unhide Ht] at HSH
  rw [unhide HRe]
  have RE := hide (AccountRight_any t)
  rw [unhide Hok] at RE
  have HBI := hide hB
  unfold acC at HSH RE
  obtain ⟨tok, charged, paid⟩ := t
  simp only at HSH RE HR
  clear hB HRe Ht Hok
  go_enter Try.func31, Try.ntmps31
  go_wp2_with fail
  have HX0 : Hid (Fr (fun _ => False) w ((((w.alloc (.cells #[.string ⟨#[]⟩, .int .i64 0, .int .i64 0] 50)).alloc (.cells #[.int .i64 0, .int .i64 0] 31)).alloc (.cells #[.slice ao bs.length cap, .int .i64 0, .int .i64 0, .int .i64 0, .int .i64 0] 84)).alloc (.cells #[.string ⟨#[]⟩, .int .i64 0, .int .i64 0] 50)) ∧ Bx ((((w.alloc (.cells #[.string ⟨#[]⟩, .int .i64 0, .int .i64 0] 50)).alloc (.cells #[.int .i64 0, .int .i64 0] 31)).alloc (.cells #[.slice ao bs.length cap, .int .i64 0, .int .i64 0, .int .i64 0, .int .i64 0] 84)).alloc (.cells #[.string ⟨#[]⟩, .int .i64 0, .int .i64 0] 50)) w.heap.size #[.string ⟨#[]⟩, .int .i64 0, .int .i64 0] 50 ∧ Bx ((((w.alloc (.cells #[.string ⟨#[]⟩, .int .i64 0, .int .i64 0] 50)).alloc (.cells #[.int .i64 0, .int .i64 0] 31)).alloc (.cells #[.slice ao bs.length cap, .int .i64 0, .int .i64 0, .int .i64 0, .int .i64 0] 84)).alloc (.cells #[.string ⟨#[]⟩, .int .i64 0, .int .i64 0] 50)) (w.heap.size + 1) #[.int .i64 0, .int .i64 0] 31 ∧ XB ((((w.alloc (.cells #[.string ⟨#[]⟩, .int .i64 0, .int .i64 0] 50)).alloc (.cells #[.int .i64 0, .int .i64 0] 31)).alloc (.cells #[.slice ao bs.length cap, .int .i64 0, .int .i64 0, .int .i64 0, .int .i64 0] 84)).alloc (.cells #[.string ⟨#[]⟩, .int .i64 0, .int .i64 0] 50)) (w.heap.size + 1 + 1) ao cap bs s00 (w.heap.size + 1 + 1 + 1) #[.string ⟨#[]⟩, .int .i64 0, .int .i64 0] 50) := hide (by
    obtain ⟨k0, k1, k2, k3, k4⟩ := four_boxes w #[.string ⟨#[]⟩, .int .i64 0, .int .i64 0] #[.int .i64 0, .int .i64 0] #[.slice ao bs.length cap, .int .i64 0, .int .i64 0, .int .i64 0, .int .i64 0] #[.string ⟨#[]⟩, .int .i64 0, .int .i64 0] 50 31 84 50
    have hb := (unhide HBI).keep ((((Fr.refl _ w).alloc (.cells #[.string ⟨#[]⟩, .int .i64 0, .int .i64 0] 50)).alloc (.cells #[.int .i64 0, .int .i64 0] 31)))
    have hx := newX _ ao cap bs hb.b hb.le hb.max 84
    simp only [heap_alloc] at hx
    refine ⟨k0, k1, k2, XAt.alloc hx _, k4, by omega, fun b' off e h0 => ?_⟩
    obtain ⟨b, o2, e2, hc⟩ := (unhide HBI).b.cell h0
    have := World.block_lt_of_cell? _ _ (hc 0 h0)
    rw [e] at e2
    injection e2 with e2
    injection e2 with e3 e4
    show w.heap.size + 1 + 1 + 1 ≠ b'
    subst e3
    have h5 : b' < w.heap.size := this
    omega)
  obtain ⟨B, HBe⟩ : ∃ B, Hid (w.heap.size = B) := ⟨_, rfl⟩
  rw [unhide HBe] at HX0 ⊢
  generalize ((((w.alloc (.cells #[.string ⟨#[]⟩, .int .i64 0, .int .i64 0] 50)).alloc (.cells #[.int .i64 0, .int .i64 0] 31)).alloc (.cells #[.slice ao bs.length cap, .int .i64 0, .int .i64 0, .int .i64 0, .int .i64 0] 84)).alloc (.cells #[.string ⟨#[]⟩, .int .i64 0, .int .i64 0] 50)) = w0 at *
  obtain ⟨R1, hR1⟩ : ∃ x, B + 1 = x := ⟨_, rfl⟩
  obtain ⟨p, hp⟩ : ∃ x, B + 1 + 1 = x := ⟨_, rfl⟩
  obtain ⟨X, hX⟩ : ∃ x, B + 1 + 1 + 1 = x := ⟨_, rfl⟩
  rw [hX, hp, hR1] at HX0 ⊢
  have HD : Hid (B < R1 ∧ R1 < p ∧ p < X ∧ w.heap.size = B) := hide ⟨by omega, by omega, by omega, unhide HBe⟩
  have HBL : Hid (¬ B < w.heap.size ∧ ¬ R1 < w.heap.size) := hide (by have := unhide HD; omega)
  clear hR1 hp hX
  have x0 : w0.cell? ⟨X, 0, none⟩ = some (.string ⟨#[]⟩) := (unhide HX0).2.2.2.x.cell 0
  have f0 : w0.frozen? ⟨X, 0, none⟩ = false := (unhide HX0).2.2.2.x.frozen 0
  go_wp2_with fail
  refine (xFixed (unhide HX0).2.2.2.r 8).mono ?_
  obtain ⟨r0, Hr0⟩ : ∃ r, Hid ((Kd.fix 8).rd bs s00 = r) := ⟨_, rfl⟩
  have hr0 : stepR s00 (.string ⟨#[]⟩) (oFixed bs s00.a 8) = r0 := unhide Hr0
  rw [hr0]
  clear hr0
  obtain ⟨v0, hv0⟩ := rd_fix bs 8 s00
  rw [unhide Hr0] at hv0
  have Hv0 := hide hv0
  unfold XDone
  rw [hv0]
  clear hv0
  rintro e u0 ⟨rfl, hXA, hF⟩
  have x0n : u0.cell? ⟨X, 0, none⟩ = some (.string ⟨#[]⟩) := (hF.cell (a := ⟨X, 0, none⟩) (unhide HX0).2.2.2.x.lt (unhide HX0).2.2.2.np).trans x0
  have f0n : u0.frozen? ⟨X, 0, none⟩ = false := (hF.frozen (a := ⟨X, 0, none⟩) (unhide HX0).2.2.2.x.lt (unhide HX0).2.2.2.np).trans f0
  have HX1 : Hid (Fr (fun _ => False) w (u0.setCell ⟨X, 0, none⟩ (.string v0)) ∧ Bx (u0.setCell ⟨X, 0, none⟩ (.string v0)) B #[.string ⟨#[]⟩, .int .i64 0, .int .i64 0] 50 ∧ Bx (u0.setCell ⟨X, 0, none⟩ (.string v0)) R1 #[.int .i64 0, .int .i64 0] 31 ∧ XB (u0.setCell ⟨X, 0, none⟩ (.string v0)) p ao cap bs r0.2 X #[.string v0, .int .i64 0, .int .i64 0] 50) := hide (by
    obtain ⟨k0, k1, k2, k3⟩ := unhide HX0
    obtain ⟨d1, d2, d3, d4⟩ := unhide HD
    exact ⟨(k0.trans hF (fun _ hi t => by omega)).setCell (p := ⟨X, 0, none⟩) (fun h => by have h6 : X < w.heap.size := h; omega) _, (k1.frame hF (by omega)).setOther (by omega) _ _, (k2.frame hF (by omega)).setOther (by omega) _ _, k3.step hXA hF 0 _⟩)
  clear hXA hF x0 f0 HX0
  go_wp2_with fail
  clear x0n f0n
  generalize u0.setCell ⟨X, 0, none⟩ (.string v0) = w1 at *
  have x1 : w1.cell? ⟨X, 1, none⟩ = some (.int .i64 0) := (unhide HX1).2.2.2.x.cell 1
  have f1 : w1.frozen? ⟨X, 1, none⟩ = false := (unhide HX1).2.2.2.x.frozen 1
  go_wp2_with fail
  refine (xNumber (unhide HX1).2.2.2.r 8).mono ?_
  obtain ⟨r1, Hr1⟩ : ∃ r, Hid ((Kd.num 8).rd bs r0.2 = r) := ⟨_, rfl⟩
  have hr1 : stepR r0.2 (.int .i64 0) (oNumber bs r0.2.a 8) = r1 := unhide Hr1
  rw [hr1]
  clear hr1
  obtain ⟨v1, hv1⟩ := rd_num bs (.num 8) r0.2 (Or.inl ⟨_, rfl⟩)
  rw [unhide Hr1] at hv1
  have Hv1 := hide hv1
  unfold XDone
  rw [hv1]
  clear hv1
  rintro e u1 ⟨rfl, hXA, hF⟩
  have x1n : u1.cell? ⟨X, 1, none⟩ = some (.int .i64 0) := (hF.cell (a := ⟨X, 1, none⟩) (unhide HX1).2.2.2.x.lt (unhide HX1).2.2.2.np).trans x1
  have f1n : u1.frozen? ⟨X, 1, none⟩ = false := (hF.frozen (a := ⟨X, 1, none⟩) (unhide HX1).2.2.2.x.lt (unhide HX1).2.2.2.np).trans f1
  have HX2 : Hid (Fr (fun _ => False) w (u1.setCell ⟨X, 1, none⟩ (.int .i64 v1)) ∧ Bx (u1.setCell ⟨X, 1, none⟩ (.int .i64 v1)) B #[.string ⟨#[]⟩, .int .i64 0, .int .i64 0] 50 ∧ Bx (u1.setCell ⟨X, 1, none⟩ (.int .i64 v1)) R1 #[.int .i64 0, .int .i64 0] 31 ∧ XB (u1.setCell ⟨X, 1, none⟩ (.int .i64 v1)) p ao cap bs r1.2 X #[.string v0, .int .i64 v1, .int .i64 0] 50) := hide (by
    obtain ⟨k0, k1, k2, k3⟩ := unhide HX1
    obtain ⟨d1, d2, d3, d4⟩ := unhide HD
    exact ⟨(k0.trans hF (fun _ hi t => by omega)).setCell (p := ⟨X, 1, none⟩) (fun h => by have h6 : X < w.heap.size := h; omega) _, (k1.frame hF (by omega)).setOther (by omega) _ _, (k2.frame hF (by omega)).setOther (by omega) _ _, k3.step hXA hF 1 _⟩)
  clear hXA hF x1 f1 HX1
  go_wp2_with fail
  clear x1n f1n
  generalize u1.setCell ⟨X, 1, none⟩ (.int .i64 v1) = w2 at *
  have x2 : w2.cell? ⟨X, 2, none⟩ = some (.int .i64 0) := (unhide HX2).2.2.2.x.cell 2
  have f2 : w2.frozen? ⟨X, 2, none⟩ = false := (unhide HX2).2.2.2.x.frozen 2
  go_wp2_with fail
  refine (xNumber (unhide HX2).2.2.2.r 8).mono ?_
  obtain ⟨r2, Hr2⟩ : ∃ r, Hid ((Kd.num 8).rd bs r1.2 = r) := ⟨_, rfl⟩
  have hr2 : stepR r1.2 (.int .i64 0) (oNumber bs r1.2.a 8) = r2 := unhide Hr2
  rw [hr2]
  clear hr2
  obtain ⟨v2, hv2⟩ := rd_num bs (.num 8) r1.2 (Or.inl ⟨_, rfl⟩)
  rw [unhide Hr2] at hv2
  have Hv2 := hide hv2
  unfold XDone
  rw [hv2]
  clear hv2
  rintro e u2 ⟨rfl, hXA, hF⟩
  have x2n : u2.cell? ⟨X, 2, none⟩ = some (.int .i64 0) := (hF.cell (a := ⟨X, 2, none⟩) (unhide HX2).2.2.2.x.lt (unhide HX2).2.2.2.np).trans x2
  have f2n : u2.frozen? ⟨X, 2, none⟩ = false := (hF.frozen (a := ⟨X, 2, none⟩) (unhide HX2).2.2.2.x.lt (unhide HX2).2.2.2.np).trans f2
  have HX3 : Hid (Fr (fun _ => False) w (u2.setCell ⟨X, 2, none⟩ (.int .i64 v2)) ∧ Bx (u2.setCell ⟨X, 2, none⟩ (.int .i64 v2)) B #[.string ⟨#[]⟩, .int .i64 0, .int .i64 0] 50 ∧ Bx (u2.setCell ⟨X, 2, none⟩ (.int .i64 v2)) R1 #[.int .i64 0, .int .i64 0] 31 ∧ XB (u2.setCell ⟨X, 2, none⟩ (.int .i64 v2)) p ao cap bs r2.2 X #[.string v0, .int .i64 v1, .int .i64 v2] 50) := hide (by
    obtain ⟨k0, k1, k2, k3⟩ := unhide HX2
    obtain ⟨d1, d2, d3, d4⟩ := unhide HD
    exact ⟨(k0.trans hF (fun _ hi t => by omega)).setCell (p := ⟨X, 2, none⟩) (fun h => by have h6 : X < w.heap.size := h; omega) _, (k1.frame hF (by omega)).setOther (by omega) _ _, (k2.frame hF (by omega)).setOther (by omega) _ _, k3.step hXA hF 2 _⟩)
  clear hXA hF x2 f2 HX2
  have xx0 : (u2.setCell ⟨X, 2, none⟩ (.int .i64 v2)).cell? ⟨X, 0, none⟩ = some (.string v0) := (unhide HX3).2.2.2.x.cell 0
  have xx1 : (u2.setCell ⟨X, 2, none⟩ (.int .i64 v2)).cell? ⟨X, 1, none⟩ = some (.int .i64 v1) := (unhide HX3).2.2.2.x.cell 1
  have xx2 : (u2.setCell ⟨X, 2, none⟩ (.int .i64 v2)).cell? ⟨X, 2, none⟩ = some (.int .i64 v2) := (unhide HX3).2.2.2.x.cell 2
  go_wp2_with fail
  clear x2n f2n
  generalize u2.setCell ⟨X, 2, none⟩ (.int .i64 v2) = w3 at *
  have HQ : Hid (([.string tok, .int .i64 charged, .int .i64 paid] : List Value) = [.string v0, .int .i64 v1, .int .i64 v2] ∧ r2.2 = q.2) := hide (by
    have e : rdL bs accountK s00 = ([r0.1, r1.1, r2.1], r2.2) := by
      simp only [rdL, unhide Hr0, unhide Hr1, unhide Hr2]
    rw [unhide Hq] at e
    refine ⟨?_, by rw [e]⟩
    rw [← unhide HSH, e, unhide Hv0, unhide Hv1, unhide Hv2])
  obtain ⟨hq1, hq2⟩ := unhide HQ
  simp only [List.cons.injEq, Value.int.injEq, Value.string.injEq, true_and, and_true] at hq1
  obtain ⟨a0, a1, a2⟩ := hq1
  subst a0 a1 a2
  rw [hq2] at HX3
  clear HQ hq2 HSH
  refine (unhide RE _).mono ?_
  rintro e y1 ⟨rfl, hF⟩
  have HY1 : Hid (Fr (fun _ => False) w y1 ∧ Bx y1 B #[.string ⟨#[]⟩, .int .i64 0, .int .i64 0] 50 ∧ Bx y1 R1 #[.int .i64 0, .int .i64 0] 31 ∧ XAt y1 p ao cap bs q.2 ∧ Bx y1 X #[.string tok, .int .i64 charged, .int .i64 paid] 50) := hide (by
    obtain ⟨k0, k1, k2, k3⟩ := unhide HX3
    exact ⟨k0.trans hF (fun _ _ t => t), k1.keep hF, k2.keep hF, k3.r.frameF hF, k3.x.keep hF⟩)
  have HPX : Hid (X ≠ p) := hide (by have := unhide HD; omega)
  clear hF HX3 xx0 xx1 xx2
  go_wp2_with fail
  refine (ended_any (unhide HY1).2.2.2.1 okb).mono ?_
  rw [unhide Hz]
  generalize hE : endF z okb = E
  have HE : Hid (E = if z.c = 0 ∧ okb = false then (80, -1) else (z.c, z.f)) := hide (by rw [← hE]; rfl)
  obtain ⟨Ec, Ef⟩ := E
  simp only
  clear hE
  rintro e y2 ⟨rfl, hF⟩
  have HY2 : Hid (Fr (fun _ => False) w (y2.alloc (.cells #[.int .i64 Ec, .int .i64 Ef] 31)) ∧ Bx (y2.alloc (.cells #[.int .i64 Ec, .int .i64 Ef] 31)) B #[.string ⟨#[]⟩, .int .i64 0, .int .i64 0] 50 ∧ Bx (y2.alloc (.cells #[.int .i64 Ec, .int .i64 Ef] 31)) R1 #[.int .i64 0, .int .i64 0] 31 ∧ Bx (y2.alloc (.cells #[.int .i64 Ec, .int .i64 Ef] 31)) X #[.string tok, .int .i64 charged, .int .i64 paid] 50 ∧ Bx (y2.alloc (.cells #[.int .i64 Ec, .int .i64 Ef] 31)) y2.heap.size #[.int .i64 Ec, .int .i64 Ef] 31) := hide (by
    obtain ⟨k0, k1, k2, k3, k4⟩ := unhide HY1
    obtain ⟨d1, d2, d3, d4⟩ := unhide HD
    exact ⟨(k0.trans hF (fun _ hi t => by omega)).alloc _, (k1.frame hF (by omega)).alloc _, (k2.frame hF (by omega)).alloc _, (k4.frame hF (unhide HPX)).alloc _, Bx.new _ _ _⟩)
  have HFB : Hid (X < y2.heap.size) := hide (((unhide HY1).2.2.2.2.frame hF (unhide HPX)).lt)
  clear hF HY1
  have y0 : (y2.alloc (.cells #[.int .i64 Ec, .int .i64 Ef] 31)).cell? ⟨y2.heap.size, 0, none⟩ = some (.int .i64 Ec) := (unhide HY2).2.2.2.2.cell 0
  have hcase : (Ec ≠ 0 ∧ R = (accountZ, Ec, Ef)) ∨ (Ec = 0 ∧ R = (⟨tok, charged, paid⟩, Ec, Ef)) := by
    have h1 := unhide HE
    have h2 := unhide HR
    have h3 := unhide HCL
    by_cases hc : z.c = 0
    · cases okb
      · rw [if_pos ⟨hc, rfl⟩] at h1
        rw [if_neg (fun h => h hc)] at h2
        injection h1 with h4 h5
        subst h4 h5
        exact Or.inl ⟨by decide, h2⟩
      · rw [if_neg (by simp)] at h1
        rw [if_neg (fun h => h hc)] at h2
        injection h1 with h4 h5
        subst h4 h5
        rw [h3 hc, hc]
        exact Or.inr ⟨rfl, h2⟩
    · rw [if_neg (fun h => hc h.1)] at h1
      rw [if_pos hc] at h2
      injection h1 with h4 h5
      subst h4 h5
      exact Or.inl ⟨hc, h2⟩
  have HBR : Hid (B ≠ R1 ∧ R1 ≠ B ∧ B ≠ X ∧ X ≠ B ∧ R1 ≠ X ∧ X ≠ R1 ∧ B ≠ y2.heap.size ∧ y2.heap.size ≠ B ∧ R1 ≠ y2.heap.size ∧ y2.heap.size ≠ R1) := hide (by
    obtain ⟨d1, d2, d3, d4⟩ := unhide HD
    have := unhide HFB
    omega)
  clear HE HR HCL
  rcases hcase with ⟨hc, hR⟩ | ⟨hc, hR⟩
  · have hcb : (Ec != 0) = true := by simp [hc]
    have HRE := hide hR
    clear hc hR
    go_wp2_with fail
    generalize y2.alloc (.cells #[.int .i64 Ec, .int .i64 Ef] 31) = w5 at *
    generalize y2.heap.size = Fb at *
    have z0 : w5.cell? ⟨X, 0, none⟩ = some (.string tok) := (unhide HY2).2.2.2.1.cell 0
    have z1 : w5.cell? ⟨X, 1, none⟩ = some (.int .i64 charged) := (unhide HY2).2.2.2.1.cell 1
    have z2 : w5.cell? ⟨X, 2, none⟩ = some (.int .i64 paid) := (unhide HY2).2.2.2.1.cell 2
    have y0 : w5.cell? ⟨Fb, 0, none⟩ = some (.int .i64 Ec) := (unhide HY2).2.2.2.2.cell 0
    have y1 : w5.cell? ⟨Fb, 1, none⟩ = some (.int .i64 Ef) := (unhide HY2).2.2.2.2.cell 1
    have r0_ : w5.cell? ⟨B, 0, none⟩ = some (.string ⟨#[]⟩) := (unhide HY2).2.1.cell 0
    have s0_ : w5.frozen? ⟨B, 0, none⟩ = false := (unhide HY2).2.1.frozen 0
    have r1_ : w5.cell? ⟨B, 1, none⟩ = some (.int .i64 0) := (unhide HY2).2.1.cell 1
    have s1_ : w5.frozen? ⟨B, 1, none⟩ = false := (unhide HY2).2.1.frozen 1
    have r2_ : w5.cell? ⟨B, 2, none⟩ = some (.int .i64 0) := (unhide HY2).2.1.cell 2
    have s2_ : w5.frozen? ⟨B, 2, none⟩ = false := (unhide HY2).2.1.frozen 2
    have u0_ : w5.cell? ⟨R1, 0, none⟩ = some (.int .i64 0) := (unhide HY2).2.2.1.cell 0
    have v0_ : w5.frozen? ⟨R1, 0, none⟩ = false := (unhide HY2).2.2.1.frozen 0
    have u1_ : w5.cell? ⟨R1, 1, none⟩ = some (.int .i64 0) := (unhide HY2).2.2.1.cell 1
    have v1_ : w5.frozen? ⟨R1, 1, none⟩ = false := (unhide HY2).2.2.1.frozen 1
    obtain ⟨hBR, hRB, hBX, hXB, hRX, hXR, hBF, hFB, hRF, hFR⟩ := unhide HBR
    go_region_held3 (fun w' => w'.cell? ⟨Fb, 0, none⟩ = some (.int .i64 Ec) ∧ w'.cell? ⟨Fb, 1, none⟩ = some (.int .i64 Ef)) (go_keep) (fail)
    go_wp2
    obtain ⟨k0, k1, k2, k3, k4⟩ := unhide HY2
    have e1 := (Bx.setOther (Bx.setOther (Bx.setCell (Bx.setCell (Bx.setCell k1 0 (.string ⟨#[]⟩)) 1 (.int .i64 0)) 2 (.int .i64 0)) hBR 0 (.int .i64 Ec)) hBR 1 (.int .i64 Ef))
    have e2 := (Bx.setCell (Bx.setCell (Bx.setOther (Bx.setOther (Bx.setOther k2 hRB 0 (.string ⟨#[]⟩)) hRB 1 (.int .i64 0)) hRB 2 (.int .i64 0)) 0 (.int .i64 Ec)) 1 (.int .i64 Ef))
    have e3 : Fr (fun _ => False) w (((((((w5.setCell ⟨B, 0, none⟩ (.string ⟨#[]⟩)).setCell ⟨B, 1, none⟩ (.int .i64 0)).setCell ⟨B, 2, none⟩ (.int .i64 0)).setCell ⟨R1, 0, none⟩ (.int .i64 Ec)).setCell ⟨R1, 1, none⟩ (.int .i64 Ef))).drew) := Fr.drew (Fr.setCell (Fr.setCell (Fr.setCell (Fr.setCell (Fr.setCell k0 (p := ⟨B, 0, none⟩) (fun h => absurd h (unhide HBL).1) (.string ⟨#[]⟩)) (p := ⟨B, 1, none⟩) (fun h => absurd h (unhide HBL).1) (.int .i64 0)) (p := ⟨B, 2, none⟩) (fun h => absurd h (unhide HBL).1) (.int .i64 0)) (p := ⟨R1, 0, none⟩) (fun h => absurd h (unhide HBL).2) (.int .i64 Ec)) (p := ⟨R1, 1, none⟩) (fun h => absurd h (unhide HBL).2) (.int .i64 Ef))
    exact bodyPost_ret (v := .tuple #[.agg #[.string ⟨#[]⟩, .int .i64 0, .int .i64 0], .agg #[.int .i64 Ec, .int .i64 Ef]]) (results_bx2 rfl _ rfl rfl e1.drew e2.drew Try.underlying50 rfl (account_size _ rfl) Try.underlying31 rfl (fault_size _ _)) rfl ⟨by first | rfl | (rw [unhide HRE]; rfl), e3⟩
  · have hcb : (Ec != 0) = false := by simp [hc]
    have HRE := hide hR
    clear hc hR
    go_wp2_with fail
    generalize y2.alloc (.cells #[.int .i64 Ec, .int .i64 Ef] 31) = w5 at *
    generalize y2.heap.size = Fb at *
    have z0 : w5.cell? ⟨X, 0, none⟩ = some (.string tok) := (unhide HY2).2.2.2.1.cell 0
    have z1 : w5.cell? ⟨X, 1, none⟩ = some (.int .i64 charged) := (unhide HY2).2.2.2.1.cell 1
    have z2 : w5.cell? ⟨X, 2, none⟩ = some (.int .i64 paid) := (unhide HY2).2.2.2.1.cell 2
    have y0 : w5.cell? ⟨Fb, 0, none⟩ = some (.int .i64 Ec) := (unhide HY2).2.2.2.2.cell 0
    have y1 : w5.cell? ⟨Fb, 1, none⟩ = some (.int .i64 Ef) := (unhide HY2).2.2.2.2.cell 1
    have r0_ : w5.cell? ⟨B, 0, none⟩ = some (.string ⟨#[]⟩) := (unhide HY2).2.1.cell 0
    have s0_ : w5.frozen? ⟨B, 0, none⟩ = false := (unhide HY2).2.1.frozen 0
    have r1_ : w5.cell? ⟨B, 1, none⟩ = some (.int .i64 0) := (unhide HY2).2.1.cell 1
    have s1_ : w5.frozen? ⟨B, 1, none⟩ = false := (unhide HY2).2.1.frozen 1
    have r2_ : w5.cell? ⟨B, 2, none⟩ = some (.int .i64 0) := (unhide HY2).2.1.cell 2
    have s2_ : w5.frozen? ⟨B, 2, none⟩ = false := (unhide HY2).2.1.frozen 2
    have u0_ : w5.cell? ⟨R1, 0, none⟩ = some (.int .i64 0) := (unhide HY2).2.2.1.cell 0
    have v0_ : w5.frozen? ⟨R1, 0, none⟩ = false := (unhide HY2).2.2.1.frozen 0
    have u1_ : w5.cell? ⟨R1, 1, none⟩ = some (.int .i64 0) := (unhide HY2).2.2.1.cell 1
    have v1_ : w5.frozen? ⟨R1, 1, none⟩ = false := (unhide HY2).2.2.1.frozen 1
    obtain ⟨hBR, hRB, hBX, hXB, hRX, hXR, hBF, hFB, hRF, hFR⟩ := unhide HBR
    go_region_held3 (fun w' => w'.cell? ⟨X, 0, none⟩ = some (.string tok) ∧ w'.cell? ⟨X, 1, none⟩ = some (.int .i64 charged) ∧ w'.cell? ⟨X, 2, none⟩ = some (.int .i64 paid) ∧ w'.cell? ⟨Fb, 0, none⟩ = some (.int .i64 Ec) ∧ w'.cell? ⟨Fb, 1, none⟩ = some (.int .i64 Ef)) (go_keep) (fail)
    go_wp2
    obtain ⟨k0, k1, k2, k3, k4⟩ := unhide HY2
    have e1 := (Bx.setOther (Bx.setOther (Bx.setCell (Bx.setCell (Bx.setCell k1 0 (.string tok)) 1 (.int .i64 charged)) 2 (.int .i64 paid)) hBR 0 (.int .i64 Ec)) hBR 1 (.int .i64 Ef))
    have e2 := (Bx.setCell (Bx.setCell (Bx.setOther (Bx.setOther (Bx.setOther k2 hRB 0 (.string tok)) hRB 1 (.int .i64 charged)) hRB 2 (.int .i64 paid)) 0 (.int .i64 Ec)) 1 (.int .i64 Ef))
    have e3 : Fr (fun _ => False) w (((((((w5.setCell ⟨B, 0, none⟩ (.string tok)).setCell ⟨B, 1, none⟩ (.int .i64 charged)).setCell ⟨B, 2, none⟩ (.int .i64 paid)).setCell ⟨R1, 0, none⟩ (.int .i64 Ec)).setCell ⟨R1, 1, none⟩ (.int .i64 Ef))).drew) := Fr.drew (Fr.setCell (Fr.setCell (Fr.setCell (Fr.setCell (Fr.setCell k0 (p := ⟨B, 0, none⟩) (fun h => absurd h (unhide HBL).1) (.string tok)) (p := ⟨B, 1, none⟩) (fun h => absurd h (unhide HBL).1) (.int .i64 charged)) (p := ⟨B, 2, none⟩) (fun h => absurd h (unhide HBL).1) (.int .i64 paid)) (p := ⟨R1, 0, none⟩) (fun h => absurd h (unhide HBL).2) (.int .i64 Ec)) (p := ⟨R1, 1, none⟩) (fun h => absurd h (unhide HBL).2) (.int .i64 Ef))
    exact bodyPost_ret (v := .tuple #[.agg #[.string tok, .int .i64 charged, .int .i64 paid], .agg #[.int .i64 Ec, .int .i64 Ef]]) (results_bx2 rfl _ rfl rfl e1.drew e2.drew Try.underlying50 rfl (account_size _ rfl) Try.underlying31 rfl (fault_size _ _)) rfl ⟨by first | rfl | (rw [unhide HRE]; rfl), e3⟩

end Go.Proofs.Ytkjoojamkbpfcaa
