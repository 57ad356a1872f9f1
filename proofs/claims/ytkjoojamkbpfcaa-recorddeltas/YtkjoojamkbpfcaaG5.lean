/- The document's own readings: deltas. -/
import Derived.Test.YtkjoojamkbpfcaaG4
namespace Go.Proofs.Ytkjoojamkbpfcaa
open Go.RowKit

set_option maxHeartbeats 2000000 in
theorem refReadDelta_any (w : World) (ao : Option Addr) (cap : Nat) (bs : List UInt8) (hB : BInC w ao cap bs) : Calls Try.prog 22 #[.slice ao bs.length cap] w (ReadDelta w (deltaRd bs)) := by
  have HSH := hide (delta_shape bs s00)
  obtain ⟨d, Hd⟩ : ∃ d, Hid (deltaOf bs s00 = d) := ⟨_, rfl⟩
  obtain ⟨q, Hq⟩ : ∃ q, Hid (deltaS3 bs s00 = q) := ⟨_, rfl⟩
  obtain ⟨z, Hz⟩ : ∃ z, Hid (endR q bs.length = z) := ⟨_, rfl⟩
  obtain ⟨R, HRe⟩ : ∃ R, Hid (deltaRd bs = R) := ⟨_, rfl⟩
  obtain ⟨okb, Hok⟩ : ∃ b, Hid (deltaOk d = b) := ⟨_, rfl⟩
  have HR : Hid (R = if z.c ≠ 0 then (deltaZ, z.c, z.f) else if okb then (d, 0, 0) else (deltaZ, 80, -1)) := hide (by rw [← unhide HRe]; unfold deltaRd; rw [unhide Hq, unhide Hd, unhide Hz, unhide Hok])
  have HCL : Hid (Clean z) := hide (by rw [← unhide Hz, ← unhide Hq]; exact endR_clean (rdM_clean _ _ (rdM_clean _ _ (rdL_clean _ clean0))) _)
  rw [unhide Hd] at HSH
  rw [unhide HRe]
  have HBI := hide hB
  clear hB HRe
  have HQ0 : Hid (stepR s00 (.int .i64 0) (oNumber bs s00.a 8) = (.int .i64 d.ver, deltaS1 bs s00)) := hide (Prod.ext (unhide HSH).1 rfl)
  have HQ1 : Hid ((rdM bs 1000 tokenK (deltaS1 bs s00)).1.length = d.add.length ∧ (rdM bs 1000 tokenK (deltaS1 bs s00)).1.flatten = tkV d.add ∧ (rdM bs 1000 tokenK (deltaS1 bs s00)).2 = deltaS2 bs s00) := hide ⟨(unhide HSH).2.1, (unhide HSH).2.2.2.1, rfl⟩
  have HQ2 : Hid ((rdM bs 1000 tokenK (deltaS2 bs s00)).1.length = d.gone.length ∧ (rdM bs 1000 tokenK (deltaS2 bs s00)).1.flatten = tkV d.gone ∧ (rdM bs 1000 tokenK (deltaS2 bs s00)).2 = q) := hide ⟨(unhide HSH).2.2.1, (unhide HSH).2.2.2.2.1, unhide Hq⟩
  have HLN := hide (unhide HSH).2.2.2.2.2
  generalize deltaS1 bs s00 = S1 at *
  generalize deltaS2 bs s00 = S2 at *
  clear HSH Hd Hq
  go_enter Try.func22, Try.ntmps22
  go_wp2_with fail
  have HX0 : Hid (Fr (fun _ => False) w ((((w.alloc (.cells #[.int .i64 0, .slice none 0 0, .slice none 0 0] 41)).alloc (.cells #[.int .i64 0, .int .i64 0] 31)).alloc (.cells #[.slice ao bs.length cap, .int .i64 0, .int .i64 0, .int .i64 0, .int .i64 0] 84)).alloc (.cells #[.int .i64 0, .slice none 0 0, .slice none 0 0] 41)) ∧ Bx ((((w.alloc (.cells #[.int .i64 0, .slice none 0 0, .slice none 0 0] 41)).alloc (.cells #[.int .i64 0, .int .i64 0] 31)).alloc (.cells #[.slice ao bs.length cap, .int .i64 0, .int .i64 0, .int .i64 0, .int .i64 0] 84)).alloc (.cells #[.int .i64 0, .slice none 0 0, .slice none 0 0] 41)) w.heap.size #[.int .i64 0, .slice none 0 0, .slice none 0 0] 41 ∧ Bx ((((w.alloc (.cells #[.int .i64 0, .slice none 0 0, .slice none 0 0] 41)).alloc (.cells #[.int .i64 0, .int .i64 0] 31)).alloc (.cells #[.slice ao bs.length cap, .int .i64 0, .int .i64 0, .int .i64 0, .int .i64 0] 84)).alloc (.cells #[.int .i64 0, .slice none 0 0, .slice none 0 0] 41)) (w.heap.size + 1) #[.int .i64 0, .int .i64 0] 31 ∧ XB ((((w.alloc (.cells #[.int .i64 0, .slice none 0 0, .slice none 0 0] 41)).alloc (.cells #[.int .i64 0, .int .i64 0] 31)).alloc (.cells #[.slice ao bs.length cap, .int .i64 0, .int .i64 0, .int .i64 0, .int .i64 0] 84)).alloc (.cells #[.int .i64 0, .slice none 0 0, .slice none 0 0] 41)) (w.heap.size + 1 + 1) ao cap bs s00 (w.heap.size + 1 + 1 + 1) #[.int .i64 0, .slice none 0 0, .slice none 0 0] 41) := hide (by
    obtain ⟨k0, k1, k2, k3, k4⟩ := four_boxes w #[.int .i64 0, .slice none 0 0, .slice none 0 0] #[.int .i64 0, .int .i64 0] #[.slice ao bs.length cap, .int .i64 0, .int .i64 0, .int .i64 0, .int .i64 0] #[.int .i64 0, .slice none 0 0, .slice none 0 0] 41 31 84 41
    have hb := (unhide HBI).keep ((((Fr.refl _ w).alloc (.cells #[.int .i64 0, .slice none 0 0, .slice none 0 0] 41)).alloc (.cells #[.int .i64 0, .int .i64 0] 31)))
    have hx := newX _ ao cap bs hb.b hb.le hb.max 84
    simp only [heap_alloc] at hx
    refine ⟨k0, k1, k2, XAt.alloc hx _, k4, by omega, fun b' off e h0 => ?_⟩
    obtain ⟨b, o2, e2, hc⟩ := (unhide HBI).b.cell h0
    have := World.block_lt_of_cell? _ _ (hc 0 h0)
    rw [e] at e2
    injection e2 with e2
    injection e2 with e3 e4
    show w.heap.size + 1 + 1 + 1 ≠ b'
    subst e3
    have h5 : b' < w.heap.size := this
    omega)
  obtain ⟨B, HBe⟩ : ∃ B, Hid (w.heap.size = B) := ⟨_, rfl⟩
  rw [unhide HBe] at HX0 ⊢
  generalize ((((w.alloc (.cells #[.int .i64 0, .slice none 0 0, .slice none 0 0] 41)).alloc (.cells #[.int .i64 0, .int .i64 0] 31)).alloc (.cells #[.slice ao bs.length cap, .int .i64 0, .int .i64 0, .int .i64 0, .int .i64 0] 84)).alloc (.cells #[.int .i64 0, .slice none 0 0, .slice none 0 0] 41)) = w0 at *
  obtain ⟨R1, hR1⟩ : ∃ x, B + 1 = x := ⟨_, rfl⟩
  obtain ⟨p, hp⟩ : ∃ x, B + 1 + 1 = x := ⟨_, rfl⟩
  obtain ⟨X, hX⟩ : ∃ x, B + 1 + 1 + 1 = x := ⟨_, rfl⟩
  rw [hX, hp, hR1] at HX0 ⊢
  have HD : Hid (B < R1 ∧ R1 < p ∧ p < X ∧ w.heap.size = B) := hide ⟨by omega, by omega, by omega, unhide HBe⟩
  have HBL : Hid (¬ B < w.heap.size ∧ ¬ R1 < w.heap.size) := hide (by have := unhide HD; omega)
  clear hR1 hp hX
  have HW0 : Hid (B < w0.heap.size ∧ R1 < w0.heap.size ∧ p < w0.heap.size ∧ X < w0.heap.size ∧ w.heap.size ≤ w0.heap.size) := hide (by
    have h1 := (unhide HX0).2.2.2.x.lt
    have h2 := unhide HD
    have h3 := (unhide HX0).1.size
    omega)
  have x0 : w0.cell? ⟨X, 0, none⟩ = some (.int .i64 0) := (unhide HX0).2.2.2.x.cell 0
  have f0 : w0.frozen? ⟨X, 0, none⟩ = false := (unhide HX0).2.2.2.x.frozen 0
  go_wp2_with fail
  refine (xNumber (unhide HX0).2.2.2.r 8).mono ?_
  rw [unhide HQ0]
  unfold XDone
  rintro e u0 ⟨rfl, hXA, hF⟩
  have x0n : u0.cell? ⟨X, 0, none⟩ = some (.int .i64 0) := (hF.cell (a := ⟨X, 0, none⟩) (unhide HX0).2.2.2.x.lt (unhide HX0).2.2.2.np).trans x0
  have f0n : u0.frozen? ⟨X, 0, none⟩ = false := (hF.frozen (a := ⟨X, 0, none⟩) (unhide HX0).2.2.2.x.lt (unhide HX0).2.2.2.np).trans f0
  have HX1 : Hid (Fr (fun _ => False) w (u0.setCell ⟨X, 0, none⟩ (.int .i64 d.ver)) ∧ Bx (u0.setCell ⟨X, 0, none⟩ (.int .i64 d.ver)) B #[.int .i64 0, .slice none 0 0, .slice none 0 0] 41 ∧ Bx (u0.setCell ⟨X, 0, none⟩ (.int .i64 d.ver)) R1 #[.int .i64 0, .int .i64 0] 31 ∧ XB (u0.setCell ⟨X, 0, none⟩ (.int .i64 d.ver)) p ao cap bs S1 X #[.int .i64 d.ver, .slice none 0 0, .slice none 0 0] 41) := hide (by
    obtain ⟨k0, k1, k2, k3⟩ := unhide HX0
    obtain ⟨d1, d2, d3, d4⟩ := unhide HD
    exact ⟨(k0.trans hF (fun _ hi t => by omega)).setCell (p := ⟨X, 0, none⟩) (fun h => by have h6 : X < w.heap.size := h; omega) _, (k1.frame hF (by omega)).setOther (by omega) _ _, (k2.frame hF (by omega)).setOther (by omega) _ _, k3.step hXA hF 0 _⟩)
  have HZ1 : Hid (w0.heap.size ≤ (u0.setCell ⟨X, 0, none⟩ (.int .i64 d.ver)).heap.size ∧ Fr (fun k => k = p ∨ k = X) w0 (u0.setCell ⟨X, 0, none⟩ (.int .i64 d.ver))) := hide (by
    have hf2 : Fr (fun k => k = p ∨ k = X) w0 (u0.setCell ⟨X, 0, none⟩ (.int .i64 d.ver)) := (hF.mono (T := fun k => k = p ∨ k = X) (fun _ _ t => Or.inl t)).setCell (p := ⟨X, 0, none⟩) (fun _ => Or.inr rfl) _
    exact ⟨Nat.le_trans (Nat.le_refl _) hf2.size, hf2⟩)
  clear hXA hF x0 f0 HX0
  go_wp2_with fail
  clear x0n f0n
  generalize u0.setCell ⟨X, 0, none⟩ (.int .i64 d.ver) = w1 at *
  have x1 : w1.cell? ⟨X, 1, none⟩ = some (.slice none 0 0) := (unhide HX1).2.2.2.x.cell 1
  have f1 : w1.frozen? ⟨X, 1, none⟩ = false := (unhide HX1).2.2.2.x.frozen 1
  go_wp2_with fail
  refine (readTokens_any (unhide HX1).2.2.2.r).mono ?_
  rw [(unhide HQ1).1, (unhide HQ1).2.1, (unhide HQ1).2.2]
  rintro e u1 ⟨a1, c1, g1, rfl, hXL⟩
  have hXA := hXL.r
  have hF := hXL.fr
  have x1n : u1.cell? ⟨X, 1, none⟩ = some (.slice none 0 0) := (hF.cell (a := ⟨X, 1, none⟩) (unhide HX1).2.2.2.x.lt (unhide HX1).2.2.2.np).trans x1
  have f1n : u1.frozen? ⟨X, 1, none⟩ = false := (hF.frozen (a := ⟨X, 1, none⟩) (unhide HX1).2.2.2.x.lt (unhide HX1).2.2.2.np).trans f1
  have HX2 : Hid (Fr (fun _ => False) w (u1.setCell ⟨X, 1, none⟩ (.slice a1 d.add.length c1)) ∧ Bx (u1.setCell ⟨X, 1, none⟩ (.slice a1 d.add.length c1)) B #[.int .i64 0, .slice none 0 0, .slice none 0 0] 41 ∧ Bx (u1.setCell ⟨X, 1, none⟩ (.slice a1 d.add.length c1)) R1 #[.int .i64 0, .int .i64 0] 31 ∧ XB (u1.setCell ⟨X, 1, none⟩ (.slice a1 d.add.length c1)) p ao cap bs S2 X #[.int .i64 d.ver, .slice a1 d.add.length c1, .slice none 0 0] 41) := hide (by
    obtain ⟨k0, k1, k2, k3⟩ := unhide HX1
    obtain ⟨d1, d2, d3, d4⟩ := unhide HD
    exact ⟨(k0.trans hF (fun _ hi t => by omega)).setCell (p := ⟨X, 1, none⟩) (fun h => by have h6 : X < w.heap.size := h; omega) _, (k1.frame hF (by omega)).setOther (by omega) _ _, (k2.frame hF (by omega)).setOther (by omega) _ _, k3.step hXA hF 1 _⟩)
  have HZ2 : Hid (w0.heap.size ≤ (u1.setCell ⟨X, 1, none⟩ (.slice a1 d.add.length c1)).heap.size ∧ Fr (fun k => k = p ∨ k = X) w1 (u1.setCell ⟨X, 1, none⟩ (.slice a1 d.add.length c1))) := hide (by
    have hf2 : Fr (fun k => k = p ∨ k = X) w1 (u1.setCell ⟨X, 1, none⟩ (.slice a1 d.add.length c1)) := (hF.mono (T := fun k => k = p ∨ k = X) (fun _ _ t => Or.inl t)).setCell (p := ⟨X, 1, none⟩) (fun _ => Or.inr rfl) _
    exact ⟨Nat.le_trans (unhide HZ1).1 hf2.size, hf2⟩)
  have HK2 : Hid (KL w0 (u1.setCell ⟨X, 1, none⟩ (.slice a1 d.add.length c1)) a1 c1 g1 1 (tkV d.add)) := hide ((hXL.l.later (unhide HZ1).1).go (by omega) ((Fr.refl (fun k => k = X) u1).setCell (p := ⟨X, 1, none⟩) (fun _ => rfl) _) (fun q hq => by have := unhide HW0; omega))
  clear hXA hF x1 f1 HX1 hXL
  go_wp2_with fail
  clear x1n f1n
  generalize u1.setCell ⟨X, 1, none⟩ (.slice a1 d.add.length c1) = w2 at *
  have x2 : w2.cell? ⟨X, 2, none⟩ = some (.slice none 0 0) := (unhide HX2).2.2.2.x.cell 2
  have f2 : w2.frozen? ⟨X, 2, none⟩ = false := (unhide HX2).2.2.2.x.frozen 2
  go_wp2_with fail
  refine (readTokens_any (unhide HX2).2.2.2.r).mono ?_
  rw [(unhide HQ2).1, (unhide HQ2).2.1, (unhide HQ2).2.2]
  rintro e u2 ⟨a2, c2, g2, rfl, hXL⟩
  have hXA := hXL.r
  have hF := hXL.fr
  have x2n : u2.cell? ⟨X, 2, none⟩ = some (.slice none 0 0) := (hF.cell (a := ⟨X, 2, none⟩) (unhide HX2).2.2.2.x.lt (unhide HX2).2.2.2.np).trans x2
  have f2n : u2.frozen? ⟨X, 2, none⟩ = false := (hF.frozen (a := ⟨X, 2, none⟩) (unhide HX2).2.2.2.x.lt (unhide HX2).2.2.2.np).trans f2
  have HX3 : Hid (Fr (fun _ => False) w (u2.setCell ⟨X, 2, none⟩ (.slice a2 d.gone.length c2)) ∧ Bx (u2.setCell ⟨X, 2, none⟩ (.slice a2 d.gone.length c2)) B #[.int .i64 0, .slice none 0 0, .slice none 0 0] 41 ∧ Bx (u2.setCell ⟨X, 2, none⟩ (.slice a2 d.gone.length c2)) R1 #[.int .i64 0, .int .i64 0] 31 ∧ XB (u2.setCell ⟨X, 2, none⟩ (.slice a2 d.gone.length c2)) p ao cap bs q X #[.int .i64 d.ver, .slice a1 d.add.length c1, .slice a2 d.gone.length c2] 41) := hide (by
    obtain ⟨k0, k1, k2, k3⟩ := unhide HX2
    obtain ⟨d1, d2, d3, d4⟩ := unhide HD
    exact ⟨(k0.trans hF (fun _ hi t => by omega)).setCell (p := ⟨X, 2, none⟩) (fun h => by have h6 : X < w.heap.size := h; omega) _, (k1.frame hF (by omega)).setOther (by omega) _ _, (k2.frame hF (by omega)).setOther (by omega) _ _, k3.step hXA hF 2 _⟩)
  have HZ3 : Hid (w0.heap.size ≤ (u2.setCell ⟨X, 2, none⟩ (.slice a2 d.gone.length c2)).heap.size ∧ Fr (fun k => k = p ∨ k = X) w2 (u2.setCell ⟨X, 2, none⟩ (.slice a2 d.gone.length c2))) := hide (by
    have hf2 : Fr (fun k => k = p ∨ k = X) w2 (u2.setCell ⟨X, 2, none⟩ (.slice a2 d.gone.length c2)) := (hF.mono (T := fun k => k = p ∨ k = X) (fun _ _ t => Or.inl t)).setCell (p := ⟨X, 2, none⟩) (fun _ => Or.inr rfl) _
    exact ⟨Nat.le_trans (unhide HZ2).1 hf2.size, hf2⟩)
  have HK3 : Hid (DNew w0 (u2.setCell ⟨X, 2, none⟩ (.slice a2 d.gone.length c2)) d a1 c1 g1 a2 c2 g2) := hide (by
    have k1 := unhide HK2
    have k2 := hXL.l
    refine ⟨k1.go (by omega) (unhide HZ3).2 (fun q hq => by have := unhide HW0; omega), (k2.later (unhide HZ2).1).go (by omega) ((Fr.refl (fun k => k = X) u2).setCell (p := ⟨X, 2, none⟩) (fun _ => rfl) _) (fun q hq => by have := unhide HW0; omega), fun h1 h2 => ?_⟩
    have := k1.row.lt (by omega) h1
    have := k2.new h2
    omega)
  clear hXA hF x2 f2 HX2 hXL
  have xx0 : (u2.setCell ⟨X, 2, none⟩ (.slice a2 d.gone.length c2)).cell? ⟨X, 0, none⟩ = some (.int .i64 d.ver) := (unhide HX3).2.2.2.x.cell 0
  have xx1 : (u2.setCell ⟨X, 2, none⟩ (.slice a2 d.gone.length c2)).cell? ⟨X, 1, none⟩ = some (.slice a1 d.add.length c1) := (unhide HX3).2.2.2.x.cell 1
  have xx2 : (u2.setCell ⟨X, 2, none⟩ (.slice a2 d.gone.length c2)).cell? ⟨X, 2, none⟩ = some (.slice a2 d.gone.length c2) := (unhide HX3).2.2.2.x.cell 2
  go_wp2_with fail
  clear x2n f2n
  generalize u2.setCell ⟨X, 2, none⟩ (.slice a2 d.gone.length c2) = w3 at *
  have RE := deltaRight_any d w3 a1 c1 a2 c2 (cat_sat (unhide HK3).k1.row.catN) (cat_sat (unhide HK3).k2.row.catN) (by have := unhide HLN; omega) (by have := unhide HLN; omega)
  rw [unhide Hok] at RE
  refine RE.mono ?_
  rintro e y1 ⟨rfl, hF⟩
  have HY1 : Hid (Fr (fun _ => False) w y1 ∧ Bx y1 B #[.int .i64 0, .slice none 0 0, .slice none 0 0] 41 ∧ Bx y1 R1 #[.int .i64 0, .int .i64 0] 31 ∧ XAt y1 p ao cap bs q ∧ Bx y1 X #[.int .i64 d.ver, .slice a1 d.add.length c1, .slice a2 d.gone.length c2] 41) := hide (by
    obtain ⟨k0, k1, k2, k3⟩ := unhide HX3
    exact ⟨k0.trans hF (fun _ _ t => t), k1.keep hF, k2.keep hF, k3.r.frameF hF, k3.x.keep hF⟩)
  have HKy : Hid (DNew w0 y1 d a1 c1 g1 a2 c2 g2) := hide ((unhide HK3).go hF (fun _ hq => hq.elim))
  have HPX : Hid (X ≠ p) := hide (by have := unhide HD; omega)
  clear hF HX3 RE HK2 HK3 xx0 xx1 xx2
  go_wp2_with fail
  refine (ended_any (unhide HY1).2.2.2.1 okb).mono ?_
  rw [unhide Hz]
  generalize hE : endF z okb = E
  have HE : Hid (E = if z.c = 0 ∧ okb = false then (80, -1) else (z.c, z.f)) := hide (by rw [← hE]; rfl)
  obtain ⟨Ec, Ef⟩ := E
  simp only
  clear hE
  rintro e y2 ⟨rfl, hF⟩
  have HY2 : Hid (Fr (fun _ => False) w (y2.alloc (.cells #[.int .i64 Ec, .int .i64 Ef] 31)) ∧ Bx (y2.alloc (.cells #[.int .i64 Ec, .int .i64 Ef] 31)) B #[.int .i64 0, .slice none 0 0, .slice none 0 0] 41 ∧ Bx (y2.alloc (.cells #[.int .i64 Ec, .int .i64 Ef] 31)) R1 #[.int .i64 0, .int .i64 0] 31 ∧ Bx (y2.alloc (.cells #[.int .i64 Ec, .int .i64 Ef] 31)) X #[.int .i64 d.ver, .slice a1 d.add.length c1, .slice a2 d.gone.length c2] 41 ∧ Bx (y2.alloc (.cells #[.int .i64 Ec, .int .i64 Ef] 31)) y2.heap.size #[.int .i64 Ec, .int .i64 Ef] 31) := hide (by
    obtain ⟨k0, k1, k2, k3, k4⟩ := unhide HY1
    obtain ⟨d1, d2, d3, d4⟩ := unhide HD
    exact ⟨(k0.trans hF (fun _ hi t => by omega)).alloc _, (k1.frame hF (by omega)).alloc _, (k2.frame hF (by omega)).alloc _, (k4.frame hF (unhide HPX)).alloc _, Bx.new _ _ _⟩)
  have HKz : Hid (DNew w0 (y2.alloc (.cells #[.int .i64 Ec, .int .i64 Ef] 31)) d a1 c1 g1 a2 c2 g2) := hide (((unhide HKy).go hF (fun q hq => by have := unhide HW0; omega)).go ((Fr.refl (fun _ => False) _).alloc _) (fun _ hq => hq.elim))
  have HFB : Hid (X < y2.heap.size) := hide (((unhide HY1).2.2.2.2.frame hF (unhide HPX)).lt)
  clear hF HY1
  have y0 : (y2.alloc (.cells #[.int .i64 Ec, .int .i64 Ef] 31)).cell? ⟨y2.heap.size, 0, none⟩ = some (.int .i64 Ec) := (unhide HY2).2.2.2.2.cell 0
  have hcase : (Ec ≠ 0 ∧ R = (deltaZ, Ec, Ef)) ∨ (Ec = 0 ∧ R = (d, Ec, Ef)) := by
    have h1 := unhide HE
    have h2 := unhide HR
    have h3 := unhide HCL
    by_cases hc : z.c = 0
    · cases okb
      · rw [if_pos ⟨hc, rfl⟩] at h1
        rw [if_neg (fun h => h hc)] at h2
        injection h1 with h4 h5
        subst h4 h5
        exact Or.inl ⟨by decide, h2⟩
      · rw [if_neg (by simp)] at h1
        rw [if_neg (fun h => h hc)] at h2
        injection h1 with h4 h5
        subst h4 h5
        rw [h3 hc, hc]
        exact Or.inr ⟨rfl, h2⟩
    · rw [if_neg (fun h => hc h.1)] at h1
      rw [if_pos hc] at h2
      injection h1 with h4 h5
      subst h4 h5
      exact Or.inl ⟨hc, h2⟩
  have HBR : Hid (B ≠ R1 ∧ R1 ≠ B ∧ B ≠ X ∧ X ≠ B ∧ R1 ≠ X ∧ X ≠ R1 ∧ B ≠ y2.heap.size ∧ y2.heap.size ≠ B ∧ R1 ≠ y2.heap.size ∧ y2.heap.size ≠ R1) := hide (by
    obtain ⟨d1, d2, d3, d4⟩ := unhide HD
    have := unhide HFB
    omega)
  clear HE HR HCL
  rcases hcase with ⟨hc, hR⟩ | ⟨hc, hR⟩
  · have hcb : (Ec != 0) = true := by simp [hc]
    have HRE := hide hR
    clear hc hR
    go_wp2_with fail
    generalize y2.alloc (.cells #[.int .i64 Ec, .int .i64 Ef] 31) = w5 at *
    generalize y2.heap.size = Fb at *
    have z0 : w5.cell? ⟨X, 0, none⟩ = some (.int .i64 d.ver) := (unhide HY2).2.2.2.1.cell 0
    have z1 : w5.cell? ⟨X, 1, none⟩ = some (.slice a1 d.add.length c1) := (unhide HY2).2.2.2.1.cell 1
    have z2 : w5.cell? ⟨X, 2, none⟩ = some (.slice a2 d.gone.length c2) := (unhide HY2).2.2.2.1.cell 2
    have y0 : w5.cell? ⟨Fb, 0, none⟩ = some (.int .i64 Ec) := (unhide HY2).2.2.2.2.cell 0
    have y1 : w5.cell? ⟨Fb, 1, none⟩ = some (.int .i64 Ef) := (unhide HY2).2.2.2.2.cell 1
    have r0_ : w5.cell? ⟨B, 0, none⟩ = some (.int .i64 0) := (unhide HY2).2.1.cell 0
    have s0_ : w5.frozen? ⟨B, 0, none⟩ = false := (unhide HY2).2.1.frozen 0
    have r1_ : w5.cell? ⟨B, 1, none⟩ = some (.slice none 0 0) := (unhide HY2).2.1.cell 1
    have s1_ : w5.frozen? ⟨B, 1, none⟩ = false := (unhide HY2).2.1.frozen 1
    have r2_ : w5.cell? ⟨B, 2, none⟩ = some (.slice none 0 0) := (unhide HY2).2.1.cell 2
    have s2_ : w5.frozen? ⟨B, 2, none⟩ = false := (unhide HY2).2.1.frozen 2
    have u0_ : w5.cell? ⟨R1, 0, none⟩ = some (.int .i64 0) := (unhide HY2).2.2.1.cell 0
    have v0_ : w5.frozen? ⟨R1, 0, none⟩ = false := (unhide HY2).2.2.1.frozen 0
    have u1_ : w5.cell? ⟨R1, 1, none⟩ = some (.int .i64 0) := (unhide HY2).2.2.1.cell 1
    have v1_ : w5.frozen? ⟨R1, 1, none⟩ = false := (unhide HY2).2.2.1.frozen 1
    obtain ⟨hBR, hRB, hBX, hXB, hRX, hXR, hBF, hFB, hRF, hFR⟩ := unhide HBR
    go_region_held3 (fun w' => w'.cell? ⟨Fb, 0, none⟩ = some (.int .i64 Ec) ∧ w'.cell? ⟨Fb, 1, none⟩ = some (.int .i64 Ef)) (go_keep) (fail)
    go_wp2
    obtain ⟨k0, k1, k2, k3, k4⟩ := unhide HY2
    have e1 := (Bx.setOther (Bx.setOther (Bx.setCell (Bx.setCell (Bx.setCell k1 0 (.int .i64 0)) 1 (.slice none 0 0)) 2 (.slice none 0 0)) hBR 0 (.int .i64 Ec)) hBR 1 (.int .i64 Ef))
    have e2 := (Bx.setCell (Bx.setCell (Bx.setOther (Bx.setOther (Bx.setOther k2 hRB 0 (.int .i64 0)) hRB 1 (.slice none 0 0)) hRB 2 (.slice none 0 0)) 0 (.int .i64 Ec)) 1 (.int .i64 Ef))
    have e3 : Fr (fun _ => False) w (((((((w5.setCell ⟨B, 0, none⟩ (.int .i64 0)).setCell ⟨B, 1, none⟩ (.slice none 0 0)).setCell ⟨B, 2, none⟩ (.slice none 0 0)).setCell ⟨R1, 0, none⟩ (.int .i64 Ec)).setCell ⟨R1, 1, none⟩ (.int .i64 Ef))).drew) := Fr.drew (Fr.setCell (Fr.setCell (Fr.setCell (Fr.setCell (Fr.setCell k0 (p := ⟨B, 0, none⟩) (fun h => absurd h (unhide HBL).1) (.int .i64 0)) (p := ⟨B, 1, none⟩) (fun h => absurd h (unhide HBL).1) (.slice none 0 0)) (p := ⟨B, 2, none⟩) (fun h => absurd h (unhide HBL).1) (.slice none 0 0)) (p := ⟨R1, 0, none⟩) (fun h => absurd h (unhide HBL).2) (.int .i64 Ec)) (p := ⟨R1, 1, none⟩) (fun h => absurd h (unhide HBL).2) (.int .i64 Ef))
    exact bodyPost_ret (v := .tuple #[.agg #[.int .i64 0, .slice none 0 0, .slice none 0 0], .agg #[.int .i64 Ec, .int .i64 Ef]]) (results_bx2 rfl _ rfl rfl e1.drew e2.drew Try.underlying41 rfl (delta_size _ rfl) Try.underlying31 rfl (fault_size _ _)) rfl ⟨none, 0, 0, none, 0, 0, by first | rfl | (rw [unhide HRE]; rfl), (by first | exact DNew.zero _ _ | (rw [unhide HRE]; exact DNew.zero _ _)), e3⟩
  · have hcb : (Ec != 0) = false := by simp [hc]
    have HRE := hide hR
    clear hc hR
    go_wp2_with fail
    generalize y2.alloc (.cells #[.int .i64 Ec, .int .i64 Ef] 31) = w5 at *
    generalize y2.heap.size = Fb at *
    have z0 : w5.cell? ⟨X, 0, none⟩ = some (.int .i64 d.ver) := (unhide HY2).2.2.2.1.cell 0
    have z1 : w5.cell? ⟨X, 1, none⟩ = some (.slice a1 d.add.length c1) := (unhide HY2).2.2.2.1.cell 1
    have z2 : w5.cell? ⟨X, 2, none⟩ = some (.slice a2 d.gone.length c2) := (unhide HY2).2.2.2.1.cell 2
    have y0 : w5.cell? ⟨Fb, 0, none⟩ = some (.int .i64 Ec) := (unhide HY2).2.2.2.2.cell 0
    have y1 : w5.cell? ⟨Fb, 1, none⟩ = some (.int .i64 Ef) := (unhide HY2).2.2.2.2.cell 1
    have r0_ : w5.cell? ⟨B, 0, none⟩ = some (.int .i64 0) := (unhide HY2).2.1.cell 0
    have s0_ : w5.frozen? ⟨B, 0, none⟩ = false := (unhide HY2).2.1.frozen 0
    have r1_ : w5.cell? ⟨B, 1, none⟩ = some (.slice none 0 0) := (unhide HY2).2.1.cell 1
    have s1_ : w5.frozen? ⟨B, 1, none⟩ = false := (unhide HY2).2.1.frozen 1
    have r2_ : w5.cell? ⟨B, 2, none⟩ = some (.slice none 0 0) := (unhide HY2).2.1.cell 2
    have s2_ : w5.frozen? ⟨B, 2, none⟩ = false := (unhide HY2).2.1.frozen 2
    have u0_ : w5.cell? ⟨R1, 0, none⟩ = some (.int .i64 0) := (unhide HY2).2.2.1.cell 0
    have v0_ : w5.frozen? ⟨R1, 0, none⟩ = false := (unhide HY2).2.2.1.frozen 0
    have u1_ : w5.cell? ⟨R1, 1, none⟩ = some (.int .i64 0) := (unhide HY2).2.2.1.cell 1
    have v1_ : w5.frozen? ⟨R1, 1, none⟩ = false := (unhide HY2).2.2.1.frozen 1
    obtain ⟨hBR, hRB, hBX, hXB, hRX, hXR, hBF, hFB, hRF, hFR⟩ := unhide HBR
    go_region_held3 (fun w' => w'.cell? ⟨X, 0, none⟩ = some (.int .i64 d.ver) ∧ w'.cell? ⟨X, 1, none⟩ = some (.slice a1 d.add.length c1) ∧ w'.cell? ⟨X, 2, none⟩ = some (.slice a2 d.gone.length c2) ∧ w'.cell? ⟨Fb, 0, none⟩ = some (.int .i64 Ec) ∧ w'.cell? ⟨Fb, 1, none⟩ = some (.int .i64 Ef)) (go_keep) (fail)
    go_wp2
    obtain ⟨k0, k1, k2, k3, k4⟩ := unhide HY2
    have e1 := (Bx.setOther (Bx.setOther (Bx.setCell (Bx.setCell (Bx.setCell k1 0 (.int .i64 d.ver)) 1 (.slice a1 d.add.length c1)) 2 (.slice a2 d.gone.length c2)) hBR 0 (.int .i64 Ec)) hBR 1 (.int .i64 Ef))
    have e2 := (Bx.setCell (Bx.setCell (Bx.setOther (Bx.setOther (Bx.setOther k2 hRB 0 (.int .i64 d.ver)) hRB 1 (.slice a1 d.add.length c1)) hRB 2 (.slice a2 d.gone.length c2)) 0 (.int .i64 Ec)) 1 (.int .i64 Ef))
    have e3 : Fr (fun _ => False) w (((((((w5.setCell ⟨B, 0, none⟩ (.int .i64 d.ver)).setCell ⟨B, 1, none⟩ (.slice a1 d.add.length c1)).setCell ⟨B, 2, none⟩ (.slice a2 d.gone.length c2)).setCell ⟨R1, 0, none⟩ (.int .i64 Ec)).setCell ⟨R1, 1, none⟩ (.int .i64 Ef))).drew) := Fr.drew (Fr.setCell (Fr.setCell (Fr.setCell (Fr.setCell (Fr.setCell k0 (p := ⟨B, 0, none⟩) (fun h => absurd h (unhide HBL).1) (.int .i64 d.ver)) (p := ⟨B, 1, none⟩) (fun h => absurd h (unhide HBL).1) (.slice a1 d.add.length c1)) (p := ⟨B, 2, none⟩) (fun h => absurd h (unhide HBL).1) (.slice a2 d.gone.length c2)) (p := ⟨R1, 0, none⟩) (fun h => absurd h (unhide HBL).2) (.int .i64 Ec)) (p := ⟨R1, 1, none⟩) (fun h => absurd h (unhide HBL).2) (.int .i64 Ef))
    exact bodyPost_ret (v := .tuple #[.agg #[.int .i64 d.ver, .slice a1 d.add.length c1, .slice a2 d.gone.length c2], .agg #[.int .i64 Ec, .int .i64 Ef]]) (results_bx2 rfl _ rfl rfl e1.drew e2.drew Try.underlying41 rfl (delta_size _ rfl) Try.underlying31 rfl (fault_size _ _)) rfl ⟨a1, c1, g1, a2, c2, g2, by first | rfl | (rw [unhide HRE]; rfl), (by rw [unhide HRE]; exact DNew.later (DNew.go (unhide HKz) (S := fun q => q = B ∨ q = R1) (Fr.drew (Fr.setCell (Fr.setCell (Fr.setCell (Fr.setCell (Fr.setCell (Fr.refl _ w5) (p := ⟨B, 0, none⟩) (fun _ => Or.inl rfl) (.int .i64 d.ver)) (p := ⟨B, 1, none⟩) (fun _ => Or.inl rfl) (.slice a1 d.add.length c1)) (p := ⟨B, 2, none⟩) (fun _ => Or.inl rfl) (.slice a2 d.gone.length c2)) (p := ⟨R1, 0, none⟩) (fun _ => Or.inr rfl) (.int .i64 Ec)) (p := ⟨R1, 1, none⟩) (fun _ => Or.inr rfl) (.int .i64 Ef))) (fun q hq => by have := unhide HW0; omega)) (unhide HW0).2.2.2.2), e3⟩

end Go.Proofs.Ytkjoojamkbpfcaa
