import Derived.Test.YtphkjeeblihfgaaGreatDoorZU5
import Derived.Test.YtphkjeeblihfgaaGreatDoorZG9
import Derived.Test.YtphkjeeblihfgaaGreatDoorZGB
/- LinkFrames: its walk. -/
namespace Go.Proofs.YtphkjeeblihfgaaGreatDoor
open Go.RowKit Go.Maps

set_option maxHeartbeats 40000000 in
set_option maxRecDepth 20000 in
theorem frames_walk (w : World) (hT : TabP w) (hR : TabRZ w) (s : List UInt8) (f : Fm) (io : Option Addr) (ic : Nat) (bo : Option Addr) (bc : Nat) (hA : f.At w io bo bc) (hN : f.items.length * 24 ≤ 140737488355328) (ro : Option Addr) (rc : Nat) (raw : List UInt8) (hB : BAt w ro rc raw) (hm : raw.length ≤ rc) (hbig : raw.length + 120 ≤ 140737488355328) :
    Calls Tryz.prog 3 #[.string ⟨s.toArray⟩, .agg (f.cells io ic bo bc), .slice ro raw.length rc] w fun e w' => e = .returned (.bool true) ∧ Fr (fun _ => False) w w' := by
  have HAL := hide (makeF_fits s f)
  obtain ⟨kd, ba, sq, its, bts⟩ := f
  simp only [Fm.cells]
  have HT := hide (And.intro hT hR)
  have HA := hide hA
  have HB := hide (And.intro hB (And.intro hm hbig))
  have HN := hide hN
  have hF0 : Fr (fun _ => False) w (w.alloc (.cells #[.int .i64 kd, .int .i64 ba, .int .i64 sq, .slice io its.length ic, .slice bo bts.length bc] 25)) := (Fr.refl _ _).alloc _
  have HF0 := hide hF0
  have HB0 := hide (Bx.new w #[.int .i64 kd, .int .i64 ba, .int .i64 sq, .slice io its.length ic, .slice bo bts.length bc] 25)
  clear hT hR hA hB hm hbig hN hF0
  go_enter Tryz.func3, Tryz.ntmps3
  go_wp2_with fail
  refine (awakeL_any _ ((unhide HT).1.later (unhide HF0))).mono ?_
  rintro e w1 ⟨rfl, h1⟩
  have HF1 := hide ((unhide HF0).trans (unhide h1) (fun _ _ t => t))
  have HB1 := hide ((unhide HB0).keep (unhide h1))
  obtain ⟨Bf, hBf⟩ : ∃ Bf, w.heap.size = Bf := ⟨_, rfl⟩
  rw [hBf] at HB1
  have HBF := hide hBf
  clear h1 HB0 HF0
  have a0 : w1.cell? ⟨Bf, 0, none⟩ = some (.int .i64 kd) := (unhide HB1).cell 0
  have a1 : w1.cell? ⟨Bf, 1, none⟩ = some (.int .i64 ba) := (unhide HB1).cell 1
  have a2 : w1.cell? ⟨Bf, 2, none⟩ = some (.int .i64 sq) := (unhide HB1).cell 2
  have a3 : w1.cell? ⟨Bf, 3, none⟩ = some (.slice io its.length ic) := (unhide HB1).cell 3
  have a4 : w1.cell? ⟨Bf, 4, none⟩ = some (.slice bo bts.length bc) := (unhide HB1).cell 4
  go_wp2_with fail
  clear hBf
  refine (copied_any w1 ⟨kd, ba, sq, its, bts⟩ io ic bo bc ((unhide HA).later (unhide HF1)) (unhide HN)).mono ?_
  rintro e w2 ⟨i1, c1, b1, d1, rfl, H2⟩
  simp only [Fm.cells]
  have HC2 : Hid (Fr (fun _ => False) w w2 ∧ Bx w2 Bf #[.int .i64 kd, .int .i64 ba, .int .i64 sq, .slice io its.length ic, .slice bo bts.length bc] 25 ∧ Fm.At w2 ⟨kd, ba, sq, its, bts⟩ i1 b1 d1) := by
    obtain ⟨q1, ⟨ib, ds, q2⟩, gb, q3, q4⟩ := unhide H2
    exact hide ⟨(unhide HF1).trans q1 (fun _ _ t => t), (unhide HB1).keep q1, ⟨q2.rows (unhide HA).items.small, (Row.bat q3 (unhide HA).bytes.2.2).2⟩⟩
  clear H2 HB1 HF1
  clear a0 a1 a2 a3 a4
  have hF2 : Fr (fun _ => False) w2 (w2.alloc (.cells #[.int .i64 kd, .int .i64 ba, .int .i64 sq, .slice i1 its.length c1, .slice b1 bts.length d1] 25)) := (Fr.refl _ _).alloc _
  have HC3 : Hid (Fr (fun _ => False) w (w2.alloc (.cells #[.int .i64 kd, .int .i64 ba, .int .i64 sq, .slice i1 its.length c1, .slice b1 bts.length d1] 25)) ∧ Bx (w2.alloc (.cells #[.int .i64 kd, .int .i64 ba, .int .i64 sq, .slice i1 its.length c1, .slice b1 bts.length d1] 25)) Bf #[.int .i64 kd, .int .i64 ba, .int .i64 sq, .slice io its.length ic, .slice bo bts.length bc] 25 ∧ Fm.At (w2.alloc (.cells #[.int .i64 kd, .int .i64 ba, .int .i64 sq, .slice i1 its.length c1, .slice b1 bts.length d1] 25)) ⟨kd, ba, sq, its, bts⟩ i1 b1 d1 ∧ Bx (w2.alloc (.cells #[.int .i64 kd, .int .i64 ba, .int .i64 sq, .slice i1 its.length c1, .slice b1 bts.length d1] 25)) w2.heap.size #[.int .i64 kd, .int .i64 ba, .int .i64 sq, .slice i1 its.length c1, .slice b1 bts.length d1] 25) := by
    obtain ⟨q1, q2, q3⟩ := unhide HC2
    exact hide ⟨q1.trans hF2 (fun _ _ t => t), q2.keep hF2, q3.later hF2, Bx.new _ _ _⟩
  clear HC2 hF2
  go_wp2_with fail
  generalize w2.alloc (.cells #[.int .i64 kd, .int .i64 ba, .int .i64 sq, .slice i1 its.length c1, .slice b1 bts.length d1] 25) = w2a at *
  generalize w2.heap.size = Zi at *
  refine (make_any w2a ((unhide HT).1.later (unhide HC3).1) s ⟨kd, ba, sq, its, bts⟩ i1 c1 b1 d1 (unhide HC3).2.2.1).mono ?_
  obtain ⟨A, hMA⟩ : ∃ A, (makeF s ⟨kd, ba, sq, its, bts⟩).1 = A := ⟨_, rfl⟩
  obtain ⟨E, hME⟩ : ∃ E, (makeF s ⟨kd, ba, sq, its, bts⟩).2 = E := ⟨_, rfl⟩
  rw [hMA] at HAL
  rw [hMA, hME]
  have HME := hide (And.intro hMA hME)
  clear hMA hME
  rintro e w3 ⟨oa, ca, rfl, H3⟩
  obtain ⟨⟨ga, q1, q2⟩, q3⟩ := unhide H3
  have HC4 : Hid (Fr (fun _ => False) w w3 ∧ Bx w3 Bf #[.int .i64 kd, .int .i64 ba, .int .i64 sq, .slice io its.length ic, .slice bo bts.length bc] 25 ∧ Fm.At w3 ⟨kd, ba, sq, its, bts⟩ i1 b1 d1 ∧ Bx w3 Zi #[.int .i64 kd, .int .i64 ba, .int .i64 sq, .slice i1 its.length c1, .slice b1 bts.length d1] 25 ∧ Row w3 (.slice oa A.length ca) ga A ∧ w.heap.size ≤ ga) := hide ⟨(unhide HC3).1.trans q3 (fun _ _ t => t), (unhide HC3).2.1.keep q3, (unhide HC3).2.2.1.later q3, (unhide HC3).2.2.2.keep q3, q1, by have := (unhide HC3).1.size; omega⟩
  clear H3 q1 q2 q3 HC3
  have kk0 : w3.cell? ⟨Zi, 0, none⟩ = some (.int .i64 kd) := (unhide HC4).2.2.2.1.cell 0
  have kk1 : w3.cell? ⟨Zi, 1, none⟩ = some (.int .i64 ba) := (unhide HC4).2.2.2.1.cell 1
  have kk2 : w3.cell? ⟨Zi, 2, none⟩ = some (.int .i64 sq) := (unhide HC4).2.2.2.1.cell 2
  have kk3 : w3.cell? ⟨Zi, 3, none⟩ = some (.slice i1 its.length c1) := (unhide HC4).2.2.2.1.cell 3
  have kk4 : w3.cell? ⟨Zi, 4, none⟩ = some (.slice b1 bts.length d1) := (unhide HC4).2.2.2.1.cell 4
  go_wp2_with fail
  refine (make_any w3 ((unhide HT).1.later (unhide HC4).1) s ⟨kd, ba, sq, its, bts⟩ i1 c1 b1 d1 (unhide HC4).2.2.1).mono ?_
  rw [(unhide HME).1, (unhide HME).2]
  rintro e w4 ⟨ob, cb, rfl, H4⟩
  obtain ⟨⟨gb, q1, q2⟩, q3⟩ := unhide H4
  have HC5 : Hid (Fr (fun _ => False) w w4 ∧ Bx w4 Bf #[.int .i64 kd, .int .i64 ba, .int .i64 sq, .slice io its.length ic, .slice bo bts.length bc] 25 ∧ Fm.At w4 ⟨kd, ba, sq, its, bts⟩ i1 b1 d1 ∧ Bx w4 Zi #[.int .i64 kd, .int .i64 ba, .int .i64 sq, .slice i1 its.length c1, .slice b1 bts.length d1] 25 ∧ Row w4 (.slice oa A.length ca) ga A ∧ Row w4 (.slice ob A.length cb) gb A ∧ ((0 < ca → 0 < cb → ga < gb) ∧ w.heap.size ≤ ga ∧ w.heap.size ≤ gb)) := by
    obtain ⟨a1, a2, a3, a4, a5, a6⟩ := unhide HC4
    exact hide ⟨a1.trans q3 (fun _ _ t => t), a2.keep q3, a3.later q3, a4.keep q3, a5.frame q3 (fun t => t), q1, fun hc _ => by have := Row.below (d := ⟨oa, A.length, ca, ga⟩) a5 hc; have h : ga < w3.heap.size := this; omega, a6, by have := a1.size; omega⟩
  clear H4 q1 q2 q3 HC4
  clear kk0 kk1 kk2 kk3 kk4
  have kk0 : w4.cell? ⟨Zi, 0, none⟩ = some (.int .i64 kd) := (unhide HC5).2.2.2.1.cell 0
  have kk1 : w4.cell? ⟨Zi, 1, none⟩ = some (.int .i64 ba) := (unhide HC5).2.2.2.1.cell 1
  have kk2 : w4.cell? ⟨Zi, 2, none⟩ = some (.int .i64 sq) := (unhide HC5).2.2.2.1.cell 2
  have kk3 : w4.cell? ⟨Zi, 3, none⟩ = some (.slice i1 its.length c1) := (unhide HC5).2.2.2.1.cell 3
  have kk4 : w4.cell? ⟨Zi, 4, none⟩ = some (.slice b1 bts.length d1) := (unhide HC5).2.2.2.1.cell 4
  have a0 : w4.cell? ⟨Bf, 0, none⟩ = some (.int .i64 kd) := (unhide HC5).2.1.cell 0
  have a1 : w4.cell? ⟨Bf, 1, none⟩ = some (.int .i64 ba) := (unhide HC5).2.1.cell 1
  have a2 : w4.cell? ⟨Bf, 2, none⟩ = some (.int .i64 sq) := (unhide HC5).2.1.cell 2
  have a3 : w4.cell? ⟨Bf, 3, none⟩ = some (.slice io its.length ic) := (unhide HC5).2.1.cell 3
  have a4 : w4.cell? ⟨Bf, 4, none⟩ = some (.slice bo bts.length bc) := (unhide HC5).2.1.cell 4
  go_wp2_with fail
  refine (same_eq w4 ⟨kd, ba, sq, its, bts⟩ i1 c1 b1 d1 io ic bo bc (unhide HC5).2.2.1 ((unhide HA).later (unhide HC5).1)).mono ?_
  rintro e w5 ⟨rfl, h5⟩
  have HC6 : Hid (Fr (fun _ => False) w w5 ∧ Bx w5 Bf #[.int .i64 kd, .int .i64 ba, .int .i64 sq, .slice io its.length ic, .slice bo bts.length bc] 25 ∧ Row w5 (.slice oa A.length ca) ga A ∧ Row w5 (.slice ob A.length cb) gb A ∧ ((0 < ca → 0 < cb → ga < gb) ∧ w.heap.size ≤ ga ∧ w.heap.size ≤ gb)) := by
    obtain ⟨a1, a2, a3, a4, a5, a6, a7⟩ := unhide HC5
    exact hide ⟨a1.trans (unhide h5) (fun _ _ t => t), a2.keep (unhide h5), a5.frame (unhide h5) (fun t => t), a6.frame (unhide h5) (fun t => t), a7⟩
  clear h5 HC5
  clear kk0 kk1 kk2 kk3 kk4 a0 a1 a2 a3 a4
  have a0 : w5.cell? ⟨Bf, 0, none⟩ = some (.int .i64 kd) := (unhide HC6).2.1.cell 0
  have a1 : w5.cell? ⟨Bf, 1, none⟩ = some (.int .i64 ba) := (unhide HC6).2.1.cell 1
  have a2 : w5.cell? ⟨Bf, 2, none⟩ = some (.int .i64 sq) := (unhide HC6).2.1.cell 2
  have a3 : w5.cell? ⟨Bf, 3, none⟩ = some (.slice io its.length ic) := (unhide HC6).2.1.cell 3
  have a4 : w5.cell? ⟨Bf, 4, none⟩ = some (.slice bo bts.length bc) := (unhide HC6).2.1.cell 4
  go_wp2_with fail
  refine (rmake_any w5 ((unhide HT).2.later (unhide HC6).1) s ⟨kd, ba, sq, its, bts⟩ io ic bo bc ((unhide HA).later (unhide HC6).1)).mono ?_
  rw [(unhide HME).1, (unhide HME).2]
  rintro e w6 ⟨ow, cw, rfl, H6⟩
  obtain ⟨⟨gw, q1, q2⟩, q3⟩ := unhide H6
  have HQ6 : Hid (FQ w Bf #[.int .i64 kd, .int .i64 ba, .int .i64 sq, .slice io its.length ic, .slice bo bts.length bc] A ⟨oa, A.length, ca, ga⟩ ⟨ob, A.length, cb, gb⟩ ⟨ow, A.length, cw, gw⟩ w6) := by
    obtain ⟨a1, a2, a3, a4, a5⟩ := unhide HC6
    exact hide ⟨a1.trans q3 (fun _ _ t => t), a2.keep q3, a3.frame q3 (fun t => t), a4.frame q3 (fun t => t), q1⟩
  have HAB := hide (unhide HC6).2.2.2.2
  clear H6 q1 q2 q3 HC6
  clear a0 a1 a2 a3 a4
  go_wp2_with fail
  refine (lent_any w6 ro rc raw ((unhide HB).1.later (unhide HQ6).fr)).mono ?_
  rintro e w7 ⟨gl, rfl, l1, l2, l3⟩
  have HQ7 := hide ((unhide HQ6).keep l1)
  have HL7 := hide l3
  have HGL : Hid (w.heap.size ≤ gl ∧ Bf < gl ∧ (0 < ca → ga < gl) ∧ (0 < cb → gb < gl) ∧ (0 < cw → gw < gl) ∧ gl < w7.heap.size) := by
    have hq := unhide HQ6
    have h1 := hq.fr.size
    have h2 := hq.bf.lt
    refine hide ⟨by omega, by omega, fun hc => ?_, fun hc => ?_, fun hc => ?_, World.block_lt_of_cell? _ _ (l3 0 (by omega)).1⟩
    · have : ga < w6.heap.size := Row.below (d := ⟨oa, A.length, ca, ga⟩) hq.ra hc
      omega
    · have : gb < w6.heap.size := Row.below (d := ⟨ob, A.length, cb, gb⟩) hq.rb hc
      omega
    · have : gw < w6.heap.size := Row.below (d := ⟨ow, A.length, cw, gw⟩) hq.rw' hc
      omega
  have HBL : Hid (BAt w7 (some ⟨gl, 0, none⟩) (raw.length + 3) raw) := hide ⟨fun t => by (cases t), fun _ => ⟨gl, 0, rfl, fun j hj => by rw [Nat.zero_add, (l3 j (by omega)).1, lentF_in _ _ _ hj]⟩, (unhide HB).1.2.2⟩
  clear l1 l2 l3 HQ6
  go_wp2_with fail
  refine (parse_any w7 ((unhide HT).1.later (unhide HQ7).fr) s (some ⟨gl, 0, none⟩) (raw.length + 3) raw (unhide HBL) (by omega)).mono ?_
  obtain ⟨fx, hfx⟩ : ∃ fx, (parseF s raw).1 = fx := ⟨_, rfl⟩
  obtain ⟨EX, hEX⟩ : ∃ EX, (parseF s raw).2 = EX := ⟨_, rfl⟩
  rw [hfx, hEX]
  have HPX := hide (And.intro hfx hEX)
  have HX256 : Hid (∀ b ∈ fx.items, b.length ≤ 256) := hide (by rw [← hfx]; exact parseF_items s raw)
  clear hfx hEX
  obtain ⟨xk, xa, xq, xi, xb⟩ := fx
  rintro e w8 ⟨i8, c8, b8, d8, rfl, H8⟩
  simp only [Fm.cells]
  simp only at HX256
  have hF8 : Fr (fun _ => False) w8 (w8.alloc (.cells #[.int .i64 xk, .int .i64 xa, .int .i64 xq, .slice i8 xi.length c8, .slice b8 xb.length d8] 25)) := (Fr.refl _ _).alloc _
  have HQ8 := hide (((unhide HQ7).keep (unhide H8).fr).keep hF8)
  have HX8 := hide (Bx.new w8 #[.int .i64 xk, .int .i64 xa, .int .i64 xq, .slice i8 xi.length c8, .slice b8 xb.length d8] 25)
  have HL8 : Hid (∀ j, j < raw.length + 3 → (w8.alloc (.cells #[.int .i64 xk, .int .i64 xa, .int .i64 xq, .slice i8 xi.length c8, .slice b8 xb.length d8] 25)).cell? ⟨gl, j, none⟩ = some (.int .u8 (lentF raw (raw.length + 3) j)) ∧ (w8.alloc (.cells #[.int .i64 xk, .int .i64 xa, .int .i64 xq, .slice i8 xi.length c8, .slice b8 xb.length d8] 25)).frozen? ⟨gl, j, none⟩ = false) := by
    have hf := (unhide H8).fr.trans hF8 (fun _ _ t => t)
    exact hide (fun j hj => ⟨(hf.cell (a := ⟨gl, j, none⟩) (unhide HGL).2.2.2.2.2 (fun t => t)).trans (unhide HL7 j hj).1, (hf.frozen (a := ⟨gl, j, none⟩) (unhide HGL).2.2.2.2.2 (fun t => t)).trans (unhide HL7 j hj).2⟩)
  have HI8 : Hid (∃ ib ds, IL w7.heap.size (w8.alloc (.cells #[.int .i64 xk, .int .i64 xa, .int .i64 xq, .slice i8 xi.length c8, .slice b8 xb.length d8] 25)) i8 c8 ib ds xi) := by
    obtain ⟨ib, ds, h⟩ := (unhide H8).il
    exact hide ⟨ib, ds, h.frame hF8 (fun _ t => t) (fun _ _ _ t => t)⟩
  have HR8 : Hid (∃ gx, Row (w8.alloc (.cells #[.int .i64 xk, .int .i64 xa, .int .i64 xq, .slice i8 xi.length c8, .slice b8 xb.length d8] 25)) (.slice b8 xb.length d8) gx xb ∧ w7.heap.size ≤ gx) := by
    obtain ⟨gx, h1, h2⟩ := (unhide H8).bs
    exact hide ⟨gx, h1.frame hF8 (fun t => t), h2⟩
  have HN8 : Hid (xi.length ≤ 8 ∧ xb.length ≤ 16100 ∧ (d8 = 0 ∨ xi.length = 0)) := hide ⟨(unhide H8).n1, (unhide H8).n2⟩
  have HZ8 : Hid (w7.heap.size ≤ w8.heap.size) := hide (unhide H8).fr.size
  clear H8 hF8 HQ7 HL7 HBL
  go_wp2_with fail
  generalize w8.alloc (.cells #[.int .i64 xk, .int .i64 xa, .int .i64 xq, .slice i8 xi.length c8, .slice b8 xb.length d8] 25) = w8a at *
  generalize w8.heap.size = Zx at *
  refine (back_any w8a ro rc raw ((unhide HB).1.later (unhide HQ8).fr) gl (fun b off e h0 => by
    have hlt := (unhide HB).1.2.1 h0
    obtain ⟨b', off', e', hc⟩ := hlt
    rw [e] at e'
    injection e' with e'
    injection e' with e1 e2
    subst e1
    have := World.block_lt_of_cell? _ _ (hc 0 h0)
    have h2 : b < w.heap.size := this
    have := (unhide HGL).1
    omega) (unhide HL8)).mono ?_
  rintro e w9 ⟨rfl, h9⟩
  have HQ9 : Hid (FQ w Bf #[.int .i64 kd, .int .i64 ba, .int .i64 sq, .slice io its.length ic, .slice bo bts.length bc] A ⟨oa, A.length, ca, ga⟩ ⟨ob, A.length, cb, gb⟩ ⟨ow, A.length, cw, gw⟩ w9) := by
    obtain ⟨g1, g2, g3, g4, g5, g6⟩ := unhide HGL
    exact hide ((unhide HQ8).other h9 g1 (by omega) (fun hc => by have h : ga < gl := g3 hc; show ga ≠ gl; omega) (fun hc => by have h : gb < gl := g4 hc; show gb ≠ gl; omega) (fun hc => by have h : gw < gl := g5 hc; show gw ≠ gl; omega))
  have HX9 : Hid (Bx w9 Zx #[.int .i64 xk, .int .i64 xa, .int .i64 xq, .slice i8 xi.length c8, .slice b8 xb.length d8] 25) := hide ((unhide HX8).frame h9 (by show ¬ Zx = gl; have := (unhide HGL).2.2.2.2.2; have := unhide HZ8; omega))
  have HI9 : Hid (∃ ib ds, IL w7.heap.size w9 i8 c8 ib ds xi) := by
    obtain ⟨ib, ds, h⟩ := unhide HI8
    exact hide ⟨ib, ds, h.stay h9 (fun i t => by have t : i = gl := t; have := (unhide HGL).2.2.2.2.2; omega)⟩
  have HR9 : Hid (∃ gx, Row w9 (.slice b8 xb.length d8) gx xb ∧ w7.heap.size ≤ gx) := by
    obtain ⟨gx, h1, h2⟩ := unhide HR8
    exact hide ⟨gx, h1.frame h9 (fun t => by have t : gx = gl := t; have := (unhide HGL).2.2.2.2.2; omega), h2⟩
  clear h9 HQ8 HX8 HI8 HR8 HL8
  go_wp2_with fail
  refine (rparse_any w9 ((unhide HT).2.later (unhide HQ9).fr) s ro rc raw ((unhide HB).1.later (unhide HQ9).fr) (unhide HB).2.1 (unhide HB).2.2).mono ?_
  rw [(unhide HPX).1, (unhide HPX).2]
  rintro e wA ⟨i9, c9, b9, d9, rfl, HA9⟩
  simp only [Fm.cells]
  have hFA : Fr (fun _ => False) w9 (wA.alloc (.cells #[.int .i64 xk, .int .i64 xa, .int .i64 xq, .slice i9 xi.length c9, .slice b9 xb.length d9] 25)) := ((unhide HA9).fr).alloc _
  have HQA := hide ((unhide HQ9).keep hFA)
  have HXA := hide ((unhide HX9).keep hFA)
  have HYA := hide (Bx.new wA #[.int .i64 xk, .int .i64 xa, .int .i64 xq, .slice i9 xi.length c9, .slice b9 xb.length d9] 25)
  have HIA : Hid (∃ ib ds, IL w7.heap.size (wA.alloc (.cells #[.int .i64 xk, .int .i64 xa, .int .i64 xq, .slice i9 xi.length c9, .slice b9 xb.length d9] 25)) i8 c8 ib ds xi) := by
    obtain ⟨ib, ds, h⟩ := unhide HI9
    exact hide ⟨ib, ds, h.frame hFA (fun _ t => t) (fun _ _ _ t => t)⟩
  have HRA : Hid (∃ gx, Row (wA.alloc (.cells #[.int .i64 xk, .int .i64 xa, .int .i64 xq, .slice i9 xi.length c9, .slice b9 xb.length d9] 25)) (.slice b8 xb.length d8) gx xb ∧ w7.heap.size ≤ gx) := by
    obtain ⟨gx, h1, h2⟩ := unhide HR9
    exact hide ⟨gx, h1.frame hFA (fun t => t), h2⟩
  have HYT : Hid (Fm.At (wA.alloc (.cells #[.int .i64 xk, .int .i64 xa, .int .i64 xq, .slice i9 xi.length c9, .slice b9 xb.length d9] 25)) ⟨xk, xa, xq, xi, xb⟩ i9 b9 d9) := by
    obtain ⟨ib, ds, h⟩ := (unhide HA9).il
    obtain ⟨gy, h1, h2⟩ := (unhide HA9).bs
    have hk : Fr (fun _ => False) wA (wA.alloc (.cells #[.int .i64 xk, .int .i64 xa, .int .i64 xq, .slice i9 xi.length c9, .slice b9 xb.length d9] 25)) := (Fr.refl _ _).alloc _
    have hn := (unhide HN8)
    exact hide ⟨(h.frame hk (fun _ t => t) (fun _ _ _ t => t)).rows (by show xi.length ≤ _; omega), (Row.bat (h1.frame hk (fun t => t)) (by show xb.length ≤ _; omega)).2⟩
  clear HA9 hFA HQ9 HX9 HI9 HR9
  have x0 : (wA.alloc (.cells #[.int .i64 xk, .int .i64 xa, .int .i64 xq, .slice i9 xi.length c9, .slice b9 xb.length d9] 25)).cell? ⟨Zx, 0, none⟩ = some (.int .i64 xk) := (unhide HXA).cell 0
  have x1 : (wA.alloc (.cells #[.int .i64 xk, .int .i64 xa, .int .i64 xq, .slice i9 xi.length c9, .slice b9 xb.length d9] 25)).cell? ⟨Zx, 1, none⟩ = some (.int .i64 xa) := (unhide HXA).cell 1
  have x2 : (wA.alloc (.cells #[.int .i64 xk, .int .i64 xa, .int .i64 xq, .slice i9 xi.length c9, .slice b9 xb.length d9] 25)).cell? ⟨Zx, 2, none⟩ = some (.int .i64 xq) := (unhide HXA).cell 2
  have x3 : (wA.alloc (.cells #[.int .i64 xk, .int .i64 xa, .int .i64 xq, .slice i9 xi.length c9, .slice b9 xb.length d9] 25)).cell? ⟨Zx, 3, none⟩ = some (.slice i8 xi.length c8) := (unhide HXA).cell 3
  have x4 : (wA.alloc (.cells #[.int .i64 xk, .int .i64 xa, .int .i64 xq, .slice i9 xi.length c9, .slice b9 xb.length d9] 25)).cell? ⟨Zx, 4, none⟩ = some (.slice b8 xb.length d8) := (unhide HXA).cell 4
  go_wp2_with fail
  generalize wA.alloc (.cells #[.int .i64 xk, .int .i64 xa, .int .i64 xq, .slice i9 xi.length c9, .slice b9 xb.length d9] 25) = wB at *
  generalize wA.heap.size = Zy at *
  refine (same_eq wB ⟨xk, xa, xq, xi, xb⟩ i8 c8 b8 d8 i9 c9 b9 d9 (by
    obtain ⟨ib, ds, h⟩ := unhide HIA
    obtain ⟨gx, h1, h2⟩ := unhide HRA
    have hn := unhide HN8
    exact ⟨h.rows (by show xi.length ≤ _; omega), (Row.bat h1 (by show xb.length ≤ _; omega)).2⟩) (unhide HYT)).mono ?_
  rintro e wC ⟨rfl, hC⟩
  have HQC := hide ((unhide HQA).keep (unhide hC))
  have HXC := hide ((unhide HXA).keep (unhide hC))
  obtain ⟨ib, ds, hilC⟩ := unhide HIA
  obtain ⟨gx, hrxC, hgx⟩ := unhide HRA
  have HIC := hide (hilC.frame (unhide hC) (fun _ t => t) (fun _ _ _ t => t))
  have HRC := hide (And.intro (hrxC.frame (unhide hC) (fun t => t)) hgx)
  have hAl : A.length ≤ 140737488355328 := by have := unhide HAL; omega
  have v1 := conv_batL (Row.bat (unhide HQC).ra hAl).2
  have v2 := conv_batL (Row.bat (unhide HQC).rb hAl).2
  have v3 := conv_batL (Row.bat (unhide HQC).rw' hAl).2
  simp only at v1 v2 v3
  have y3 : wC.cell? ⟨Zx, 3, none⟩ = some (.slice i8 xi.length c8) := (unhide HXC).cell 3
  have y4 : wC.cell? ⟨Zx, 4, none⟩ = some (.slice b8 xb.length d8) := (unhide HXC).cell 4
  clear hilC hrxC hgx hC HQA HXA HIA HRA HYA HYT hAl
  clear x0 x1 x2 x3 x4
  obtain ⟨info, hinf, hzz⟩ := Option.map_eq_some_iff.1 infoB
  simp only [Prod.mk.injEq] at hzz
  have HINF := hide (And.intro hinf hzz)
  clear hinf hzz
  have HSZ : Hid (ds.length = xi.length ∧ xi.length ≤ 8) := hide ⟨(unhide HIC).n1, (unhide HN8).1⟩
  have hFD : Fr (fun _ => False) wC (wC.alloc (.cells #[.slice oa A.length ca, .slice ob A.length cb, .slice b8 xb.length d8] 23)) := (Fr.refl _ _).alloc _
  have HQD := hide ((unhide HQC).keep hFD)
  have HID := hide ((unhide HIC).frame hFD (fun _ t => t) (fun _ _ _ t => t))
  have HRD := hide (And.intro ((unhide HRC).1.frame hFD (fun t => t)) (unhide HRC).2)
  have HKD := hide (KRow.built wC [.slice oa A.length ca, .slice ob A.length cb, .slice b8 xb.length d8] 23 (fun u hu => by simp only [List.mem_cons, List.not_mem_nil, or_false] at hu; rcases hu with rfl | rfl | rfl <;> rfl) (by simp))
  have HSR := hide ((unhide HID).row.srcF 22 23 (by omega) Tryz.underlying22 (n := xi.length) (by rw [List.length_map, (unhide HSZ).1]; omega))
  have z3 : (wC.alloc (.cells #[.slice oa A.length ca, .slice ob A.length cb, .slice b8 xb.length d8] 23)).cell? ⟨Zx, 3, none⟩ = some (.slice i8 xi.length c8) := ((unhide HXC).keep hFD).cell 3
  have HLT : Hid ((0 < d8 → gx < wC.heap.size) ∧ (∀ d ∈ ds, 0 < d.cap → d.g < wC.heap.size)) := hide ⟨fun hc => Row.below (d := ⟨b8, xb.length, d8, gx⟩) (unhide HRC).1 hc, fun d hd hc => ((unhide HIC).in' hd hc).2.1⟩
  have HCW : Hid (w.heap.size ≤ wC.heap.size ∧ w7.heap.size ≤ wC.heap.size) := hide ⟨(unhide HQC).fr.size, by have := (unhide HXC).lt; have := unhide HZ8; omega⟩
  clear hFD HQC HIC HRC HXC
  go_wp2_with (at_builtin; refine wpList_append_krow _ rfl (.tmp 114) (.tmp 116) 22 22 rfl 23 info _ 1 (by omega) Tryz.underlying22 (unhide HINF).1 (unhide HINF).2.1 rfl (unhide HINF).2.2.1 rfl (unhide HKD) (by simp) _ _ xi.length rfl (unhide HSR) (by rw [(unhide HINF).2.2.2]; have := unhide HSZ; omega) (by have := unhide HSZ; omega) ?_)
  intro lo lc wE lb hkr hgr
  have HH : Hid (Handed wE lb (3 + xi.length) (fun j => (([⟨oa, A.length, ca, ga⟩, ⟨ob, A.length, cb, gb⟩, ⟨b8, xb.length, d8, gx⟩] ++ ds : List RD)).getD j ⟨none, 0, 0, 0⟩) ∧ Fr (fun k => k = wC.heap.size) (wC.alloc (.cells #[.slice oa A.length ca, .slice ob A.length cb, .slice b8 xb.length d8] 23)) wE ∧ (0 < 3 + xi.length → lo = some ⟨lb, 0, none⟩) ∧ ∀ d ∈ ([⟨oa, A.length, ca, ga⟩, ⟨ob, A.length, cb, gb⟩, ⟨b8, xb.length, d8, gx⟩] ++ ds : List RD), 0 < d.cap → w.heap.size ≤ d.g) := by
    have hfr : Fr (fun k => k = wC.heap.size) (wC.alloc (.cells #[.slice oa A.length ca, .slice ob A.length cb, .slice b8 xb.length d8] 23)) wE := hgr.frZ.mono (fun _ _ t => t.1)
    have hq := unhide HQD
    obtain ⟨g1, g2, g3, g4, g5, g6⟩ := unhide HGL
    obtain ⟨n1, n2, n3⟩ := unhide HN8
    obtain ⟨t1, t2⟩ := unhide HLT
    have hz7 : w7.heap.size ≤ gx := (unhide HRD).2
    have hlb : wC.heap.size ≤ lb := by
      rcases hgr with ⟨e1, _, _⟩ | ⟨e1, _, _⟩
      · omega
      · rw [heap_alloc] at e1; omega
    have hAl := unhide HAL
    have hsz : gl < wC.heap.size := by have := (unhide HCW).2; omega
    have ka : Own wE ⟨oa, A.length, ca, ga⟩ := Row.own (Row.elsewhere hq.ra (fun hc => hfr.block ga (Row.below (d := ⟨oa, A.length, ca, ga⟩) hq.ra hc) (fun t => by have t : ga = wC.heap.size := t; have := g3 hc; omega)))
    have kb : Own wE ⟨ob, A.length, cb, gb⟩ := Row.own (Row.elsewhere hq.rb (fun hc => hfr.block gb (Row.below (d := ⟨ob, A.length, cb, gb⟩) hq.rb hc) (fun t => by have t : gb = wC.heap.size := t; have := g4 hc; omega)))
    have kx : Own wE ⟨b8, xb.length, d8, gx⟩ := Row.own (Row.elsewhere (unhide HRD).1 (fun hc => hfr.block gx (Row.below (d := ⟨b8, xb.length, d8, gx⟩) (unhide HRD).1 hc) (fun t => by have t : gx = wC.heap.size := t; have := t1 hc; omega)))
    have kd' : ∀ d ∈ ds, Own wE d ∧ d.n + 9 ≤ 140737488355328 ∧ (0 < d.cap → d.g ≠ lb ∧ w7.heap.size ≤ d.g) := by
      intro d hd
      obtain ⟨i, hi⟩ := List.getElem?_of_mem hd
      have hl : i < xi.length := by rw [← (unhide HID).n1]; exact (List.getElem?_eq_some_iff.1 hi).1
      obtain ⟨r1, r2, r3⟩ := (unhide HID).it i d _ hi (List.getElem?_eq_getElem hl)
      have h256 := (unhide HX256) xi[i] (List.getElem_mem hl)
      have r1' := r1.other hfr (fun hc t => by have t : d.g = wC.heap.size := t; have := t2 d hd hc; omega)
      refine ⟨?_, by rw [r2]; omega, fun hc => ⟨by have := t2 d hd hc; omega, (r3 hc).1⟩⟩
      obtain ⟨ao, m, cap, g⟩ := d
      have r2 : m = xi[i].length := r2
      subst r2
      exact Row.own r1'
    refine hide ⟨?_, hfr, fun _ => hkr.ad (by have := hkr.le; simp at this; omega), fun d hd hc => ?_⟩
    rotate_left
    · have hab := (unhide HAB).2
      simp only [List.mem_append, List.mem_cons, List.not_mem_nil, or_false] at hd
      rcases hd with (rfl | rfl | rfl) | hd
      · exact hab.1
      · exact hab.2
      · show w.heap.size ≤ gx
        omega
      · have := ((kd' d hd).2.2 hc).2
        omega
    have hlen : ([⟨oa, A.length, ca, ga⟩, ⟨ob, A.length, cb, gb⟩, ⟨b8, xb.length, d8, gx⟩] ++ ds : List RD).length = 3 + xi.length := by simp [(unhide HSZ).1]; omega
    have hres := handed_rows (L := [⟨oa, A.length, ca, ga⟩, ⟨ob, A.length, cb, gb⟩, ⟨b8, xb.length, d8, gx⟩] ++ ds) (w := wE) (ro := lo) (rc := lc) (rb := lb) (by rw [List.map_append]; exact hkr) (fun d hd => by
      simp only [List.mem_append, List.mem_cons, List.not_mem_nil, or_false] at hd
      rcases hd with (rfl | rfl | rfl) | hd
      · exact ⟨ka, by show A.length + 9 ≤ _; omega, fun hc => by have h : ga < gl := g3 hc; show ga ≠ lb; omega⟩
      · exact ⟨kb, by show A.length + 9 ≤ _; omega, fun hc => by have h : gb < gl := g4 hc; show gb ≠ lb; omega⟩
      · exact ⟨kx, by show xb.length + 9 ≤ _; omega, fun hc => by have h : gx < wC.heap.size := t1 hc; show gx ≠ lb; omega⟩
      · exact ⟨(kd' d hd).1, (kd' d hd).2.1, fun hc => ((kd' d hd).2.2 hc).1⟩) (by
      rw [List.pairwise_append]
      refine ⟨?_, (unhide HID).up.imp (fun h c1 c2 => by have := h c1 c2; omega), fun d hd e he c1 c2 => ?_⟩
      · simp only [List.pairwise_cons, List.mem_cons, List.not_mem_nil, or_false, List.Pairwise.nil, and_true]
        refine ⟨fun e he c1 c2 => ?_, fun e he c1 c2 => ?_, fun e he => he.elim⟩
        · rcases he with rfl | rfl
          · have := (unhide HAB).1 c1 c2; show ga ≠ gb; omega
          · have h : ga < gl := g3 c1; show ga ≠ gx; omega
        · subst he
          have h : gb < gl := g4 c1; show gb ≠ gx; omega
      · have h9 := (kd' e he).2.2 c2
        simp only [List.mem_cons, List.not_mem_nil, or_false] at hd
        rcases hd with rfl | rfl | rfl
        · have h : ga < gl := g3 c1; show ga ≠ e.g; omega
        · have h : gb < gl := g4 c1; show gb ≠ e.g; omega
        · exfalso
          rcases n3 with t | t
          · have c1 : 0 < d8 := c1; omega
          · have := (unhide HSZ).1
            rw [t] at this
            have hd0 : ds = [] := List.eq_nil_of_length_eq_zero this
            rw [hd0] at he
            cases he) (by rw [hlen]; omega)
    rw [hlen] at hres
    exact hres
  have HFE : Hid (Fr (fun _ => False) w wE) := by
    have hq := unhide HQD
    have h1 := hq.fr.size
    refine hide (hq.fr.trans (unhide HH).2.1 (fun i hi t => by have t : i = wC.heap.size := t; have := (unhide HCW).1; omega))
  clear hkr hgr HSR HKD HID HRD HQD y3 y4 z3 v1 v2 v3
  go_wp2_with fail
  refine (owned_any wE lo lb (3 + xi.length) lc (unhide HH).2.2.1 _ (unhide HH).1).mono ?_
  rintro e wZ ⟨rfl, hZ⟩
  have HFZ : Hid (Fr (fun _ => False) w wZ) := by
    refine hide ((unhide HFE).trans hZ (fun i hi t => ?_))
    obtain ⟨j, hj, hc, rfl⟩ := t
    have hlen : ([⟨oa, A.length, ca, ga⟩, ⟨ob, A.length, cb, gb⟩, ⟨b8, xb.length, d8, gx⟩] ++ ds : List RD).length = 3 + xi.length := by simp [(unhide HSZ).1]; omega
    have hmem : ([⟨oa, A.length, ca, ga⟩, ⟨ob, A.length, cb, gb⟩, ⟨b8, xb.length, d8, gx⟩] ++ ds : List RD).getD j ⟨none, 0, 0, 0⟩ ∈ ([⟨oa, A.length, ca, ga⟩, ⟨ob, A.length, cb, gb⟩, ⟨b8, xb.length, d8, gx⟩] ++ ds : List RD) := by
      rw [List.getD_eq_getElem?_getD, List.getElem?_eq_getElem (by rw [hlen]; exact hj)]
      exact List.getElem_mem _
    have := (unhide HH).2.2.2 _ hmem hc
    omega
  clear hZ HH
  go_wp2
  go_ret
  exact ⟨rfl, unhide HFZ⟩

end Go.Proofs.YtphkjeeblihfgaaGreatDoor

