import Derived.Test.YtmhljehkodhggaaGreatUD
import Derived.Test.YtmhljehkodhggaaGreatUE
/- The walk of the law RiskLists. -/
namespace Go.Proofs.YtmhljehkodhggaaGreat
open Go.RowKit

theorem LO.pos {w0 w : World} {ao : Option Addr} {cap g : Nat} {l : List ByteArray} {x : ByteArray} (h : LO w0 w ao cap g (l ++ [x])) : 0 < cap := by have := h.len; rw [List.length_append, List.length_singleton] at this; omega
theorem LO.low {w0 w : World} {ao : Option Addr} {cap g : Nat} {l : List ByteArray} {x : ByteArray} (h : LO w0 w ao cap g (l ++ [x])) : w0.heap.size ≤ g ∧ g < w.heap.size := ⟨h.new h.pos, h.lt h.pos⟩

theorem applyR_len (l : Rl) (d : Dl) : (applyR l d).1.toks.length ≤ 1000 := by
  by_cases h : (applyR l d).2 = 0
  · rw [(applyR_ok h).2.2]; exact (applyR_ok h).2.1
  · rw [applyR_bad h]; simp

/-- A list and a delta that were handed in, and both once more, lent. -/
structure Ln (w V : World) (l : Rl) (a : Option Addr) (c : Nat) (d : Dl) (a1 : Option Addr) (c1 : Nat) (a2 : Option Addr) (c2 : Nat) (B M X : Nat) (am : Option Addr) (cm gm : Nat) (aa : Option Addr) (ca ga : Nat) (ag : Option Addr) (cg gg : Nat) : Prop where
  fr : Fr (fun _ => False) w V
  b0 : Bx V B #[.int .i64 l.ver, .slice a l.toks.length c] 24
  b1 : Bx V (B + 1) #[.int .i64 d.ver, .slice a1 d.add.length c1, .slice a2 d.gone.length c2] 26
  bm : Bx V M #[.int .i64 l.ver, .slice am l.toks.length cm] 24
  bx : Bx V X #[.int .i64 d.ver, .slice aa d.add.length ca, .slice ag d.gone.length cg] 26
  rm : LO w V am cm gm (l.toks ++ [tMark])
  ra : LO w V aa ca ga (d.add ++ [tMark])
  rg : LO w V ag cg gg (d.gone ++ [tMark])
  hl : RIn V l a c
  hd : DI V d a1 c1 a2 c2
  n1 : w.heap.size ≤ B
  n2 : B + 1 < M
  n3 : M < gm
  n4 : gm < X
  n5 : X < ga
  n6 : ga < gg
theorem Ln.keep {w V V' : World} {l : Rl} {a : Option Addr} {c : Nat} {d : Dl} {a1 : Option Addr} {c1 : Nat} {a2 : Option Addr} {c2 : Nat} {B M X : Nat} {am : Option Addr} {cm gm : Nat} {aa : Option Addr} {ca ga : Nat} {ag : Option Addr} {cg gg : Nat} (h : Ln w V l a c d a1 c1 a2 c2 B M X am cm gm aa ca ga ag cg gg) (hf : Fr (fun _ => False) V V') : Ln w V' l a c d a1 c1 a2 c2 B M X am cm gm aa ca ga ag cg gg :=
  ⟨h.fr.trans hf (fun _ _ t => t), h.b0.keep hf, h.b1.keep hf, h.bm.keep hf, h.bx.keep hf, h.rm.keep hf, h.ra.keep hf, h.rg.keep hf, h.hl.keep hf, h.hd.keep hf, h.n1, h.n2, h.n3, h.n4, h.n5, h.n6⟩
theorem Ln.lm {w V : World} {l : Rl} {a : Option Addr} {c : Nat} {d : Dl} {a1 : Option Addr} {c1 : Nat} {a2 : Option Addr} {c2 : Nat} {B M X : Nat} {am : Option Addr} {cm gm : Nat} {aa : Option Addr} {ca ga : Nat} {ag : Option Addr} {cg gg : Nat} (h : Ln w V l a c d a1 c1 a2 c2 B M X am cm gm aa ca ga ag cg gg) : RIn V l am cm := ⟨h.rm.front.sat, h.hl.len, by have := h.rm.len; rw [List.length_append] at this; omega, h.hl.ver⟩
theorem Ln.dx {w V : World} {l : Rl} {a : Option Addr} {c : Nat} {d : Dl} {a1 : Option Addr} {c1 : Nat} {a2 : Option Addr} {c2 : Nat} {B M X : Nat} {am : Option Addr} {cm gm : Nat} {aa : Option Addr} {ca ga : Nat} {ag : Option Addr} {cg gg : Nat} (h : Ln w V l a c d a1 c1 a2 c2 B M X am cm gm aa ca ga ag cg gg) : DI V d aa ca ag cg := ⟨h.ra.front.sat, h.rg.front.sat, h.hd.l1, h.hd.l2, h.hd.ver, by have := h.ra.len; rw [List.length_append] at this; omega, by have := h.rg.len; rw [List.length_append] at this; omega⟩

set_option maxHeartbeats 8000000 in
set_option maxRecDepth 20000 in
theorem lists_walk (w : World) (l : Rl) (a : Option Addr) (c : Nat) (hl : RIn w l a c) (hlc : (c + 200) * 16 ≤ 140737488355328) (d : Dl) (a1 : Option Addr) (c1 : Nat) (a2 : Option Addr) (c2 : Nat) (hd : DI w d a1 c1 a2 c2) (hc1 : (c1 + 200) * 16 ≤ 140737488355328) (hc2 : (c2 + 200) * 16 ≤ 140737488355328) (t : ByteArray) :
    Calls Tryz.prog 3 #[.agg (rlC l a c), .agg (dlC d a1 c1 a2 c2), .string t] w fun e w' => e = .returned (.bool true) ∧ Fr (fun _ => False) w w' := by
  have hn0 := hl.n1
  have hn1 := hd.n1
  have hn2 := hd.n2
  obtain ⟨B, HB⟩ : ∃ B, Hid (w.heap.size = B) := ⟨_, rfl⟩
  obtain ⟨W0, HW0⟩ : ∃ W, Hid (W = (w.alloc (.cells (rlC l a c) 24)).alloc (.cells (dlC d a1 c1 a2 c2) 26)) := ⟨_, rfl⟩
  have HS : Hid (∀ w', Fr (fun _ => False) W0 w' → Fr (fun _ => False) w w' ∧ Bx w' B #[.int .i64 l.ver, .slice a l.toks.length c] 24 ∧ Bx w' (B + 1) #[.int .i64 d.ver, .slice a1 d.add.length c1, .slice a2 d.gone.length c2] 26 ∧ RIn w' l a c ∧ DI w' d a1 c1 a2 c2) := hide (fun w' hf => by
    rw [unhide HW0] at hf
    have z1 : Bx ((w.alloc (.cells (rlC l a c) 24)).alloc (.cells (dlC d a1 c1 a2 c2) 26)) w.heap.size (rlC l a c) 24 := (Bx.new _ _ _).alloc _
    have z2 := Bx.new (w.alloc (.cells (rlC l a c) 24)) (dlC d a1 c1 a2 c2) 26
    rw [heap_alloc] at z2
    rw [unhide HB] at z1 z2
    have h0 : Fr (fun _ => False) w w' := (((Fr.refl _ w).alloc _).alloc _).trans hf (fun _ _ t => t)
    exact ⟨h0, z1.keep hf, z2.keep hf, hl.keep h0, hd.keep h0⟩)
  have HBw : Hid (w.heap.size ≤ B) := hide (by rw [← unhide HB]; exact Nat.le_refl _)
  have HOLD := hide (And.intro hl hd)
  clear hl hd
  unfold rlC dlC at HW0 ⊢
  go_enter Tryz.func3, Tryz.ntmps3
  go_wp2_with fail
  rw [← unhide HW0, unhide HB]
  clear HW0 HB
  refine (awake13_any _).mono ?_
  rintro e w1 ⟨rfl, hF⟩
  have HF1 := hide hF
  clear hF
  obtain ⟨M, HM⟩ : ∃ M, Hid (w1.heap.size = M) := ⟨_, rfl⟩
  have x0 : w1.cell? ⟨B, 0, none⟩ = some (.int .i64 l.ver) := (unhide HS w1 (unhide HF1)).2.1.cell 0
  have x1 : w1.cell? ⟨B, 1, none⟩ = some (.slice a l.toks.length c) := (unhide HS w1 (unhide HF1)).2.1.cell 1
  have y1 : (w1.alloc (.cells #[.int .i64 l.ver, .slice a l.toks.length c] 24)).cell? ⟨B, 1, none⟩ = some (.slice a l.toks.length c) := (unhide HS _ ((unhide HF1).alloc _)).2.1.cell 1
  have RL := hide (lentS_any (w1.alloc (.cells #[.int .i64 l.ver, .slice a l.toks.length c] 24)) a c l.toks (unhide HS _ ((unhide HF1).alloc _)).2.2.2.1.toks (by omega))
  go_wp2_with fail
  rw [unhide HM]
  refine (unhide RL).mono ?_
  clear RL x0 x1 y1
  rintro e w2 ⟨am, cm, gm, rfl, hL, hF⟩
  have H2 : Hid (Fr (fun _ => False) W0 w2 ∧ Bx w2 M #[.int .i64 l.ver, .slice a l.toks.length c] 24 ∧ LO w w2 am cm gm (l.toks ++ [tMark]) ∧ B + 1 < M ∧ M < gm ∧ gm < w2.heap.size ∧ W0.heap.size ≤ M) := hide (by
    have hb : Bx w2 M #[.int .i64 l.ver, .slice a l.toks.length c] 24 := by rw [← unhide HM]; exact (Bx.new _ _ _).keep hF
    have hlow := hL.low
    rw [heap_alloc, unhide HM] at hlow
    have hB1 := (unhide HS w1 (unhide HF1)).2.2.1.lt
    rw [unhide HM] at hB1
    exact ⟨((unhide HF1).alloc _).trans hF (fun _ _ t => t), hb, hL.later (Nat.le_trans (unhide HS w1 (unhide HF1)).1.size (by rw [heap_alloc]; omega)), hB1, by omega, hlow.2, by rw [← unhide HM]; exact (unhide HF1).size⟩)
  clear hL hF HF1 HM
  have y1 : w2.cell? ⟨M, 1, none⟩ = some (.slice a l.toks.length c) := (unhide H2).2.1.cell 1
  have z1 := (unhide H2).2.1.frozen 1
  go_upto_region 4 with (fail)
  have H3 : Hid (Fr (fun _ => False) W0 (w2.setCell ⟨M, 1, none⟩ (.slice am l.toks.length cm)) ∧ Bx (w2.setCell ⟨M, 1, none⟩ (.slice am l.toks.length cm)) M #[.int .i64 l.ver, .slice am l.toks.length cm] 24 ∧ LO w (w2.setCell ⟨M, 1, none⟩ (.slice am l.toks.length cm)) am cm gm (l.toks ++ [tMark]) ∧ B + 1 < M ∧ M < gm ∧ gm < (w2.setCell ⟨M, 1, none⟩ (.slice am l.toks.length cm)).heap.size) := hide (by
    obtain ⟨p1, p2, p3, p4, p5, p6, hW⟩ := unhide H2
    have hs : Fr (fun k => k = M) w2 (w2.setCell ⟨M, 1, none⟩ (.slice am l.toks.length cm)) := (Fr.refl (fun k => k = M) w2).setCell (fun _ => rfl) _
    exact ⟨p1.trans hs (fun i hi t => by omega), p2.setCell 1 _, p3.go hs (fun _ t => by omega), p4, p5, Nat.lt_of_lt_of_le p6 hs.size⟩)
  generalize w2.setCell ⟨M, 1, none⟩ (.slice am l.toks.length cm) = w3 at *
  clear y1 z1 H2
  obtain ⟨X, HX⟩ : ∃ X, Hid (w3.heap.size = X) := ⟨_, rfl⟩
  have x0 : w3.cell? ⟨B + 1, 0, none⟩ = some (.int .i64 d.ver) := (unhide HS w3 (unhide H3).1).2.2.1.cell 0
  have x1 : w3.cell? ⟨B + 1, 1, none⟩ = some (.slice a1 d.add.length c1) := (unhide HS w3 (unhide H3).1).2.2.1.cell 1
  have x2 : w3.cell? ⟨B + 1, 2, none⟩ = some (.slice a2 d.gone.length c2) := (unhide HS w3 (unhide H3).1).2.2.1.cell 2
  have y1 : (w3.alloc (.cells #[.int .i64 d.ver, .slice a1 d.add.length c1, .slice a2 d.gone.length c2] 26)).cell? ⟨B + 1, 1, none⟩ = some (.slice a1 d.add.length c1) := (unhide HS _ ((unhide H3).1.alloc _)).2.2.1.cell 1
  have RL := hide (lentS_any (w3.alloc (.cells #[.int .i64 d.ver, .slice a1 d.add.length c1, .slice a2 d.gone.length c2] 26)) a1 c1 d.add (unhide HS _ ((unhide H3).1.alloc _)).2.2.2.2.add (by omega))
  go_wp2_with fail
  rw [unhide HX]
  refine (unhide RL).mono ?_
  clear RL x0 x1 x2 y1
  rintro e w5 ⟨aa, ca, ga, rfl, hL, hF⟩
  have H5 : Hid (Fr (fun _ => False) W0 w5 ∧ Bx w5 M #[.int .i64 l.ver, .slice am l.toks.length cm] 24 ∧ LO w w5 am cm gm (l.toks ++ [tMark]) ∧ Bx w5 X #[.int .i64 d.ver, .slice a1 d.add.length c1, .slice a2 d.gone.length c2] 26 ∧ LO w w5 aa ca ga (d.add ++ [tMark]) ∧ W0.heap.size ≤ X ∧ gm < X ∧ X < ga ∧ ga < w5.heap.size) := hide (by
    obtain ⟨p1, p2, p3, p4, p5, p6⟩ := unhide H3
    have hg : Fr (fun _ => False) w3 w5 := ((Fr.refl _ _).alloc _).trans hF (fun _ _ t => t)
    have hb : Bx w5 X #[.int .i64 d.ver, .slice a1 d.add.length c1, .slice a2 d.gone.length c2] 26 := by rw [← unhide HX]; exact (Bx.new _ _ _).keep hF
    have hlow := hL.low
    rw [heap_alloc, unhide HX] at hlow
    rw [unhide HX] at p6
    have hs1 := p1.size
    rw [unhide HX] at hs1
    exact ⟨p1.trans hg (fun _ _ t => t), p2.keep hg, p3.keep hg, hb, hL.later (Nat.le_trans (unhide HS w3 p1).1.size (by rw [heap_alloc]; omega)), hs1, p6, by omega, hlow.2⟩)
  have HN3 := hide (And.intro (unhide H3).2.2.2.1 (unhide H3).2.2.2.2.1)
  clear hL hF H3 HX
  have y1 : w5.cell? ⟨X, 1, none⟩ = some (.slice a1 d.add.length c1) := (unhide H5).2.2.2.1.cell 1
  have z1 := (unhide H5).2.2.2.1.frozen 1
  go_upto_region 6 with (fail)
  have H6 : Hid (Fr (fun _ => False) W0 (w5.setCell ⟨X, 1, none⟩ (.slice aa d.add.length ca)) ∧ Bx (w5.setCell ⟨X, 1, none⟩ (.slice aa d.add.length ca)) M #[.int .i64 l.ver, .slice am l.toks.length cm] 24 ∧ LO w (w5.setCell ⟨X, 1, none⟩ (.slice aa d.add.length ca)) am cm gm (l.toks ++ [tMark]) ∧ Bx (w5.setCell ⟨X, 1, none⟩ (.slice aa d.add.length ca)) X #[.int .i64 d.ver, .slice aa d.add.length ca, .slice a2 d.gone.length c2] 26 ∧ LO w (w5.setCell ⟨X, 1, none⟩ (.slice aa d.add.length ca)) aa ca ga (d.add ++ [tMark]) ∧ W0.heap.size ≤ X ∧ gm < X ∧ X < ga ∧ ga < (w5.setCell ⟨X, 1, none⟩ (.slice aa d.add.length ca)).heap.size) := hide (by
    obtain ⟨p1, p2, p3, p4, p5, p6, p7, p8, p9⟩ := unhide H5
    have hs : Fr (fun k => k = X) w5 (w5.setCell ⟨X, 1, none⟩ (.slice aa d.add.length ca)) := (Fr.refl (fun k => k = X) w5).setCell (fun _ => rfl) _
    have hN := unhide HN3
    exact ⟨p1.trans hs (fun i hi t => by omega), p2.frame hs (by omega), p3.go hs (fun _ t => by omega), p4.setCell 1 _, p5.go hs (fun _ t => by omega), p6, p7, p8, Nat.lt_of_lt_of_le p9 hs.size⟩)
  generalize w5.setCell ⟨X, 1, none⟩ (.slice aa d.add.length ca) = w6 at *
  clear y1 z1 H5
  have x2 : w6.cell? ⟨B + 1, 2, none⟩ = some (.slice a2 d.gone.length c2) := (unhide HS w6 (unhide H6).1).2.2.1.cell 2
  have RL := hide (lentS_any w6 a2 c2 d.gone (unhide HS _ (unhide H6).1).2.2.2.2.gone (by omega))
  go_wp2_with fail
  refine (unhide RL).mono ?_
  clear RL x2
  rintro e w7 ⟨ag, cg, gg, rfl, hL, hF⟩
  have H7 : Hid (Fr (fun _ => False) W0 w7 ∧ Bx w7 M #[.int .i64 l.ver, .slice am l.toks.length cm] 24 ∧ LO w w7 am cm gm (l.toks ++ [tMark]) ∧ Bx w7 X #[.int .i64 d.ver, .slice aa d.add.length ca, .slice a2 d.gone.length c2] 26 ∧ LO w w7 aa ca ga (d.add ++ [tMark]) ∧ LO w w7 ag cg gg (d.gone ++ [tMark]) ∧ W0.heap.size ≤ X ∧ gm < X ∧ X < ga ∧ ga < gg) := hide (by
    obtain ⟨p1, p2, p3, p4, p5, p6, p7, p8, p9⟩ := unhide H6
    have hlow := hL.low
    exact ⟨p1.trans hF (fun _ _ t => t), p2.keep hF, p3.keep hF, p4.keep hF, p5.keep hF, hL.later (unhide HS w6 p1).1.size, p6, p7, p8, by omega⟩)
  clear hL hF H6
  have y1 : w7.cell? ⟨X, 2, none⟩ = some (.slice a2 d.gone.length c2) := (unhide H7).2.2.2.1.cell 2
  have z1 := (unhide H7).2.2.2.1.frozen 2
  go_upto_region 7 with (fail)
  have HV : Hid (Ln w (w7.setCell ⟨X, 2, none⟩ (.slice ag d.gone.length cg)) l a c d a1 c1 a2 c2 B M X am cm gm aa ca ga ag cg gg) := hide (by
    obtain ⟨p1, p2, p3, p4, p5, p6, p7, p8, p9, p10⟩ := unhide H7
    have hs : Fr (fun k => k = X) w7 (w7.setCell ⟨X, 2, none⟩ (.slice ag d.gone.length cg)) := (Fr.refl (fun k => k = X) w7).setCell (fun _ => rfl) _
    have hN := unhide HN3
    have hW : Fr (fun _ => False) W0 (w7.setCell ⟨X, 2, none⟩ (.slice ag d.gone.length cg)) := p1.trans hs (fun i hi t => by omega)
    obtain ⟨s1, s2, s3, s4, s5⟩ := unhide HS _ hW
    exact ⟨s1, s2, s3, p2.frame hs (by omega), p4.setCell 2 _, p3.go hs (fun _ t => by omega), p5.go hs (fun _ t => by omega), p6.go hs (fun _ t => by omega), s4, s5, unhide HBw, hN.1, hN.2, p8, p9, p10⟩)
  generalize w7.setCell ⟨X, 2, none⟩ (.slice ag d.gone.length cg) = V at *
  clear y1 z1 H7 HN3 HS HBw
  obtain ⟨rv, rt, E, hE, hrt⟩ : ∃ rv rt E, applyR l d = (⟨rv, rt⟩, E) ∧ List.length rt ≤ 1000 := ⟨_, _, _, rfl, applyR_len l d⟩
  have HE := hide hE
  clear hE
  have RAp : Hid (∀ w', Fr (fun _ => False) V w' → Calls Tryz.prog 11 #[.agg #[.int .i64 l.ver, .slice am l.toks.length cm], .agg #[.int .i64 d.ver, .slice aa d.add.length ca, .slice ag d.gone.length cg]] w' fun e w'' => ∃ ao cap g, e = .returned (.tuple #[.agg #[.int .i64 rv, .slice ao rt.length cap], .int .i64 E]) ∧ LO w' w'' ao cap g rt ∧ Fr (fun _ => False) w' w'') := hide (fun w' hf => by
    have := apply_any w' l am cm ((unhide HV).keep hf).lm d aa ca ag cg ((unhide HV).keep hf).dx
    rw [unhide HE] at this
    exact this)
  have x0 : V.cell? ⟨M, 0, none⟩ = some (.int .i64 l.ver) := (unhide HV).bm.cell 0
  have x1 : V.cell? ⟨M, 1, none⟩ = some (.slice am l.toks.length cm) := (unhide HV).bm.cell 1
  have RR := hide (right_any V l am cm (unhide HV).lm.toks (unhide HV).lm.len)
  unfold rlC at RR
  go_wp2_with fail
  refine (unhide RR).mono ?_
  clear RR x0 x1
  rintro e w8 ⟨rfl, hF⟩
  have H8 := hide hF
  clear hF
  obtain ⟨tb, htb⟩ : ∃ tb, isTok t = tb := ⟨_, rfl⟩
  have HTB := hide htb
  clear htb
  go_wp2_with fail
  refine (token_is (unhide HTB) w8).mono ?_
  rintro e w8' ⟨rfl, hq⟩
  obtain rfl := hq.symm
  clear hq
  have x0 : w8.cell? ⟨M, 0, none⟩ = some (.int .i64 l.ver) := ((unhide HV).keep (unhide H8)).bm.cell 0
  have x1 : w8.cell? ⟨M, 1, none⟩ = some (.slice am l.toks.length cm) := ((unhide HV).keep (unhide H8)).bm.cell 1
  have RH := hide (has_any w8 l am cm t ((unhide HV).keep (unhide H8)).lm.toks (unhide HV).lm.len)
  unfold rlC at RH
  go_wp2_with fail
  refine (unhide RH).mono ?_
  clear RH x0 x1
  rintro e w9 ⟨rfl, hF⟩
  have H9 := hide ((unhide H8).trans hF (fun _ _ t => t))
  clear hF H8
  have x0 : w9.cell? ⟨M, 0, none⟩ = some (.int .i64 l.ver) := ((unhide HV).keep (unhide H9)).bm.cell 0
  have x1 : w9.cell? ⟨M, 1, none⟩ = some (.slice am l.toks.length cm) := ((unhide HV).keep (unhide H9)).bm.cell 1
  have y0 : w9.cell? ⟨X, 0, none⟩ = some (.int .i64 d.ver) := ((unhide HV).keep (unhide H9)).bx.cell 0
  have y1 : w9.cell? ⟨X, 1, none⟩ = some (.slice aa d.add.length ca) := ((unhide HV).keep (unhide H9)).bx.cell 1
  have y2 : w9.cell? ⟨X, 2, none⟩ = some (.slice ag d.gone.length cg) := ((unhide HV).keep (unhide H9)).bx.cell 2
  go_wp2_with fail
  refine (unhide RAp w9 (unhide H9)).mono ?_
  clear x0 x1 y0 y1 y2
  rintro e w10 ⟨p1, q1, g1, rfl, hL, hF⟩
  obtain ⟨P1, HP1⟩ : ∃ P, Hid (w10.heap.size = P) := ⟨_, rfl⟩
  have H10 : Hid (Fr (fun _ => False) V (w10.alloc (.cells #[.int .i64 rv, .slice p1 rt.length q1] 24)) ∧ Bx (w10.alloc (.cells #[.int .i64 rv, .slice p1 rt.length q1] 24)) P1 #[.int .i64 rv, .slice p1 rt.length q1] 24 ∧ LO V (w10.alloc (.cells #[.int .i64 rv, .slice p1 rt.length q1] 24)) p1 q1 g1 rt ∧ V.heap.size ≤ P1 ∧ (0 < q1 → g1 < P1)) := hide ⟨((unhide H9).trans hF (fun _ _ t => t)).alloc _, by rw [← unhide HP1]; exact Bx.new _ _ _, (hL.later (unhide H9).size).keep ((Fr.refl _ _).alloc _), by rw [← unhide HP1]; exact Nat.le_trans (unhide H9).size hF.size, fun hc => by rw [← unhide HP1]; exact hL.lt hc⟩
  clear hL hF H9
  have x0 : (w10.alloc (.cells #[.int .i64 rv, .slice p1 rt.length q1] 24)).cell? ⟨M, 0, none⟩ = some (.int .i64 l.ver) := ((unhide HV).keep (unhide H10).1).bm.cell 0
  have x1 : (w10.alloc (.cells #[.int .i64 rv, .slice p1 rt.length q1] 24)).cell? ⟨M, 1, none⟩ = some (.slice am l.toks.length cm) := ((unhide HV).keep (unhide H10).1).bm.cell 1
  have y0 : (w10.alloc (.cells #[.int .i64 rv, .slice p1 rt.length q1] 24)).cell? ⟨X, 0, none⟩ = some (.int .i64 d.ver) := ((unhide HV).keep (unhide H10).1).bx.cell 0
  have y1 : (w10.alloc (.cells #[.int .i64 rv, .slice p1 rt.length q1] 24)).cell? ⟨X, 1, none⟩ = some (.slice aa d.add.length ca) := ((unhide HV).keep (unhide H10).1).bx.cell 1
  have y2 : (w10.alloc (.cells #[.int .i64 rv, .slice p1 rt.length q1] 24)).cell? ⟨X, 2, none⟩ = some (.slice ag d.gone.length cg) := ((unhide HV).keep (unhide H10).1).bx.cell 2
  go_wp2_with fail
  rw [unhide HP1]
  refine (unhide RAp _ (unhide H10).1).mono ?_
  clear x0 x1 y0 y1 y2 RAp
  rintro e w11 ⟨p2, q2, g2, rfl, hL, hF⟩
  obtain ⟨P2, HP2⟩ : ∃ P, Hid (w11.heap.size = P) := ⟨_, rfl⟩
  have H11 : Hid (Ln w (w11.alloc (.cells #[.int .i64 rv, .slice p2 rt.length q2] 24)) l a c d a1 c1 a2 c2 B M X am cm gm aa ca ga ag cg gg ∧ Bx (w11.alloc (.cells #[.int .i64 rv, .slice p2 rt.length q2] 24)) P1 #[.int .i64 rv, .slice p1 rt.length q1] 24 ∧ LO V (w11.alloc (.cells #[.int .i64 rv, .slice p2 rt.length q2] 24)) p1 q1 g1 rt ∧ Bx (w11.alloc (.cells #[.int .i64 rv, .slice p2 rt.length q2] 24)) P2 #[.int .i64 rv, .slice p2 rt.length q2] 24 ∧ LO V (w11.alloc (.cells #[.int .i64 rv, .slice p2 rt.length q2] 24)) p2 q2 g2 rt ∧ (V.heap.size ≤ P1 ∧ P1 < P2 ∧ gg < V.heap.size ∧ w.heap.size ≤ V.heap.size) ∧ (0 < q1 → V.heap.size ≤ g1 ∧ g1 < P1) ∧ (0 < q2 → P1 < g2)) := hide (by
    obtain ⟨s1, s2, s3, s4, s5⟩ := unhide H10
    have hg := hF.alloc (.cells #[.int .i64 rv, .slice p2 rt.length q2] 24)
    have hsz := hF.size
    rw [heap_alloc, unhide HP1, unhide HP2] at hsz
    refine ⟨(unhide HV).keep (s1.trans hg (fun _ _ t => t)), s2.keep hg, s3.keep hg, by rw [← unhide HP2]; exact Bx.new _ _ _, (hL.later s1.size).keep ((Fr.refl _ _).alloc _), ⟨s4, by omega, (unhide HV).rg.low.2, (unhide HV).fr.size⟩, fun hc => ⟨s3.new hc, s5 hc⟩, fun hc => ?_⟩
    have := hL.new hc
    rw [heap_alloc, unhide HP1] at this
    omega)
  clear hL hF H10 HV
  have x0 : (w11.alloc (.cells #[.int .i64 rv, .slice p2 rt.length q2] 24)).cell? ⟨M, 1, none⟩ = some (.slice am l.toks.length cm) := (unhide H11).1.bm.cell 1
  have x1 : (w11.alloc (.cells #[.int .i64 rv, .slice p2 rt.length q2] 24)).cell? ⟨B, 1, none⟩ = some (.slice a l.toks.length c) := (unhide H11).1.b0.cell 1
  have RK := hide (keptS_any w (w11.alloc (.cells #[.int .i64 rv, .slice p2 rt.length q2] 24)) am cm gm l.toks (unhide H11).1.rm a c (unhide H11).1.hl.toks (by omega))
  go_wp2_with fail
  rw [unhide HP2]
  refine (unhide RK).mono ?_
  clear RK x0 x1
  rintro e w12 ⟨rfl, hF⟩
  have H12 : Hid (Fr (fun _ => False) w w12 ∧ (Bx w12 B #[.int .i64 l.ver, .slice a l.toks.length c] 24 ∧ Bx w12 (B + 1) #[.int .i64 d.ver, .slice a1 d.add.length c1, .slice a2 d.gone.length c2] 26 ∧ Bx w12 X #[.int .i64 d.ver, .slice aa d.add.length ca, .slice ag d.gone.length cg] 26 ∧ Bx w12 P1 #[.int .i64 rv, .slice p1 rt.length q1] 24 ∧ Bx w12 P2 #[.int .i64 rv, .slice p2 rt.length q2] 24) ∧ (LO w w12 aa ca ga (d.add ++ [tMark]) ∧ LO w w12 ag cg gg (d.gone ++ [tMark]) ∧ LO V w12 p1 q1 g1 rt ∧ LO V w12 p2 q2 g2 rt) ∧ RIn w12 l a c ∧ DI w12 d a1 c1 a2 c2) := hide (by
    obtain ⟨hn, s2, s3, s4, s5, s6, s7, s8⟩ := unhide H11
    have n1 := hn.n1; have n2 := hn.n2; have n3 := hn.n3; have n4 := hn.n4; have n5 := hn.n5; have n6 := hn.n6
    have h0 : Fr (fun _ => False) w w12 := hn.fr.trans hF (fun i hi t => by omega)
    have hh := unhide HOLD
    exact ⟨h0, ⟨hn.b0.frame hF (by omega), hn.b1.frame hF (by omega), hn.bx.frame hF (by omega), s2.frame hF (by omega), s4.frame hF (by omega)⟩, ⟨hn.ra.go hF (fun _ t => by omega), hn.rg.go hF (fun _ t => by omega), s3.go hF (fun hc t => by have := s7 hc; omega), s5.go hF (fun hc t => by have := s8 hc; omega)⟩, hh.1.keep h0, hh.2.keep h0⟩)
  have HNN : Hid ((w.heap.size ≤ B ∧ B + 1 < M ∧ M < gm ∧ gm < X ∧ X < ga ∧ ga < gg) ∧ (V.heap.size ≤ P1 ∧ P1 < P2 ∧ gg < V.heap.size ∧ w.heap.size ≤ V.heap.size) ∧ (0 < q1 → V.heap.size ≤ g1 ∧ g1 < P1) ∧ (0 < q2 → P1 < g2)) := hide (by
    obtain ⟨hn, s2, s3, s4, s5, s6, s7, s8⟩ := unhide H11
    exact ⟨⟨hn.n1, hn.n2, hn.n3, hn.n4, hn.n5, hn.n6⟩, s6, s7, s8⟩)
  clear hF H11
  have x0 : w12.cell? ⟨X, 1, none⟩ = some (.slice aa d.add.length ca) := (unhide H12).2.1.2.2.1.cell 1
  have x1 : w12.cell? ⟨B + 1, 1, none⟩ = some (.slice a1 d.add.length c1) := (unhide H12).2.1.2.1.cell 1
  have RK := hide (keptS_any w w12 aa ca ga d.add (unhide H12).2.2.1.1 a1 c1 (unhide H12).2.2.2.2.add (by omega))
  go_wp2_with fail
  refine (unhide RK).mono ?_
  clear RK x0 x1
  rintro e w13 ⟨rfl, hF⟩
  have H13 : Hid (Fr (fun _ => False) w w13 ∧ (Bx w13 B #[.int .i64 l.ver, .slice a l.toks.length c] 24 ∧ Bx w13 (B + 1) #[.int .i64 d.ver, .slice a1 d.add.length c1, .slice a2 d.gone.length c2] 26 ∧ Bx w13 X #[.int .i64 d.ver, .slice aa d.add.length ca, .slice ag d.gone.length cg] 26 ∧ Bx w13 P1 #[.int .i64 rv, .slice p1 rt.length q1] 24 ∧ Bx w13 P2 #[.int .i64 rv, .slice p2 rt.length q2] 24) ∧ (LO w w13 ag cg gg (d.gone ++ [tMark]) ∧ LO V w13 p1 q1 g1 rt ∧ LO V w13 p2 q2 g2 rt) ∧ RIn w13 l a c ∧ DI w13 d a1 c1 a2 c2) := hide (by
    obtain ⟨h0, ⟨s1, s2, s3, s4, s5⟩, ⟨r1, r2, r3, r4⟩, _⟩ := unhide H12
    obtain ⟨n, m1, m2, m3⟩ := unhide HNN
    have h1 : Fr (fun _ => False) w w13 := h0.trans hF (fun i hi t => by omega)
    have hh := unhide HOLD
    exact ⟨h1, ⟨s1.frame hF (by omega), s2.frame hF (by omega), s3.frame hF (by omega), s4.frame hF (by omega), s5.frame hF (by omega)⟩, ⟨r2.go hF (fun _ t => by omega), r3.go hF (fun hc t => by have := m2 hc; omega), r4.go hF (fun hc t => by have := m3 hc; omega)⟩, hh.1.keep h1, hh.2.keep h1⟩)
  clear hF H12
  have x0 : w13.cell? ⟨X, 2, none⟩ = some (.slice ag d.gone.length cg) := (unhide H13).2.1.2.2.1.cell 2
  have x1 : w13.cell? ⟨B + 1, 2, none⟩ = some (.slice a2 d.gone.length c2) := (unhide H13).2.1.2.1.cell 2
  have RK := hide (keptS_any w w13 ag cg gg d.gone (unhide H13).2.2.1.1 a2 c2 (unhide H13).2.2.2.2.gone (by omega))
  go_wp2_with fail
  refine (unhide RK).mono ?_
  clear RK x0 x1
  rintro e w14 ⟨rfl, hF⟩
  have H14 : Hid (Fr (fun _ => False) w w14 ∧ (Bx w14 B #[.int .i64 l.ver, .slice a l.toks.length c] 24 ∧ Bx w14 (B + 1) #[.int .i64 d.ver, .slice a1 d.add.length c1, .slice a2 d.gone.length c2] 26 ∧ Bx w14 P1 #[.int .i64 rv, .slice p1 rt.length q1] 24 ∧ Bx w14 P2 #[.int .i64 rv, .slice p2 rt.length q2] 24) ∧ (LO V w14 p1 q1 g1 rt ∧ LO V w14 p2 q2 g2 rt) ∧ RIn w14 l a c ∧ DI w14 d a1 c1 a2 c2) := hide (by
    obtain ⟨h0, ⟨s1, s2, s3, s4, s5⟩, ⟨r2, r3, r4⟩, _⟩ := unhide H13
    obtain ⟨n, m1, m2, m3⟩ := unhide HNN
    have h1 : Fr (fun _ => False) w w14 := h0.trans hF (fun i hi t => by omega)
    have hh := unhide HOLD
    exact ⟨h1, ⟨s1.frame hF (by omega), s2.frame hF (by omega), s4.frame hF (by omega), s5.frame hF (by omega)⟩, ⟨r3.go hF (fun hc t => by have := m2 hc; omega), r4.go hF (fun hc t => by have := m3 hc; omega)⟩, hh.1.keep h1, hh.2.keep h1⟩)
  clear hF H13
  have x0 : w14.cell? ⟨B, 0, none⟩ = some (.int .i64 l.ver) := (unhide H14).2.1.1.cell 0
  have x1 : w14.cell? ⟨B, 1, none⟩ = some (.slice a l.toks.length c) := (unhide H14).2.1.1.cell 1
  have y0 : w14.cell? ⟨B + 1, 0, none⟩ = some (.int .i64 d.ver) := (unhide H14).2.1.2.1.cell 0
  have y1 : w14.cell? ⟨B + 1, 1, none⟩ = some (.slice a1 d.add.length c1) := (unhide H14).2.1.2.1.cell 1
  have y2 : w14.cell? ⟨B + 1, 2, none⟩ = some (.slice a2 d.gone.length c2) := (unhide H14).2.1.2.1.cell 2
  have RA := refApply_any w14 l a c (unhide H14).2.2.2.1 d a1 c1 a2 c2 (unhide H14).2.2.2.2
  rw [unhide HE] at RA
  unfold Applied rlC dlC at RA
  simp only at RA
  have RA := hide RA
  go_wp2_with fail
  refine (unhide RA).mono ?_
  clear RA x0 x1 y0 y1 y2
  rintro e w15 ⟨p3, q3, g3, rfl, hL, hF⟩
  obtain ⟨P3, HP3⟩ : ∃ P, Hid (w15.heap.size = P) := ⟨_, rfl⟩
  have H15 : Hid (Fr (fun _ => False) w (w15.alloc (.cells #[.int .i64 rv, .slice p3 rt.length q3] 24)) ∧ (Bx (w15.alloc (.cells #[.int .i64 rv, .slice p3 rt.length q3] 24)) B #[.int .i64 l.ver, .slice a l.toks.length c] 24 ∧ Bx (w15.alloc (.cells #[.int .i64 rv, .slice p3 rt.length q3] 24)) P1 #[.int .i64 rv, .slice p1 rt.length q1] 24 ∧ Bx (w15.alloc (.cells #[.int .i64 rv, .slice p3 rt.length q3] 24)) P2 #[.int .i64 rv, .slice p2 rt.length q2] 24 ∧ Bx (w15.alloc (.cells #[.int .i64 rv, .slice p3 rt.length q3] 24)) P3 #[.int .i64 rv, .slice p3 rt.length q3] 24) ∧ (LO V (w15.alloc (.cells #[.int .i64 rv, .slice p3 rt.length q3] 24)) p1 q1 g1 rt ∧ LO V (w15.alloc (.cells #[.int .i64 rv, .slice p3 rt.length q3] 24)) p2 q2 g2 rt ∧ LO V (w15.alloc (.cells #[.int .i64 rv, .slice p3 rt.length q3] 24)) p3 q3 g3 rt) ∧ P2 < P3 ∧ (0 < q3 → P2 < g3)) := hide (by
    obtain ⟨h0, ⟨s1, s2, s4, s5⟩, ⟨r3, r4⟩, _⟩ := unhide H14
    have hg : Fr (fun _ => False) w14 (w15.alloc (.cells #[.int .i64 rv, .slice p3 rt.length q3] 24)) := hF.alloc _
    have hP2 := s5.lt
    obtain ⟨n, m1, m2, m3⟩ := unhide HNN
    refine ⟨h0.trans hg (fun _ _ t => t), ⟨s1.keep hg, s4.keep hg, s5.keep hg, by rw [← unhide HP3]; exact Bx.new _ _ _⟩, ⟨r3.keep hg, r4.keep hg, (hL.later (by omega)).keep ((Fr.refl _ _).alloc _)⟩, ?_, fun hc => ?_⟩
    · rw [← unhide HP3]; exact Nat.lt_of_lt_of_le hP2 hF.size
    · exact Nat.lt_of_lt_of_le hP2 (hL.new hc))
  clear hL hF H14
  have x0 : (w15.alloc (.cells #[.int .i64 rv, .slice p3 rt.length q3] 24)).cell? ⟨P1, 0, none⟩ = some (.int .i64 rv) := (unhide H15).2.1.2.1.cell 0
  have x1 : (w15.alloc (.cells #[.int .i64 rv, .slice p3 rt.length q3] 24)).cell? ⟨P1, 1, none⟩ = some (.slice p1 rt.length q1) := (unhide H15).2.1.2.1.cell 1
  have RS := hide (sameL_is (w15.alloc (.cells #[.int .i64 rv, .slice p3 rt.length q3] 24)) ⟨rv, rt⟩ p1 q1 p3 q3 (unhide H15).2.2.1.1.sat (unhide H15).2.2.1.2.2.sat (by show rt.length ≤ _; omega))
  unfold rlC at RS
  simp only at RS
  go_wp2_with fail
  rw [unhide HP3]
  refine (unhide RS).mono ?_
  clear RS x0 x1
  rintro e w16 ⟨rfl, hF⟩
  have H16 : Hid (Fr (fun _ => False) w w16 ∧ (Bx w16 B #[.int .i64 l.ver, .slice a l.toks.length c] 24 ∧ Bx w16 P1 #[.int .i64 rv, .slice p1 rt.length q1] 24 ∧ Bx w16 P2 #[.int .i64 rv, .slice p2 rt.length q2] 24 ∧ Bx w16 P3 #[.int .i64 rv, .slice p3 rt.length q3] 24) ∧ (LO V w16 p1 q1 g1 rt ∧ LO V w16 p2 q2 g2 rt ∧ LO V w16 p3 q3 g3 rt) ∧ P2 < P3 ∧ (0 < q3 → P2 < g3)) := hide (by
    obtain ⟨h0, ⟨s1, s2, s3, s4⟩, ⟨r1, r2, r3⟩, m⟩ := unhide H15
    exact ⟨h0.trans hF (fun _ _ t => t), ⟨s1.keep hF, s2.keep hF, s3.keep hF, s4.keep hF⟩, ⟨r1.keep hF, r2.keep hF, r3.keep hF⟩, m⟩)
  clear hF H15
  have x1 : w16.cell? ⟨P1, 1, none⟩ = some (.slice p1 rt.length q1) := (unhide H16).2.1.2.1.cell 1
  have RP := hide (spoilS_any V w16 p1 q1 g1 rt (unhide H16).2.2.1.1 (by omega))
  go_wp2_with fail
  refine (unhide RP).mono ?_
  clear RP x1
  rintro e w17 ⟨rfl, hF⟩
  have H17 : Hid (Fr (fun _ => False) w w17 ∧ (Bx w17 B #[.int .i64 l.ver, .slice a l.toks.length c] 24 ∧ Bx w17 P2 #[.int .i64 rv, .slice p2 rt.length q2] 24 ∧ Bx w17 P3 #[.int .i64 rv, .slice p3 rt.length q3] 24) ∧ (LO V w17 p2 q2 g2 rt ∧ LO V w17 p3 q3 g3 rt)) := hide (by
    obtain ⟨h0, ⟨s1, s2, s3, s4⟩, ⟨r1, r2, r3⟩, m4, m5⟩ := unhide H16
    obtain ⟨n, m1, m2, m3⟩ := unhide HNN
    exact ⟨h0.trans hF (fun i hi t => by have := m2 t.2; have := t.1; omega), ⟨s1.frame hF (fun t => by have := m2 t.2; have := t.1; omega), s3.frame hF (fun t => by have := m2 t.2; have := t.1; omega), s4.frame hF (fun t => by have := m2 t.2; have := t.1; omega)⟩, r2.go hF (fun hc t => by have := m3 hc; have := m2 t.2; have := t.1; omega), r3.go hF (fun hc t => by have := m5 hc; have := m2 t.2; have := t.1; omega)⟩)
  clear hF H16
  have x0 : w17.cell? ⟨P2, 0, none⟩ = some (.int .i64 rv) := (unhide H17).2.1.2.1.cell 0
  have x1 : w17.cell? ⟨P2, 1, none⟩ = some (.slice p2 rt.length q2) := (unhide H17).2.1.2.1.cell 1
  have y0 : w17.cell? ⟨P3, 0, none⟩ = some (.int .i64 rv) := (unhide H17).2.1.2.2.cell 0
  have y1 : w17.cell? ⟨P3, 1, none⟩ = some (.slice p3 rt.length q3) := (unhide H17).2.1.2.2.cell 1
  have RS := hide (sameL_is w17 ⟨rv, rt⟩ p2 q2 p3 q3 (unhide H17).2.2.1.sat (unhide H17).2.2.2.sat (by show rt.length ≤ _; omega))
  unfold rlC at RS
  simp only at RS
  go_wp2_with fail
  refine (unhide RS).mono ?_
  clear RS x0 x1 y0 y1
  rintro e w18 ⟨rfl, hF⟩
  have H18 : Hid (Fr (fun _ => False) w w18 ∧ Bx w18 B #[.int .i64 l.ver, .slice a l.toks.length c] 24) := hide ⟨(unhide H17).1.trans hF (fun _ _ t => t), (unhide H17).2.1.1.keep hF⟩
  clear hF H17
  have x0 : w18.cell? ⟨B, 0, none⟩ = some (.int .i64 l.ver) := (unhide H18).2.cell 0
  have x1 : w18.cell? ⟨B, 1, none⟩ = some (.slice a l.toks.length c) := (unhide H18).2.cell 1
  have RR := hide (refRight_any w18 l a c ((unhide HOLD).1.keep (unhide H18).1).toks (unhide HOLD).1.len)
  unfold rlC at RR
  go_wp2_with fail
  refine (unhide RR).mono ?_
  clear RR x0 x1
  rintro e w19 ⟨rfl, hF⟩
  have H19 : Hid (Fr (fun _ => False) w w19 ∧ Bx w19 B #[.int .i64 l.ver, .slice a l.toks.length c] 24) := hide ⟨(unhide H18).1.trans hF (fun _ _ t => t), (unhide H18).2.keep hF⟩
  clear hF H18
  generalize rightE l = E1
  go_wp2_with fail
  refine (refToken_is (unhide HTB) w19).mono ?_
  rintro e w19' ⟨rfl, hq⟩
  obtain rfl := hq.symm
  clear hq
  have x0 : w19.cell? ⟨B, 0, none⟩ = some (.int .i64 l.ver) := (unhide H19).2.cell 0
  have x1 : w19.cell? ⟨B, 1, none⟩ = some (.slice a l.toks.length c) := (unhide H19).2.cell 1
  have RH := hide (refHas_any w19 l a c t ((unhide HOLD).1.keep (unhide H19).1).toks (unhide HOLD).1.len)
  unfold rlC at RH
  have hbb : (tb == tb) = true := by cases tb <;> rfl
  go_wp2_with fail
  refine (unhide RH).mono ?_
  clear RH x0 x1
  rintro e w20 ⟨rfl, hF⟩
  have HFF := hide ((unhide H19).1.trans hF (fun _ _ t => t))
  clear hF H19
  generalize memS l.toks t = b2
  have hb2 : (b2 == b2) = true := by cases b2 <;> rfl
  go_wp2
  go_ret
  exact ⟨by first | rfl | simp, unhide HFF⟩

end Go.Proofs.YtmhljehkodhggaaGreat

