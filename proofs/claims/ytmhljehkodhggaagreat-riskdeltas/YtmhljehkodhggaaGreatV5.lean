import Derived.Test.YtmhljehkodhggaaGreatUE
import Derived.Test.YtmhljehkodhggaaGreatUG
/- The walk of the law RiskDeltas. -/
namespace Go.Proofs.YtmhljehkodhggaaGreat
open Go.RowKit

theorem LO.low5 {w0 w : World} {ao : Option Addr} {cap g : Nat} {l : List ByteArray} {x : ByteArray} (h : LO w0 w ao cap g (l ++ [x])) : w0.heap.size ≤ g ∧ g < w.heap.size := by
  have hp : 0 < cap := by have := h.len; rw [List.length_append, List.length_singleton] at this; omega
  exact ⟨h.new hp, h.lt hp⟩
theorem diff_len (l : Rl) (ts : List ByteArray) : (diffR l ts).1.add.length ≤ 2000 ∧ (diffR l ts).1.gone.length ≤ 2000 := by
  unfold diffR
  split
  · exact ⟨Nat.zero_le _, Nat.zero_le _⟩
  · rename_i h1
    split
    · exact ⟨Nat.zero_le _, Nat.zero_le _⟩
    · split
      · exact ⟨Nat.zero_le _, Nat.zero_le _⟩
      · split
        · exact ⟨Nat.zero_le _, Nat.zero_le _⟩
        · have h2 := listOk_len (rightE_ok (Decidable.not_not.1 h1)).1
          have h3 := woL_len (riseL ts) l.toks
          have h4 := woL_len l.toks (riseL ts)
          exact ⟨by show (woL (riseL ts) l.toks).length ≤ 2000; omega, by show (woL l.toks (riseL ts)).length ≤ 2000; omega⟩
theorem join_len (x y : Dl) : (joinR x y).1.add.length ≤ 2000 ∧ (joinR x y).1.gone.length ≤ 2000 := by
  unfold joinR
  split
  · exact ⟨Nat.zero_le _, Nat.zero_le _⟩
  · split
    · exact ⟨Nat.zero_le _, Nat.zero_le _⟩
    · exact ⟨by show (joinA x y).length ≤ 2000; omega, by show (joinG x y).length ≤ 2000; omega⟩

set_option maxHeartbeats 8000000 in
set_option maxRecDepth 20000 in
theorem deltas13_walk (w : World) (l : Rl) (a : Option Addr) (c : Nat) (hl : RIn w l a c) (_hlc : (c + 200) * 16 ≤ 140737488355328) (ts : List ByteArray) (tt : Option Addr) (ct : Nat) (ht : SAt w tt ts) (htn : ts.length ≤ ct) (htc : (ct + 200) * 16 ≤ 140737488355328) (p : Dl) (a1 : Option Addr) (c1 : Nat) (a2 : Option Addr) (c2 : Nat) (hp : DI w p a1 c1 a2 c2) (q : Dl) (b1 : Option Addr) (k1 : Nat) (b2 : Option Addr) (k2 : Nat) (hq : DI w q b1 k1 b2 k2) :
    Calls Tryz.prog 4 #[.agg (rlC l a c), .slice tt ts.length ct, .agg (dlC p a1 c1 a2 c2), .agg (dlC q b1 k1 b2 k2)] w fun e w' => e = .returned (.bool true) ∧ Fr (fun _ => False) w w' := by
  have HT : Hid ((ts.length + 200) * 16 ≤ 140737488355328) := hide (by omega)
  obtain ⟨dv, dA, dG, E, hE, hdl⟩ : ∃ dv dA dG E, diffR l ts = (⟨dv, dA, dG⟩, E) ∧ List.length dA ≤ 2000 ∧ List.length dG ≤ 2000 := ⟨_, _, _, _, rfl, diff_len l ts⟩
  obtain ⟨jv, jA, jG, J, hJ, hjl⟩ : ∃ jv jA jG J, joinR p q = (⟨jv, jA, jG⟩, J) ∧ List.length jA ≤ 2000 ∧ List.length jG ≤ 2000 := ⟨_, _, _, _, rfl, join_len p q⟩
  have HDL := hide hdl
  have HJL := hide hjl
  have RD : Hid (∀ u, Fr (fun _ => False) w u → ∀ ii ic, SAt u ii ts → Calls Tryz.prog 19 #[.agg #[.int .i64 l.ver, .slice a l.toks.length c], .slice ii ts.length ic] u fun e u' => ∃ oa ra ga ob rb gb, e = .returned (.tuple #[.agg #[.int .i64 dv, .slice oa dA.length ra, .slice ob dG.length rb], .int .i64 E]) ∧ LO u u' oa ra ga dA ∧ LO u u' ob rb gb dG ∧ (0 < ra → 0 < rb → ga ≠ gb) ∧ Fr (fun _ => False) u u') := hide (fun u hf ii ic hs => by
    have h := diff_any u l a c (hl.keep hf) ts ii ic hs (by have := unhide HT; omega)
    rw [hE] at h
    exact h.mono (fun e u' ⟨x1, x2, x3, x4, x5, x6, he, hD, hF⟩ => ⟨x1, x2, x3, x4, x5, x6, he, hD.add, hD.gone, hD.ne, hF⟩))
  have RF : Hid (∀ u, Fr (fun _ => False) w u → Calls Tryz.prog 20 #[.agg #[.int .i64 l.ver, .slice a l.toks.length c], .slice tt ts.length ct] u fun e u' => ∃ oa ra ga ob rb gb, e = .returned (.tuple #[.agg #[.int .i64 dv, .slice oa dA.length ra, .slice ob dG.length rb], .int .i64 E]) ∧ LO u u' oa ra ga dA ∧ LO u u' ob rb gb dG ∧ (0 < ra → 0 < rb → ga ≠ gb) ∧ Fr (fun _ => False) u u') := hide (fun u hf => by
    have h := refDiff_any u l a c (hl.keep hf) ts tt ct (ht.keep hf) (by have := unhide HT; omega)
    rw [hE] at h
    exact h.mono (fun e u' ⟨x1, x2, x3, x4, x5, x6, he, hD, hF⟩ => ⟨x1, x2, x3, x4, x5, x6, he, hD.add, hD.gone, hD.ne, hF⟩))
  have RJ : Hid (∀ u, Fr (fun _ => False) w u → Calls Tryz.prog 22 #[.agg #[.int .i64 p.ver, .slice a1 p.add.length c1, .slice a2 p.gone.length c2], .agg #[.int .i64 q.ver, .slice b1 q.add.length k1, .slice b2 q.gone.length k2]] u fun e u' => ∃ oa ra ga ob rb gb, e = .returned (.tuple #[.agg #[.int .i64 jv, .slice oa jA.length ra, .slice ob jG.length rb], .int .i64 J]) ∧ LO u u' oa ra ga jA ∧ LO u u' ob rb gb jG ∧ (0 < ra → 0 < rb → ga ≠ gb) ∧ Fr (fun _ => False) u u') := hide (fun u hf => by
    have h := join_any u p a1 c1 a2 c2 (hp.keep hf) q b1 k1 b2 k2 (hq.keep hf)
    rw [hJ] at h
    exact h.mono (fun e u' ⟨x1, x2, x3, x4, x5, x6, he, hD, hF⟩ => ⟨x1, x2, x3, x4, x5, x6, he, hD.add, hD.gone, hD.ne, hF⟩))
  have RG : Hid (∀ u, Fr (fun _ => False) w u → Calls Tryz.prog 23 #[.agg #[.int .i64 p.ver, .slice a1 p.add.length c1, .slice a2 p.gone.length c2], .agg #[.int .i64 q.ver, .slice b1 q.add.length k1, .slice b2 q.gone.length k2]] u fun e u' => ∃ oa ra ga ob rb gb, e = .returned (.tuple #[.agg #[.int .i64 jv, .slice oa jA.length ra, .slice ob jG.length rb], .int .i64 J]) ∧ LO u u' oa ra ga jA ∧ LO u u' ob rb gb jG ∧ Fr (fun _ => False) u u') := hide (fun u hf => by
    have h := refJoin_any u p a1 c1 a2 c2 (hp.keep hf) q b1 k1 b2 k2 (hq.keep hf)
    rw [hJ] at h
    exact h.mono (fun e u' ⟨x1, x2, x3, x4, x5, x6, he, hD1, hD2, hF⟩ => ⟨x1, x2, x3, x4, x5, x6, he, hD1, hD2, hF⟩))
  have HTS := hide ht
  clear hdl hjl hE hJ hl hp hq ht htn htc
  obtain ⟨B, HB⟩ : ∃ B, Hid (w.heap.size = B) := ⟨_, rfl⟩
  obtain ⟨W0, HW0⟩ : ∃ W, Hid (W = ((w.alloc (.cells (rlC l a c) 24)).alloc (.cells (dlC p a1 c1 a2 c2) 26)).alloc (.cells (dlC q b1 k1 b2 k2) 26)) := ⟨_, rfl⟩
  have H0 : Hid (Fr (fun _ => False) w W0 ∧ Bx W0 (B) #[.int .i64 l.ver, .slice a l.toks.length c] 24 ∧ Bx W0 (B + 1) #[.int .i64 p.ver, .slice a1 p.add.length c1, .slice a2 p.gone.length c2] 26 ∧ Bx W0 (B + 1 + 1) #[.int .i64 q.ver, .slice b1 q.add.length k1, .slice b2 q.gone.length k2] 26 ∧ (w.heap.size ≤ B)) := hide (by
    rw [unhide HW0]
    have z1 : Bx (((w.alloc (.cells (rlC l a c) 24)).alloc (.cells (dlC p a1 c1 a2 c2) 26)).alloc (.cells (dlC q b1 k1 b2 k2) 26)) w.heap.size (rlC l a c) 24 := ((Bx.new _ _ _).alloc _).alloc _
    have z2 := (Bx.new (w.alloc (.cells (rlC l a c) 24)) (dlC p a1 c1 a2 c2) 26).alloc (.cells (dlC q b1 k1 b2 k2) 26)
    have z3 := Bx.new ((w.alloc (.cells (rlC l a c) 24)).alloc (.cells (dlC p a1 c1 a2 c2) 26)) (dlC q b1 k1 b2 k2) 26
    rw [heap_alloc] at z2
    rw [heap_alloc, heap_alloc] at z3
    rw [unhide HB] at z1 z2 z3
    exact ⟨(((Fr.refl _ w).alloc _).alloc _).alloc _, z1, z2, z3, Nat.le_of_eq (unhide HB)⟩)
  unfold rlC dlC at HW0 ⊢
  go_enter Tryz.func4, Tryz.ntmps4
  go_wp2_with fail
  rw [← unhide HW0, unhide HB]
  clear HW0 HB
  refine (awake13_any _).mono ?_
  rintro e w1 ⟨rfl, hF⟩
  have H1 : Hid (Fr (fun _ => False) w w1 ∧ Bx w1 (B) #[.int .i64 l.ver, .slice a l.toks.length c] 24 ∧ Bx w1 (B + 1) #[.int .i64 p.ver, .slice a1 p.add.length c1, .slice a2 p.gone.length c2] 26 ∧ Bx w1 (B + 1 + 1) #[.int .i64 q.ver, .slice b1 q.add.length k1, .slice b2 q.gone.length k2] 26 ∧ (w.heap.size ≤ B)) := hide (by
    obtain ⟨fr, bl, bp, bq, n0⟩ := unhide H0
    exact ⟨fr.trans hF (fun _ _ t => t), bl.keep hF, bp.keep hF, bq.keep hF, n0⟩)
  clear hF H0
  have RL := hide (lentS_any w1 tt ct ts (by obtain ⟨fr, bl, bp, bq, n0⟩ := unhide H1; exact (unhide HTS).keep fr) (unhide HT))
  go_wp2_with fail
  refine (unhide RL).mono ?_
  clear RL
  rintro e w2 ⟨ia, ic, ig, rfl, hL, hF⟩
  have H2 : Hid (Fr (fun _ => False) w w2 ∧ Bx w2 (B) #[.int .i64 l.ver, .slice a l.toks.length c] 24 ∧ Bx w2 (B + 1) #[.int .i64 p.ver, .slice a1 p.add.length c1, .slice a2 p.gone.length c2] 26 ∧ Bx w2 (B + 1 + 1) #[.int .i64 q.ver, .slice b1 q.add.length k1, .slice b2 q.gone.length k2] 26 ∧ (w.heap.size ≤ B) ∧ LO w w2 ia ic ig (ts ++ [tMark]) ∧ (B + 1 + 1 < ig ∧ ig < w2.heap.size)) := hide (by
    obtain ⟨fr, bl, bp, bq, n0⟩ := unhide H1
    have hlow := hL.low5
    have hb := bq.lt
    exact ⟨fr.trans hF (fun _ _ t => t), bl.keep hF, bp.keep hF, bq.keep hF, n0, hL.later fr.size, by omega, hlow.2⟩)
  clear hL hF H1
  have x0 : w2.cell? ⟨B, 0, none⟩ = some (.int .i64 l.ver) := (by obtain ⟨fr, bl, bp, bq, n0, ri, ni⟩ := unhide H2; exact bl.cell 0)
  have x1 : w2.cell? ⟨B, 1, none⟩ = some (.slice a l.toks.length c) := (by obtain ⟨fr, bl, bp, bq, n0, ri, ni⟩ := unhide H2; exact bl.cell 1)
  go_wp2_with fail
  refine (unhide RD _ (by obtain ⟨fr, bl, bp, bq, n0, ri, ni⟩ := unhide H2; exact fr) ia ic (by obtain ⟨fr, bl, bp, bq, n0, ri, ni⟩ := unhide H2; exact ri.front.sat)).mono ?_
  clear x0 x1
  rintro e w3 ⟨ra, rc, rg, rb, rk, rh, rfl, hL, hM, hne, hF⟩
  obtain ⟨P1, HP1⟩ : ∃ P, Hid (w3.heap.size = P) := ⟨_, rfl⟩
  have H3 : Hid (Fr (fun _ => False) w (w3.alloc (.cells #[.int .i64 dv, .slice ra dA.length rc, .slice rb dG.length rk] 26)) ∧ Bx (w3.alloc (.cells #[.int .i64 dv, .slice ra dA.length rc, .slice rb dG.length rk] 26)) (B) #[.int .i64 l.ver, .slice a l.toks.length c] 24 ∧ Bx (w3.alloc (.cells #[.int .i64 dv, .slice ra dA.length rc, .slice rb dG.length rk] 26)) (B + 1) #[.int .i64 p.ver, .slice a1 p.add.length c1, .slice a2 p.gone.length c2] 26 ∧ Bx (w3.alloc (.cells #[.int .i64 dv, .slice ra dA.length rc, .slice rb dG.length rk] 26)) (B + 1 + 1) #[.int .i64 q.ver, .slice b1 q.add.length k1, .slice b2 q.gone.length k2] 26 ∧ (w.heap.size ≤ B) ∧ LO w (w3.alloc (.cells #[.int .i64 dv, .slice ra dA.length rc, .slice rb dG.length rk] 26)) ia ic ig (ts ++ [tMark]) ∧ (B + 1 + 1 < ig) ∧ Bx (w3.alloc (.cells #[.int .i64 dv, .slice ra dA.length rc, .slice rb dG.length rk] 26)) (P1) #[.int .i64 dv, .slice ra dA.length rc, .slice rb dG.length rk] 26 ∧ LO w (w3.alloc (.cells #[.int .i64 dv, .slice ra dA.length rc, .slice rb dG.length rk] 26)) ra rc rg dA ∧ LO w (w3.alloc (.cells #[.int .i64 dv, .slice ra dA.length rc, .slice rb dG.length rk] 26)) rb rk rh dG ∧ (0 < rc → ig < rg ∧ rg < P1) ∧ (0 < rk → ig < rh ∧ rh < P1) ∧ (ig < P1) ∧ (0 < rc → 0 < rk → rg ≠ rh)) := hide (by
    obtain ⟨fr, bl, bp, bq, n0, ri, ni⟩ := unhide H2
    have hg := hF.alloc (.cells #[.int .i64 dv, .slice ra dA.length rc, .slice rb dG.length rk] 26)
    have hsz := hF.size
    have hpn := unhide HP1
    have hlo := ri.low5.2
    refine ⟨fr.trans hg (fun _ _ t => t), bl.keep hg, bp.keep hg, bq.keep hg, n0, ri.keep hg, ni.1, by rw [← unhide HP1]; exact Bx.new _ _ _, (hL.later fr.size).keep ((Fr.refl _ _).alloc _), (hM.later fr.size).keep ((Fr.refl _ _).alloc _), fun hc => ?_, fun hc => ?_, ?_, hne⟩
    · have t1 := hL.new hc; have t2 := hL.lt hc; exact ⟨by omega, by omega⟩
    · have t1 := hM.new hc; have t2 := hM.lt hc; exact ⟨by omega, by omega⟩
    · omega)
  clear hL hM hne hF H2
  have x0 : (w3.alloc (.cells #[.int .i64 dv, .slice ra dA.length rc, .slice rb dG.length rk] 26)).cell? ⟨B, 0, none⟩ = some (.int .i64 l.ver) := (by obtain ⟨fr, bl, bp, bq, n0, ri, ni, br, rr, sr, mr, nr, or, er⟩ := unhide H3; exact bl.cell 0)
  have x1 : (w3.alloc (.cells #[.int .i64 dv, .slice ra dA.length rc, .slice rb dG.length rk] 26)).cell? ⟨B, 1, none⟩ = some (.slice a l.toks.length c) := (by obtain ⟨fr, bl, bp, bq, n0, ri, ni, br, rr, sr, mr, nr, or, er⟩ := unhide H3; exact bl.cell 1)
  go_wp2_with fail
  rw [unhide HP1]
  refine (unhide RD _ (by obtain ⟨fr, bl, bp, bq, n0, ri, ni, br, rr, sr, mr, nr, or, er⟩ := unhide H3; exact fr) ia ic (by obtain ⟨fr, bl, bp, bq, n0, ri, ni, br, rr, sr, mr, nr, or, er⟩ := unhide H3; exact ri.front.sat)).mono ?_
  clear x0 x1
  rintro e w4 ⟨sa, sc, sg, sb, sk, sh, rfl, hL, hM, hne, hF⟩
  obtain ⟨P2, HP2⟩ : ∃ P, Hid (w4.heap.size = P) := ⟨_, rfl⟩
  have H4 : Hid (Fr (fun _ => False) w (w4.alloc (.cells #[.int .i64 dv, .slice sa dA.length sc, .slice sb dG.length sk] 26)) ∧ Bx (w4.alloc (.cells #[.int .i64 dv, .slice sa dA.length sc, .slice sb dG.length sk] 26)) (B) #[.int .i64 l.ver, .slice a l.toks.length c] 24 ∧ Bx (w4.alloc (.cells #[.int .i64 dv, .slice sa dA.length sc, .slice sb dG.length sk] 26)) (B + 1) #[.int .i64 p.ver, .slice a1 p.add.length c1, .slice a2 p.gone.length c2] 26 ∧ Bx (w4.alloc (.cells #[.int .i64 dv, .slice sa dA.length sc, .slice sb dG.length sk] 26)) (B + 1 + 1) #[.int .i64 q.ver, .slice b1 q.add.length k1, .slice b2 q.gone.length k2] 26 ∧ (w.heap.size ≤ B) ∧ LO w (w4.alloc (.cells #[.int .i64 dv, .slice sa dA.length sc, .slice sb dG.length sk] 26)) ia ic ig (ts ++ [tMark]) ∧ Bx (w4.alloc (.cells #[.int .i64 dv, .slice sa dA.length sc, .slice sb dG.length sk] 26)) (P1) #[.int .i64 dv, .slice ra dA.length rc, .slice rb dG.length rk] 26 ∧ LO w (w4.alloc (.cells #[.int .i64 dv, .slice sa dA.length sc, .slice sb dG.length sk] 26)) ra rc rg dA ∧ LO w (w4.alloc (.cells #[.int .i64 dv, .slice sa dA.length sc, .slice sb dG.length sk] 26)) rb rk rh dG ∧ (0 < rc → ig < rg ∧ rg < P1) ∧ (0 < rk → ig < rh ∧ rh < P1) ∧ (ig < P1) ∧ (0 < rc → 0 < rk → rg ≠ rh) ∧ (B + 1 + 1 < ig) ∧ Bx (w4.alloc (.cells #[.int .i64 dv, .slice sa dA.length sc, .slice sb dG.length sk] 26)) (P2) #[.int .i64 dv, .slice sa dA.length sc, .slice sb dG.length sk] 26 ∧ LO w (w4.alloc (.cells #[.int .i64 dv, .slice sa dA.length sc, .slice sb dG.length sk] 26)) sa sc sg dA ∧ LO w (w4.alloc (.cells #[.int .i64 dv, .slice sa dA.length sc, .slice sb dG.length sk] 26)) sb sk sh dG ∧ (0 < sc → P1 < sg ∧ sg < P2) ∧ (0 < sk → P1 < sh ∧ sh < P2) ∧ (P1 < P2) ∧ (0 < sc → 0 < sk → sg ≠ sh)) := hide (by
    obtain ⟨fr, bl, bp, bq, n0, ri, ni, br, rr, sr, mr, nr, or, er⟩ := unhide H3
    have hpp := unhide HP1
    have hg := hF.alloc (.cells #[.int .i64 dv, .slice sa dA.length sc, .slice sb dG.length sk] 26)
    have hsz := hF.size
    have hpn := unhide HP2
    have hlo := br.lt
    refine ⟨fr.trans hg (fun _ _ t => t), bl.keep hg, bp.keep hg, bq.keep hg, n0, ri.keep hg, br.keep hg, rr.keep hg, sr.keep hg, mr, nr, or, er, ni, by rw [← unhide HP2]; exact Bx.new _ _ _, (hL.later fr.size).keep ((Fr.refl _ _).alloc _), (hM.later fr.size).keep ((Fr.refl _ _).alloc _), fun hc => ?_, fun hc => ?_, ?_, hne⟩
    · have t1 := hL.new hc; have t2 := hL.lt hc; exact ⟨by omega, by omega⟩
    · have t1 := hM.new hc; have t2 := hM.lt hc; exact ⟨by omega, by omega⟩
    · omega)
  clear hL hM hne hF H3 HP1
  have RK := hide (keptS_any w (w4.alloc (.cells #[.int .i64 dv, .slice sa dA.length sc, .slice sb dG.length sk] 26)) ia ic ig ts (by obtain ⟨fr, bl, bp, bq, n0, ri, br, rr, sr, mr, nr, or, er, ni, bs, rs, ss, ms, ns, os, es⟩ := unhide H4; exact ri) tt ct (by obtain ⟨fr, bl, bp, bq, n0, ri, br, rr, sr, mr, nr, or, er, ni, bs, rs, ss, ms, ns, os, es⟩ := unhide H4; exact (unhide HTS).keep fr) (unhide HT))
  go_wp2_with fail
  rw [unhide HP2]
  refine (unhide RK).mono ?_
  clear RK
  rintro e w5 ⟨rfl, hF⟩
  have H5 : Hid (Fr (fun _ => False) w w5 ∧ Bx w5 (B) #[.int .i64 l.ver, .slice a l.toks.length c] 24 ∧ Bx w5 (B + 1) #[.int .i64 p.ver, .slice a1 p.add.length c1, .slice a2 p.gone.length c2] 26 ∧ Bx w5 (B + 1 + 1) #[.int .i64 q.ver, .slice b1 q.add.length k1, .slice b2 q.gone.length k2] 26 ∧ (w.heap.size ≤ B) ∧ Bx w5 (P1) #[.int .i64 dv, .slice ra dA.length rc, .slice rb dG.length rk] 26 ∧ LO w w5 ra rc rg dA ∧ LO w w5 rb rk rh dG ∧ (0 < rc → ig < rg ∧ rg < P1) ∧ (0 < rk → ig < rh ∧ rh < P1) ∧ (ig < P1) ∧ (0 < rc → 0 < rk → rg ≠ rh) ∧ (B + 1 + 1 < ig) ∧ Bx w5 (P2) #[.int .i64 dv, .slice sa dA.length sc, .slice sb dG.length sk] 26 ∧ LO w w5 sa sc sg dA ∧ LO w w5 sb sk sh dG ∧ (0 < sc → P1 < sg ∧ sg < P2) ∧ (0 < sk → P1 < sh ∧ sh < P2) ∧ (P1 < P2) ∧ (0 < sc → 0 < sk → sg ≠ sh)) := hide (by
    obtain ⟨fr, bl, bp, bq, n0, ri, br, rr, sr, mr, nr, or, er, ni, bs, rs, ss, ms, ns, os, es⟩ := unhide H4
    exact ⟨fr.trans hF (fun i hi t => by have ht : _ = ig := t; omega), bl.frame hF (fun t => by have ht : _ = ig := t; omega), bp.frame hF (fun t => by have ht : _ = ig := t; omega), bq.frame hF (fun t => by have ht : _ = ig := t; omega), n0, br.frame hF (fun t => by have ht : _ = ig := t; omega), rr.go hF (fun hc t => by have hm := mr hc; have ht : _ = ig := t; omega), sr.go hF (fun hc t => by have hm := nr hc; have ht : _ = ig := t; omega), mr, nr, or, er, ni, bs.frame hF (fun t => by have ht : _ = ig := t; omega), rs.go hF (fun hc t => by have hm := ms hc; have ht : _ = ig := t; omega), ss.go hF (fun hc t => by have hm := ns hc; have ht : _ = ig := t; omega), ms, ns, os, es⟩)
  clear hF H4
  clear HP2
  have x0 : w5.cell? ⟨B, 0, none⟩ = some (.int .i64 l.ver) := (by obtain ⟨fr, bl, bp, bq, n0, br, rr, sr, mr, nr, or, er, ni, bs, rs, ss, ms, ns, os, es⟩ := unhide H5; exact bl.cell 0)
  have x1 : w5.cell? ⟨B, 1, none⟩ = some (.slice a l.toks.length c) := (by obtain ⟨fr, bl, bp, bq, n0, br, rr, sr, mr, nr, or, er, ni, bs, rs, ss, ms, ns, os, es⟩ := unhide H5; exact bl.cell 1)
  go_wp2_with fail
  refine (unhide RF _ (by obtain ⟨fr, bl, bp, bq, n0, br, rr, sr, mr, nr, or, er, ni, bs, rs, ss, ms, ns, os, es⟩ := unhide H5; exact fr)).mono ?_
  clear x0 x1
  rintro e w6 ⟨ta, tc, tg, tb, tk, th, rfl, hL, hM, hne, hF⟩
  obtain ⟨P3, HP3⟩ : ∃ P, Hid (w6.heap.size = P) := ⟨_, rfl⟩
  have H6 : Hid (Fr (fun _ => False) w (w6.alloc (.cells #[.int .i64 dv, .slice ta dA.length tc, .slice tb dG.length tk] 26)) ∧ Bx (w6.alloc (.cells #[.int .i64 dv, .slice ta dA.length tc, .slice tb dG.length tk] 26)) (B) #[.int .i64 l.ver, .slice a l.toks.length c] 24 ∧ Bx (w6.alloc (.cells #[.int .i64 dv, .slice ta dA.length tc, .slice tb dG.length tk] 26)) (B + 1) #[.int .i64 p.ver, .slice a1 p.add.length c1, .slice a2 p.gone.length c2] 26 ∧ Bx (w6.alloc (.cells #[.int .i64 dv, .slice ta dA.length tc, .slice tb dG.length tk] 26)) (B + 1 + 1) #[.int .i64 q.ver, .slice b1 q.add.length k1, .slice b2 q.gone.length k2] 26 ∧ (w.heap.size ≤ B) ∧ Bx (w6.alloc (.cells #[.int .i64 dv, .slice ta dA.length tc, .slice tb dG.length tk] 26)) (P1) #[.int .i64 dv, .slice ra dA.length rc, .slice rb dG.length rk] 26 ∧ LO w (w6.alloc (.cells #[.int .i64 dv, .slice ta dA.length tc, .slice tb dG.length tk] 26)) ra rc rg dA ∧ LO w (w6.alloc (.cells #[.int .i64 dv, .slice ta dA.length tc, .slice tb dG.length tk] 26)) rb rk rh dG ∧ (0 < rc → ig < rg ∧ rg < P1) ∧ (0 < rk → ig < rh ∧ rh < P1) ∧ (ig < P1) ∧ (0 < rc → 0 < rk → rg ≠ rh) ∧ Bx (w6.alloc (.cells #[.int .i64 dv, .slice ta dA.length tc, .slice tb dG.length tk] 26)) (P2) #[.int .i64 dv, .slice sa dA.length sc, .slice sb dG.length sk] 26 ∧ LO w (w6.alloc (.cells #[.int .i64 dv, .slice ta dA.length tc, .slice tb dG.length tk] 26)) sa sc sg dA ∧ LO w (w6.alloc (.cells #[.int .i64 dv, .slice ta dA.length tc, .slice tb dG.length tk] 26)) sb sk sh dG ∧ (0 < sc → P1 < sg ∧ sg < P2) ∧ (0 < sk → P1 < sh ∧ sh < P2) ∧ (P1 < P2) ∧ (0 < sc → 0 < sk → sg ≠ sh) ∧ (B + 1 + 1 < ig) ∧ Bx (w6.alloc (.cells #[.int .i64 dv, .slice ta dA.length tc, .slice tb dG.length tk] 26)) (P3) #[.int .i64 dv, .slice ta dA.length tc, .slice tb dG.length tk] 26 ∧ LO w (w6.alloc (.cells #[.int .i64 dv, .slice ta dA.length tc, .slice tb dG.length tk] 26)) ta tc tg dA ∧ LO w (w6.alloc (.cells #[.int .i64 dv, .slice ta dA.length tc, .slice tb dG.length tk] 26)) tb tk th dG ∧ (0 < tc → P2 < tg ∧ tg < P3) ∧ (0 < tk → P2 < th ∧ th < P3) ∧ (P2 < P3) ∧ (0 < tc → 0 < tk → tg ≠ th)) := hide (by
    obtain ⟨fr, bl, bp, bq, n0, br, rr, sr, mr, nr, or, er, ni, bs, rs, ss, ms, ns, os, es⟩ := unhide H5
    have hg := hF.alloc (.cells #[.int .i64 dv, .slice ta dA.length tc, .slice tb dG.length tk] 26)
    have hsz := hF.size
    have hpn := unhide HP3
    have hlo := bs.lt
    refine ⟨fr.trans hg (fun _ _ t => t), bl.keep hg, bp.keep hg, bq.keep hg, n0, br.keep hg, rr.keep hg, sr.keep hg, mr, nr, or, er, bs.keep hg, rs.keep hg, ss.keep hg, ms, ns, os, es, ni, by rw [← unhide HP3]; exact Bx.new _ _ _, (hL.later fr.size).keep ((Fr.refl _ _).alloc _), (hM.later fr.size).keep ((Fr.refl _ _).alloc _), fun hc => ?_, fun hc => ?_, ?_, hne⟩
    · have t1 := hL.new hc; have t2 := hL.lt hc; exact ⟨by omega, by omega⟩
    · have t1 := hM.new hc; have t2 := hM.lt hc; exact ⟨by omega, by omega⟩
    · omega)
  clear hL hM hne hF H5
  have x0 : (w6.alloc (.cells #[.int .i64 dv, .slice ta dA.length tc, .slice tb dG.length tk] 26)).cell? ⟨P1, 0, none⟩ = some (.int .i64 dv) := (by obtain ⟨fr, bl, bp, bq, n0, br, rr, sr, mr, nr, or, er, bs, rs, ss, ms, ns, os, es, ni, bt, rt, st, mt, nt, ot, et⟩ := unhide H6; exact br.cell 0)
  have x1 : (w6.alloc (.cells #[.int .i64 dv, .slice ta dA.length tc, .slice tb dG.length tk] 26)).cell? ⟨P1, 1, none⟩ = some (.slice ra dA.length rc) := (by obtain ⟨fr, bl, bp, bq, n0, br, rr, sr, mr, nr, or, er, bs, rs, ss, ms, ns, os, es, ni, bt, rt, st, mt, nt, ot, et⟩ := unhide H6; exact br.cell 1)
  have x2 : (w6.alloc (.cells #[.int .i64 dv, .slice ta dA.length tc, .slice tb dG.length tk] 26)).cell? ⟨P1, 2, none⟩ = some (.slice rb dG.length rk) := (by obtain ⟨fr, bl, bp, bq, n0, br, rr, sr, mr, nr, or, er, bs, rs, ss, ms, ns, os, es, ni, bt, rt, st, mt, nt, ot, et⟩ := unhide H6; exact br.cell 2)
  have RS := hide (sameD_is (w6.alloc (.cells #[.int .i64 dv, .slice ta dA.length tc, .slice tb dG.length tk] 26)) ⟨dv, dA, dG⟩ ra rc rb rk ta tc tb tk (by obtain ⟨fr, bl, bp, bq, n0, br, rr, sr, mr, nr, or, er, bs, rs, ss, ms, ns, os, es, ni, bt, rt, st, mt, nt, ot, et⟩ := unhide H6; exact rr.sat) (by obtain ⟨fr, bl, bp, bq, n0, br, rr, sr, mr, nr, or, er, bs, rs, ss, ms, ns, os, es, ni, bt, rt, st, mt, nt, ot, et⟩ := unhide H6; exact sr.sat) (by obtain ⟨fr, bl, bp, bq, n0, br, rr, sr, mr, nr, or, er, bs, rs, ss, ms, ns, os, es, ni, bt, rt, st, mt, nt, ot, et⟩ := unhide H6; exact rt.sat) (by obtain ⟨fr, bl, bp, bq, n0, br, rr, sr, mr, nr, or, er, bs, rs, ss, ms, ns, os, es, ni, bt, rt, st, mt, nt, ot, et⟩ := unhide H6; exact st.sat) (by have := (unhide HDL).1; show dA.length ≤ _; omega) (by have := (unhide HDL).2; show dG.length ≤ _; omega))
  unfold dlC at RS
  simp only at RS
  go_wp2_with fail
  rw [unhide HP3]
  refine (unhide RS).mono ?_
  clear RS x0 x1 x2
  rintro e w7 ⟨rfl, hF⟩
  have H7 : Hid (Fr (fun _ => False) w w7 ∧ Bx w7 (B) #[.int .i64 l.ver, .slice a l.toks.length c] 24 ∧ Bx w7 (B + 1) #[.int .i64 p.ver, .slice a1 p.add.length c1, .slice a2 p.gone.length c2] 26 ∧ Bx w7 (B + 1 + 1) #[.int .i64 q.ver, .slice b1 q.add.length k1, .slice b2 q.gone.length k2] 26 ∧ (w.heap.size ≤ B) ∧ Bx w7 (P1) #[.int .i64 dv, .slice ra dA.length rc, .slice rb dG.length rk] 26 ∧ LO w w7 ra rc rg dA ∧ LO w w7 rb rk rh dG ∧ (0 < rc → ig < rg ∧ rg < P1) ∧ (0 < rk → ig < rh ∧ rh < P1) ∧ (ig < P1) ∧ (0 < rc → 0 < rk → rg ≠ rh) ∧ Bx w7 (P2) #[.int .i64 dv, .slice sa dA.length sc, .slice sb dG.length sk] 26 ∧ LO w w7 sa sc sg dA ∧ LO w w7 sb sk sh dG ∧ (0 < sc → P1 < sg ∧ sg < P2) ∧ (0 < sk → P1 < sh ∧ sh < P2) ∧ (P1 < P2) ∧ (0 < sc → 0 < sk → sg ≠ sh) ∧ (B + 1 + 1 < ig) ∧ Bx w7 (P3) #[.int .i64 dv, .slice ta dA.length tc, .slice tb dG.length tk] 26 ∧ LO w w7 ta tc tg dA ∧ LO w w7 tb tk th dG ∧ (0 < tc → P2 < tg ∧ tg < P3) ∧ (0 < tk → P2 < th ∧ th < P3) ∧ (P2 < P3) ∧ (0 < tc → 0 < tk → tg ≠ th)) := hide (by
    obtain ⟨fr, bl, bp, bq, n0, br, rr, sr, mr, nr, or, er, bs, rs, ss, ms, ns, os, es, ni, bt, rt, st, mt, nt, ot, et⟩ := unhide H6
    exact ⟨fr.trans hF (fun _ _ t => t), bl.keep hF, bp.keep hF, bq.keep hF, n0, br.keep hF, rr.keep hF, sr.keep hF, mr, nr, or, er, bs.keep hF, rs.keep hF, ss.keep hF, ms, ns, os, es, ni, bt.keep hF, rt.keep hF, st.keep hF, mt, nt, ot, et⟩)
  clear hF H6
  clear HP3
  have x0 : w7.cell? ⟨P1, 1, none⟩ = some (.slice ra dA.length rc) := (by obtain ⟨fr, bl, bp, bq, n0, br, rr, sr, mr, nr, or, er, bs, rs, ss, ms, ns, os, es, ni, bt, rt, st, mt, nt, ot, et⟩ := unhide H7; exact br.cell 1)
  have RP := hide (spoilS_any w w7 ra rc rg dA (by obtain ⟨fr, bl, bp, bq, n0, br, rr, sr, mr, nr, or, er, bs, rs, ss, ms, ns, os, es, ni, bt, rt, st, mt, nt, ot, et⟩ := unhide H7; exact rr) (by have := (unhide HDL).1; omega))
  go_wp2_with fail
  refine (unhide RP).mono ?_
  clear RP x0
  rintro e w8 ⟨rfl, hF⟩
  have H8 : Hid (Fr (fun _ => False) w w8 ∧ Bx w8 (B) #[.int .i64 l.ver, .slice a l.toks.length c] 24 ∧ Bx w8 (B + 1) #[.int .i64 p.ver, .slice a1 p.add.length c1, .slice a2 p.gone.length c2] 26 ∧ Bx w8 (B + 1 + 1) #[.int .i64 q.ver, .slice b1 q.add.length k1, .slice b2 q.gone.length k2] 26 ∧ (w.heap.size ≤ B) ∧ Bx w8 (P1) #[.int .i64 dv, .slice ra dA.length rc, .slice rb dG.length rk] 26 ∧ LO w w8 rb rk rh dG ∧ (0 < rc → ig < rg ∧ rg < P1) ∧ (0 < rk → ig < rh ∧ rh < P1) ∧ (ig < P1) ∧ (0 < rc → 0 < rk → rg ≠ rh) ∧ Bx w8 (P2) #[.int .i64 dv, .slice sa dA.length sc, .slice sb dG.length sk] 26 ∧ LO w w8 sa sc sg dA ∧ LO w w8 sb sk sh dG ∧ (0 < sc → P1 < sg ∧ sg < P2) ∧ (0 < sk → P1 < sh ∧ sh < P2) ∧ (P1 < P2) ∧ (0 < sc → 0 < sk → sg ≠ sh) ∧ (B + 1 + 1 < ig) ∧ Bx w8 (P3) #[.int .i64 dv, .slice ta dA.length tc, .slice tb dG.length tk] 26 ∧ LO w w8 ta tc tg dA ∧ LO w w8 tb tk th dG ∧ (0 < tc → P2 < tg ∧ tg < P3) ∧ (0 < tk → P2 < th ∧ th < P3) ∧ (P2 < P3) ∧ (0 < tc → 0 < tk → tg ≠ th)) := hide (by
    obtain ⟨fr, bl, bp, bq, n0, br, rr, sr, mr, nr, or, er, bs, rs, ss, ms, ns, os, es, ni, bt, rt, st, mt, nt, ot, et⟩ := unhide H7
    exact ⟨fr.trans hF (fun i hi t => by have t0 := mr t.2; have t1 := t.1; omega), bl.frame hF (fun t => by have t0 := mr t.2; have t1 := t.1; omega), bp.frame hF (fun t => by have t0 := mr t.2; have t1 := t.1; omega), bq.frame hF (fun t => by have t0 := mr t.2; have t1 := t.1; omega), n0, br.frame hF (fun t => by have t0 := mr t.2; have t1 := t.1; omega), sr.go hF (fun hc t => by have hm := nr hc; have t0 := mr t.2; have t1 := t.1; exact absurd t1.symm (er t.2 hc)), mr, nr, or, er, bs.frame hF (fun t => by have t0 := mr t.2; have t1 := t.1; omega), rs.go hF (fun hc t => by have hm := ms hc; have t0 := mr t.2; have t1 := t.1; omega), ss.go hF (fun hc t => by have hm := ns hc; have t0 := mr t.2; have t1 := t.1; omega), ms, ns, os, es, ni, bt.frame hF (fun t => by have t0 := mr t.2; have t1 := t.1; omega), rt.go hF (fun hc t => by have hm := mt hc; have t0 := mr t.2; have t1 := t.1; omega), st.go hF (fun hc t => by have hm := nt hc; have t0 := mr t.2; have t1 := t.1; omega), mt, nt, ot, et⟩)
  clear hF H7
  have x0 : w8.cell? ⟨P1, 2, none⟩ = some (.slice rb dG.length rk) := (by obtain ⟨fr, bl, bp, bq, n0, br, sr, mr, nr, or, er, bs, rs, ss, ms, ns, os, es, ni, bt, rt, st, mt, nt, ot, et⟩ := unhide H8; exact br.cell 2)
  have RP := hide (spoilS_any w w8 rb rk rh dG (by obtain ⟨fr, bl, bp, bq, n0, br, sr, mr, nr, or, er, bs, rs, ss, ms, ns, os, es, ni, bt, rt, st, mt, nt, ot, et⟩ := unhide H8; exact sr) (by have := (unhide HDL).2; omega))
  go_wp2_with fail
  refine (unhide RP).mono ?_
  clear RP x0
  rintro e w9 ⟨rfl, hF⟩
  have H9 : Hid (Fr (fun _ => False) w w9 ∧ Bx w9 (B) #[.int .i64 l.ver, .slice a l.toks.length c] 24 ∧ Bx w9 (B + 1) #[.int .i64 p.ver, .slice a1 p.add.length c1, .slice a2 p.gone.length c2] 26 ∧ Bx w9 (B + 1 + 1) #[.int .i64 q.ver, .slice b1 q.add.length k1, .slice b2 q.gone.length k2] 26 ∧ (w.heap.size ≤ B) ∧ (0 < rc → ig < rg ∧ rg < P1) ∧ (0 < rk → ig < rh ∧ rh < P1) ∧ (ig < P1) ∧ (0 < rc → 0 < rk → rg ≠ rh) ∧ Bx w9 (P2) #[.int .i64 dv, .slice sa dA.length sc, .slice sb dG.length sk] 26 ∧ LO w w9 sa sc sg dA ∧ LO w w9 sb sk sh dG ∧ (0 < sc → P1 < sg ∧ sg < P2) ∧ (0 < sk → P1 < sh ∧ sh < P2) ∧ (P1 < P2) ∧ (0 < sc → 0 < sk → sg ≠ sh) ∧ (B + 1 + 1 < ig) ∧ Bx w9 (P3) #[.int .i64 dv, .slice ta dA.length tc, .slice tb dG.length tk] 26 ∧ LO w w9 ta tc tg dA ∧ LO w w9 tb tk th dG ∧ (0 < tc → P2 < tg ∧ tg < P3) ∧ (0 < tk → P2 < th ∧ th < P3) ∧ (P2 < P3) ∧ (0 < tc → 0 < tk → tg ≠ th)) := hide (by
    obtain ⟨fr, bl, bp, bq, n0, br, sr, mr, nr, or, er, bs, rs, ss, ms, ns, os, es, ni, bt, rt, st, mt, nt, ot, et⟩ := unhide H8
    exact ⟨fr.trans hF (fun i hi t => by have t0 := nr t.2; have t1 := t.1; omega), bl.frame hF (fun t => by have t0 := nr t.2; have t1 := t.1; omega), bp.frame hF (fun t => by have t0 := nr t.2; have t1 := t.1; omega), bq.frame hF (fun t => by have t0 := nr t.2; have t1 := t.1; omega), n0, mr, nr, or, er, bs.frame hF (fun t => by have t0 := nr t.2; have t1 := t.1; omega), rs.go hF (fun hc t => by have hm := ms hc; have t0 := nr t.2; have t1 := t.1; omega), ss.go hF (fun hc t => by have hm := ns hc; have t0 := nr t.2; have t1 := t.1; omega), ms, ns, os, es, ni, bt.frame hF (fun t => by have t0 := nr t.2; have t1 := t.1; omega), rt.go hF (fun hc t => by have hm := mt hc; have t0 := nr t.2; have t1 := t.1; omega), st.go hF (fun hc t => by have hm := nt hc; have t0 := nr t.2; have t1 := t.1; omega), mt, nt, ot, et⟩)
  clear hF H8
  have x0 : w9.cell? ⟨P2, 0, none⟩ = some (.int .i64 dv) := (by obtain ⟨fr, bl, bp, bq, n0, mr, nr, or, er, bs, rs, ss, ms, ns, os, es, ni, bt, rt, st, mt, nt, ot, et⟩ := unhide H9; exact bs.cell 0)
  have x1 : w9.cell? ⟨P2, 1, none⟩ = some (.slice sa dA.length sc) := (by obtain ⟨fr, bl, bp, bq, n0, mr, nr, or, er, bs, rs, ss, ms, ns, os, es, ni, bt, rt, st, mt, nt, ot, et⟩ := unhide H9; exact bs.cell 1)
  have x2 : w9.cell? ⟨P2, 2, none⟩ = some (.slice sb dG.length sk) := (by obtain ⟨fr, bl, bp, bq, n0, mr, nr, or, er, bs, rs, ss, ms, ns, os, es, ni, bt, rt, st, mt, nt, ot, et⟩ := unhide H9; exact bs.cell 2)
  have x3 : w9.cell? ⟨P3, 0, none⟩ = some (.int .i64 dv) := (by obtain ⟨fr, bl, bp, bq, n0, mr, nr, or, er, bs, rs, ss, ms, ns, os, es, ni, bt, rt, st, mt, nt, ot, et⟩ := unhide H9; exact bt.cell 0)
  have x4 : w9.cell? ⟨P3, 1, none⟩ = some (.slice ta dA.length tc) := (by obtain ⟨fr, bl, bp, bq, n0, mr, nr, or, er, bs, rs, ss, ms, ns, os, es, ni, bt, rt, st, mt, nt, ot, et⟩ := unhide H9; exact bt.cell 1)
  have x5 : w9.cell? ⟨P3, 2, none⟩ = some (.slice tb dG.length tk) := (by obtain ⟨fr, bl, bp, bq, n0, mr, nr, or, er, bs, rs, ss, ms, ns, os, es, ni, bt, rt, st, mt, nt, ot, et⟩ := unhide H9; exact bt.cell 2)
  have RS := hide (sameD_is w9 ⟨dv, dA, dG⟩ sa sc sb sk ta tc tb tk (by obtain ⟨fr, bl, bp, bq, n0, mr, nr, or, er, bs, rs, ss, ms, ns, os, es, ni, bt, rt, st, mt, nt, ot, et⟩ := unhide H9; exact rs.sat) (by obtain ⟨fr, bl, bp, bq, n0, mr, nr, or, er, bs, rs, ss, ms, ns, os, es, ni, bt, rt, st, mt, nt, ot, et⟩ := unhide H9; exact ss.sat) (by obtain ⟨fr, bl, bp, bq, n0, mr, nr, or, er, bs, rs, ss, ms, ns, os, es, ni, bt, rt, st, mt, nt, ot, et⟩ := unhide H9; exact rt.sat) (by obtain ⟨fr, bl, bp, bq, n0, mr, nr, or, er, bs, rs, ss, ms, ns, os, es, ni, bt, rt, st, mt, nt, ot, et⟩ := unhide H9; exact st.sat) (by have := (unhide HDL).1; show dA.length ≤ _; omega) (by have := (unhide HDL).2; show dG.length ≤ _; omega))
  unfold dlC at RS
  simp only at RS
  go_wp2_with fail
  refine (unhide RS).mono ?_
  clear RS x0 x1 x2 x3 x4 x5
  rintro e w10 ⟨rfl, hF⟩
  have H10 : Hid (Fr (fun _ => False) w w10 ∧ Bx w10 (B) #[.int .i64 l.ver, .slice a l.toks.length c] 24 ∧ Bx w10 (B + 1) #[.int .i64 p.ver, .slice a1 p.add.length c1, .slice a2 p.gone.length c2] 26 ∧ Bx w10 (B + 1 + 1) #[.int .i64 q.ver, .slice b1 q.add.length k1, .slice b2 q.gone.length k2] 26 ∧ (w.heap.size ≤ B) ∧ (0 < rc → ig < rg ∧ rg < P1) ∧ (0 < rk → ig < rh ∧ rh < P1) ∧ (ig < P1) ∧ (0 < rc → 0 < rk → rg ≠ rh) ∧ Bx w10 (P2) #[.int .i64 dv, .slice sa dA.length sc, .slice sb dG.length sk] 26 ∧ LO w w10 sa sc sg dA ∧ LO w w10 sb sk sh dG ∧ (0 < sc → P1 < sg ∧ sg < P2) ∧ (0 < sk → P1 < sh ∧ sh < P2) ∧ (P1 < P2) ∧ (0 < sc → 0 < sk → sg ≠ sh) ∧ (B + 1 + 1 < ig) ∧ Bx w10 (P3) #[.int .i64 dv, .slice ta dA.length tc, .slice tb dG.length tk] 26 ∧ LO w w10 ta tc tg dA ∧ LO w w10 tb tk th dG ∧ (0 < tc → P2 < tg ∧ tg < P3) ∧ (0 < tk → P2 < th ∧ th < P3) ∧ (P2 < P3) ∧ (0 < tc → 0 < tk → tg ≠ th)) := hide (by
    obtain ⟨fr, bl, bp, bq, n0, mr, nr, or, er, bs, rs, ss, ms, ns, os, es, ni, bt, rt, st, mt, nt, ot, et⟩ := unhide H9
    exact ⟨fr.trans hF (fun _ _ t => t), bl.keep hF, bp.keep hF, bq.keep hF, n0, mr, nr, or, er, bs.keep hF, rs.keep hF, ss.keep hF, ms, ns, os, es, ni, bt.keep hF, rt.keep hF, st.keep hF, mt, nt, ot, et⟩)
  clear hF H9
  have H11 : Hid (Fr (fun _ => False) w w10 ∧ Bx w10 (B + 1) #[.int .i64 p.ver, .slice a1 p.add.length c1, .slice a2 p.gone.length c2] 26 ∧ Bx w10 (B + 1 + 1) #[.int .i64 q.ver, .slice b1 q.add.length k1, .slice b2 q.gone.length k2] 26 ∧ (w.heap.size ≤ B)) := hide (by obtain ⟨fr, bl, bp, bq, n0, mr, nr, or, er, bs, rs, ss, ms, ns, os, es, ni, bt, rt, st, mt, nt, ot, et⟩ := unhide H10; exact ⟨fr, bp, bq, n0⟩)
  clear H10
  have x0 : w10.cell? ⟨B + 1, 0, none⟩ = some (.int .i64 p.ver) := (by obtain ⟨fr, bp, bq, n0⟩ := unhide H11; exact bp.cell 0)
  have x1 : w10.cell? ⟨B + 1, 1, none⟩ = some (.slice a1 p.add.length c1) := (by obtain ⟨fr, bp, bq, n0⟩ := unhide H11; exact bp.cell 1)
  have x2 : w10.cell? ⟨B + 1, 2, none⟩ = some (.slice a2 p.gone.length c2) := (by obtain ⟨fr, bp, bq, n0⟩ := unhide H11; exact bp.cell 2)
  have x3 : w10.cell? ⟨B + 1 + 1, 0, none⟩ = some (.int .i64 q.ver) := (by obtain ⟨fr, bp, bq, n0⟩ := unhide H11; exact bq.cell 0)
  have x4 : w10.cell? ⟨B + 1 + 1, 1, none⟩ = some (.slice b1 q.add.length k1) := (by obtain ⟨fr, bp, bq, n0⟩ := unhide H11; exact bq.cell 1)
  have x5 : w10.cell? ⟨B + 1 + 1, 2, none⟩ = some (.slice b2 q.gone.length k2) := (by obtain ⟨fr, bp, bq, n0⟩ := unhide H11; exact bq.cell 2)
  go_wp2_with fail
  refine (unhide RJ _ (by obtain ⟨fr, bp, bq, n0⟩ := unhide H11; exact fr)).mono ?_
  clear x0 x1 x2 x3 x4 x5
  rintro e w12 ⟨xa, xc, xg, xb, xk, xh, rfl, hL, hM, hne, hF⟩
  obtain ⟨P4, HP4⟩ : ∃ P, Hid (w12.heap.size = P) := ⟨_, rfl⟩
  have H12 : Hid (Fr (fun _ => False) w (w12.alloc (.cells #[.int .i64 jv, .slice xa jA.length xc, .slice xb jG.length xk] 26)) ∧ Bx (w12.alloc (.cells #[.int .i64 jv, .slice xa jA.length xc, .slice xb jG.length xk] 26)) (B + 1) #[.int .i64 p.ver, .slice a1 p.add.length c1, .slice a2 p.gone.length c2] 26 ∧ Bx (w12.alloc (.cells #[.int .i64 jv, .slice xa jA.length xc, .slice xb jG.length xk] 26)) (B + 1 + 1) #[.int .i64 q.ver, .slice b1 q.add.length k1, .slice b2 q.gone.length k2] 26 ∧ (w.heap.size ≤ B) ∧ Bx (w12.alloc (.cells #[.int .i64 jv, .slice xa jA.length xc, .slice xb jG.length xk] 26)) (P4) #[.int .i64 jv, .slice xa jA.length xc, .slice xb jG.length xk] 26 ∧ LO w (w12.alloc (.cells #[.int .i64 jv, .slice xa jA.length xc, .slice xb jG.length xk] 26)) xa xc xg jA ∧ LO w (w12.alloc (.cells #[.int .i64 jv, .slice xa jA.length xc, .slice xb jG.length xk] 26)) xb xk xh jG ∧ (0 < xc → B + 1 + 1 < xg ∧ xg < P4) ∧ (0 < xk → B + 1 + 1 < xh ∧ xh < P4) ∧ (B + 1 + 1 < P4) ∧ (0 < xc → 0 < xk → xg ≠ xh)) := hide (by
    obtain ⟨fr, bp, bq, n0⟩ := unhide H11
    have hg := hF.alloc (.cells #[.int .i64 jv, .slice xa jA.length xc, .slice xb jG.length xk] 26)
    have hsz := hF.size
    have hpn := unhide HP4
    have hlo := bq.lt
    refine ⟨fr.trans hg (fun _ _ t => t), bp.keep hg, bq.keep hg, n0, by rw [← unhide HP4]; exact Bx.new _ _ _, (hL.later fr.size).keep ((Fr.refl _ _).alloc _), (hM.later fr.size).keep ((Fr.refl _ _).alloc _), fun hc => ?_, fun hc => ?_, ?_, hne⟩
    · have t1 := hL.new hc; have t2 := hL.lt hc; exact ⟨by omega, by omega⟩
    · have t1 := hM.new hc; have t2 := hM.lt hc; exact ⟨by omega, by omega⟩
    · omega)
  clear hL hM hne hF H11
  have x0 : (w12.alloc (.cells #[.int .i64 jv, .slice xa jA.length xc, .slice xb jG.length xk] 26)).cell? ⟨B + 1, 0, none⟩ = some (.int .i64 p.ver) := (by obtain ⟨fr, bp, bq, n0, bx, rx, sx, mx, nx, ox, ex⟩ := unhide H12; exact bp.cell 0)
  have x1 : (w12.alloc (.cells #[.int .i64 jv, .slice xa jA.length xc, .slice xb jG.length xk] 26)).cell? ⟨B + 1, 1, none⟩ = some (.slice a1 p.add.length c1) := (by obtain ⟨fr, bp, bq, n0, bx, rx, sx, mx, nx, ox, ex⟩ := unhide H12; exact bp.cell 1)
  have x2 : (w12.alloc (.cells #[.int .i64 jv, .slice xa jA.length xc, .slice xb jG.length xk] 26)).cell? ⟨B + 1, 2, none⟩ = some (.slice a2 p.gone.length c2) := (by obtain ⟨fr, bp, bq, n0, bx, rx, sx, mx, nx, ox, ex⟩ := unhide H12; exact bp.cell 2)
  have x3 : (w12.alloc (.cells #[.int .i64 jv, .slice xa jA.length xc, .slice xb jG.length xk] 26)).cell? ⟨B + 1 + 1, 0, none⟩ = some (.int .i64 q.ver) := (by obtain ⟨fr, bp, bq, n0, bx, rx, sx, mx, nx, ox, ex⟩ := unhide H12; exact bq.cell 0)
  have x4 : (w12.alloc (.cells #[.int .i64 jv, .slice xa jA.length xc, .slice xb jG.length xk] 26)).cell? ⟨B + 1 + 1, 1, none⟩ = some (.slice b1 q.add.length k1) := (by obtain ⟨fr, bp, bq, n0, bx, rx, sx, mx, nx, ox, ex⟩ := unhide H12; exact bq.cell 1)
  have x5 : (w12.alloc (.cells #[.int .i64 jv, .slice xa jA.length xc, .slice xb jG.length xk] 26)).cell? ⟨B + 1 + 1, 2, none⟩ = some (.slice b2 q.gone.length k2) := (by obtain ⟨fr, bp, bq, n0, bx, rx, sx, mx, nx, ox, ex⟩ := unhide H12; exact bq.cell 2)
  go_wp2_with fail
  rw [unhide HP4]
  refine (unhide RG _ (by obtain ⟨fr, bp, bq, n0, bx, rx, sx, mx, nx, ox, ex⟩ := unhide H12; exact fr)).mono ?_
  clear x0 x1 x2 x3 x4 x5
  rintro e w13 ⟨va, vc, vg, vb, vk, vh, rfl, hL, hM, hF⟩
  obtain ⟨P5, HP5⟩ : ∃ P, Hid (w13.heap.size = P) := ⟨_, rfl⟩
  have H13 : Hid (Fr (fun _ => False) w (w13.alloc (.cells #[.int .i64 jv, .slice va jA.length vc, .slice vb jG.length vk] 26)) ∧ Bx (w13.alloc (.cells #[.int .i64 jv, .slice va jA.length vc, .slice vb jG.length vk] 26)) (B + 1) #[.int .i64 p.ver, .slice a1 p.add.length c1, .slice a2 p.gone.length c2] 26 ∧ Bx (w13.alloc (.cells #[.int .i64 jv, .slice va jA.length vc, .slice vb jG.length vk] 26)) (B + 1 + 1) #[.int .i64 q.ver, .slice b1 q.add.length k1, .slice b2 q.gone.length k2] 26 ∧ (w.heap.size ≤ B) ∧ Bx (w13.alloc (.cells #[.int .i64 jv, .slice va jA.length vc, .slice vb jG.length vk] 26)) (P4) #[.int .i64 jv, .slice xa jA.length xc, .slice xb jG.length xk] 26 ∧ LO w (w13.alloc (.cells #[.int .i64 jv, .slice va jA.length vc, .slice vb jG.length vk] 26)) xa xc xg jA ∧ LO w (w13.alloc (.cells #[.int .i64 jv, .slice va jA.length vc, .slice vb jG.length vk] 26)) xb xk xh jG ∧ (0 < xc → B + 1 + 1 < xg ∧ xg < P4) ∧ (0 < xk → B + 1 + 1 < xh ∧ xh < P4) ∧ (B + 1 + 1 < P4) ∧ (0 < xc → 0 < xk → xg ≠ xh) ∧ Bx (w13.alloc (.cells #[.int .i64 jv, .slice va jA.length vc, .slice vb jG.length vk] 26)) (P5) #[.int .i64 jv, .slice va jA.length vc, .slice vb jG.length vk] 26 ∧ LO w (w13.alloc (.cells #[.int .i64 jv, .slice va jA.length vc, .slice vb jG.length vk] 26)) va vc vg jA ∧ LO w (w13.alloc (.cells #[.int .i64 jv, .slice va jA.length vc, .slice vb jG.length vk] 26)) vb vk vh jG ∧ (0 < vc → P4 < vg ∧ vg < P5) ∧ (0 < vk → P4 < vh ∧ vh < P5) ∧ (P4 < P5)) := hide (by
    obtain ⟨fr, bp, bq, n0, bx, rx, sx, mx, nx, ox, ex⟩ := unhide H12
    have hpp := unhide HP4
    have hg := hF.alloc (.cells #[.int .i64 jv, .slice va jA.length vc, .slice vb jG.length vk] 26)
    have hsz := hF.size
    have hpn := unhide HP5
    have hlo := bx.lt
    refine ⟨fr.trans hg (fun _ _ t => t), bp.keep hg, bq.keep hg, n0, bx.keep hg, rx.keep hg, sx.keep hg, mx, nx, ox, ex, by rw [← unhide HP5]; exact Bx.new _ _ _, (hL.later fr.size).keep ((Fr.refl _ _).alloc _), (hM.later fr.size).keep ((Fr.refl _ _).alloc _), fun hc => ?_, fun hc => ?_, ?_⟩
    · have t1 := hL.new hc; have t2 := hL.lt hc; exact ⟨by omega, by omega⟩
    · have t1 := hM.new hc; have t2 := hM.lt hc; exact ⟨by omega, by omega⟩
    · omega)
  clear hL hM hF H12 HP4
  have x0 : (w13.alloc (.cells #[.int .i64 jv, .slice va jA.length vc, .slice vb jG.length vk] 26)).cell? ⟨P4, 0, none⟩ = some (.int .i64 jv) := (by obtain ⟨fr, bp, bq, n0, bx, rx, sx, mx, nx, ox, ex, bv, rv, sv, mv, nv, ov⟩ := unhide H13; exact bx.cell 0)
  have x1 : (w13.alloc (.cells #[.int .i64 jv, .slice va jA.length vc, .slice vb jG.length vk] 26)).cell? ⟨P4, 1, none⟩ = some (.slice xa jA.length xc) := (by obtain ⟨fr, bp, bq, n0, bx, rx, sx, mx, nx, ox, ex, bv, rv, sv, mv, nv, ov⟩ := unhide H13; exact bx.cell 1)
  have x2 : (w13.alloc (.cells #[.int .i64 jv, .slice va jA.length vc, .slice vb jG.length vk] 26)).cell? ⟨P4, 2, none⟩ = some (.slice xb jG.length xk) := (by obtain ⟨fr, bp, bq, n0, bx, rx, sx, mx, nx, ox, ex, bv, rv, sv, mv, nv, ov⟩ := unhide H13; exact bx.cell 2)
  have RS := hide (sameD_is (w13.alloc (.cells #[.int .i64 jv, .slice va jA.length vc, .slice vb jG.length vk] 26)) ⟨jv, jA, jG⟩ xa xc xb xk va vc vb vk (by obtain ⟨fr, bp, bq, n0, bx, rx, sx, mx, nx, ox, ex, bv, rv, sv, mv, nv, ov⟩ := unhide H13; exact rx.sat) (by obtain ⟨fr, bp, bq, n0, bx, rx, sx, mx, nx, ox, ex, bv, rv, sv, mv, nv, ov⟩ := unhide H13; exact sx.sat) (by obtain ⟨fr, bp, bq, n0, bx, rx, sx, mx, nx, ox, ex, bv, rv, sv, mv, nv, ov⟩ := unhide H13; exact rv.sat) (by obtain ⟨fr, bp, bq, n0, bx, rx, sx, mx, nx, ox, ex, bv, rv, sv, mv, nv, ov⟩ := unhide H13; exact sv.sat) (by have := (unhide HJL).1; show jA.length ≤ _; omega) (by have := (unhide HJL).2; show jG.length ≤ _; omega))
  unfold dlC at RS
  simp only at RS
  go_wp2_with fail
  rw [unhide HP5]
  refine (unhide RS).mono ?_
  clear RS x0 x1 x2
  rintro e w14 ⟨rfl, hF⟩
  have H14 : Hid (Fr (fun _ => False) w w14 ∧ Bx w14 (B + 1) #[.int .i64 p.ver, .slice a1 p.add.length c1, .slice a2 p.gone.length c2] 26 ∧ Bx w14 (B + 1 + 1) #[.int .i64 q.ver, .slice b1 q.add.length k1, .slice b2 q.gone.length k2] 26 ∧ (w.heap.size ≤ B) ∧ Bx w14 (P4) #[.int .i64 jv, .slice xa jA.length xc, .slice xb jG.length xk] 26 ∧ LO w w14 xa xc xg jA ∧ LO w w14 xb xk xh jG ∧ (0 < xc → B + 1 + 1 < xg ∧ xg < P4) ∧ (0 < xk → B + 1 + 1 < xh ∧ xh < P4) ∧ (B + 1 + 1 < P4) ∧ (0 < xc → 0 < xk → xg ≠ xh) ∧ Bx w14 (P5) #[.int .i64 jv, .slice va jA.length vc, .slice vb jG.length vk] 26 ∧ LO w w14 va vc vg jA ∧ LO w w14 vb vk vh jG ∧ (0 < vc → P4 < vg ∧ vg < P5) ∧ (0 < vk → P4 < vh ∧ vh < P5) ∧ (P4 < P5)) := hide (by
    obtain ⟨fr, bp, bq, n0, bx, rx, sx, mx, nx, ox, ex, bv, rv, sv, mv, nv, ov⟩ := unhide H13
    exact ⟨fr.trans hF (fun _ _ t => t), bp.keep hF, bq.keep hF, n0, bx.keep hF, rx.keep hF, sx.keep hF, mx, nx, ox, ex, bv.keep hF, rv.keep hF, sv.keep hF, mv, nv, ov⟩)
  clear hF H13
  clear HP5
  have x0 : w14.cell? ⟨P4, 1, none⟩ = some (.slice xa jA.length xc) := (by obtain ⟨fr, bp, bq, n0, bx, rx, sx, mx, nx, ox, ex, bv, rv, sv, mv, nv, ov⟩ := unhide H14; exact bx.cell 1)
  have RP := hide (spoilS_any w w14 xa xc xg jA (by obtain ⟨fr, bp, bq, n0, bx, rx, sx, mx, nx, ox, ex, bv, rv, sv, mv, nv, ov⟩ := unhide H14; exact rx) (by have := (unhide HJL).1; omega))
  go_wp2_with fail
  refine (unhide RP).mono ?_
  clear RP x0
  rintro e w15 ⟨rfl, hF⟩
  have H15 : Hid (Fr (fun _ => False) w w15 ∧ Bx w15 (B + 1) #[.int .i64 p.ver, .slice a1 p.add.length c1, .slice a2 p.gone.length c2] 26 ∧ Bx w15 (B + 1 + 1) #[.int .i64 q.ver, .slice b1 q.add.length k1, .slice b2 q.gone.length k2] 26 ∧ (w.heap.size ≤ B) ∧ Bx w15 (P4) #[.int .i64 jv, .slice xa jA.length xc, .slice xb jG.length xk] 26 ∧ LO w w15 xb xk xh jG ∧ (0 < xc → B + 1 + 1 < xg ∧ xg < P4) ∧ (0 < xk → B + 1 + 1 < xh ∧ xh < P4) ∧ (B + 1 + 1 < P4) ∧ (0 < xc → 0 < xk → xg ≠ xh) ∧ Bx w15 (P5) #[.int .i64 jv, .slice va jA.length vc, .slice vb jG.length vk] 26 ∧ LO w w15 va vc vg jA ∧ LO w w15 vb vk vh jG ∧ (0 < vc → P4 < vg ∧ vg < P5) ∧ (0 < vk → P4 < vh ∧ vh < P5) ∧ (P4 < P5)) := hide (by
    obtain ⟨fr, bp, bq, n0, bx, rx, sx, mx, nx, ox, ex, bv, rv, sv, mv, nv, ov⟩ := unhide H14
    exact ⟨fr.trans hF (fun i hi t => by have t0 := mx t.2; have t1 := t.1; omega), bp.frame hF (fun t => by have t0 := mx t.2; have t1 := t.1; omega), bq.frame hF (fun t => by have t0 := mx t.2; have t1 := t.1; omega), n0, bx.frame hF (fun t => by have t0 := mx t.2; have t1 := t.1; omega), sx.go hF (fun hc t => by have hm := nx hc; have t0 := mx t.2; have t1 := t.1; exact absurd t1.symm (ex t.2 hc)), mx, nx, ox, ex, bv.frame hF (fun t => by have t0 := mx t.2; have t1 := t.1; omega), rv.go hF (fun hc t => by have hm := mv hc; have t0 := mx t.2; have t1 := t.1; omega), sv.go hF (fun hc t => by have hm := nv hc; have t0 := mx t.2; have t1 := t.1; omega), mv, nv, ov⟩)
  clear hF H14
  have x0 : w15.cell? ⟨P4, 2, none⟩ = some (.slice xb jG.length xk) := (by obtain ⟨fr, bp, bq, n0, bx, sx, mx, nx, ox, ex, bv, rv, sv, mv, nv, ov⟩ := unhide H15; exact bx.cell 2)
  have RP := hide (spoilS_any w w15 xb xk xh jG (by obtain ⟨fr, bp, bq, n0, bx, sx, mx, nx, ox, ex, bv, rv, sv, mv, nv, ov⟩ := unhide H15; exact sx) (by have := (unhide HJL).2; omega))
  go_wp2_with fail
  refine (unhide RP).mono ?_
  clear RP x0
  rintro e w16 ⟨rfl, hF⟩
  have H16 : Hid (Fr (fun _ => False) w w16 ∧ Bx w16 (B + 1) #[.int .i64 p.ver, .slice a1 p.add.length c1, .slice a2 p.gone.length c2] 26 ∧ Bx w16 (B + 1 + 1) #[.int .i64 q.ver, .slice b1 q.add.length k1, .slice b2 q.gone.length k2] 26 ∧ (w.heap.size ≤ B) ∧ (0 < xc → B + 1 + 1 < xg ∧ xg < P4) ∧ (0 < xk → B + 1 + 1 < xh ∧ xh < P4) ∧ (B + 1 + 1 < P4) ∧ (0 < xc → 0 < xk → xg ≠ xh) ∧ Bx w16 (P5) #[.int .i64 jv, .slice va jA.length vc, .slice vb jG.length vk] 26 ∧ LO w w16 va vc vg jA ∧ LO w w16 vb vk vh jG ∧ (0 < vc → P4 < vg ∧ vg < P5) ∧ (0 < vk → P4 < vh ∧ vh < P5) ∧ (P4 < P5)) := hide (by
    obtain ⟨fr, bp, bq, n0, bx, sx, mx, nx, ox, ex, bv, rv, sv, mv, nv, ov⟩ := unhide H15
    exact ⟨fr.trans hF (fun i hi t => by have t0 := nx t.2; have t1 := t.1; omega), bp.frame hF (fun t => by have t0 := nx t.2; have t1 := t.1; omega), bq.frame hF (fun t => by have t0 := nx t.2; have t1 := t.1; omega), n0, mx, nx, ox, ex, bv.frame hF (fun t => by have t0 := nx t.2; have t1 := t.1; omega), rv.go hF (fun hc t => by have hm := mv hc; have t0 := nx t.2; have t1 := t.1; omega), sv.go hF (fun hc t => by have hm := nv hc; have t0 := nx t.2; have t1 := t.1; omega), mv, nv, ov⟩)
  clear hF H15
  have x0 : w16.cell? ⟨B + 1, 0, none⟩ = some (.int .i64 p.ver) := (by obtain ⟨fr, bp, bq, n0, mx, nx, ox, ex, bv, rv, sv, mv, nv, ov⟩ := unhide H16; exact bp.cell 0)
  have x1 : w16.cell? ⟨B + 1, 1, none⟩ = some (.slice a1 p.add.length c1) := (by obtain ⟨fr, bp, bq, n0, mx, nx, ox, ex, bv, rv, sv, mv, nv, ov⟩ := unhide H16; exact bp.cell 1)
  have x2 : w16.cell? ⟨B + 1, 2, none⟩ = some (.slice a2 p.gone.length c2) := (by obtain ⟨fr, bp, bq, n0, mx, nx, ox, ex, bv, rv, sv, mv, nv, ov⟩ := unhide H16; exact bp.cell 2)
  have x3 : w16.cell? ⟨B + 1 + 1, 0, none⟩ = some (.int .i64 q.ver) := (by obtain ⟨fr, bp, bq, n0, mx, nx, ox, ex, bv, rv, sv, mv, nv, ov⟩ := unhide H16; exact bq.cell 0)
  have x4 : w16.cell? ⟨B + 1 + 1, 1, none⟩ = some (.slice b1 q.add.length k1) := (by obtain ⟨fr, bp, bq, n0, mx, nx, ox, ex, bv, rv, sv, mv, nv, ov⟩ := unhide H16; exact bq.cell 1)
  have x5 : w16.cell? ⟨B + 1 + 1, 2, none⟩ = some (.slice b2 q.gone.length k2) := (by obtain ⟨fr, bp, bq, n0, mx, nx, ox, ex, bv, rv, sv, mv, nv, ov⟩ := unhide H16; exact bq.cell 2)
  go_wp2_with fail
  refine (unhide RJ _ (by obtain ⟨fr, bp, bq, n0, mx, nx, ox, ex, bv, rv, sv, mv, nv, ov⟩ := unhide H16; exact fr)).mono ?_
  clear x0 x1 x2 x3 x4 x5
  rintro e w17 ⟨za, zc, zg, zb, zk, zh, rfl, hL, hM, hne, hF⟩
  obtain ⟨P6, HP6⟩ : ∃ P, Hid (w17.heap.size = P) := ⟨_, rfl⟩
  have H17 : Hid (Fr (fun _ => False) w (w17.alloc (.cells #[.int .i64 jv, .slice za jA.length zc, .slice zb jG.length zk] 26)) ∧ Bx (w17.alloc (.cells #[.int .i64 jv, .slice za jA.length zc, .slice zb jG.length zk] 26)) (B + 1) #[.int .i64 p.ver, .slice a1 p.add.length c1, .slice a2 p.gone.length c2] 26 ∧ Bx (w17.alloc (.cells #[.int .i64 jv, .slice za jA.length zc, .slice zb jG.length zk] 26)) (B + 1 + 1) #[.int .i64 q.ver, .slice b1 q.add.length k1, .slice b2 q.gone.length k2] 26 ∧ (w.heap.size ≤ B) ∧ (0 < xc → B + 1 + 1 < xg ∧ xg < P4) ∧ (0 < xk → B + 1 + 1 < xh ∧ xh < P4) ∧ (B + 1 + 1 < P4) ∧ (0 < xc → 0 < xk → xg ≠ xh) ∧ Bx (w17.alloc (.cells #[.int .i64 jv, .slice za jA.length zc, .slice zb jG.length zk] 26)) (P5) #[.int .i64 jv, .slice va jA.length vc, .slice vb jG.length vk] 26 ∧ LO w (w17.alloc (.cells #[.int .i64 jv, .slice za jA.length zc, .slice zb jG.length zk] 26)) va vc vg jA ∧ LO w (w17.alloc (.cells #[.int .i64 jv, .slice za jA.length zc, .slice zb jG.length zk] 26)) vb vk vh jG ∧ (0 < vc → P4 < vg ∧ vg < P5) ∧ (0 < vk → P4 < vh ∧ vh < P5) ∧ (P4 < P5) ∧ Bx (w17.alloc (.cells #[.int .i64 jv, .slice za jA.length zc, .slice zb jG.length zk] 26)) (P6) #[.int .i64 jv, .slice za jA.length zc, .slice zb jG.length zk] 26 ∧ LO w (w17.alloc (.cells #[.int .i64 jv, .slice za jA.length zc, .slice zb jG.length zk] 26)) za zc zg jA ∧ LO w (w17.alloc (.cells #[.int .i64 jv, .slice za jA.length zc, .slice zb jG.length zk] 26)) zb zk zh jG ∧ (0 < zc → P5 < zg ∧ zg < P6) ∧ (0 < zk → P5 < zh ∧ zh < P6) ∧ (P5 < P6) ∧ (0 < zc → 0 < zk → zg ≠ zh)) := hide (by
    obtain ⟨fr, bp, bq, n0, mx, nx, ox, ex, bv, rv, sv, mv, nv, ov⟩ := unhide H16
    have hg := hF.alloc (.cells #[.int .i64 jv, .slice za jA.length zc, .slice zb jG.length zk] 26)
    have hsz := hF.size
    have hpn := unhide HP6
    have hlo := bv.lt
    refine ⟨fr.trans hg (fun _ _ t => t), bp.keep hg, bq.keep hg, n0, mx, nx, ox, ex, bv.keep hg, rv.keep hg, sv.keep hg, mv, nv, ov, by rw [← unhide HP6]; exact Bx.new _ _ _, (hL.later fr.size).keep ((Fr.refl _ _).alloc _), (hM.later fr.size).keep ((Fr.refl _ _).alloc _), fun hc => ?_, fun hc => ?_, ?_, hne⟩
    · have t1 := hL.new hc; have t2 := hL.lt hc; exact ⟨by omega, by omega⟩
    · have t1 := hM.new hc; have t2 := hM.lt hc; exact ⟨by omega, by omega⟩
    · omega)
  clear hL hM hne hF H16
  have x0 : (w17.alloc (.cells #[.int .i64 jv, .slice za jA.length zc, .slice zb jG.length zk] 26)).cell? ⟨P5, 0, none⟩ = some (.int .i64 jv) := (by obtain ⟨fr, bp, bq, n0, mx, nx, ox, ex, bv, rv, sv, mv, nv, ov, bz, rz, sz, mz, nz, oz, ez⟩ := unhide H17; exact bv.cell 0)
  have x1 : (w17.alloc (.cells #[.int .i64 jv, .slice za jA.length zc, .slice zb jG.length zk] 26)).cell? ⟨P5, 1, none⟩ = some (.slice va jA.length vc) := (by obtain ⟨fr, bp, bq, n0, mx, nx, ox, ex, bv, rv, sv, mv, nv, ov, bz, rz, sz, mz, nz, oz, ez⟩ := unhide H17; exact bv.cell 1)
  have x2 : (w17.alloc (.cells #[.int .i64 jv, .slice za jA.length zc, .slice zb jG.length zk] 26)).cell? ⟨P5, 2, none⟩ = some (.slice vb jG.length vk) := (by obtain ⟨fr, bp, bq, n0, mx, nx, ox, ex, bv, rv, sv, mv, nv, ov, bz, rz, sz, mz, nz, oz, ez⟩ := unhide H17; exact bv.cell 2)
  have RS := hide (sameD_is (w17.alloc (.cells #[.int .i64 jv, .slice za jA.length zc, .slice zb jG.length zk] 26)) ⟨jv, jA, jG⟩ za zc zb zk va vc vb vk (by obtain ⟨fr, bp, bq, n0, mx, nx, ox, ex, bv, rv, sv, mv, nv, ov, bz, rz, sz, mz, nz, oz, ez⟩ := unhide H17; exact rz.sat) (by obtain ⟨fr, bp, bq, n0, mx, nx, ox, ex, bv, rv, sv, mv, nv, ov, bz, rz, sz, mz, nz, oz, ez⟩ := unhide H17; exact sz.sat) (by obtain ⟨fr, bp, bq, n0, mx, nx, ox, ex, bv, rv, sv, mv, nv, ov, bz, rz, sz, mz, nz, oz, ez⟩ := unhide H17; exact rv.sat) (by obtain ⟨fr, bp, bq, n0, mx, nx, ox, ex, bv, rv, sv, mv, nv, ov, bz, rz, sz, mz, nz, oz, ez⟩ := unhide H17; exact sv.sat) (by have := (unhide HJL).1; show jA.length ≤ _; omega) (by have := (unhide HJL).2; show jG.length ≤ _; omega))
  unfold dlC at RS
  simp only at RS
  go_wp2_with fail
  rw [unhide HP6]
  refine (unhide RS).mono ?_
  clear RS x0 x1 x2
  rintro e w18 ⟨rfl, hF⟩
  have HFF : Hid (Fr (fun _ => False) w w18) := hide (by obtain ⟨fr, bp, bq, n0, mx, nx, ox, ex, bv, rv, sv, mv, nv, ov, bz, rz, sz, mz, nz, oz, ez⟩ := unhide H17; exact fr.trans hF (fun _ _ t => t))
  clear hF H17
  go_wp2
  go_ret
  exact ⟨by first | rfl | simp, unhide HFF⟩

end Go.Proofs.YtmhljehkodhggaaGreat

