import Derived.Test.YtmhljehkodhggaaGreatU9
/- The walk of the law RiskJoins. -/
namespace Go.Proofs.YtmhljehkodhggaaGreat
open Go.RowKit

theorem joins_all (l : Rl) (a b : Dl) (t : ByteArray) : ∃ mv mt E1 nv nt E2 jv jA jG E3, applyR l a = (⟨mv, mt⟩, E1) ∧ applyR ⟨mv, mt⟩ b = (⟨nv, nt⟩, E2) ∧ joinR a b = (⟨jv, jA, jG⟩, E3) ∧ (E1 ≠ 0 → mv = 0 ∧ mt = []) ∧ (E1 = 0 → mt.length ≤ 1000 ∧ mv = a.ver ∧ memS mt t = (memS a.add t || (memS l.toks t && !memS a.gone t)) ∧ (E2 = 0 → nt.length ≤ 1000 ∧ (E3 = 0 ∨ E3 = 2) ∧ 0 ≤ l.ver ∧ l.ver + 1 = a.ver ∧ (E3 = 0 → jA.length ≤ 1000 ∧ jG.length ≤ 1000 ∧ ∃ ov, applyR l ⟨l.ver + 1, jA, jG⟩ = (⟨ov, nt⟩, 0)))) := by
  refine ⟨(applyR l a).1.ver, (applyR l a).1.toks, (applyR l a).2, (applyR (applyR l a).1 b).1.ver, (applyR (applyR l a).1 b).1.toks, (applyR (applyR l a).1 b).2, (joinR a b).1.ver, (joinR a b).1.add, (joinR a b).1.gone, (joinR a b).2, rfl, rfl, rfl, fun h => ?_, fun h => ⟨?_, ?_, listed h t, fun k => ?_⟩⟩
  · rw [applyR_bad h]; exact ⟨rfl, rfl⟩
  · rw [(applyR_ok h).2.2]; exact (applyR_ok h).2.1
  · rw [(applyR_ok h).2.2]
  · obtain ⟨h1, h2, h3, h4⟩ := joins h k
    refine ⟨by rw [(applyR_ok k).2.2]; exact (applyR_ok k).2.1, h1, h2, h3, fun j => ?_⟩
    obtain ⟨q0, q1, q2, q3⟩ := joinR_ok j
    obtain ⟨k1, k2⟩ := h4 j
    refine ⟨by rw [q3]; exact q1, by rw [q3]; exact q2, (applyR l ⟨l.ver + 1, (joinR a b).1.add, (joinR a b).1.gone⟩).1.ver, ?_⟩
    rw [← k1, ← k2]

set_option maxHeartbeats 8000000 in
set_option maxRecDepth 20000 in
theorem joins_walk (w : World) (l : Rl) (a0 : Option Addr) (c0 : Nat) (hl : RIn w l a0 c0) (p : Dl) (a1 : Option Addr) (c1 : Nat) (a2 : Option Addr) (c2 : Nat) (hp : DI w p a1 c1 a2 c2) (q : Dl) (b1 : Option Addr) (k1 : Nat) (b2 : Option Addr) (k2 : Nat) (hq : DI w q b1 k1 b2 k2) (t : ByteArray) :
    Calls Tryz.prog 5 #[.agg (rlC l a0 c0), .agg (dlC p a1 c1 a2 c2), .agg (dlC q b1 k1 b2 k2), .string t] w fun e w' => e = .returned (.bool true) ∧ Fr (fun _ => False) w w' := by
  obtain ⟨mv, mt, E1, nv, nt, E2, jv, jA, jG, E3, e1, e2, e3, hBAD, hOK⟩ := joins_all l p q t
  obtain ⟨B, HB⟩ : ∃ B, Hid (w.heap.size = B) := ⟨_, rfl⟩
  obtain ⟨W0, HW0⟩ : ∃ W, Hid (W = ((w.alloc (.cells (rlC l a0 c0) 24)).alloc (.cells (dlC p a1 c1 a2 c2) 26)).alloc (.cells (dlC q b1 k1 b2 k2) 26)) := ⟨_, rfl⟩
  have HS : Hid (∀ w', Fr (fun _ => False) W0 w' → Fr (fun _ => False) w w' ∧ Bx w' B #[.int .i64 l.ver, .slice a0 l.toks.length c0] 24 ∧ Bx w' (B + 1) #[.int .i64 p.ver, .slice a1 p.add.length c1, .slice a2 p.gone.length c2] 26 ∧ Bx w' (B + 1 + 1) #[.int .i64 q.ver, .slice b1 q.add.length k1, .slice b2 q.gone.length k2] 26 ∧ RIn w' l a0 c0 ∧ DI w' p a1 c1 a2 c2 ∧ DI w' q b1 k1 b2 k2) := hide (fun w' hf => by
    rw [unhide HW0] at hf
    have z1 : Bx (((w.alloc (.cells (rlC l a0 c0) 24)).alloc (.cells (dlC p a1 c1 a2 c2) 26)).alloc (.cells (dlC q b1 k1 b2 k2) 26)) w.heap.size (rlC l a0 c0) 24 := ((Bx.new _ _ _).alloc _).alloc _
    have z2 := (Bx.new (w.alloc (.cells (rlC l a0 c0) 24)) (dlC p a1 c1 a2 c2) 26).alloc (.cells (dlC q b1 k1 b2 k2) 26)
    have z3 := Bx.new ((w.alloc (.cells (rlC l a0 c0) 24)).alloc (.cells (dlC p a1 c1 a2 c2) 26)) (dlC q b1 k1 b2 k2) 26
    rw [heap_alloc] at z2
    rw [heap_alloc, heap_alloc] at z3
    rw [unhide HB] at z1 z2 z3
    have h0 : Fr (fun _ => False) w w' := ((((Fr.refl _ w).alloc _).alloc _).alloc _).trans hf (fun _ _ t => t)
    exact ⟨h0, z1.keep hf, z2.keep hf, z3.keep hf, hl.keep h0, hp.keep h0, hq.keep h0⟩)
  have R1 : Hid (∀ w', Fr (fun _ => False) W0 w' → Calls Tryz.prog 11 #[.agg #[.int .i64 l.ver, .slice a0 l.toks.length c0], .agg #[.int .i64 p.ver, .slice a1 p.add.length c1, .slice a2 p.gone.length c2]] w' fun e w'' => ∃ ao cap g, e = .returned (.tuple #[.agg #[.int .i64 mv, .slice ao mt.length cap], .int .i64 E1]) ∧ LO w' w'' ao cap g mt ∧ Fr (fun _ => False) w' w'') := hide (fun w' hf => by
    have := apply_any w' l a0 c0 (unhide HS w' hf).2.2.2.2.1 p a1 c1 a2 c2 (unhide HS w' hf).2.2.2.2.2.1
    rw [e1] at this
    exact this)
  have R2 : Hid (∀ w', Fr (fun _ => False) W0 w' → ∀ ao cap, RIn w' ⟨mv, mt⟩ ao cap → Calls Tryz.prog 11 #[.agg #[.int .i64 mv, .slice ao mt.length cap], .agg #[.int .i64 q.ver, .slice b1 q.add.length k1, .slice b2 q.gone.length k2]] w' fun e w'' => ∃ ao cap g, e = .returned (.tuple #[.agg #[.int .i64 nv, .slice ao nt.length cap], .int .i64 E2]) ∧ LO w' w'' ao cap g nt ∧ Fr (fun _ => False) w' w'') := hide (fun w' hf ao cap hr => by
    have := apply_any w' ⟨mv, mt⟩ ao cap hr q b1 k1 b2 k2 (unhide HS w' hf).2.2.2.2.2.2
    rw [e2] at this
    exact this)
  have R3 : Hid (∀ w', Fr (fun _ => False) W0 w' → Calls Tryz.prog 22 #[.agg #[.int .i64 p.ver, .slice a1 p.add.length c1, .slice a2 p.gone.length c2], .agg #[.int .i64 q.ver, .slice b1 q.add.length k1, .slice b2 q.gone.length k2]] w' fun e w'' => ∃ x1 y1 z1 x2 y2 z2, e = .returned (.tuple #[.agg #[.int .i64 jv, .slice x1 jA.length y1, .slice x2 jG.length y2], .int .i64 E3]) ∧ DO w' w'' ⟨jv, jA, jG⟩ x1 y1 z1 x2 y2 z2 ∧ Fr (fun _ => False) w' w'') := hide (fun w' hf => by
    have := join_any w' p a1 c1 a2 c2 (unhide HS w' hf).2.2.2.2.2.1 q b1 k1 b2 k2 (unhide HS w' hf).2.2.2.2.2.2
    rw [e3] at this
    exact this)
  have HOK := hide hOK
  have HBAD := hide hBAD
  have HPV := hide hp.ver
  have HLV := hide hl.ver
  clear hl hp hq e1 e2 e3 hOK hBAD
  unfold rlC dlC at *
  go_enter Tryz.func5, Tryz.ntmps5
  go_wp2_with fail
  rw [← unhide HW0, unhide HB]
  clear HW0 HB
  refine (awake13_any _).mono ?_
  rintro e w1 ⟨rfl, hF⟩
  have HF1 := hide hF
  clear hF
  have x0 : w1.cell? ⟨B, 0, none⟩ = some (.int .i64 l.ver) := (unhide HS w1 (unhide HF1)).2.1.cell 0
  have x1 : w1.cell? ⟨B, 1, none⟩ = some (.slice a0 l.toks.length c0) := (unhide HS w1 (unhide HF1)).2.1.cell 1
  have y0 : w1.cell? ⟨B + 1, 0, none⟩ = some (.int .i64 p.ver) := (unhide HS w1 (unhide HF1)).2.2.1.cell 0
  have y1 : w1.cell? ⟨B + 1, 1, none⟩ = some (.slice a1 p.add.length c1) := (unhide HS w1 (unhide HF1)).2.2.1.cell 1
  have y2 : w1.cell? ⟨B + 1, 2, none⟩ = some (.slice a2 p.gone.length c2) := (unhide HS w1 (unhide HF1)).2.2.1.cell 2
  go_wp2_with fail
  refine (unhide R1 w1 (unhide HF1)).mono ?_
  clear x0 x1 y0 y1 y2 R1
  rintro e w2 ⟨ao, cap, g, rfl, hL, hF⟩
  obtain ⟨P, HP⟩ : ∃ P, Hid (w2.heap.size = P) := ⟨_, rfl⟩
  have HF2 : Hid (Fr (fun _ => False) W0 (w2.alloc (.cells #[.int .i64 mv, .slice ao mt.length cap] 24)) ∧ Bx (w2.alloc (.cells #[.int .i64 mv, .slice ao mt.length cap] 24)) P #[.int .i64 mv, .slice ao mt.length cap] 24 ∧ LO w1 (w2.alloc (.cells #[.int .i64 mv, .slice ao mt.length cap] 24)) ao cap g mt) := hide ⟨((unhide HF1).trans hF (fun _ _ t => t)).alloc _, by rw [← unhide HP]; exact Bx.new _ _ _, hL.keep ((Fr.refl _ _).alloc _)⟩
  clear hL hF HF1
  by_cases h1 : E1 = 0
  · subst h1
    obtain ⟨i1, i2, i3, i4⟩ := unhide HOK rfl
    have HM : Hid (∀ w', Fr (fun _ => False) (w2.alloc (.cells #[.int .i64 mv, .slice ao mt.length cap] 24)) w' → Fr (fun _ => False) W0 w' ∧ Bx w' P #[.int .i64 mv, .slice ao mt.length cap] 24 ∧ RIn w' ⟨mv, mt⟩ ao cap) := hide (fun w' hf => ⟨(unhide HF2).1.trans hf (fun _ _ t => t), (unhide HF2).2.1.keep hf, ⟨(unhide HF2).2.2.sat.keep hf, by show mt.length ≤ _; omega, (unhide HF2).2.2.len, by show mv ≤ _; have := unhide HPV; omega⟩⟩)
    have HI3 := hide i3
    have HI4 := hide i4
    clear i1 i2 i3 i4 HOK HBAD HF2
    have x0 : (w2.alloc (.cells #[.int .i64 mv, .slice ao mt.length cap] 24)).cell? ⟨B, 0, none⟩ = some (.int .i64 l.ver) := (unhide HS _ (unhide HM _ (Fr.refl _ _)).1).2.1.cell 0
    have x1 : (w2.alloc (.cells #[.int .i64 mv, .slice ao mt.length cap] 24)).cell? ⟨B, 1, none⟩ = some (.slice a0 l.toks.length c0) := (unhide HS _ (unhide HM _ (Fr.refl _ _)).1).2.1.cell 1
    have RH := hide (has_any (w2.alloc (.cells #[.int .i64 mv, .slice ao mt.length cap] 24)) l a0 c0 t (unhide HS _ (unhide HM _ (Fr.refl _ _)).1).2.2.2.2.1.toks (unhide HS _ (unhide HM _ (Fr.refl _ _)).1).2.2.2.2.1.len)
    unfold rlC at RH
    go_wp2_with fail
    rw [unhide HP]
    refine (unhide RH).mono ?_
    clear RH x0 x1
    rintro e w3 ⟨rfl, hF⟩
    obtain ⟨W2, HW2⟩ : ∃ W, Hid (W = w2.alloc (.cells #[.int .i64 mv, .slice ao mt.length cap] 24)) := ⟨_, rfl⟩
    rw [← unhide HW2] at HM hF
    have HF3 := hide hF
    clear hF HW2 HP
    have x0 : w3.cell? ⟨P, 0, none⟩ = some (.int .i64 mv) := (unhide HM w3 (unhide HF3)).2.1.cell 0
    have x1 : w3.cell? ⟨P, 1, none⟩ = some (.slice ao mt.length cap) := (unhide HM w3 (unhide HF3)).2.1.cell 1
    have RH := hide (has_any w3 ⟨mv, mt⟩ ao cap t (unhide HM w3 (unhide HF3)).2.2.toks (unhide HM w3 (unhide HF3)).2.2.len)
    unfold rlC at RH
    simp only at RH
    go_wp2_with fail
    refine (unhide RH).mono ?_
    clear RH x0 x1
    rintro e w4 ⟨rfl, hF⟩
    have HF4 := hide ((unhide HF3).trans hF (fun _ _ t => t))
    clear hF HF3
    have y1 : w4.cell? ⟨B + 1, 1, none⟩ = some (.slice a1 p.add.length c1) := (unhide HS _ (unhide HM w4 (unhide HF4)).1).2.2.1.cell 1
    have RH := hide (refHas_any w4 ⟨0, p.add⟩ a1 c1 t (unhide HS _ (unhide HM w4 (unhide HF4)).1).2.2.2.2.2.1.add (unhide HS _ (unhide HM w4 (unhide HF4)).1).2.2.2.2.2.1.l1)
    unfold rlC at RH
    simp only at RH
    go_wp2_with fail
    refine (unhide RH).mono ?_
    clear RH y1
    rintro e w5 ⟨rfl, hF⟩
    have HF5 := hide ((unhide HF4).trans hF (fun _ _ t => t))
    clear hF HF4
    have y2 : w5.cell? ⟨B + 1, 2, none⟩ = some (.slice a2 p.gone.length c2) := (unhide HS _ (unhide HM w5 (unhide HF5)).1).2.2.1.cell 2
    have RH := hide (refHas_any w5 ⟨0, p.gone⟩ a2 c2 t (unhide HS _ (unhide HM w5 (unhide HF5)).1).2.2.2.2.2.1.gone (unhide HS _ (unhide HM w5 (unhide HF5)).1).2.2.2.2.2.1.l2)
    unfold rlC at RH
    simp only at RH
    go_wp2_with fail
    refine (unhide RH).mono ?_
    clear RH y2
    rintro e w6 ⟨rfl, hF⟩
    have HF6 := hide ((unhide HF5).trans hF (fun _ _ t => t))
    clear hF HF5
    rw [unhide HI3]
    clear HI3
    generalize memS p.add t = z1
    generalize memS l.toks t = z2
    generalize memS p.gone t = z3
    have x0 : w6.cell? ⟨P, 0, none⟩ = some (.int .i64 mv) := (unhide HM w6 (unhide HF6)).2.1.cell 0
    have x1 : w6.cell? ⟨P, 1, none⟩ = some (.slice ao mt.length cap) := (unhide HM w6 (unhide HF6)).2.1.cell 1
    have y0 : w6.cell? ⟨B + 1 + 1, 0, none⟩ = some (.int .i64 q.ver) := (unhide HS _ (unhide HM w6 (unhide HF6)).1).2.2.2.1.cell 0
    have y1 : w6.cell? ⟨B + 1 + 1, 1, none⟩ = some (.slice b1 q.add.length k1) := (unhide HS _ (unhide HM w6 (unhide HF6)).1).2.2.2.1.cell 1
    have y2 : w6.cell? ⟨B + 1 + 1, 2, none⟩ = some (.slice b2 q.gone.length k2) := (unhide HS _ (unhide HM w6 (unhide HF6)).1).2.2.2.1.cell 2
    cases z1
    · cases z2
      · as_aux_lemma =>
          go_wp2_with fail
          refine (unhide R2 w6 (unhide HM w6 (unhide HF6)).1 ao cap (unhide HM w6 (unhide HF6)).2.2).mono ?_
          clear x0 x1 y0 y1 y2 R2
          rintro e w7 ⟨no, nc, ng, rfl, hL, hF⟩
          obtain ⟨P2, HP2⟩ : ∃ P, Hid (w7.heap.size = P) := ⟨_, rfl⟩
          have HF7 : Hid (Fr (fun _ => False) W0 (w7.alloc (.cells #[.int .i64 nv, .slice no nt.length nc] 24)) ∧ Bx (w7.alloc (.cells #[.int .i64 nv, .slice no nt.length nc] 24)) P2 #[.int .i64 nv, .slice no nt.length nc] 24 ∧ LO w6 (w7.alloc (.cells #[.int .i64 nv, .slice no nt.length nc] 24)) no nc ng nt) := hide ⟨((unhide HM w6 (unhide HF6)).1.trans hF (fun _ _ t => t)).alloc _, by rw [← unhide HP2]; exact Bx.new _ _ _, hL.keep ((Fr.refl _ _).alloc _)⟩
          clear hL hF HF6 HM
          by_cases h2 : E2 = 0
          · subst h2
            obtain ⟨j1, j2, j3, j4, j5⟩ := unhide HI4 rfl
            have HJ := hide (And.intro j1 (And.intro j2 (And.intro j3 (And.intro j4 j5))))
            clear j1 j2 j3 j4 j5 HI4
            have x0 : (w7.alloc (.cells #[.int .i64 nv, .slice no nt.length nc] 24)).cell? ⟨B + 1, 0, none⟩ = some (.int .i64 p.ver) := (unhide HS _ (unhide HF7).1).2.2.1.cell 0
            have x1 : (w7.alloc (.cells #[.int .i64 nv, .slice no nt.length nc] 24)).cell? ⟨B + 1, 1, none⟩ = some (.slice a1 p.add.length c1) := (unhide HS _ (unhide HF7).1).2.2.1.cell 1
            have x2 : (w7.alloc (.cells #[.int .i64 nv, .slice no nt.length nc] 24)).cell? ⟨B + 1, 2, none⟩ = some (.slice a2 p.gone.length c2) := (unhide HS _ (unhide HF7).1).2.2.1.cell 2
            have y0 : (w7.alloc (.cells #[.int .i64 nv, .slice no nt.length nc] 24)).cell? ⟨B + 1 + 1, 0, none⟩ = some (.int .i64 q.ver) := (unhide HS _ (unhide HF7).1).2.2.2.1.cell 0
            have y1 : (w7.alloc (.cells #[.int .i64 nv, .slice no nt.length nc] 24)).cell? ⟨B + 1 + 1, 1, none⟩ = some (.slice b1 q.add.length k1) := (unhide HS _ (unhide HF7).1).2.2.2.1.cell 1
            have y2 : (w7.alloc (.cells #[.int .i64 nv, .slice no nt.length nc] 24)).cell? ⟨B + 1 + 1, 2, none⟩ = some (.slice b2 q.gone.length k2) := (unhide HS _ (unhide HF7).1).2.2.2.1.cell 2
            go_wp2_with fail
            rw [unhide HP2]
            refine (unhide R3 _ (unhide HF7).1).mono ?_
            clear x0 x1 x2 y0 y1 y2 R3
            rintro e w8 ⟨x1, m1, n1, x2, m2, n2, rfl, hD, hF⟩
            obtain ⟨Q, HQ⟩ : ∃ Q, Hid (w8.heap.size = Q) := ⟨_, rfl⟩
            have HF8 : Hid (Fr (fun _ => False) W0 (w8.alloc (.cells #[.int .i64 jv, .slice x1 jA.length m1, .slice x2 jG.length m2] 26)) ∧ Bx (w8.alloc (.cells #[.int .i64 jv, .slice x1 jA.length m1, .slice x2 jG.length m2] 26)) Q #[.int .i64 jv, .slice x1 jA.length m1, .slice x2 jG.length m2] 26 ∧ DO w7 (w8.alloc (.cells #[.int .i64 jv, .slice x1 jA.length m1, .slice x2 jG.length m2] 26)) ⟨jv, jA, jG⟩ x1 m1 n1 x2 m2 n2 ∧ Bx (w8.alloc (.cells #[.int .i64 jv, .slice x1 jA.length m1, .slice x2 jG.length m2] 26)) P2 #[.int .i64 nv, .slice no nt.length nc] 24 ∧ SAt (w8.alloc (.cells #[.int .i64 jv, .slice x1 jA.length m1, .slice x2 jG.length m2] 26)) no nt) := hide (by
              obtain ⟨p1, p2, p3⟩ := unhide HF7
              have hg : Fr (fun _ => False) w8 (w8.alloc (.cells #[.int .i64 jv, .slice x1 jA.length m1, .slice x2 jG.length m2] 26)) := (Fr.refl _ _).alloc _
              have hg2 := hF.trans hg (fun _ _ t => t)
              exact ⟨p1.trans hg2 (fun _ _ t => t), by rw [← unhide HQ]; exact Bx.new _ _ _, (hD.later (by rw [heap_alloc]; omega)).keep hg, p2.keep hg2, p3.sat.keep hg2⟩)
            have HX8 : Hid (Fr (fun _ => False) W0 w8 ∧ True ∧ DO w7 w8 ⟨jv, jA, jG⟩ x1 m1 n1 x2 m2 n2 ∧ Bx w8 P2 #[.int .i64 nv, .slice no nt.length nc] 24 ∧ SAt w8 no nt) := hide (by
              obtain ⟨p1, p2, p3⟩ := unhide HF7
              exact ⟨p1.trans hF (fun _ _ t => t), trivial, hD.later (by rw [heap_alloc]; omega), p2.keep hF, p3.sat.keep hF⟩)
            clear hD hF HF7
            have u0 : (w8.alloc (.cells #[.int .i64 jv, .slice x1 jA.length m1, .slice x2 jG.length m2] 26)).cell? ⟨B, 0, none⟩ = some (.int .i64 l.ver) := (unhide HS _ (unhide HF8).1).2.1.cell 0
            by_cases h3 : E3 = 0
            · subst h3
              have HG := hide ((unhide HJ).2.2.2.2 rfl)
              have hw : IntKind.i64.wrap (l.ver + 1) = l.ver + 1 := by rw [IntKind.wrap_i64]; have := (unhide HJ).2.2.1; have := (unhide HJ).2.2.2.1; have := unhide HPV; omega
              go_upto_region 18 with (fail)
              obtain ⟨g1, g2, ov, g3⟩ := unhide HG
              have HF9 : Hid (Fr (fun _ => False) W0 (w8.alloc (.cells #[.int .i64 (l.ver + 1), .slice x1 jA.length m1, .slice x2 jG.length m2] 26)) ∧ Bx (w8.alloc (.cells #[.int .i64 (l.ver + 1), .slice x1 jA.length m1, .slice x2 jG.length m2] 26)) Q #[.int .i64 (l.ver + 1), .slice x1 jA.length m1, .slice x2 jG.length m2] 26 ∧ DI (w8.alloc (.cells #[.int .i64 (l.ver + 1), .slice x1 jA.length m1, .slice x2 jG.length m2] 26)) ⟨l.ver + 1, jA, jG⟩ x1 m1 x2 m2 ∧ Bx (w8.alloc (.cells #[.int .i64 (l.ver + 1), .slice x1 jA.length m1, .slice x2 jG.length m2] 26)) P2 #[.int .i64 nv, .slice no nt.length nc] 24 ∧ SAt (w8.alloc (.cells #[.int .i64 (l.ver + 1), .slice x1 jA.length m1, .slice x2 jG.length m2] 26)) no nt) := hide (by
                obtain ⟨p1, p2, p3, p4, p5⟩ := unhide HX8
                have hg : Fr (fun _ => False) w8 (w8.alloc (.cells #[.int .i64 (l.ver + 1), .slice x1 jA.length m1, .slice x2 jG.length m2] 26)) := (Fr.refl _ _).alloc _
                exact ⟨p1.alloc _, by rw [← unhide HQ]; exact Bx.new _ _ _, ⟨p3.add.sat.keep hg, p3.gone.sat.keep hg, by show jA.length ≤ _; omega, by show jG.length ≤ _; omega, by show l.ver + 1 ≤ _; have := (unhide HJ).2.2.2.1; have := unhide HPV; omega, p3.add.len, p3.gone.len⟩, p4.keep hg, p5.keep hg⟩)
              have RA := apply_any (w8.alloc (.cells #[.int .i64 (l.ver + 1), .slice x1 jA.length m1, .slice x2 jG.length m2] 26)) l a0 c0 (unhide HS _ (unhide HF9).1).2.2.2.2.1 ⟨l.ver + 1, jA, jG⟩ x1 m1 x2 m2 (unhide HF9).2.2.1
              rw [g3] at RA
              unfold Applied rlC dlC at RA
              simp only at RA
              have RA := hide RA
              have HNL := hide (unhide HJ).1
              clear g1 g2 g3 u0 hw HF8 HX8 HJ HG
              have u0 : (w8.alloc (.cells #[.int .i64 (l.ver + 1), .slice x1 jA.length m1, .slice x2 jG.length m2] 26)).cell? ⟨B, 0, none⟩ = some (.int .i64 l.ver) := (unhide HS _ (unhide HF9).1).2.1.cell 0
              have u1 : (w8.alloc (.cells #[.int .i64 (l.ver + 1), .slice x1 jA.length m1, .slice x2 jG.length m2] 26)).cell? ⟨B, 1, none⟩ = some (.slice a0 l.toks.length c0) := (unhide HS _ (unhide HF9).1).2.1.cell 1
              go_wp2_with fail
              refine (unhide RA).mono ?_
              clear RA u0 u1
              rintro e w9 ⟨oo, oc, og, rfl, hL, hF⟩
              have HFA : Hid (Fr (fun _ => False) W0 (w9.alloc (.cells #[.int .i64 ov, .slice oo nt.length oc] 24)) ∧ Bx (w9.alloc (.cells #[.int .i64 ov, .slice oo nt.length oc] 24)) P2 #[.int .i64 nv, .slice no nt.length nc] 24 ∧ SAt (w9.alloc (.cells #[.int .i64 ov, .slice oo nt.length oc] 24)) no nt ∧ SAt (w9.alloc (.cells #[.int .i64 ov, .slice oo nt.length oc] 24)) oo nt) := hide (by
                obtain ⟨p1, p2, p3, p4, p5⟩ := unhide HF9
                have hg : Fr (fun _ => False) w9 (w9.alloc (.cells #[.int .i64 ov, .slice oo nt.length oc] 24)) := (Fr.refl _ _).alloc _
                have hg2 := hF.trans hg (fun _ _ t => t)
                exact ⟨p1.trans hg2 (fun _ _ t => t), p4.keep hg2, p5.keep hg2, hL.sat.keep hg⟩)
              clear hL hF HF9
              have u1 : (w9.alloc (.cells #[.int .i64 ov, .slice oo nt.length oc] 24)).cell? ⟨P2, 1, none⟩ = some (.slice no nt.length nc) := (unhide HFA).2.1.cell 1
              have RS := hide (sameT_is _ nt no nc oo oc (unhide HFA).2.2.1 (unhide HFA).2.2.2 (by have := unhide HNL; omega))
              go_wp2_with fail
              refine (unhide RS).mono ?_
              clear RS u1
              rintro e wA ⟨rfl, hF⟩
              have HFF := hide (unhide HS _ ((unhide HFA).1.trans hF (fun _ _ t => t))).1
              clear hF HFA HS
              go_wp2
              go_ret
              exact ⟨by first | rfl | simp, unhide HFF⟩
            · have h4 : E3 = 2 := (unhide HJ).2.1.resolve_left h3
              subst h4
              have HFF := hide (unhide HS _ (unhide HF8).1).1
              clear HF8 h3 HJ u0
              go_wp2
              go_ret
              exact ⟨by first | rfl | simp, unhide HFF⟩
          · have hx : (E2 == 0) = false := by rw [beq_eq_false_iff_ne]; exact h2
            have HFF := hide (unhide HS _ (unhide HF7).1).1
            clear HF7 R3 HI4 h2
            go_wp2
            go_ret
            exact ⟨by first | rfl | simp, unhide HFF⟩
      · cases z3
        all_goals
          as_aux_lemma =>
            go_wp2_with fail
            refine (unhide R2 w6 (unhide HM w6 (unhide HF6)).1 ao cap (unhide HM w6 (unhide HF6)).2.2).mono ?_
            clear x0 x1 y0 y1 y2 R2
            rintro e w7 ⟨no, nc, ng, rfl, hL, hF⟩
            obtain ⟨P2, HP2⟩ : ∃ P, Hid (w7.heap.size = P) := ⟨_, rfl⟩
            have HF7 : Hid (Fr (fun _ => False) W0 (w7.alloc (.cells #[.int .i64 nv, .slice no nt.length nc] 24)) ∧ Bx (w7.alloc (.cells #[.int .i64 nv, .slice no nt.length nc] 24)) P2 #[.int .i64 nv, .slice no nt.length nc] 24 ∧ LO w6 (w7.alloc (.cells #[.int .i64 nv, .slice no nt.length nc] 24)) no nc ng nt) := hide ⟨((unhide HM w6 (unhide HF6)).1.trans hF (fun _ _ t => t)).alloc _, by rw [← unhide HP2]; exact Bx.new _ _ _, hL.keep ((Fr.refl _ _).alloc _)⟩
            clear hL hF HF6 HM
            by_cases h2 : E2 = 0
            · subst h2
              obtain ⟨j1, j2, j3, j4, j5⟩ := unhide HI4 rfl
              have HJ := hide (And.intro j1 (And.intro j2 (And.intro j3 (And.intro j4 j5))))
              clear j1 j2 j3 j4 j5 HI4
              have x0 : (w7.alloc (.cells #[.int .i64 nv, .slice no nt.length nc] 24)).cell? ⟨B + 1, 0, none⟩ = some (.int .i64 p.ver) := (unhide HS _ (unhide HF7).1).2.2.1.cell 0
              have x1 : (w7.alloc (.cells #[.int .i64 nv, .slice no nt.length nc] 24)).cell? ⟨B + 1, 1, none⟩ = some (.slice a1 p.add.length c1) := (unhide HS _ (unhide HF7).1).2.2.1.cell 1
              have x2 : (w7.alloc (.cells #[.int .i64 nv, .slice no nt.length nc] 24)).cell? ⟨B + 1, 2, none⟩ = some (.slice a2 p.gone.length c2) := (unhide HS _ (unhide HF7).1).2.2.1.cell 2
              have y0 : (w7.alloc (.cells #[.int .i64 nv, .slice no nt.length nc] 24)).cell? ⟨B + 1 + 1, 0, none⟩ = some (.int .i64 q.ver) := (unhide HS _ (unhide HF7).1).2.2.2.1.cell 0
              have y1 : (w7.alloc (.cells #[.int .i64 nv, .slice no nt.length nc] 24)).cell? ⟨B + 1 + 1, 1, none⟩ = some (.slice b1 q.add.length k1) := (unhide HS _ (unhide HF7).1).2.2.2.1.cell 1
              have y2 : (w7.alloc (.cells #[.int .i64 nv, .slice no nt.length nc] 24)).cell? ⟨B + 1 + 1, 2, none⟩ = some (.slice b2 q.gone.length k2) := (unhide HS _ (unhide HF7).1).2.2.2.1.cell 2
              go_wp2_with fail
              rw [unhide HP2]
              refine (unhide R3 _ (unhide HF7).1).mono ?_
              clear x0 x1 x2 y0 y1 y2 R3
              rintro e w8 ⟨x1, m1, n1, x2, m2, n2, rfl, hD, hF⟩
              obtain ⟨Q, HQ⟩ : ∃ Q, Hid (w8.heap.size = Q) := ⟨_, rfl⟩
              have HF8 : Hid (Fr (fun _ => False) W0 (w8.alloc (.cells #[.int .i64 jv, .slice x1 jA.length m1, .slice x2 jG.length m2] 26)) ∧ Bx (w8.alloc (.cells #[.int .i64 jv, .slice x1 jA.length m1, .slice x2 jG.length m2] 26)) Q #[.int .i64 jv, .slice x1 jA.length m1, .slice x2 jG.length m2] 26 ∧ DO w7 (w8.alloc (.cells #[.int .i64 jv, .slice x1 jA.length m1, .slice x2 jG.length m2] 26)) ⟨jv, jA, jG⟩ x1 m1 n1 x2 m2 n2 ∧ Bx (w8.alloc (.cells #[.int .i64 jv, .slice x1 jA.length m1, .slice x2 jG.length m2] 26)) P2 #[.int .i64 nv, .slice no nt.length nc] 24 ∧ SAt (w8.alloc (.cells #[.int .i64 jv, .slice x1 jA.length m1, .slice x2 jG.length m2] 26)) no nt) := hide (by
                obtain ⟨p1, p2, p3⟩ := unhide HF7
                have hg : Fr (fun _ => False) w8 (w8.alloc (.cells #[.int .i64 jv, .slice x1 jA.length m1, .slice x2 jG.length m2] 26)) := (Fr.refl _ _).alloc _
                have hg2 := hF.trans hg (fun _ _ t => t)
                exact ⟨p1.trans hg2 (fun _ _ t => t), by rw [← unhide HQ]; exact Bx.new _ _ _, (hD.later (by rw [heap_alloc]; omega)).keep hg, p2.keep hg2, p3.sat.keep hg2⟩)
              have HX8 : Hid (Fr (fun _ => False) W0 w8 ∧ True ∧ DO w7 w8 ⟨jv, jA, jG⟩ x1 m1 n1 x2 m2 n2 ∧ Bx w8 P2 #[.int .i64 nv, .slice no nt.length nc] 24 ∧ SAt w8 no nt) := hide (by
                obtain ⟨p1, p2, p3⟩ := unhide HF7
                exact ⟨p1.trans hF (fun _ _ t => t), trivial, hD.later (by rw [heap_alloc]; omega), p2.keep hF, p3.sat.keep hF⟩)
              clear hD hF HF7
              have u0 : (w8.alloc (.cells #[.int .i64 jv, .slice x1 jA.length m1, .slice x2 jG.length m2] 26)).cell? ⟨B, 0, none⟩ = some (.int .i64 l.ver) := (unhide HS _ (unhide HF8).1).2.1.cell 0
              by_cases h3 : E3 = 0
              · subst h3
                have HG := hide ((unhide HJ).2.2.2.2 rfl)
                have hw : IntKind.i64.wrap (l.ver + 1) = l.ver + 1 := by rw [IntKind.wrap_i64]; have := (unhide HJ).2.2.1; have := (unhide HJ).2.2.2.1; have := unhide HPV; omega
                go_upto_region 18 with (fail)
                obtain ⟨g1, g2, ov, g3⟩ := unhide HG
                have HF9 : Hid (Fr (fun _ => False) W0 (w8.alloc (.cells #[.int .i64 (l.ver + 1), .slice x1 jA.length m1, .slice x2 jG.length m2] 26)) ∧ Bx (w8.alloc (.cells #[.int .i64 (l.ver + 1), .slice x1 jA.length m1, .slice x2 jG.length m2] 26)) Q #[.int .i64 (l.ver + 1), .slice x1 jA.length m1, .slice x2 jG.length m2] 26 ∧ DI (w8.alloc (.cells #[.int .i64 (l.ver + 1), .slice x1 jA.length m1, .slice x2 jG.length m2] 26)) ⟨l.ver + 1, jA, jG⟩ x1 m1 x2 m2 ∧ Bx (w8.alloc (.cells #[.int .i64 (l.ver + 1), .slice x1 jA.length m1, .slice x2 jG.length m2] 26)) P2 #[.int .i64 nv, .slice no nt.length nc] 24 ∧ SAt (w8.alloc (.cells #[.int .i64 (l.ver + 1), .slice x1 jA.length m1, .slice x2 jG.length m2] 26)) no nt) := hide (by
                  obtain ⟨p1, p2, p3, p4, p5⟩ := unhide HX8
                  have hg : Fr (fun _ => False) w8 (w8.alloc (.cells #[.int .i64 (l.ver + 1), .slice x1 jA.length m1, .slice x2 jG.length m2] 26)) := (Fr.refl _ _).alloc _
                  exact ⟨p1.alloc _, by rw [← unhide HQ]; exact Bx.new _ _ _, ⟨p3.add.sat.keep hg, p3.gone.sat.keep hg, by show jA.length ≤ _; omega, by show jG.length ≤ _; omega, by show l.ver + 1 ≤ _; have := (unhide HJ).2.2.2.1; have := unhide HPV; omega, p3.add.len, p3.gone.len⟩, p4.keep hg, p5.keep hg⟩)
                have RA := apply_any (w8.alloc (.cells #[.int .i64 (l.ver + 1), .slice x1 jA.length m1, .slice x2 jG.length m2] 26)) l a0 c0 (unhide HS _ (unhide HF9).1).2.2.2.2.1 ⟨l.ver + 1, jA, jG⟩ x1 m1 x2 m2 (unhide HF9).2.2.1
                rw [g3] at RA
                unfold Applied rlC dlC at RA
                simp only at RA
                have RA := hide RA
                have HNL := hide (unhide HJ).1
                clear g1 g2 g3 u0 hw HF8 HX8 HJ HG
                have u0 : (w8.alloc (.cells #[.int .i64 (l.ver + 1), .slice x1 jA.length m1, .slice x2 jG.length m2] 26)).cell? ⟨B, 0, none⟩ = some (.int .i64 l.ver) := (unhide HS _ (unhide HF9).1).2.1.cell 0
                have u1 : (w8.alloc (.cells #[.int .i64 (l.ver + 1), .slice x1 jA.length m1, .slice x2 jG.length m2] 26)).cell? ⟨B, 1, none⟩ = some (.slice a0 l.toks.length c0) := (unhide HS _ (unhide HF9).1).2.1.cell 1
                go_wp2_with fail
                refine (unhide RA).mono ?_
                clear RA u0 u1
                rintro e w9 ⟨oo, oc, og, rfl, hL, hF⟩
                have HFA : Hid (Fr (fun _ => False) W0 (w9.alloc (.cells #[.int .i64 ov, .slice oo nt.length oc] 24)) ∧ Bx (w9.alloc (.cells #[.int .i64 ov, .slice oo nt.length oc] 24)) P2 #[.int .i64 nv, .slice no nt.length nc] 24 ∧ SAt (w9.alloc (.cells #[.int .i64 ov, .slice oo nt.length oc] 24)) no nt ∧ SAt (w9.alloc (.cells #[.int .i64 ov, .slice oo nt.length oc] 24)) oo nt) := hide (by
                  obtain ⟨p1, p2, p3, p4, p5⟩ := unhide HF9
                  have hg : Fr (fun _ => False) w9 (w9.alloc (.cells #[.int .i64 ov, .slice oo nt.length oc] 24)) := (Fr.refl _ _).alloc _
                  have hg2 := hF.trans hg (fun _ _ t => t)
                  exact ⟨p1.trans hg2 (fun _ _ t => t), p4.keep hg2, p5.keep hg2, hL.sat.keep hg⟩)
                clear hL hF HF9
                have u1 : (w9.alloc (.cells #[.int .i64 ov, .slice oo nt.length oc] 24)).cell? ⟨P2, 1, none⟩ = some (.slice no nt.length nc) := (unhide HFA).2.1.cell 1
                have RS := hide (sameT_is _ nt no nc oo oc (unhide HFA).2.2.1 (unhide HFA).2.2.2 (by have := unhide HNL; omega))
                go_wp2_with fail
                refine (unhide RS).mono ?_
                clear RS u1
                rintro e wA ⟨rfl, hF⟩
                have HFF := hide (unhide HS _ ((unhide HFA).1.trans hF (fun _ _ t => t))).1
                clear hF HFA HS
                go_wp2
                go_ret
                exact ⟨by first | rfl | simp, unhide HFF⟩
              · have h4 : E3 = 2 := (unhide HJ).2.1.resolve_left h3
                subst h4
                have HFF := hide (unhide HS _ (unhide HF8).1).1
                clear HF8 h3 HJ u0
                go_wp2
                go_ret
                exact ⟨by first | rfl | simp, unhide HFF⟩
            · have hx : (E2 == 0) = false := by rw [beq_eq_false_iff_ne]; exact h2
              have HFF := hide (unhide HS _ (unhide HF7).1).1
              clear HF7 R3 HI4 h2
              go_wp2
              go_ret
              exact ⟨by first | rfl | simp, unhide HFF⟩
    · as_aux_lemma =>
        go_wp2_with fail
        refine (unhide R2 w6 (unhide HM w6 (unhide HF6)).1 ao cap (unhide HM w6 (unhide HF6)).2.2).mono ?_
        clear x0 x1 y0 y1 y2 R2
        rintro e w7 ⟨no, nc, ng, rfl, hL, hF⟩
        obtain ⟨P2, HP2⟩ : ∃ P, Hid (w7.heap.size = P) := ⟨_, rfl⟩
        have HF7 : Hid (Fr (fun _ => False) W0 (w7.alloc (.cells #[.int .i64 nv, .slice no nt.length nc] 24)) ∧ Bx (w7.alloc (.cells #[.int .i64 nv, .slice no nt.length nc] 24)) P2 #[.int .i64 nv, .slice no nt.length nc] 24 ∧ LO w6 (w7.alloc (.cells #[.int .i64 nv, .slice no nt.length nc] 24)) no nc ng nt) := hide ⟨((unhide HM w6 (unhide HF6)).1.trans hF (fun _ _ t => t)).alloc _, by rw [← unhide HP2]; exact Bx.new _ _ _, hL.keep ((Fr.refl _ _).alloc _)⟩
        clear hL hF HF6 HM
        by_cases h2 : E2 = 0
        · subst h2
          obtain ⟨j1, j2, j3, j4, j5⟩ := unhide HI4 rfl
          have HJ := hide (And.intro j1 (And.intro j2 (And.intro j3 (And.intro j4 j5))))
          clear j1 j2 j3 j4 j5 HI4
          have x0 : (w7.alloc (.cells #[.int .i64 nv, .slice no nt.length nc] 24)).cell? ⟨B + 1, 0, none⟩ = some (.int .i64 p.ver) := (unhide HS _ (unhide HF7).1).2.2.1.cell 0
          have x1 : (w7.alloc (.cells #[.int .i64 nv, .slice no nt.length nc] 24)).cell? ⟨B + 1, 1, none⟩ = some (.slice a1 p.add.length c1) := (unhide HS _ (unhide HF7).1).2.2.1.cell 1
          have x2 : (w7.alloc (.cells #[.int .i64 nv, .slice no nt.length nc] 24)).cell? ⟨B + 1, 2, none⟩ = some (.slice a2 p.gone.length c2) := (unhide HS _ (unhide HF7).1).2.2.1.cell 2
          have y0 : (w7.alloc (.cells #[.int .i64 nv, .slice no nt.length nc] 24)).cell? ⟨B + 1 + 1, 0, none⟩ = some (.int .i64 q.ver) := (unhide HS _ (unhide HF7).1).2.2.2.1.cell 0
          have y1 : (w7.alloc (.cells #[.int .i64 nv, .slice no nt.length nc] 24)).cell? ⟨B + 1 + 1, 1, none⟩ = some (.slice b1 q.add.length k1) := (unhide HS _ (unhide HF7).1).2.2.2.1.cell 1
          have y2 : (w7.alloc (.cells #[.int .i64 nv, .slice no nt.length nc] 24)).cell? ⟨B + 1 + 1, 2, none⟩ = some (.slice b2 q.gone.length k2) := (unhide HS _ (unhide HF7).1).2.2.2.1.cell 2
          go_wp2_with fail
          rw [unhide HP2]
          refine (unhide R3 _ (unhide HF7).1).mono ?_
          clear x0 x1 x2 y0 y1 y2 R3
          rintro e w8 ⟨x1, m1, n1, x2, m2, n2, rfl, hD, hF⟩
          obtain ⟨Q, HQ⟩ : ∃ Q, Hid (w8.heap.size = Q) := ⟨_, rfl⟩
          have HF8 : Hid (Fr (fun _ => False) W0 (w8.alloc (.cells #[.int .i64 jv, .slice x1 jA.length m1, .slice x2 jG.length m2] 26)) ∧ Bx (w8.alloc (.cells #[.int .i64 jv, .slice x1 jA.length m1, .slice x2 jG.length m2] 26)) Q #[.int .i64 jv, .slice x1 jA.length m1, .slice x2 jG.length m2] 26 ∧ DO w7 (w8.alloc (.cells #[.int .i64 jv, .slice x1 jA.length m1, .slice x2 jG.length m2] 26)) ⟨jv, jA, jG⟩ x1 m1 n1 x2 m2 n2 ∧ Bx (w8.alloc (.cells #[.int .i64 jv, .slice x1 jA.length m1, .slice x2 jG.length m2] 26)) P2 #[.int .i64 nv, .slice no nt.length nc] 24 ∧ SAt (w8.alloc (.cells #[.int .i64 jv, .slice x1 jA.length m1, .slice x2 jG.length m2] 26)) no nt) := hide (by
            obtain ⟨p1, p2, p3⟩ := unhide HF7
            have hg : Fr (fun _ => False) w8 (w8.alloc (.cells #[.int .i64 jv, .slice x1 jA.length m1, .slice x2 jG.length m2] 26)) := (Fr.refl _ _).alloc _
            have hg2 := hF.trans hg (fun _ _ t => t)
            exact ⟨p1.trans hg2 (fun _ _ t => t), by rw [← unhide HQ]; exact Bx.new _ _ _, (hD.later (by rw [heap_alloc]; omega)).keep hg, p2.keep hg2, p3.sat.keep hg2⟩)
          have HX8 : Hid (Fr (fun _ => False) W0 w8 ∧ True ∧ DO w7 w8 ⟨jv, jA, jG⟩ x1 m1 n1 x2 m2 n2 ∧ Bx w8 P2 #[.int .i64 nv, .slice no nt.length nc] 24 ∧ SAt w8 no nt) := hide (by
            obtain ⟨p1, p2, p3⟩ := unhide HF7
            exact ⟨p1.trans hF (fun _ _ t => t), trivial, hD.later (by rw [heap_alloc]; omega), p2.keep hF, p3.sat.keep hF⟩)
          clear hD hF HF7
          have u0 : (w8.alloc (.cells #[.int .i64 jv, .slice x1 jA.length m1, .slice x2 jG.length m2] 26)).cell? ⟨B, 0, none⟩ = some (.int .i64 l.ver) := (unhide HS _ (unhide HF8).1).2.1.cell 0
          by_cases h3 : E3 = 0
          · subst h3
            have HG := hide ((unhide HJ).2.2.2.2 rfl)
            have hw : IntKind.i64.wrap (l.ver + 1) = l.ver + 1 := by rw [IntKind.wrap_i64]; have := (unhide HJ).2.2.1; have := (unhide HJ).2.2.2.1; have := unhide HPV; omega
            go_upto_region 18 with (fail)
            obtain ⟨g1, g2, ov, g3⟩ := unhide HG
            have HF9 : Hid (Fr (fun _ => False) W0 (w8.alloc (.cells #[.int .i64 (l.ver + 1), .slice x1 jA.length m1, .slice x2 jG.length m2] 26)) ∧ Bx (w8.alloc (.cells #[.int .i64 (l.ver + 1), .slice x1 jA.length m1, .slice x2 jG.length m2] 26)) Q #[.int .i64 (l.ver + 1), .slice x1 jA.length m1, .slice x2 jG.length m2] 26 ∧ DI (w8.alloc (.cells #[.int .i64 (l.ver + 1), .slice x1 jA.length m1, .slice x2 jG.length m2] 26)) ⟨l.ver + 1, jA, jG⟩ x1 m1 x2 m2 ∧ Bx (w8.alloc (.cells #[.int .i64 (l.ver + 1), .slice x1 jA.length m1, .slice x2 jG.length m2] 26)) P2 #[.int .i64 nv, .slice no nt.length nc] 24 ∧ SAt (w8.alloc (.cells #[.int .i64 (l.ver + 1), .slice x1 jA.length m1, .slice x2 jG.length m2] 26)) no nt) := hide (by
              obtain ⟨p1, p2, p3, p4, p5⟩ := unhide HX8
              have hg : Fr (fun _ => False) w8 (w8.alloc (.cells #[.int .i64 (l.ver + 1), .slice x1 jA.length m1, .slice x2 jG.length m2] 26)) := (Fr.refl _ _).alloc _
              exact ⟨p1.alloc _, by rw [← unhide HQ]; exact Bx.new _ _ _, ⟨p3.add.sat.keep hg, p3.gone.sat.keep hg, by show jA.length ≤ _; omega, by show jG.length ≤ _; omega, by show l.ver + 1 ≤ _; have := (unhide HJ).2.2.2.1; have := unhide HPV; omega, p3.add.len, p3.gone.len⟩, p4.keep hg, p5.keep hg⟩)
            have RA := apply_any (w8.alloc (.cells #[.int .i64 (l.ver + 1), .slice x1 jA.length m1, .slice x2 jG.length m2] 26)) l a0 c0 (unhide HS _ (unhide HF9).1).2.2.2.2.1 ⟨l.ver + 1, jA, jG⟩ x1 m1 x2 m2 (unhide HF9).2.2.1
            rw [g3] at RA
            unfold Applied rlC dlC at RA
            simp only at RA
            have RA := hide RA
            have HNL := hide (unhide HJ).1
            clear g1 g2 g3 u0 hw HF8 HX8 HJ HG
            have u0 : (w8.alloc (.cells #[.int .i64 (l.ver + 1), .slice x1 jA.length m1, .slice x2 jG.length m2] 26)).cell? ⟨B, 0, none⟩ = some (.int .i64 l.ver) := (unhide HS _ (unhide HF9).1).2.1.cell 0
            have u1 : (w8.alloc (.cells #[.int .i64 (l.ver + 1), .slice x1 jA.length m1, .slice x2 jG.length m2] 26)).cell? ⟨B, 1, none⟩ = some (.slice a0 l.toks.length c0) := (unhide HS _ (unhide HF9).1).2.1.cell 1
            go_wp2_with fail
            refine (unhide RA).mono ?_
            clear RA u0 u1
            rintro e w9 ⟨oo, oc, og, rfl, hL, hF⟩
            have HFA : Hid (Fr (fun _ => False) W0 (w9.alloc (.cells #[.int .i64 ov, .slice oo nt.length oc] 24)) ∧ Bx (w9.alloc (.cells #[.int .i64 ov, .slice oo nt.length oc] 24)) P2 #[.int .i64 nv, .slice no nt.length nc] 24 ∧ SAt (w9.alloc (.cells #[.int .i64 ov, .slice oo nt.length oc] 24)) no nt ∧ SAt (w9.alloc (.cells #[.int .i64 ov, .slice oo nt.length oc] 24)) oo nt) := hide (by
              obtain ⟨p1, p2, p3, p4, p5⟩ := unhide HF9
              have hg : Fr (fun _ => False) w9 (w9.alloc (.cells #[.int .i64 ov, .slice oo nt.length oc] 24)) := (Fr.refl _ _).alloc _
              have hg2 := hF.trans hg (fun _ _ t => t)
              exact ⟨p1.trans hg2 (fun _ _ t => t), p4.keep hg2, p5.keep hg2, hL.sat.keep hg⟩)
            clear hL hF HF9
            have u1 : (w9.alloc (.cells #[.int .i64 ov, .slice oo nt.length oc] 24)).cell? ⟨P2, 1, none⟩ = some (.slice no nt.length nc) := (unhide HFA).2.1.cell 1
            have RS := hide (sameT_is _ nt no nc oo oc (unhide HFA).2.2.1 (unhide HFA).2.2.2 (by have := unhide HNL; omega))
            go_wp2_with fail
            refine (unhide RS).mono ?_
            clear RS u1
            rintro e wA ⟨rfl, hF⟩
            have HFF := hide (unhide HS _ ((unhide HFA).1.trans hF (fun _ _ t => t))).1
            clear hF HFA HS
            go_wp2
            go_ret
            exact ⟨by first | rfl | simp, unhide HFF⟩
          · have h4 : E3 = 2 := (unhide HJ).2.1.resolve_left h3
            subst h4
            have HFF := hide (unhide HS _ (unhide HF8).1).1
            clear HF8 h3 HJ u0
            go_wp2
            go_ret
            exact ⟨by first | rfl | simp, unhide HFF⟩
        · have hx : (E2 == 0) = false := by rw [beq_eq_false_iff_ne]; exact h2
          have HFF := hide (unhide HS _ (unhide HF7).1).1
          clear HF7 R3 HI4 h2
          go_wp2
          go_ret
          exact ⟨by first | rfl | simp, unhide HFF⟩
  · obtain ⟨rfl, rfl⟩ := unhide HBAD h1
    have hx : (E1 == 0) = false := by rw [beq_eq_false_iff_ne]; exact h1
    have HFF := hide (unhide HS _ (unhide HF2).1).1
    clear HF2 R2 R3 HOK HBAD
    simp only [List.length_nil]
    go_wp2
    go_ret
    exact ⟨by first | rfl | simp, unhide HFF⟩

end Go.Proofs.YtmhljehkodhggaaGreat

