import Derived.Test.YtmhljehkodhggaaGreatUF
/- The document's own: two deltas as one. -/
namespace Go.Proofs.YtmhljehkodhggaaGreat
open Go.RowKit

def rjA (a b : Dl) : List ByteArray := putsL (outL a.add b.gone) (outL b.add a.gone)
def rjG (a b : Dl) : List ByteArray := putsL (outL a.gone b.add) (outL b.gone a.add)
/-- The document's one delta for two, or what is wrong. -/
def refJoinR (a b : Dl) : Dl × Int := if deltaOk a = false then (dl0, 80) else if deltaOk b = false then (dl0, 80) else if (b.ver - 1 == a.ver) = false then (dl0, 130) else if a.add.any (memS b.add) = true then (dl0, 131) else if a.gone.any (memS b.gone) = true then (dl0, 131)
  else if 1000 < (rjA a b).length then (dl0, 2) else if 1000 < (rjG a b).length then (dl0, 2) else (⟨b.ver, rjA a b, rjG a b⟩, 0)
theorem refJoin_eq (a b : Dl) : refJoinR a b = joinR a b := by
  unfold refJoinR joinR joinE
  by_cases h1 : deltaOk a = false
  · rw [if_pos h1, if_pos h1, if_pos (by omega)]
  · rw [if_neg h1, if_neg h1]
    by_cases h2 : deltaOk b = false
    · rw [if_pos h2, if_pos h2, if_pos (by omega)]
    · rw [if_neg h2, if_neg h2]
      obtain ⟨_, d1, d2, _⟩ := deltaOk_iff.1 (show deltaOk a = true by simpa using h1)
      obtain ⟨_, e1, e2, _⟩ := deltaOk_iff.1 (show deltaOk b = true by simpa using h2)
      by_cases h3 : (b.ver - 1 == a.ver) = false
      · rw [if_pos h3, if_pos h3, if_pos (by omega)]
      · rw [if_neg h3, if_neg h3, any_co (listOk_ris d1) (listOk_ris e1), any_co (listOk_ris d2) (listOk_ris e2)]
        by_cases h4 : 0 < (coL a.add b.add).length
        · rw [if_pos (decide_eq_true h4), if_pos h4, if_pos (by omega)]
        · rw [if_neg (by simpa using h4), if_neg h4]
          by_cases h5 : 0 < (coL a.gone b.gone).length
          · rw [if_pos (decide_eq_true h5), if_pos h5, if_pos (by omega)]
          · rw [if_neg (by simpa using h5), if_neg h5]
            have eA : rjA a b = joinA a b := by
              unfold rjA joinA
              rw [outL_eq (listOk_ris d1) (listOk_ris e2), outL_eq (listOk_ris e1) (listOk_ris d2), puts_eq (woL_ris (listOk_ris d1) (listOk_ris e2)) (woL_ris (listOk_ris e1) (listOk_ris d2))]
            have eG : rjG a b = joinG a b := by
              unfold rjG joinG
              rw [outL_eq (listOk_ris d2) (listOk_ris e1), outL_eq (listOk_ris e2) (listOk_ris d1), puts_eq (woL_ris (listOk_ris d2) (listOk_ris e1)) (woL_ris (listOk_ris e2) (listOk_ris d1))]
            rw [eA, eG]
            by_cases h6 : 1000 < (joinA a b).length
            · simp [h6]
            · by_cases h7 : 1000 < (joinG a b).length
              · simp [h7]
              · simp [h6, h7]

/-- What the document's Join comes to. -/
def Delta3 (w : World) (r : Dl × Int) (e : Ending) (w' : World) : Prop := ∃ a1 c1 g1 a2 c2 g2, e = .returned (.tuple #[.agg (dlC r.1 a1 c1 a2 c2), .int .i64 r.2]) ∧ LO w w' a1 c1 g1 r.1.add ∧ LO w w' a2 c2 g2 r.1.gone ∧ Fr (fun _ => False) w w'

/-- A delta that is being made: its box, its two rows. -/
structure JS (W0 wr : World) (Q : Nat) (v : Int) (A G : List ByteArray) (a1 : Option Addr) (c1 g1 : Nat) (a2 : Option Addr) (c2 g2 : Nat) : Prop where
  fr : Fr (fun _ => False) W0 wr
  bx : Bx wr Q #[.int .i64 v, .slice a1 A.length c1, .slice a2 G.length c2] 26
  ra : LO W0 wr a1 c1 g1 A
  rg : LO W0 wr a2 c2 g2 G
  na : 0 < c1 → g1 ≠ Q
  ng : 0 < c2 → g2 ≠ Q
  low : W0.heap.size ≤ Q
theorem JS.keep {W0 wr w' : World} {Q : Nat} {v : Int} {A G : List ByteArray} {a1 : Option Addr} {c1 g1 : Nat} {a2 : Option Addr} {c2 g2 : Nat} (h : JS W0 wr Q v A G a1 c1 g1 a2 c2 g2) (hf : Fr (fun _ => False) wr w') : JS W0 w' Q v A G a1 c1 g1 a2 c2 g2 := ⟨h.fr.trans hf (fun _ _ t => t), h.bx.keep hf, h.ra.keep hf, h.rg.keep hf, h.na, h.ng, h.low⟩
theorem JS.putA {W0 wr w8 : World} {Q : Nat} {v : Int} {A A' G : List ByteArray} {a1 ao : Option Addr} {c1 g1 cap g : Nat} {a2 : Option Addr} {c2 g2 : Nat} (h : JS W0 wr Q v A G a1 c1 g1 a2 c2 g2) (hf : Fr (fun _ => False) wr w8) (hL : LO W0 w8 ao cap g A') (ho : (cap = c1 ∧ g = g1) ∨ (0 < cap → wr.heap.size ≤ g)) {n : Nat} (hn : n = A'.length) :
    JS W0 (w8.setCell ⟨Q, 1, none⟩ (.slice ao n cap)) Q v A' G ao cap g a2 c2 g2 ∧ Fr (fun k => k = Q) w8 (w8.setCell ⟨Q, 1, none⟩ (.slice ao n cap)) := by
  subst hn
  have hs : Fr (fun k => k = Q) w8 (w8.setCell ⟨Q, 1, none⟩ (.slice ao A'.length cap)) := (Fr.refl (fun k => k = Q) w8).setCell (fun _ => rfl) _
  have hq := h.bx.lt
  have hlow := h.low
  have hne : 0 < cap → g ≠ Q := fun hc => by
    rcases ho with ⟨e1, e2⟩ | ho
    · subst e1 e2; exact h.na hc
    · have := ho hc; omega
  exact ⟨⟨(h.fr.trans hf (fun _ _ t => t)).trans hs (fun i hi t => by omega), (h.bx.keep hf).setCell 1 _, hL.go hs hne, (h.rg.keep hf).go hs h.ng, hne, h.ng, h.low⟩, hs⟩
theorem JS.putG {W0 wr w8 : World} {Q : Nat} {v : Int} {A G' G : List ByteArray} {a1 ao : Option Addr} {c1 g1 cap g : Nat} {a2 : Option Addr} {c2 g2 : Nat} (h : JS W0 wr Q v A G a1 c1 g1 a2 c2 g2) (hf : Fr (fun _ => False) wr w8) (hL : LO W0 w8 ao cap g G') (ho : (cap = c2 ∧ g = g2) ∨ (0 < cap → wr.heap.size ≤ g)) {n : Nat} (hn : n = G'.length) :
    JS W0 (w8.setCell ⟨Q, 2, none⟩ (.slice ao n cap)) Q v A G' a1 c1 g1 ao cap g ∧ Fr (fun k => k = Q) w8 (w8.setCell ⟨Q, 2, none⟩ (.slice ao n cap)) := by
  subst hn
  have hs : Fr (fun k => k = Q) w8 (w8.setCell ⟨Q, 2, none⟩ (.slice ao G'.length cap)) := (Fr.refl (fun k => k = Q) w8).setCell (fun _ => rfl) _
  have hq := h.bx.lt
  have hlow := h.low
  have hne : 0 < cap → g ≠ Q := fun hc => by
    rcases ho with ⟨e1, e2⟩ | ho
    · subst e1 e2; exact h.ng hc
    · have := ho hc; omega
  exact ⟨⟨(h.fr.trans hf (fun _ _ t => t)).trans hs (fun i hi t => by omega), (h.bx.keep hf).setCell 2 _, (h.ra.keep hf).go hs h.na, hL.go hs hne, h.na, hne, h.low⟩, hs⟩

set_option maxHeartbeats 8000000 in
set_option maxRecDepth 20000 in
theorem refJoin_any (w : World) (d : Dl) (a1 : Option Addr) (c1 : Nat) (a2 : Option Addr) (c2 : Nat) (hd : DI w d a1 c1 a2 c2) (q : Dl) (b1 : Option Addr) (k1 : Nat) (b2 : Option Addr) (k2 : Nat) (hq : DI w q b1 k1 b2 k2) :
    Calls Tryz.prog 23 #[.agg (dlC d a1 c1 a2 c2), .agg (dlC q b1 k1 b2 k2)] w (Delta3 w (joinR d q)) := by
  rw [← refJoin_eq]
  obtain ⟨B, HB⟩ : ∃ B, Hid (w.heap.size = B) := ⟨_, rfl⟩
  obtain ⟨W0, HW0⟩ : ∃ W, Hid (W = ((w.alloc (.cells (dlC d a1 c1 a2 c2) 26)).alloc (.cells (dlC q b1 k1 b2 k2) 26)).alloc (.cells #[.int .i64 0, .slice none 0 0, .slice none 0 0] 26)) := ⟨_, rfl⟩
  have HS : Hid (∀ w', Fr (fun _ => False) W0 w' → Fr (fun _ => False) w w' ∧ Bx w' B #[.int .i64 d.ver, .slice a1 d.add.length c1, .slice a2 d.gone.length c2] 26 ∧ Bx w' (B + 1) #[.int .i64 q.ver, .slice b1 q.add.length k1, .slice b2 q.gone.length k2] 26 ∧ Bx w' (B + 1 + 1) #[.int .i64 0, .slice none 0 0, .slice none 0 0] 26 ∧ DI w' d a1 c1 a2 c2 ∧ DI w' q b1 k1 b2 k2) := hide (fun w' hf => by
    rw [unhide HW0] at hf
    have z1 : Bx (((w.alloc (.cells (dlC d a1 c1 a2 c2) 26)).alloc (.cells (dlC q b1 k1 b2 k2) 26)).alloc (.cells #[.int .i64 0, .slice none 0 0, .slice none 0 0] 26)) w.heap.size (dlC d a1 c1 a2 c2) 26 := ((Bx.new _ _ _).alloc _).alloc _
    have z2 := (Bx.new (w.alloc (.cells (dlC d a1 c1 a2 c2) 26)) (dlC q b1 k1 b2 k2) 26).alloc (.cells #[.int .i64 0, .slice none 0 0, .slice none 0 0] 26)
    have z3 := Bx.new ((w.alloc (.cells (dlC d a1 c1 a2 c2) 26)).alloc (.cells (dlC q b1 k1 b2 k2) 26)) #[.int .i64 0, .slice none 0 0, .slice none 0 0] 26
    rw [heap_alloc] at z2
    rw [heap_alloc, heap_alloc] at z3
    rw [unhide HB] at z1 z2 z3
    have h0 : Fr (fun _ => False) w w' := ((((Fr.refl _ w).alloc _).alloc _).alloc _).trans hf (fun _ _ t => t)
    exact ⟨h0, z1.keep hf, z2.keep hf, z3.keep hf, hd.keep h0, hq.keep h0⟩)
  have HBw : Hid (w.heap.size ≤ B) := hide (by rw [← unhide HB]; exact Nat.le_refl _)
  have HR : Hid (refJoinR d q = if deltaOk d = false then (dl0, 80) else if deltaOk q = false then (dl0, 80) else if (q.ver - 1 == d.ver) = false then (dl0, 130) else if d.add.any (memS q.add) = true then (dl0, 131) else if d.gone.any (memS q.gone) = true then (dl0, 131) else if 1000 < (rjA d q).length then (dl0, 2) else if 1000 < (rjG d q).length then (dl0, 2) else (⟨q.ver, rjA d q, rjG d q⟩, 0)) := hide rfl
  have HKd : Hid (deltaOk d = true → 1 ≤ d.ver ∧ d.add.length ≤ 1000 ∧ d.gone.length ≤ 1000) := hide (fun h => ⟨(deltaOk_iff.1 h).1, listOk_len (deltaOk_iff.1 h).2.1, listOk_len (deltaOk_iff.1 h).2.2.1⟩)
  have HKq : Hid (deltaOk q = true → 1 ≤ q.ver ∧ q.add.length ≤ 1000 ∧ q.gone.length ≤ 1000) := hide (fun h => ⟨(deltaOk_iff.1 h).1, listOk_len (deltaOk_iff.1 h).2.1, listOk_len (deltaOk_iff.1 h).2.2.1⟩)
  have HQV := hide hq.ver
  have RD : Hid (∀ w', Fr (fun _ => False) W0 w' → Calls Tryz.prog 31 #[.agg #[.int .i64 d.ver, .slice a1 d.add.length c1, .slice a2 d.gone.length c2]] w' fun e w'' => e = .returned (.bool (deltaOk d)) ∧ Fr (fun _ => False) w' w'') := hide (fun w' hf => deltaRight_any d w' a1 c1 a2 c2 (unhide HS w' hf).2.2.2.2.1.add (unhide HS w' hf).2.2.2.2.1.gone (unhide HS w' hf).2.2.2.2.1.l1 (unhide HS w' hf).2.2.2.2.1.l2)
  have RQ : Hid (∀ w', Fr (fun _ => False) W0 w' → Calls Tryz.prog 31 #[.agg #[.int .i64 q.ver, .slice b1 q.add.length k1, .slice b2 q.gone.length k2]] w' fun e w'' => e = .returned (.bool (deltaOk q)) ∧ Fr (fun _ => False) w' w'') := hide (fun w' hf => deltaRight_any q w' b1 k1 b2 k2 (unhide HS w' hf).2.2.2.2.2.add (unhide HS w' hf).2.2.2.2.2.gone (unhide HS w' hf).2.2.2.2.2.l1 (unhide HS w' hf).2.2.2.2.2.l2)
  clear hd hq
  unfold dlC at HW0 ⊢
  go_enter Tryz.func23, Tryz.ntmps23
  go_wp2_with fail
  rw [← unhide HW0, unhide HB]
  clear HW0 HB
  refine (unhide RD W0 (Fr.refl _ _)).mono ?_
  clear RD
  rintro e w1 ⟨rfl, hF⟩
  have HF1 := hide hF
  clear hF
  have x0 : w1.cell? ⟨B + 1, 0, none⟩ = some (.int .i64 q.ver) := (unhide HS _ (unhide HF1)).2.2.1.cell 0
  have x1 : w1.cell? ⟨B + 1, 1, none⟩ = some (.slice b1 q.add.length k1) := (unhide HS _ (unhide HF1)).2.2.1.cell 1
  have x2 : w1.cell? ⟨B + 1, 2, none⟩ = some (.slice b2 q.gone.length k2) := (unhide HS _ (unhide HF1)).2.2.1.cell 2
  go_wp2_with fail
  refine (unhide RQ w1 (unhide HF1)).mono ?_
  clear RQ x0 x1 x2
  rintro e w2 ⟨rfl, hF⟩
  have HF2 := hide ((unhide HF1).trans hF (fun _ _ t => t))
  clear hF HF1
  cases h1 : deltaOk d with
  | false =>
    clear HKd HKq
    generalize deltaOk q = oq at *
    have y0 : w2.cell? ⟨B + 1 + 1, 0, none⟩ = some (.int .i64 0) := (unhide HS _ (unhide HF2)).2.2.2.1.cell 0
    have y1 : w2.cell? ⟨B + 1 + 1, 1, none⟩ = some (.slice none 0 0) := (unhide HS _ (unhide HF2)).2.2.2.1.cell 1
    have y2 : w2.cell? ⟨B + 1 + 1, 2, none⟩ = some (.slice none 0 0) := (unhide HS _ (unhide HF2)).2.2.2.1.cell 2
    have z0 := (unhide HS _ (unhide HF2)).2.2.2.1.frozen 0
    have z1 := (unhide HS _ (unhide HF2)).2.2.2.1.frozen 1
    have z2 := (unhide HS _ (unhide HF2)).2.2.2.1.frozen 2
    go_wp2
    have hfin : Bx (((w2.setCell ⟨B + 1 + 1, 0, none⟩ (.int .i64 0)).setCell ⟨B + 1 + 1, 1, none⟩ (.slice none 0 0)).setCell ⟨B + 1 + 1, 2, none⟩ (.slice none 0 0)) (B + 1 + 1) #[.int .i64 0, .slice none 0 0, .slice none 0 0] 26 := ((((unhide HS _ (unhide HF2)).2.2.2.1).setCell 0 _).setCell 1 _).setCell 2 _
    have HFV : Hid (Fr (fun _ => False) w (((w2.setCell ⟨B + 1 + 1, 0, none⟩ (.int .i64 0)).setCell ⟨B + 1 + 1, 1, none⟩ (.slice none 0 0)).setCell ⟨B + 1 + 1, 2, none⟩ (.slice none 0 0))) := hide ((((((unhide HS _ (unhide HF2)).1)).setCell (fun h => absurd h (by show ¬ B + 1 + 1 < _; have := unhide HBw; omega)) _).setCell (fun h => absurd h (by show ¬ B + 1 + 1 < _; have := unhide HBw; omega)) _).setCell (fun h => absurd h (by show ¬ B + 1 + 1 < _; have := unhide HBw; omega)) _)
    have HFB : Hid (Fr (fun k => k = B + 1 + 1) w2 (((w2.setCell ⟨B + 1 + 1, 0, none⟩ (.int .i64 0)).setCell ⟨B + 1 + 1, 1, none⟩ (.slice none 0 0)).setCell ⟨B + 1 + 1, 2, none⟩ (.slice none 0 0))) := hide (((((Fr.refl (fun k => k = B + 1 + 1) _)).setCell (fun _ => rfl) _).setCell (fun _ => rfl) _).setCell (fun _ => rfl) _)
    generalize ((w2.setCell ⟨B + 1 + 1, 0, none⟩ (.int .i64 0)).setCell ⟨B + 1 + 1, 1, none⟩ (.slice none 0 0)).setCell ⟨B + 1 + 1, 2, none⟩ (.slice none 0 0) = V at *
    have x0 : V.cell? ⟨B + 1 + 1, 0, none⟩ = some (.int .i64 0) := hfin.cell 0
    have x1 : V.cell? ⟨B + 1 + 1, 1, none⟩ = some (.slice none 0 0) := hfin.cell 1
    have x2 : V.cell? ⟨B + 1 + 1, 2, none⟩ = some (.slice none 0 0) := hfin.cell 2
    clear hfin
    refine bodyPost_ret (v := .tuple #[.agg #[.int .i64 0, .slice none 0 0, .slice none 0 0], .int .i64 80]) ?_ rfl ?_
    · simp [results, Tryz.results23, go_sem, x0, x1, x2]
    · exact ⟨none, 0, 0, none, 0, 0, by rw [unhide HR, if_pos h1]; rfl, by rw [unhide HR, if_pos h1]; exact LO.nil _ _, by rw [unhide HR, if_pos h1]; exact LO.nil _ _, unhide HFV⟩
  | true =>
    have H1 := hide h1
    obtain ⟨v1, n1, n2⟩ := unhide HKd h1
    clear h1 HKd
    cases h2 : deltaOk q with
    | false =>
      clear HKq
      have y0 : w2.cell? ⟨B + 1 + 1, 0, none⟩ = some (.int .i64 0) := (unhide HS _ (unhide HF2)).2.2.2.1.cell 0
      have y1 : w2.cell? ⟨B + 1 + 1, 1, none⟩ = some (.slice none 0 0) := (unhide HS _ (unhide HF2)).2.2.2.1.cell 1
      have y2 : w2.cell? ⟨B + 1 + 1, 2, none⟩ = some (.slice none 0 0) := (unhide HS _ (unhide HF2)).2.2.2.1.cell 2
      have z0 := (unhide HS _ (unhide HF2)).2.2.2.1.frozen 0
      have z1 := (unhide HS _ (unhide HF2)).2.2.2.1.frozen 1
      have z2 := (unhide HS _ (unhide HF2)).2.2.2.1.frozen 2
      go_wp2
      have hfin : Bx (((w2.setCell ⟨B + 1 + 1, 0, none⟩ (.int .i64 0)).setCell ⟨B + 1 + 1, 1, none⟩ (.slice none 0 0)).setCell ⟨B + 1 + 1, 2, none⟩ (.slice none 0 0)) (B + 1 + 1) #[.int .i64 0, .slice none 0 0, .slice none 0 0] 26 := ((((unhide HS _ (unhide HF2)).2.2.2.1).setCell 0 _).setCell 1 _).setCell 2 _
      have HFV : Hid (Fr (fun _ => False) w (((w2.setCell ⟨B + 1 + 1, 0, none⟩ (.int .i64 0)).setCell ⟨B + 1 + 1, 1, none⟩ (.slice none 0 0)).setCell ⟨B + 1 + 1, 2, none⟩ (.slice none 0 0))) := hide ((((((unhide HS _ (unhide HF2)).1)).setCell (fun h => absurd h (by show ¬ B + 1 + 1 < _; have := unhide HBw; omega)) _).setCell (fun h => absurd h (by show ¬ B + 1 + 1 < _; have := unhide HBw; omega)) _).setCell (fun h => absurd h (by show ¬ B + 1 + 1 < _; have := unhide HBw; omega)) _)
      have HFB : Hid (Fr (fun k => k = B + 1 + 1) w2 (((w2.setCell ⟨B + 1 + 1, 0, none⟩ (.int .i64 0)).setCell ⟨B + 1 + 1, 1, none⟩ (.slice none 0 0)).setCell ⟨B + 1 + 1, 2, none⟩ (.slice none 0 0))) := hide (((((Fr.refl (fun k => k = B + 1 + 1) _)).setCell (fun _ => rfl) _).setCell (fun _ => rfl) _).setCell (fun _ => rfl) _)
      generalize ((w2.setCell ⟨B + 1 + 1, 0, none⟩ (.int .i64 0)).setCell ⟨B + 1 + 1, 1, none⟩ (.slice none 0 0)).setCell ⟨B + 1 + 1, 2, none⟩ (.slice none 0 0) = V at *
      have x0 : V.cell? ⟨B + 1 + 1, 0, none⟩ = some (.int .i64 0) := hfin.cell 0
      have x1 : V.cell? ⟨B + 1 + 1, 1, none⟩ = some (.slice none 0 0) := hfin.cell 1
      have x2 : V.cell? ⟨B + 1 + 1, 2, none⟩ = some (.slice none 0 0) := hfin.cell 2
      clear hfin
      refine bodyPost_ret (v := .tuple #[.agg #[.int .i64 0, .slice none 0 0, .slice none 0 0], .int .i64 80]) ?_ rfl ?_
      · simp [results, Tryz.results23, go_sem, x0, x1, x2]
      · exact ⟨none, 0, 0, none, 0, 0, by rw [unhide HR, if_neg (by rw [unhide H1]; simp), if_pos h2]; rfl, by rw [unhide HR, if_neg (by rw [unhide H1]; simp), if_pos h2]; exact LO.nil _ _, by rw [unhide HR, if_neg (by rw [unhide H1]; simp), if_pos h2]; exact LO.nil _ _, unhide HFV⟩
    | true =>
      have H2 := hide h2
      obtain ⟨v2, m1, m2⟩ := unhide HKq h2
      clear h2 HKq
      have hw : IntKind.i64.wrap (q.ver - 1) = q.ver - 1 := by rw [IntKind.wrap_i64]; have := unhide HQV; omega
      have x0 : w2.cell? ⟨B, 0, none⟩ = some (.int .i64 d.ver) := (unhide HS _ (unhide HF2)).2.1.cell 0
      have u0 : w2.cell? ⟨B + 1, 0, none⟩ = some (.int .i64 q.ver) := (unhide HS _ (unhide HF2)).2.2.1.cell 0
      cases h3 : (q.ver - 1 == d.ver) with
      | false =>
        have H3 := hide h3
        have hne : (q.ver - 1 != d.ver) = true := by rw [bne, h3]; rfl
        clear h3
        have y0 : w2.cell? ⟨B + 1 + 1, 0, none⟩ = some (.int .i64 0) := (unhide HS _ (unhide HF2)).2.2.2.1.cell 0
        have y1 : w2.cell? ⟨B + 1 + 1, 1, none⟩ = some (.slice none 0 0) := (unhide HS _ (unhide HF2)).2.2.2.1.cell 1
        have y2 : w2.cell? ⟨B + 1 + 1, 2, none⟩ = some (.slice none 0 0) := (unhide HS _ (unhide HF2)).2.2.2.1.cell 2
        have z0 := (unhide HS _ (unhide HF2)).2.2.2.1.frozen 0
        have z1 := (unhide HS _ (unhide HF2)).2.2.2.1.frozen 1
        have z2 := (unhide HS _ (unhide HF2)).2.2.2.1.frozen 2
        go_wp2
        have hfin : Bx (((w2.setCell ⟨B + 1 + 1, 0, none⟩ (.int .i64 0)).setCell ⟨B + 1 + 1, 1, none⟩ (.slice none 0 0)).setCell ⟨B + 1 + 1, 2, none⟩ (.slice none 0 0)) (B + 1 + 1) #[.int .i64 0, .slice none 0 0, .slice none 0 0] 26 := ((((unhide HS _ (unhide HF2)).2.2.2.1).setCell 0 _).setCell 1 _).setCell 2 _
        have HFV : Hid (Fr (fun _ => False) w (((w2.setCell ⟨B + 1 + 1, 0, none⟩ (.int .i64 0)).setCell ⟨B + 1 + 1, 1, none⟩ (.slice none 0 0)).setCell ⟨B + 1 + 1, 2, none⟩ (.slice none 0 0))) := hide ((((((unhide HS _ (unhide HF2)).1)).setCell (fun h => absurd h (by show ¬ B + 1 + 1 < _; have := unhide HBw; omega)) _).setCell (fun h => absurd h (by show ¬ B + 1 + 1 < _; have := unhide HBw; omega)) _).setCell (fun h => absurd h (by show ¬ B + 1 + 1 < _; have := unhide HBw; omega)) _)
        have HFB : Hid (Fr (fun k => k = B + 1 + 1) w2 (((w2.setCell ⟨B + 1 + 1, 0, none⟩ (.int .i64 0)).setCell ⟨B + 1 + 1, 1, none⟩ (.slice none 0 0)).setCell ⟨B + 1 + 1, 2, none⟩ (.slice none 0 0))) := hide (((((Fr.refl (fun k => k = B + 1 + 1) _)).setCell (fun _ => rfl) _).setCell (fun _ => rfl) _).setCell (fun _ => rfl) _)
        generalize ((w2.setCell ⟨B + 1 + 1, 0, none⟩ (.int .i64 0)).setCell ⟨B + 1 + 1, 1, none⟩ (.slice none 0 0)).setCell ⟨B + 1 + 1, 2, none⟩ (.slice none 0 0) = V at *
        have x0 : V.cell? ⟨B + 1 + 1, 0, none⟩ = some (.int .i64 0) := hfin.cell 0
        have x1 : V.cell? ⟨B + 1 + 1, 1, none⟩ = some (.slice none 0 0) := hfin.cell 1
        have x2 : V.cell? ⟨B + 1 + 1, 2, none⟩ = some (.slice none 0 0) := hfin.cell 2
        clear hfin
        refine bodyPost_ret (v := .tuple #[.agg #[.int .i64 0, .slice none 0 0, .slice none 0 0], .int .i64 130]) ?_ rfl ?_
        · simp [results, Tryz.results23, go_sem, x0, x1, x2]
        · exact ⟨none, 0, 0, none, 0, 0, by rw [unhide HR, if_neg (by rw [unhide H1]; simp), if_neg (by rw [unhide H2]; simp), if_pos (unhide H3)]; rfl, by rw [unhide HR, if_neg (by rw [unhide H1]; simp), if_neg (by rw [unhide H2]; simp), if_pos (unhide H3)]; exact LO.nil _ _, by rw [unhide HR, if_neg (by rw [unhide H1]; simp), if_neg (by rw [unhide H2]; simp), if_pos (unhide H3)]; exact LO.nil _ _, unhide HFV⟩
      | true =>
        have H3 := hide h3
        have hne : (q.ver - 1 != d.ver) = false := by rw [bne, h3]; rfl
        have x1 : w2.cell? ⟨B, 1, none⟩ = some (.slice a1 d.add.length c1) := (unhide HS _ (unhide HF2)).2.1.cell 1
        have u1 : w2.cell? ⟨B + 1, 1, none⟩ = some (.slice b1 q.add.length k1) := (unhide HS _ (unhide HF2)).2.2.1.cell 1
        have RB := hide (both_any w2 d.add q.add a1 c1 b1 k1 (unhide HS _ (unhide HF2)).2.2.2.2.1.add (unhide HS _ (unhide HF2)).2.2.2.2.2.add (by omega) (by omega))
        clear h3
        go_wp2_with fail
        refine (unhide RB).mono ?_
        clear RB x0 x1 u0 u1 hne hw
        rintro e w3 ⟨rfl, hF⟩
        have HF3 := hide ((unhide HF2).trans hF (fun _ _ t => t))
        clear hF HF2
        cases h4 : d.add.any (memS q.add) with
        | true =>
          have H4 := hide h4
          clear h4
          have y0 : w3.cell? ⟨B + 1 + 1, 0, none⟩ = some (.int .i64 0) := (unhide HS _ (unhide HF3)).2.2.2.1.cell 0
          have y1 : w3.cell? ⟨B + 1 + 1, 1, none⟩ = some (.slice none 0 0) := (unhide HS _ (unhide HF3)).2.2.2.1.cell 1
          have y2 : w3.cell? ⟨B + 1 + 1, 2, none⟩ = some (.slice none 0 0) := (unhide HS _ (unhide HF3)).2.2.2.1.cell 2
          have z0 := (unhide HS _ (unhide HF3)).2.2.2.1.frozen 0
          have z1 := (unhide HS _ (unhide HF3)).2.2.2.1.frozen 1
          have z2 := (unhide HS _ (unhide HF3)).2.2.2.1.frozen 2
          go_wp2
          have hfin : Bx (((w3.setCell ⟨B + 1 + 1, 0, none⟩ (.int .i64 0)).setCell ⟨B + 1 + 1, 1, none⟩ (.slice none 0 0)).setCell ⟨B + 1 + 1, 2, none⟩ (.slice none 0 0)) (B + 1 + 1) #[.int .i64 0, .slice none 0 0, .slice none 0 0] 26 := ((((unhide HS _ (unhide HF3)).2.2.2.1).setCell 0 _).setCell 1 _).setCell 2 _
          have HFV : Hid (Fr (fun _ => False) w (((w3.setCell ⟨B + 1 + 1, 0, none⟩ (.int .i64 0)).setCell ⟨B + 1 + 1, 1, none⟩ (.slice none 0 0)).setCell ⟨B + 1 + 1, 2, none⟩ (.slice none 0 0))) := hide ((((((unhide HS _ (unhide HF3)).1)).setCell (fun h => absurd h (by show ¬ B + 1 + 1 < _; have := unhide HBw; omega)) _).setCell (fun h => absurd h (by show ¬ B + 1 + 1 < _; have := unhide HBw; omega)) _).setCell (fun h => absurd h (by show ¬ B + 1 + 1 < _; have := unhide HBw; omega)) _)
          have HFB : Hid (Fr (fun k => k = B + 1 + 1) w3 (((w3.setCell ⟨B + 1 + 1, 0, none⟩ (.int .i64 0)).setCell ⟨B + 1 + 1, 1, none⟩ (.slice none 0 0)).setCell ⟨B + 1 + 1, 2, none⟩ (.slice none 0 0))) := hide (((((Fr.refl (fun k => k = B + 1 + 1) _)).setCell (fun _ => rfl) _).setCell (fun _ => rfl) _).setCell (fun _ => rfl) _)
          generalize ((w3.setCell ⟨B + 1 + 1, 0, none⟩ (.int .i64 0)).setCell ⟨B + 1 + 1, 1, none⟩ (.slice none 0 0)).setCell ⟨B + 1 + 1, 2, none⟩ (.slice none 0 0) = V at *
          have x0 : V.cell? ⟨B + 1 + 1, 0, none⟩ = some (.int .i64 0) := hfin.cell 0
          have x1 : V.cell? ⟨B + 1 + 1, 1, none⟩ = some (.slice none 0 0) := hfin.cell 1
          have x2 : V.cell? ⟨B + 1 + 1, 2, none⟩ = some (.slice none 0 0) := hfin.cell 2
          clear hfin
          refine bodyPost_ret (v := .tuple #[.agg #[.int .i64 0, .slice none 0 0, .slice none 0 0], .int .i64 131]) ?_ rfl ?_
          · simp [results, Tryz.results23, go_sem, x0, x1, x2]
          · exact ⟨none, 0, 0, none, 0, 0, by rw [unhide HR, if_neg (by rw [unhide H1]; simp), if_neg (by rw [unhide H2]; simp), if_neg (by rw [unhide H3]; simp), if_pos (unhide H4)]; rfl, by rw [unhide HR, if_neg (by rw [unhide H1]; simp), if_neg (by rw [unhide H2]; simp), if_neg (by rw [unhide H3]; simp), if_pos (unhide H4)]; exact LO.nil _ _, by rw [unhide HR, if_neg (by rw [unhide H1]; simp), if_neg (by rw [unhide H2]; simp), if_neg (by rw [unhide H3]; simp), if_pos (unhide H4)]; exact LO.nil _ _, unhide HFV⟩
        | false =>
          have H4 := hide h4
          clear h4
          have x1 : w3.cell? ⟨B, 2, none⟩ = some (.slice a2 d.gone.length c2) := (unhide HS _ (unhide HF3)).2.1.cell 2
          have u1 : w3.cell? ⟨B + 1, 2, none⟩ = some (.slice b2 q.gone.length k2) := (unhide HS _ (unhide HF3)).2.2.1.cell 2
          have RB := hide (both_any w3 d.gone q.gone a2 c2 b2 k2 (unhide HS _ (unhide HF3)).2.2.2.2.1.gone (unhide HS _ (unhide HF3)).2.2.2.2.2.gone (by omega) (by omega))
          go_wp2_with fail
          refine (unhide RB).mono ?_
          clear RB x1 u1
          rintro e w4 ⟨rfl, hF⟩
          have HF4 := hide ((unhide HF3).trans hF (fun _ _ t => t))
          clear hF HF3
          cases h5 : d.gone.any (memS q.gone) with
          | true =>
            have H5 := hide h5
            clear h5
            have y0 : w4.cell? ⟨B + 1 + 1, 0, none⟩ = some (.int .i64 0) := (unhide HS _ (unhide HF4)).2.2.2.1.cell 0
            have y1 : w4.cell? ⟨B + 1 + 1, 1, none⟩ = some (.slice none 0 0) := (unhide HS _ (unhide HF4)).2.2.2.1.cell 1
            have y2 : w4.cell? ⟨B + 1 + 1, 2, none⟩ = some (.slice none 0 0) := (unhide HS _ (unhide HF4)).2.2.2.1.cell 2
            have z0 := (unhide HS _ (unhide HF4)).2.2.2.1.frozen 0
            have z1 := (unhide HS _ (unhide HF4)).2.2.2.1.frozen 1
            have z2 := (unhide HS _ (unhide HF4)).2.2.2.1.frozen 2
            go_wp2
            have hfin : Bx (((w4.setCell ⟨B + 1 + 1, 0, none⟩ (.int .i64 0)).setCell ⟨B + 1 + 1, 1, none⟩ (.slice none 0 0)).setCell ⟨B + 1 + 1, 2, none⟩ (.slice none 0 0)) (B + 1 + 1) #[.int .i64 0, .slice none 0 0, .slice none 0 0] 26 := ((((unhide HS _ (unhide HF4)).2.2.2.1).setCell 0 _).setCell 1 _).setCell 2 _
            have HFV : Hid (Fr (fun _ => False) w (((w4.setCell ⟨B + 1 + 1, 0, none⟩ (.int .i64 0)).setCell ⟨B + 1 + 1, 1, none⟩ (.slice none 0 0)).setCell ⟨B + 1 + 1, 2, none⟩ (.slice none 0 0))) := hide ((((((unhide HS _ (unhide HF4)).1)).setCell (fun h => absurd h (by show ¬ B + 1 + 1 < _; have := unhide HBw; omega)) _).setCell (fun h => absurd h (by show ¬ B + 1 + 1 < _; have := unhide HBw; omega)) _).setCell (fun h => absurd h (by show ¬ B + 1 + 1 < _; have := unhide HBw; omega)) _)
            have HFB : Hid (Fr (fun k => k = B + 1 + 1) w4 (((w4.setCell ⟨B + 1 + 1, 0, none⟩ (.int .i64 0)).setCell ⟨B + 1 + 1, 1, none⟩ (.slice none 0 0)).setCell ⟨B + 1 + 1, 2, none⟩ (.slice none 0 0))) := hide (((((Fr.refl (fun k => k = B + 1 + 1) _)).setCell (fun _ => rfl) _).setCell (fun _ => rfl) _).setCell (fun _ => rfl) _)
            generalize ((w4.setCell ⟨B + 1 + 1, 0, none⟩ (.int .i64 0)).setCell ⟨B + 1 + 1, 1, none⟩ (.slice none 0 0)).setCell ⟨B + 1 + 1, 2, none⟩ (.slice none 0 0) = V at *
            have x0 : V.cell? ⟨B + 1 + 1, 0, none⟩ = some (.int .i64 0) := hfin.cell 0
            have x1 : V.cell? ⟨B + 1 + 1, 1, none⟩ = some (.slice none 0 0) := hfin.cell 1
            have x2 : V.cell? ⟨B + 1 + 1, 2, none⟩ = some (.slice none 0 0) := hfin.cell 2
            clear hfin
            refine bodyPost_ret (v := .tuple #[.agg #[.int .i64 0, .slice none 0 0, .slice none 0 0], .int .i64 131]) ?_ rfl ?_
            · simp [results, Tryz.results23, go_sem, x0, x1, x2]
            · exact ⟨none, 0, 0, none, 0, 0, by rw [unhide HR, if_neg (by rw [unhide H1]; simp), if_neg (by rw [unhide H2]; simp), if_neg (by rw [unhide H3]; simp), if_neg (by rw [unhide H4]; simp), if_pos (unhide H5)]; rfl, by rw [unhide HR, if_neg (by rw [unhide H1]; simp), if_neg (by rw [unhide H2]; simp), if_neg (by rw [unhide H3]; simp), if_neg (by rw [unhide H4]; simp), if_pos (unhide H5)]; exact LO.nil _ _, by rw [unhide HR, if_neg (by rw [unhide H1]; simp), if_neg (by rw [unhide H2]; simp), if_neg (by rw [unhide H3]; simp), if_neg (by rw [unhide H4]; simp), if_pos (unhide H5)]; exact LO.nil _ _, unhide HFV⟩
          | false =>
            have H5 := hide h5
            clear h5
            have HSS : Hid (∀ w', Fr (fun k => w4.heap.size ≤ k) w4 w' → w'.cell? ⟨B, 1, none⟩ = some (.slice a1 d.add.length c1) ∧ w'.cell? ⟨B, 2, none⟩ = some (.slice a2 d.gone.length c2) ∧ w'.cell? ⟨B + 1, 0, none⟩ = some (.int .i64 q.ver) ∧ w'.cell? ⟨B + 1, 1, none⟩ = some (.slice b1 q.add.length k1) ∧ w'.cell? ⟨B + 1, 2, none⟩ = some (.slice b2 q.gone.length k2)) := hide (fun w' hf => by
              have e1 := (unhide HS _ (unhide HF4)).2.1
              have e2 := (unhide HS _ (unhide HF4)).2.2.1
              exact ⟨(e1.frame hf (by have := e1.lt; omega)).cell 1, (e1.frame hf (by have := e1.lt; omega)).cell 2, (e2.frame hf (by have := e2.lt; omega)).cell 0, (e2.frame hf (by have := e2.lt; omega)).cell 1, (e2.frame hf (by have := e2.lt; omega)).cell 2⟩)
            have hRA : Hid (∀ w', Fr (fun _ => False) w4 w' → Calls Tryz.prog 33 #[.slice a1 d.add.length c1, .slice b2 q.gone.length k2] w' fun e w'' => ∃ ao cap g, e = .returned (.slice ao (outL d.add q.gone).length cap) ∧ LO w' w'' ao cap g (outL d.add q.gone) ∧ Fr (fun _ => False) w' w'') := hide (fun w' hf => without13_any w' d.add q.gone a1 c1 b2 k2 ((unhide HS _ (unhide HF4)).2.2.2.2.1.add.keep hf) ((unhide HS _ (unhide HF4)).2.2.2.2.2.gone.keep hf) (by omega) (by omega))
            have hRB : Hid (∀ w', Fr (fun _ => False) w4 w' → Calls Tryz.prog 33 #[.slice a2 d.gone.length c2, .slice b1 q.add.length k1] w' fun e w'' => ∃ ao cap g, e = .returned (.slice ao (outL d.gone q.add).length cap) ∧ LO w' w'' ao cap g (outL d.gone q.add) ∧ Fr (fun _ => False) w' w'') := hide (fun w' hf => without13_any w' d.gone q.add a2 c2 b1 k1 ((unhide HS _ (unhide HF4)).2.2.2.2.1.gone.keep hf) ((unhide HS _ (unhide HF4)).2.2.2.2.2.add.keep hf) (by omega) (by omega))
            go_upto_region 9 with (fail)
            go_region_held3 (fun w' => w'.cell? ⟨B, 1, none⟩ = some (.slice a1 d.add.length c1) ∧ w'.cell? ⟨B, 2, none⟩ = some (.slice a2 d.gone.length c2) ∧ w'.cell? ⟨B + 1, 0, none⟩ = some (.int .i64 q.ver) ∧ w'.cell? ⟨B + 1, 1, none⟩ = some (.slice b1 q.add.length k1) ∧ w'.cell? ⟨B + 1, 2, none⟩ = some (.slice b2 q.gone.length k2)) (first | exact unhide HSS _ (Fr.refl _ _) | exact unhide HSS _ ((Fr.refl _ _).drew) | exact unhide HSS _ (((Fr.refl _ _).drew).alloc _) | exact unhide HSS _ ((Fr.mono (T := fun k => w4.heap.size ≤ k) (unhide hFb) (fun _ _ t => t.elim))) | exact unhide HSS _ ((Fr.mono (T := fun k => w4.heap.size ≤ k) (unhide hFb) (fun _ _ t => t.elim)).alloc _) | exact unhide HSS _ ((Fr.mono (T := fun k => w4.heap.size ≤ k) (unhide hFa) (fun _ _ t => t.elim))) | exact unhide HSS _ ((Fr.mono (T := fun k => w4.heap.size ≤ k) (unhide hFa) (fun _ _ t => t.elim)).alloc _) | exact unhide HSS _ (((((Fr.mono (T := fun k => w4.heap.size ≤ k) (unhide hFb) (fun _ _ t => t.elim))).setCell (fun h => Nat.le_refl _) _).setCell (fun h => Nat.le_refl _) _).setCell (fun h => Nat.le_refl _) _) | exact unhide HSS _ (((((Fr.mono (T := fun k => w4.heap.size ≤ k) (unhide hFb) (fun _ _ t => t.elim))).setCell (fun h => (unhide hFa).size) _).setCell (fun h => (unhide hFa).size) _).setCell (fun h => (unhide hFa).size) _)) (first | (go_at_call_of 33 (Value.slice a2 d.gone.length c2); first | (have hc0 := hBc; refine (unhide hRB _ (unhide hFa)).mono ?_; rintro e wb ⟨aob, capb, gb, rfl, hLb', hEb'⟩; have hLb := hide hLb'; have hEb := hide hEb'; have hFb := hide ((unhide hFa).trans hEb' (fun _ _ t => t)); have bx := (unhide hc0).keep hEb'; have y0 : wb.cell? ⟨w4.heap.size, 0, none⟩ = some (.int .i64 0) := bx.cell 0; have y1 : wb.cell? ⟨w4.heap.size, 1, none⟩ = some (.slice none 0 0) := bx.cell 1; have y2 : wb.cell? ⟨w4.heap.size, 2, none⟩ = some (.slice none 0 0) := bx.cell 2; have z0 := bx.frozen 0; have z1 := bx.frozen 1; have z2 := bx.frozen 2; have hBx := hide bx; clear bx; clear hLb' hEb' hc0) | (refine (unhide hRB _ ((unhide hFa).alloc _)).mono ?_; rintro e wb ⟨aob, capb, gb, rfl, hLb', hEb'⟩; have hLb := hide hLb'; have hEb := hide (((Fr.refl (fun _ => False) wa).alloc (.cells #[.int .i64 0, .slice none 0 0, .slice none 0 0] 26)).trans hEb' (fun _ _ t => t)); have hFb := hide (((unhide hFa).alloc (.cells #[.int .i64 0, .slice none 0 0, .slice none 0 0] 26)).trans hEb' (fun _ _ t => t)); have bx := (show Bx wb wa.heap.size #[.int .i64 0, .slice none 0 0, .slice none 0 0] 26 from (Bx.new wa #[.int .i64 0, .slice none 0 0, .slice none 0 0] 26).keep hEb'); have y0 : wb.cell? ⟨wa.heap.size, 0, none⟩ = some (.int .i64 0) := bx.cell 0; have y1 : wb.cell? ⟨wa.heap.size, 1, none⟩ = some (.slice none 0 0) := bx.cell 1; have y2 : wb.cell? ⟨wa.heap.size, 2, none⟩ = some (.slice none 0 0) := bx.cell 2; have z0 := bx.frozen 0; have z1 := bx.frozen 1; have z2 := bx.frozen 2; have hBx := hide bx; clear bx; clear hLb' hEb') | (refine (unhide hRB _ (unhide hFa)).mono ?_; rintro e wb ⟨aob, capb, gb, rfl, hLb', hEb'⟩; have hLb := hide hLb'; have hEb := hide hEb'; have hFb := hide ((unhide hFa).trans hEb' (fun _ _ t => t)); have bx := Bx.new wb #[.int .i64 0, .slice none 0 0, .slice none 0 0] 26; have y0 : (wb.alloc (.cells #[.int .i64 0, .slice none 0 0, .slice none 0 0] 26)).cell? ⟨wb.heap.size, 0, none⟩ = some (.int .i64 0) := bx.cell 0; have y1 : (wb.alloc (.cells #[.int .i64 0, .slice none 0 0, .slice none 0 0] 26)).cell? ⟨wb.heap.size, 1, none⟩ = some (.slice none 0 0) := bx.cell 1; have y2 : (wb.alloc (.cells #[.int .i64 0, .slice none 0 0, .slice none 0 0] 26)).cell? ⟨wb.heap.size, 2, none⟩ = some (.slice none 0 0) := bx.cell 2; have z0 := bx.frozen 0; have z1 := bx.frozen 1; have z2 := bx.frozen 2; have hBx := hide bx; clear bx; clear hLb' hEb')) | (go_at_call_of 33 (Value.slice a1 d.add.length c1); first | (refine (unhide hRA _ (((Fr.refl _ _).drew).alloc _)).mono ?_; rintro e wa ⟨aoa, capa, ga, rfl, hLa', hEa'⟩; have hLa := hide hLa'; have hBc := hide (show Bx wa w4.heap.size #[.int .i64 0, .slice none 0 0, .slice none 0 0] 26 from (Bx.new w4.drew #[.int .i64 0, .slice none 0 0, .slice none 0 0] 26).keep hEa'); have hFa := hide ((((Fr.refl (fun _ => False) w4).drew).alloc (.cells #[.int .i64 0, .slice none 0 0, .slice none 0 0] 26)).trans hEa' (fun _ _ t => t)); clear hLa' hEa') | (refine (unhide hRA _ ((Fr.refl _ _).drew)).mono ?_; rintro e wa ⟨aoa, capa, ga, rfl, hLa', hEa'⟩; have hLa := hide hLa'; have hFa := hide (((Fr.refl (fun _ => False) w4).drew).trans hEa' (fun _ _ t => t)); clear hLa' hEa')))
            · as_aux_lemma =>
                have HJ1 : Hid (JS W0 (wb.alloc (.cells #[.int .i64 q.ver, .slice aoa (outL d.add q.gone).length capa, .slice aob (outL d.gone q.add).length capb] 26)) wb.heap.size q.ver (outL d.add q.gone) (outL d.gone q.add) aoa capa ga aob capb gb) := hide (by
                  have hA : Fr (fun _ => False) wb (wb.alloc (.cells #[.int .i64 q.ver, .slice aoa (outL d.add q.gone).length capa, .slice aob (outL d.gone q.add).length capb] 26)) := (Fr.refl _ _).alloc _
                  have s4 := (unhide HF4).size
                  have l1 : LO W0 wb aoa capa ga (outL d.add q.gone) := ((unhide hLa).keep (unhide hEb)).later (by exact s4)
                  have l2 : LO W0 wb aob capb gb (outL d.gone q.add) := (unhide hLb).later (Nat.le_trans s4 (unhide hFa).size)
                  exact ⟨((unhide HF4).trans (unhide hFb) (fun _ _ t => t)).alloc _, Bx.new _ _ _, l1.keep hA, l2.keep hA, fun hc t => by have := l1.lt hc; omega, fun hc t => by have := l2.lt hc; omega, Nat.le_trans s4 (unhide hFb).size⟩)
                generalize wb.alloc (.cells #[.int .i64 q.ver, .slice aoa (outL d.add q.gone).length capa, .slice aob (outL d.gone q.add).length capb] 26) = V at *
                generalize wb.heap.size = Q at *
                clear hLa hLb hFa hFb hEb hBx y0 y1 y2 z0 z1 z2 HSS hRA hRB
                have x1 : V.cell? ⟨B + 1, 1, none⟩ = some (.slice b1 q.add.length k1) := (unhide HS _ (unhide HJ1).fr).2.2.1.cell 1
                have x2 : V.cell? ⟨B, 2, none⟩ = some (.slice a2 d.gone.length c2) := (unhide HS _ (unhide HJ1).fr).2.1.cell 2
                have RW := hide (without13_any V q.add d.gone b1 k1 a2 c2 (unhide HS _ (unhide HJ1).fr).2.2.2.2.2.add (unhide HS _ (unhide HJ1).fr).2.2.2.2.1.gone (by omega) (by omega))
                have HLM := hide (outL_len q.add d.gone)
                go_wp2_with fail
                refine (unhide RW).mono ?_
                clear RW x1 x2
                rintro e w5 ⟨mo, mc, mg, rfl, hLm, hF⟩
                have H5a : Hid (JS W0 w5 Q q.ver (outL d.add q.gone) (outL d.gone q.add) aoa capa ga aob capb gb ∧ LO V w5 mo mc mg (outL q.add d.gone) ∧ Q < V.heap.size) := hide ⟨(unhide HJ1).keep hF, hLm, (unhide HJ1).bx.lt⟩
                clear hLm hF HJ1
                obtain ⟨LM, HLMe⟩ : ∃ LM, Hid (outL q.add d.gone = LM) := ⟨_, rfl⟩
                rw [unhide HLMe] at H5a HLM ⊢
                have hlm : LM.length ≤ 1000 := by have := unhide HLM; omega
                go_wp2
                go_loopw [10] (fun iv wr => ∃ (i : Nat), i ≤ LM.length ∧ iv = .int .i64 i ∧ Hid (∃ (a7 : Option Addr) (c7 g7 : Nat), JS W0 wr Q q.ver (putsL (outL d.add q.gone) (LM.take i)) (outL d.gone q.add) a7 c7 g7 aob capb gb ∧ LO V wr mo mc mg LM)) (fun iv _ => LM.length - (intOf iv).toNat)
                case atStart => exact ⟨0, Nat.zero_le _, rfl, aoa, capa, ga, (unhide H5a).1, (unhide H5a).2.1⟩
                case round =>
                  have HQVa := hide (unhide H5a).2.2
                  clear H5a
                  obtain ⟨i, hi, rfl, HI⟩ := hrel
                  obtain ⟨wc, hwc⟩ : ∃ wc, wc = wr := ⟨_, rfl⟩
                  rw [← hwc] at HI ⊢
                  clear hwc
                  obtain ⟨a7, c7, g7, hJ, hM⟩ := unhide HI
                  have HJM := hide (And.intro hJ hM)
                  clear HI hJ hM
                  by_cases hil : i < LM.length
                  · obtain ⟨b', off', e', c0⟩ := (unhide HJM).2.sat.at hil
                    subst e'
                    have HST : Hid (putsL (outL d.add q.gone) (LM.take (i + 1)) = putL (putsL (outL d.add q.gone) (LM.take i)) LM[i]) := hide (by rw [List.take_succ_eq_append_getElem hil, putsL_snoc])
                    have HLN : Hid ((putsL (outL d.add q.gone) (LM.take i)).length ≤ 5000) := hide (by have h1 := (putsL_len (LM.take i) (outL d.add q.gone)).2; rw [List.length_take] at h1; have h2 := outL_len d.add q.gone; omega)
                    have RP := put_any2 W0 wc.drew a7 c7 g7 (putsL (outL d.add q.gone) (LM.take i)) LM[i] ((unhide HJM).1.ra.keep ((Fr.refl _ _).drew)) (unhide HJM).1.fr.size (by have := unhide HLN; omega)
                    rw [← unhide HST] at RP
                    have RP := hide RP
                    have u1 : wc.cell? ⟨Q, 1, none⟩ = some (.slice a7 (putsL (outL d.add q.gone) (LM.take i)).length c7) := (unhide HJM).1.bx.cell 1
                    obtain ⟨n0, Hn0⟩ : ∃ n, Hid ((putsL (outL d.add q.gone) (LM.take i)).length = n) := ⟨_, rfl⟩
                    obtain ⟨n1, Hn1⟩ : ∃ n, Hid ((putsL (outL d.add q.gone) (LM.take (i + 1))).length = n) := ⟨_, rfl⟩
                    rw [unhide Hn0] at RP u1
                    rw [unhide Hn1] at RP
                    obtain ⟨x, HXX⟩ : ∃ x, Hid (LM[i] = x) := ⟨LM[i], rfl⟩
                    rw [unhide HXX] at RP c0
                    go_upto_region 14 with (fail)
                    go_region_with ((go_at_call 34; refine (unhide RP).mono ?_; rintro e w8 ⟨ao8, cap8, g8, rfl, hL8', hF8', hO8'⟩; have hR8 := hide (And.intro hL8' (And.intro hF8' hO8')); have hb8 := (unhide HJM).1.bx.keep (((Fr.refl (fun _ => False) wc).drew).trans hF8' (fun _ _ t => t)); have y1 := hb8.cell 1; have z1 := hb8.frozen 1; simp only [List.getElem?_toArray, List.getElem?_cons_succ, List.getElem?_cons_zero] at y1; clear hL8' hF8' hO8' hb8))
                    all_goals
                      have HN : Hid (∃ (a7 : Option Addr) (c7 g7 : Nat), JS W0 (w8.setCell ⟨Q, 1, none⟩ (.slice ao8 n1 cap8)) Q q.ver (putsL (outL d.add q.gone) (LM.take (i + 1))) (outL d.gone q.add) a7 c7 g7 aob capb gb ∧ LO V (w8.setCell ⟨Q, 1, none⟩ (.slice ao8 n1 cap8)) (some ⟨b', off', none⟩) mc mg LM) := hide (by
                        obtain ⟨hL8, hF8, hO8⟩ := unhide hR8
                        have hF0 : Fr (fun _ => False) wc w8 := ((Fr.refl (fun _ => False) wc).drew).trans hF8 (fun _ _ t => t)
                        obtain ⟨j1, j2⟩ := (unhide HJM).1.putA hF0 hL8 hO8 (unhide Hn1).symm
                        refine ⟨ao8, cap8, g8, j1, ((unhide HJM).2.keep hF0).go j2 (fun hc t => ?_)⟩
                        have := (unhide HJM).2.new hc
                        have := unhide HQVa
                        omega)
                      generalize w8.setCell ⟨Q, 1, none⟩ (.slice ao8 n1 cap8) = w9 at *
                      clear hR8 y1 z1 u1 c0 RP HJM HST HLN
                      go_wp2
                      exact ⟨⟨i + 1, by omega, by go_num, unhide HN⟩, by simp [intOf]; omega⟩
                  · obtain rfl : i = LM.length := by omega
                    rw [List.take_length] at HJM
                    rw [← unhide HLMe] at HJM
                    have HJ2 : Hid (JS W0 wc Q q.ver (rjA d q) (outL d.gone q.add) a7 c7 g7 aob capb gb) := hide (unhide HJM).1
                    clear HJM HLMe HLM hlm hi hil HQVa
                    obtain ⟨V2, hV2⟩ : ∃ V2, V2 = wc := ⟨_, rfl⟩
                    rw [← hV2] at HJ2 ⊢
                    clear hV2
                    have x1 : V2.cell? ⟨B + 1, 2, none⟩ = some (.slice b2 q.gone.length k2) := (unhide HS _ (unhide HJ2).fr).2.2.1.cell 2
                    have x2 : V2.cell? ⟨B, 1, none⟩ = some (.slice a1 d.add.length c1) := (unhide HS _ (unhide HJ2).fr).2.1.cell 1
                    have RW := hide (without13_any V2 q.gone d.add b2 k2 a1 c1 (unhide HS _ (unhide HJ2).fr).2.2.2.2.2.gone (unhide HS _ (unhide HJ2).fr).2.2.2.2.1.add (by omega) (by omega))
                    have HLM := hide (outL_len q.gone d.add)
                    go_wp2_with fail
                    refine (unhide RW).mono ?_
                    clear RW x1 x2
                    rintro e w5 ⟨mo, mc, mg, rfl, hLm, hF⟩
                    have H5b : Hid (JS W0 w5 Q q.ver (rjA d q) (outL d.gone q.add) a7 c7 g7 aob capb gb ∧ LO V2 w5 mo mc mg (outL q.gone d.add) ∧ Q < V2.heap.size) := hide ⟨(unhide HJ2).keep hF, hLm, (unhide HJ2).bx.lt⟩
                    clear hLm hF HJ2
                    obtain ⟨LM, HLMe⟩ : ∃ LM, Hid (outL q.gone d.add = LM) := ⟨_, rfl⟩
                    rw [unhide HLMe] at H5b HLM ⊢
                    have hlm : LM.length ≤ 1000 := by have := unhide HLM; omega
                    go_wp2
                    go_loopw [12] (fun iv wr => ∃ (i : Nat), i ≤ LM.length ∧ iv = .int .i64 i ∧ Hid (∃ (a9 : Option Addr) (c9 g9 : Nat), JS W0 wr Q q.ver (rjA d q) (putsL (outL d.gone q.add) (LM.take i)) a7 c7 g7 a9 c9 g9 ∧ LO V2 wr mo mc mg LM)) (fun iv _ => LM.length - (intOf iv).toNat)
                    case atStart => exact ⟨0, Nat.zero_le _, rfl, aob, capb, gb, (unhide H5b).1, (unhide H5b).2.1⟩
                    case round =>
                      have HQVb := hide (unhide H5b).2.2
                      clear H5b
                      obtain ⟨i, hi, rfl, HI⟩ := hrel
                      obtain ⟨wc, hwc⟩ : ∃ wc, wc = wr := ⟨_, rfl⟩
                      rw [← hwc] at HI ⊢
                      clear hwc
                      obtain ⟨a9, c9, g9, hJ, hM⟩ := unhide HI
                      have HJM := hide (And.intro hJ hM)
                      clear HI hJ hM
                      by_cases hil : i < LM.length
                      · obtain ⟨b', off', e', c0⟩ := (unhide HJM).2.sat.at hil
                        subst e'
                        have HST : Hid (putsL (outL d.gone q.add) (LM.take (i + 1)) = putL (putsL (outL d.gone q.add) (LM.take i)) LM[i]) := hide (by rw [List.take_succ_eq_append_getElem hil, putsL_snoc])
                        have HLN : Hid ((putsL (outL d.gone q.add) (LM.take i)).length ≤ 5000) := hide (by have h1 := (putsL_len (LM.take i) (outL d.gone q.add)).2; rw [List.length_take] at h1; have h2 := outL_len d.gone q.add; omega)
                        have RP := put_any2 W0 wc.drew a9 c9 g9 (putsL (outL d.gone q.add) (LM.take i)) LM[i] ((unhide HJM).1.rg.keep ((Fr.refl _ _).drew)) (unhide HJM).1.fr.size (by have := unhide HLN; omega)
                        rw [← unhide HST] at RP
                        have RP := hide RP
                        have u1 : wc.cell? ⟨Q, 2, none⟩ = some (.slice a9 (putsL (outL d.gone q.add) (LM.take i)).length c9) := (unhide HJM).1.bx.cell 2
                        obtain ⟨n0, Hn0⟩ : ∃ n, Hid ((putsL (outL d.gone q.add) (LM.take i)).length = n) := ⟨_, rfl⟩
                        obtain ⟨n1, Hn1⟩ : ∃ n, Hid ((putsL (outL d.gone q.add) (LM.take (i + 1))).length = n) := ⟨_, rfl⟩
                        rw [unhide Hn0] at RP u1
                        rw [unhide Hn1] at RP
                        obtain ⟨x, HXX⟩ : ∃ x, Hid (LM[i] = x) := ⟨LM[i], rfl⟩
                        rw [unhide HXX] at RP c0
                        go_upto_region 19 with (fail)
                        go_region_with ((go_at_call 34; refine (unhide RP).mono ?_; rintro e w8 ⟨ao8, cap8, g8, rfl, hL8', hF8', hO8'⟩; have hR8 := hide (And.intro hL8' (And.intro hF8' hO8')); have hb8 := (unhide HJM).1.bx.keep (((Fr.refl (fun _ => False) wc).drew).trans hF8' (fun _ _ t => t)); have y1 := hb8.cell 2; have z1 := hb8.frozen 2; simp only [List.getElem?_toArray, List.getElem?_cons_succ, List.getElem?_cons_zero] at y1; clear hL8' hF8' hO8' hb8))
                        all_goals
                          have HN : Hid (∃ (a9 : Option Addr) (c9 g9 : Nat), JS W0 (w8.setCell ⟨Q, 2, none⟩ (.slice ao8 n1 cap8)) Q q.ver (rjA d q) (putsL (outL d.gone q.add) (LM.take (i + 1))) a7 c7 g7 a9 c9 g9 ∧ LO V2 (w8.setCell ⟨Q, 2, none⟩ (.slice ao8 n1 cap8)) (some ⟨b', off', none⟩) mc mg LM) := hide (by
                            obtain ⟨hL8, hF8, hO8⟩ := unhide hR8
                            have hF0 : Fr (fun _ => False) wc w8 := ((Fr.refl (fun _ => False) wc).drew).trans hF8 (fun _ _ t => t)
                            obtain ⟨j1, j2⟩ := (unhide HJM).1.putG hF0 hL8 hO8 (unhide Hn1).symm
                            refine ⟨ao8, cap8, g8, j1, ((unhide HJM).2.keep hF0).go j2 (fun hc t => ?_)⟩
                            have := (unhide HJM).2.new hc
                            have := unhide HQVb
                            omega)
                          generalize w8.setCell ⟨Q, 2, none⟩ (.slice ao8 n1 cap8) = w9 at *
                          clear hR8 y1 z1 u1 c0 RP HJM HST HLN
                          go_wp2
                          exact ⟨⟨i + 1, by omega, by go_num, unhide HN⟩, by simp [intOf]; omega⟩
                      · obtain rfl : i = LM.length := by omega
                        rw [List.take_length] at HJM
                        rw [← unhide HLMe] at HJM
                        have HJM : Hid (JS W0 wc Q q.ver (rjA d q) (rjG d q) a7 c7 g7 a9 c9 g9 ∧ True) := hide ⟨(unhide HJM).1, trivial⟩
                        clear HLMe HLM hlm
                        have y0 : wc.cell? ⟨B + 1 + 1, 0, none⟩ = some (.int .i64 0) := (unhide HS _ ((unhide HJM).1.fr)).2.2.2.1.cell 0
                        have y1 : wc.cell? ⟨B + 1 + 1, 1, none⟩ = some (.slice none 0 0) := (unhide HS _ ((unhide HJM).1.fr)).2.2.2.1.cell 1
                        have y2 : wc.cell? ⟨B + 1 + 1, 2, none⟩ = some (.slice none 0 0) := (unhide HS _ ((unhide HJM).1.fr)).2.2.2.1.cell 2
                        have z0 := (unhide HS _ ((unhide HJM).1.fr)).2.2.2.1.frozen 0
                        have z1 := (unhide HS _ ((unhide HJM).1.fr)).2.2.2.1.frozen 1
                        have z2 := (unhide HS _ ((unhide HJM).1.fr)).2.2.2.1.frozen 2
                        have u0 : wc.cell? ⟨Q, 0, none⟩ = some (.int .i64 q.ver) := (unhide HJM).1.bx.cell 0
                        have u1 : wc.cell? ⟨Q, 1, none⟩ = some (.slice a7 (rjA d q).length c7) := (unhide HJM).1.bx.cell 1
                        have u2 : wc.cell? ⟨Q, 2, none⟩ = some (.slice a9 (rjG d q).length c9) := (unhide HJM).1.bx.cell 2
                        obtain ⟨nA, HnA⟩ : ∃ n, Hid ((rjA d q).length = n) := ⟨_, rfl⟩
                        obtain ⟨nG, HnG⟩ : ∃ n, Hid ((rjG d q).length = n) := ⟨_, rfl⟩
                        rw [unhide HnA] at u1
                        rw [unhide HnG] at u2
                        by_cases h6 : 1000 < nA
                        · have HRV : Hid (refJoinR d q = (dl0, 2)) := hide (by rw [unhide HR, if_neg (by rw [unhide H1]; simp), if_neg (by rw [unhide H2]; simp), if_neg (by rw [unhide H3]; simp), if_neg (by rw [unhide H4]; simp), if_neg (by rw [unhide H5]; simp), if_pos (by rw [unhide HnA]; exact h6)])
                          go_wp2
                          have hfin : Bx (((wc.setCell ⟨B + 1 + 1, 0, none⟩ (.int .i64 0)).setCell ⟨B + 1 + 1, 1, none⟩ (.slice none 0 0)).setCell ⟨B + 1 + 1, 2, none⟩ (.slice none 0 0)) (B + 1 + 1) #[.int .i64 0, .slice none 0 0, .slice none 0 0] 26 := ((((unhide HS _ (unhide HJM).1.fr).2.2.2.1).setCell 0 _).setCell 1 _).setCell 2 _
                          have HFV : Hid (Fr (fun _ => False) w (((wc.setCell ⟨B + 1 + 1, 0, none⟩ (.int .i64 0)).setCell ⟨B + 1 + 1, 1, none⟩ (.slice none 0 0)).setCell ⟨B + 1 + 1, 2, none⟩ (.slice none 0 0))) := hide ((((((unhide HS _ (unhide HJM).1.fr).1)).setCell (fun h => absurd h (by show ¬ B + 1 + 1 < _; have := unhide HBw; omega)) _).setCell (fun h => absurd h (by show ¬ B + 1 + 1 < _; have := unhide HBw; omega)) _).setCell (fun h => absurd h (by show ¬ B + 1 + 1 < _; have := unhide HBw; omega)) _)
                          have HFB : Hid (Fr (fun k => k = B + 1 + 1) wc (((wc.setCell ⟨B + 1 + 1, 0, none⟩ (.int .i64 0)).setCell ⟨B + 1 + 1, 1, none⟩ (.slice none 0 0)).setCell ⟨B + 1 + 1, 2, none⟩ (.slice none 0 0))) := hide (((((Fr.refl (fun k => k = B + 1 + 1) _)).setCell (fun _ => rfl) _).setCell (fun _ => rfl) _).setCell (fun _ => rfl) _)
                          generalize ((wc.setCell ⟨B + 1 + 1, 0, none⟩ (.int .i64 0)).setCell ⟨B + 1 + 1, 1, none⟩ (.slice none 0 0)).setCell ⟨B + 1 + 1, 2, none⟩ (.slice none 0 0) = V at *
                          have x0 : V.cell? ⟨B + 1 + 1, 0, none⟩ = some (.int .i64 0) := hfin.cell 0
                          have x1 : V.cell? ⟨B + 1 + 1, 1, none⟩ = some (.slice none 0 0) := hfin.cell 1
                          have x2 : V.cell? ⟨B + 1 + 1, 2, none⟩ = some (.slice none 0 0) := hfin.cell 2
                          clear hfin
                          refine bodyPost_ret (v := .tuple #[.agg #[.int .i64 0, .slice none 0 0, .slice none 0 0], .int .i64 2]) ?_ rfl ?_
                          · simp [results, Tryz.results23, go_sem, x0, x1, x2]
                          · exact ⟨none, 0, 0, none, 0, 0, by rw [unhide HRV]; rfl, by rw [unhide HRV]; exact LO.nil _ _, by rw [unhide HRV]; exact LO.nil _ _, unhide HFV⟩
                        · by_cases h7 : 1000 < nG
                          · have HRV : Hid (refJoinR d q = (dl0, 2)) := hide (by rw [unhide HR, if_neg (by rw [unhide H1]; simp), if_neg (by rw [unhide H2]; simp), if_neg (by rw [unhide H3]; simp), if_neg (by rw [unhide H4]; simp), if_neg (by rw [unhide H5]; simp), if_neg (by rw [unhide HnA]; exact h6), if_pos (by rw [unhide HnG]; exact h7)])
                            go_wp2
                            have hfin : Bx (((wc.setCell ⟨B + 1 + 1, 0, none⟩ (.int .i64 0)).setCell ⟨B + 1 + 1, 1, none⟩ (.slice none 0 0)).setCell ⟨B + 1 + 1, 2, none⟩ (.slice none 0 0)) (B + 1 + 1) #[.int .i64 0, .slice none 0 0, .slice none 0 0] 26 := ((((unhide HS _ (unhide HJM).1.fr).2.2.2.1).setCell 0 _).setCell 1 _).setCell 2 _
                            have HFV : Hid (Fr (fun _ => False) w (((wc.setCell ⟨B + 1 + 1, 0, none⟩ (.int .i64 0)).setCell ⟨B + 1 + 1, 1, none⟩ (.slice none 0 0)).setCell ⟨B + 1 + 1, 2, none⟩ (.slice none 0 0))) := hide ((((((unhide HS _ (unhide HJM).1.fr).1)).setCell (fun h => absurd h (by show ¬ B + 1 + 1 < _; have := unhide HBw; omega)) _).setCell (fun h => absurd h (by show ¬ B + 1 + 1 < _; have := unhide HBw; omega)) _).setCell (fun h => absurd h (by show ¬ B + 1 + 1 < _; have := unhide HBw; omega)) _)
                            have HFB : Hid (Fr (fun k => k = B + 1 + 1) wc (((wc.setCell ⟨B + 1 + 1, 0, none⟩ (.int .i64 0)).setCell ⟨B + 1 + 1, 1, none⟩ (.slice none 0 0)).setCell ⟨B + 1 + 1, 2, none⟩ (.slice none 0 0))) := hide (((((Fr.refl (fun k => k = B + 1 + 1) _)).setCell (fun _ => rfl) _).setCell (fun _ => rfl) _).setCell (fun _ => rfl) _)
                            generalize ((wc.setCell ⟨B + 1 + 1, 0, none⟩ (.int .i64 0)).setCell ⟨B + 1 + 1, 1, none⟩ (.slice none 0 0)).setCell ⟨B + 1 + 1, 2, none⟩ (.slice none 0 0) = V at *
                            have x0 : V.cell? ⟨B + 1 + 1, 0, none⟩ = some (.int .i64 0) := hfin.cell 0
                            have x1 : V.cell? ⟨B + 1 + 1, 1, none⟩ = some (.slice none 0 0) := hfin.cell 1
                            have x2 : V.cell? ⟨B + 1 + 1, 2, none⟩ = some (.slice none 0 0) := hfin.cell 2
                            clear hfin
                            refine bodyPost_ret (v := .tuple #[.agg #[.int .i64 0, .slice none 0 0, .slice none 0 0], .int .i64 2]) ?_ rfl ?_
                            · simp [results, Tryz.results23, go_sem, x0, x1, x2]
                            · exact ⟨none, 0, 0, none, 0, 0, by rw [unhide HRV]; rfl, by rw [unhide HRV]; exact LO.nil _ _, by rw [unhide HRV]; exact LO.nil _ _, unhide HFV⟩
                          · have HRV : Hid (refJoinR d q = (⟨q.ver, rjA d q, rjG d q⟩, 0)) := hide (by rw [unhide HR, if_neg (by rw [unhide H1]; simp), if_neg (by rw [unhide H2]; simp), if_neg (by rw [unhide H3]; simp), if_neg (by rw [unhide H4]; simp), if_neg (by rw [unhide H5]; simp), if_neg (by rw [unhide HnA]; exact h6), if_neg (by rw [unhide HnG]; exact h7)])
                            go_wp2
                            have hfin : Bx (((wc.setCell ⟨B + 1 + 1, 0, none⟩ (.int .i64 q.ver)).setCell ⟨B + 1 + 1, 1, none⟩ (.slice a7 nA c7)).setCell ⟨B + 1 + 1, 2, none⟩ (.slice a9 nG c9)) (B + 1 + 1) #[.int .i64 q.ver, .slice a7 nA c7, .slice a9 nG c9] 26 := ((((unhide HS _ (unhide HJM).1.fr).2.2.2.1).setCell 0 _).setCell 1 _).setCell 2 _
                            have HFV : Hid (Fr (fun _ => False) w (((wc.setCell ⟨B + 1 + 1, 0, none⟩ (.int .i64 q.ver)).setCell ⟨B + 1 + 1, 1, none⟩ (.slice a7 nA c7)).setCell ⟨B + 1 + 1, 2, none⟩ (.slice a9 nG c9))) := hide ((((((unhide HS _ (unhide HJM).1.fr).1)).setCell (fun h => absurd h (by show ¬ B + 1 + 1 < _; have := unhide HBw; omega)) _).setCell (fun h => absurd h (by show ¬ B + 1 + 1 < _; have := unhide HBw; omega)) _).setCell (fun h => absurd h (by show ¬ B + 1 + 1 < _; have := unhide HBw; omega)) _)
                            have HFB : Hid (Fr (fun k => k = B + 1 + 1) wc (((wc.setCell ⟨B + 1 + 1, 0, none⟩ (.int .i64 q.ver)).setCell ⟨B + 1 + 1, 1, none⟩ (.slice a7 nA c7)).setCell ⟨B + 1 + 1, 2, none⟩ (.slice a9 nG c9))) := hide (((((Fr.refl (fun k => k = B + 1 + 1) _)).setCell (fun _ => rfl) _).setCell (fun _ => rfl) _).setCell (fun _ => rfl) _)
                            generalize ((wc.setCell ⟨B + 1 + 1, 0, none⟩ (.int .i64 q.ver)).setCell ⟨B + 1 + 1, 1, none⟩ (.slice a7 nA c7)).setCell ⟨B + 1 + 1, 2, none⟩ (.slice a9 nG c9) = V at *
                            have x0 : V.cell? ⟨B + 1 + 1, 0, none⟩ = some (.int .i64 q.ver) := hfin.cell 0
                            have x1 : V.cell? ⟨B + 1 + 1, 1, none⟩ = some (.slice a7 nA c7) := hfin.cell 1
                            have x2 : V.cell? ⟨B + 1 + 1, 2, none⟩ = some (.slice a9 nG c9) := hfin.cell 2
                            clear hfin
                            refine bodyPost_ret (v := .tuple #[.agg #[.int .i64 q.ver, .slice a7 nA c7, .slice a9 nG c9], .int .i64 0]) ?_ rfl ?_
                            · simp [results, Tryz.results23, go_sem, x0, x1, x2]
                            · have hW := (unhide HS W0 (Fr.refl _ _)).2.2.2.1.lt
                              have hw0 := (unhide HS W0 (Fr.refl _ _)).1.size
                              refine ⟨a7, c7, g7, a9, c9, g9, by rw [unhide HRV, ← unhide HnA, ← unhide HnG]; rfl, ?_, ?_, unhide HFV⟩
                              · rw [unhide HRV]
                                exact ((unhide HJM).1.ra.go (unhide HFB) (fun hc t => by have := (unhide HJM).1.ra.new hc; omega)).later hw0
                              · rw [unhide HRV]
                                exact ((unhide HJM).1.rg.go (unhide HFB) (fun hc t => by have := (unhide HJM).1.rg.new hc; omega)).later hw0
            · as_aux_lemma =>
                have HJ1 : Hid (JS W0 (((wb.setCell ⟨wa.heap.size, 0, none⟩ (.int .i64 q.ver)).setCell ⟨wa.heap.size, 1, none⟩ (.slice aoa (outL d.add q.gone).length capa)).setCell ⟨wa.heap.size, 2, none⟩ (.slice aob (outL d.gone q.add).length capb)) wa.heap.size q.ver (outL d.add q.gone) (outL d.gone q.add) aoa capa ga aob capb gb) := hide (by
                  have hs : Fr (fun k => k = wa.heap.size) wb (((wb.setCell ⟨wa.heap.size, 0, none⟩ (.int .i64 q.ver)).setCell ⟨wa.heap.size, 1, none⟩ (.slice aoa (outL d.add q.gone).length capa)).setCell ⟨wa.heap.size, 2, none⟩ (.slice aob (outL d.gone q.add).length capb)) := (((Fr.refl (fun k => k = wa.heap.size) wb).setCell (fun _ => rfl) _).setCell (fun _ => rfl) _).setCell (fun _ => rfl) _
                  have s4 := (unhide HF4).size
                  have sa := (unhide hFa).size
                  have l1 : LO W0 wb aoa capa ga (outL d.add q.gone) := ((unhide hLa).keep (unhide hEb)).later (by exact s4)
                  have l2 : LO W0 wb aob capb gb (outL d.gone q.add) := (unhide hLb).later (by rw [heap_alloc]; omega)
                  have n1' : 0 < capa → ¬ ga = wa.heap.size := fun hc t => by have := (unhide hLa).lt hc; omega
                  have n2' : 0 < capb → ¬ gb = wa.heap.size := fun hc t => by have := (unhide hLb).new hc; rw [heap_alloc] at this; omega
                  exact ⟨((unhide HF4).trans (unhide hFb) (fun _ _ t => t)).trans hs (fun i hi t => by omega), (((unhide hBx).setCell 0 _).setCell 1 _).setCell 2 _, l1.go hs n1', l2.go hs n2', n1', n2', by omega⟩)
                generalize ((wb.setCell ⟨wa.heap.size, 0, none⟩ (.int .i64 q.ver)).setCell ⟨wa.heap.size, 1, none⟩ (.slice aoa (outL d.add q.gone).length capa)).setCell ⟨wa.heap.size, 2, none⟩ (.slice aob (outL d.gone q.add).length capb) = V at *
                obtain ⟨Q, HQe⟩ : ∃ Q, Hid (wa.heap.size = Q) := ⟨_, rfl⟩
                rw [unhide HQe] at HJ1 ⊢
                clear hLa hLb hFa hFb hEb hBx y0 y1 y2 z0 z1 z2 HSS hRA hRB
                have x1 : V.cell? ⟨B + 1, 1, none⟩ = some (.slice b1 q.add.length k1) := (unhide HS _ (unhide HJ1).fr).2.2.1.cell 1
                have x2 : V.cell? ⟨B, 2, none⟩ = some (.slice a2 d.gone.length c2) := (unhide HS _ (unhide HJ1).fr).2.1.cell 2
                have RW := hide (without13_any V q.add d.gone b1 k1 a2 c2 (unhide HS _ (unhide HJ1).fr).2.2.2.2.2.add (unhide HS _ (unhide HJ1).fr).2.2.2.2.1.gone (by omega) (by omega))
                have HLM := hide (outL_len q.add d.gone)
                go_wp2_with fail
                refine (unhide RW).mono ?_
                clear RW x1 x2
                rintro e w5 ⟨mo, mc, mg, rfl, hLm, hF⟩
                have H5a : Hid (JS W0 w5 Q q.ver (outL d.add q.gone) (outL d.gone q.add) aoa capa ga aob capb gb ∧ LO V w5 mo mc mg (outL q.add d.gone) ∧ Q < V.heap.size) := hide ⟨(unhide HJ1).keep hF, hLm, (unhide HJ1).bx.lt⟩
                clear hLm hF HJ1
                obtain ⟨LM, HLMe⟩ : ∃ LM, Hid (outL q.add d.gone = LM) := ⟨_, rfl⟩
                rw [unhide HLMe] at H5a HLM ⊢
                have hlm : LM.length ≤ 1000 := by have := unhide HLM; omega
                go_wp2
                go_loopw [10] (fun iv wr => ∃ (i : Nat), i ≤ LM.length ∧ iv = .int .i64 i ∧ Hid (∃ (a7 : Option Addr) (c7 g7 : Nat), JS W0 wr Q q.ver (putsL (outL d.add q.gone) (LM.take i)) (outL d.gone q.add) a7 c7 g7 aob capb gb ∧ LO V wr mo mc mg LM)) (fun iv _ => LM.length - (intOf iv).toNat)
                case atStart => exact ⟨0, Nat.zero_le _, rfl, aoa, capa, ga, (unhide H5a).1, (unhide H5a).2.1⟩
                case round =>
                  have HQVa := hide (unhide H5a).2.2
                  clear H5a
                  obtain ⟨i, hi, rfl, HI⟩ := hrel
                  obtain ⟨wc, hwc⟩ : ∃ wc, wc = wr := ⟨_, rfl⟩
                  rw [← hwc] at HI ⊢
                  clear hwc
                  obtain ⟨a7, c7, g7, hJ, hM⟩ := unhide HI
                  have HJM := hide (And.intro hJ hM)
                  clear HI hJ hM
                  by_cases hil : i < LM.length
                  · obtain ⟨b', off', e', c0⟩ := (unhide HJM).2.sat.at hil
                    subst e'
                    have HST : Hid (putsL (outL d.add q.gone) (LM.take (i + 1)) = putL (putsL (outL d.add q.gone) (LM.take i)) LM[i]) := hide (by rw [List.take_succ_eq_append_getElem hil, putsL_snoc])
                    have HLN : Hid ((putsL (outL d.add q.gone) (LM.take i)).length ≤ 5000) := hide (by have h1 := (putsL_len (LM.take i) (outL d.add q.gone)).2; rw [List.length_take] at h1; have h2 := outL_len d.add q.gone; omega)
                    have RP := put_any2 W0 wc.drew a7 c7 g7 (putsL (outL d.add q.gone) (LM.take i)) LM[i] ((unhide HJM).1.ra.keep ((Fr.refl _ _).drew)) (unhide HJM).1.fr.size (by have := unhide HLN; omega)
                    rw [← unhide HST] at RP
                    have RP := hide RP
                    have u1 : wc.cell? ⟨Q, 1, none⟩ = some (.slice a7 (putsL (outL d.add q.gone) (LM.take i)).length c7) := (unhide HJM).1.bx.cell 1
                    obtain ⟨n0, Hn0⟩ : ∃ n, Hid ((putsL (outL d.add q.gone) (LM.take i)).length = n) := ⟨_, rfl⟩
                    obtain ⟨n1, Hn1⟩ : ∃ n, Hid ((putsL (outL d.add q.gone) (LM.take (i + 1))).length = n) := ⟨_, rfl⟩
                    rw [unhide Hn0] at RP u1
                    rw [unhide Hn1] at RP
                    obtain ⟨x, HXX⟩ : ∃ x, Hid (LM[i] = x) := ⟨LM[i], rfl⟩
                    rw [unhide HXX] at RP c0
                    go_upto_region 14 with (fail)
                    go_region_with ((go_at_call 34; refine (unhide RP).mono ?_; rintro e w8 ⟨ao8, cap8, g8, rfl, hL8', hF8', hO8'⟩; have hR8 := hide (And.intro hL8' (And.intro hF8' hO8')); have hb8 := (unhide HJM).1.bx.keep (((Fr.refl (fun _ => False) wc).drew).trans hF8' (fun _ _ t => t)); have y1 := hb8.cell 1; have z1 := hb8.frozen 1; simp only [List.getElem?_toArray, List.getElem?_cons_succ, List.getElem?_cons_zero] at y1; clear hL8' hF8' hO8' hb8))
                    all_goals
                      have HN : Hid (∃ (a7 : Option Addr) (c7 g7 : Nat), JS W0 (w8.setCell ⟨Q, 1, none⟩ (.slice ao8 n1 cap8)) Q q.ver (putsL (outL d.add q.gone) (LM.take (i + 1))) (outL d.gone q.add) a7 c7 g7 aob capb gb ∧ LO V (w8.setCell ⟨Q, 1, none⟩ (.slice ao8 n1 cap8)) (some ⟨b', off', none⟩) mc mg LM) := hide (by
                        obtain ⟨hL8, hF8, hO8⟩ := unhide hR8
                        have hF0 : Fr (fun _ => False) wc w8 := ((Fr.refl (fun _ => False) wc).drew).trans hF8 (fun _ _ t => t)
                        obtain ⟨j1, j2⟩ := (unhide HJM).1.putA hF0 hL8 hO8 (unhide Hn1).symm
                        refine ⟨ao8, cap8, g8, j1, ((unhide HJM).2.keep hF0).go j2 (fun hc t => ?_)⟩
                        have := (unhide HJM).2.new hc
                        have := unhide HQVa
                        omega)
                      generalize w8.setCell ⟨Q, 1, none⟩ (.slice ao8 n1 cap8) = w9 at *
                      clear hR8 y1 z1 u1 c0 RP HJM HST HLN
                      go_wp2
                      exact ⟨⟨i + 1, by omega, by go_num, unhide HN⟩, by simp [intOf]; omega⟩
                  · obtain rfl : i = LM.length := by omega
                    rw [List.take_length] at HJM
                    rw [← unhide HLMe] at HJM
                    have HJ2 : Hid (JS W0 wc Q q.ver (rjA d q) (outL d.gone q.add) a7 c7 g7 aob capb gb) := hide (unhide HJM).1
                    clear HJM HLMe HLM hlm hi hil HQVa
                    obtain ⟨V2, hV2⟩ : ∃ V2, V2 = wc := ⟨_, rfl⟩
                    rw [← hV2] at HJ2 ⊢
                    clear hV2
                    have x1 : V2.cell? ⟨B + 1, 2, none⟩ = some (.slice b2 q.gone.length k2) := (unhide HS _ (unhide HJ2).fr).2.2.1.cell 2
                    have x2 : V2.cell? ⟨B, 1, none⟩ = some (.slice a1 d.add.length c1) := (unhide HS _ (unhide HJ2).fr).2.1.cell 1
                    have RW := hide (without13_any V2 q.gone d.add b2 k2 a1 c1 (unhide HS _ (unhide HJ2).fr).2.2.2.2.2.gone (unhide HS _ (unhide HJ2).fr).2.2.2.2.1.add (by omega) (by omega))
                    have HLM := hide (outL_len q.gone d.add)
                    go_wp2_with fail
                    refine (unhide RW).mono ?_
                    clear RW x1 x2
                    rintro e w5 ⟨mo, mc, mg, rfl, hLm, hF⟩
                    have H5b : Hid (JS W0 w5 Q q.ver (rjA d q) (outL d.gone q.add) a7 c7 g7 aob capb gb ∧ LO V2 w5 mo mc mg (outL q.gone d.add) ∧ Q < V2.heap.size) := hide ⟨(unhide HJ2).keep hF, hLm, (unhide HJ2).bx.lt⟩
                    clear hLm hF HJ2
                    obtain ⟨LM, HLMe⟩ : ∃ LM, Hid (outL q.gone d.add = LM) := ⟨_, rfl⟩
                    rw [unhide HLMe] at H5b HLM ⊢
                    have hlm : LM.length ≤ 1000 := by have := unhide HLM; omega
                    go_wp2
                    go_loopw [12] (fun iv wr => ∃ (i : Nat), i ≤ LM.length ∧ iv = .int .i64 i ∧ Hid (∃ (a9 : Option Addr) (c9 g9 : Nat), JS W0 wr Q q.ver (rjA d q) (putsL (outL d.gone q.add) (LM.take i)) a7 c7 g7 a9 c9 g9 ∧ LO V2 wr mo mc mg LM)) (fun iv _ => LM.length - (intOf iv).toNat)
                    case atStart => exact ⟨0, Nat.zero_le _, rfl, aob, capb, gb, (unhide H5b).1, (unhide H5b).2.1⟩
                    case round =>
                      have HQVb := hide (unhide H5b).2.2
                      clear H5b
                      obtain ⟨i, hi, rfl, HI⟩ := hrel
                      obtain ⟨wc, hwc⟩ : ∃ wc, wc = wr := ⟨_, rfl⟩
                      rw [← hwc] at HI ⊢
                      clear hwc
                      obtain ⟨a9, c9, g9, hJ, hM⟩ := unhide HI
                      have HJM := hide (And.intro hJ hM)
                      clear HI hJ hM
                      by_cases hil : i < LM.length
                      · obtain ⟨b', off', e', c0⟩ := (unhide HJM).2.sat.at hil
                        subst e'
                        have HST : Hid (putsL (outL d.gone q.add) (LM.take (i + 1)) = putL (putsL (outL d.gone q.add) (LM.take i)) LM[i]) := hide (by rw [List.take_succ_eq_append_getElem hil, putsL_snoc])
                        have HLN : Hid ((putsL (outL d.gone q.add) (LM.take i)).length ≤ 5000) := hide (by have h1 := (putsL_len (LM.take i) (outL d.gone q.add)).2; rw [List.length_take] at h1; have h2 := outL_len d.gone q.add; omega)
                        have RP := put_any2 W0 wc.drew a9 c9 g9 (putsL (outL d.gone q.add) (LM.take i)) LM[i] ((unhide HJM).1.rg.keep ((Fr.refl _ _).drew)) (unhide HJM).1.fr.size (by have := unhide HLN; omega)
                        rw [← unhide HST] at RP
                        have RP := hide RP
                        have u1 : wc.cell? ⟨Q, 2, none⟩ = some (.slice a9 (putsL (outL d.gone q.add) (LM.take i)).length c9) := (unhide HJM).1.bx.cell 2
                        obtain ⟨n0, Hn0⟩ : ∃ n, Hid ((putsL (outL d.gone q.add) (LM.take i)).length = n) := ⟨_, rfl⟩
                        obtain ⟨n1, Hn1⟩ : ∃ n, Hid ((putsL (outL d.gone q.add) (LM.take (i + 1))).length = n) := ⟨_, rfl⟩
                        rw [unhide Hn0] at RP u1
                        rw [unhide Hn1] at RP
                        obtain ⟨x, HXX⟩ : ∃ x, Hid (LM[i] = x) := ⟨LM[i], rfl⟩
                        rw [unhide HXX] at RP c0
                        go_upto_region 19 with (fail)
                        go_region_with ((go_at_call 34; refine (unhide RP).mono ?_; rintro e w8 ⟨ao8, cap8, g8, rfl, hL8', hF8', hO8'⟩; have hR8 := hide (And.intro hL8' (And.intro hF8' hO8')); have hb8 := (unhide HJM).1.bx.keep (((Fr.refl (fun _ => False) wc).drew).trans hF8' (fun _ _ t => t)); have y1 := hb8.cell 2; have z1 := hb8.frozen 2; simp only [List.getElem?_toArray, List.getElem?_cons_succ, List.getElem?_cons_zero] at y1; clear hL8' hF8' hO8' hb8))
                        all_goals
                          have HN : Hid (∃ (a9 : Option Addr) (c9 g9 : Nat), JS W0 (w8.setCell ⟨Q, 2, none⟩ (.slice ao8 n1 cap8)) Q q.ver (rjA d q) (putsL (outL d.gone q.add) (LM.take (i + 1))) a7 c7 g7 a9 c9 g9 ∧ LO V2 (w8.setCell ⟨Q, 2, none⟩ (.slice ao8 n1 cap8)) (some ⟨b', off', none⟩) mc mg LM) := hide (by
                            obtain ⟨hL8, hF8, hO8⟩ := unhide hR8
                            have hF0 : Fr (fun _ => False) wc w8 := ((Fr.refl (fun _ => False) wc).drew).trans hF8 (fun _ _ t => t)
                            obtain ⟨j1, j2⟩ := (unhide HJM).1.putG hF0 hL8 hO8 (unhide Hn1).symm
                            refine ⟨ao8, cap8, g8, j1, ((unhide HJM).2.keep hF0).go j2 (fun hc t => ?_)⟩
                            have := (unhide HJM).2.new hc
                            have := unhide HQVb
                            omega)
                          generalize w8.setCell ⟨Q, 2, none⟩ (.slice ao8 n1 cap8) = w9 at *
                          clear hR8 y1 z1 u1 c0 RP HJM HST HLN
                          go_wp2
                          exact ⟨⟨i + 1, by omega, by go_num, unhide HN⟩, by simp [intOf]; omega⟩
                      · obtain rfl : i = LM.length := by omega
                        rw [List.take_length] at HJM
                        rw [← unhide HLMe] at HJM
                        have HJM : Hid (JS W0 wc Q q.ver (rjA d q) (rjG d q) a7 c7 g7 a9 c9 g9 ∧ True) := hide ⟨(unhide HJM).1, trivial⟩
                        clear HLMe HLM hlm
                        have y0 : wc.cell? ⟨B + 1 + 1, 0, none⟩ = some (.int .i64 0) := (unhide HS _ ((unhide HJM).1.fr)).2.2.2.1.cell 0
                        have y1 : wc.cell? ⟨B + 1 + 1, 1, none⟩ = some (.slice none 0 0) := (unhide HS _ ((unhide HJM).1.fr)).2.2.2.1.cell 1
                        have y2 : wc.cell? ⟨B + 1 + 1, 2, none⟩ = some (.slice none 0 0) := (unhide HS _ ((unhide HJM).1.fr)).2.2.2.1.cell 2
                        have z0 := (unhide HS _ ((unhide HJM).1.fr)).2.2.2.1.frozen 0
                        have z1 := (unhide HS _ ((unhide HJM).1.fr)).2.2.2.1.frozen 1
                        have z2 := (unhide HS _ ((unhide HJM).1.fr)).2.2.2.1.frozen 2
                        have u0 : wc.cell? ⟨Q, 0, none⟩ = some (.int .i64 q.ver) := (unhide HJM).1.bx.cell 0
                        have u1 : wc.cell? ⟨Q, 1, none⟩ = some (.slice a7 (rjA d q).length c7) := (unhide HJM).1.bx.cell 1
                        have u2 : wc.cell? ⟨Q, 2, none⟩ = some (.slice a9 (rjG d q).length c9) := (unhide HJM).1.bx.cell 2
                        obtain ⟨nA, HnA⟩ : ∃ n, Hid ((rjA d q).length = n) := ⟨_, rfl⟩
                        obtain ⟨nG, HnG⟩ : ∃ n, Hid ((rjG d q).length = n) := ⟨_, rfl⟩
                        rw [unhide HnA] at u1
                        rw [unhide HnG] at u2
                        by_cases h6 : 1000 < nA
                        · have HRV : Hid (refJoinR d q = (dl0, 2)) := hide (by rw [unhide HR, if_neg (by rw [unhide H1]; simp), if_neg (by rw [unhide H2]; simp), if_neg (by rw [unhide H3]; simp), if_neg (by rw [unhide H4]; simp), if_neg (by rw [unhide H5]; simp), if_pos (by rw [unhide HnA]; exact h6)])
                          go_wp2
                          have hfin : Bx (((wc.setCell ⟨B + 1 + 1, 0, none⟩ (.int .i64 0)).setCell ⟨B + 1 + 1, 1, none⟩ (.slice none 0 0)).setCell ⟨B + 1 + 1, 2, none⟩ (.slice none 0 0)) (B + 1 + 1) #[.int .i64 0, .slice none 0 0, .slice none 0 0] 26 := ((((unhide HS _ (unhide HJM).1.fr).2.2.2.1).setCell 0 _).setCell 1 _).setCell 2 _
                          have HFV : Hid (Fr (fun _ => False) w (((wc.setCell ⟨B + 1 + 1, 0, none⟩ (.int .i64 0)).setCell ⟨B + 1 + 1, 1, none⟩ (.slice none 0 0)).setCell ⟨B + 1 + 1, 2, none⟩ (.slice none 0 0))) := hide ((((((unhide HS _ (unhide HJM).1.fr).1)).setCell (fun h => absurd h (by show ¬ B + 1 + 1 < _; have := unhide HBw; omega)) _).setCell (fun h => absurd h (by show ¬ B + 1 + 1 < _; have := unhide HBw; omega)) _).setCell (fun h => absurd h (by show ¬ B + 1 + 1 < _; have := unhide HBw; omega)) _)
                          have HFB : Hid (Fr (fun k => k = B + 1 + 1) wc (((wc.setCell ⟨B + 1 + 1, 0, none⟩ (.int .i64 0)).setCell ⟨B + 1 + 1, 1, none⟩ (.slice none 0 0)).setCell ⟨B + 1 + 1, 2, none⟩ (.slice none 0 0))) := hide (((((Fr.refl (fun k => k = B + 1 + 1) _)).setCell (fun _ => rfl) _).setCell (fun _ => rfl) _).setCell (fun _ => rfl) _)
                          generalize ((wc.setCell ⟨B + 1 + 1, 0, none⟩ (.int .i64 0)).setCell ⟨B + 1 + 1, 1, none⟩ (.slice none 0 0)).setCell ⟨B + 1 + 1, 2, none⟩ (.slice none 0 0) = V at *
                          have x0 : V.cell? ⟨B + 1 + 1, 0, none⟩ = some (.int .i64 0) := hfin.cell 0
                          have x1 : V.cell? ⟨B + 1 + 1, 1, none⟩ = some (.slice none 0 0) := hfin.cell 1
                          have x2 : V.cell? ⟨B + 1 + 1, 2, none⟩ = some (.slice none 0 0) := hfin.cell 2
                          clear hfin
                          refine bodyPost_ret (v := .tuple #[.agg #[.int .i64 0, .slice none 0 0, .slice none 0 0], .int .i64 2]) ?_ rfl ?_
                          · simp [results, Tryz.results23, go_sem, x0, x1, x2]
                          · exact ⟨none, 0, 0, none, 0, 0, by rw [unhide HRV]; rfl, by rw [unhide HRV]; exact LO.nil _ _, by rw [unhide HRV]; exact LO.nil _ _, unhide HFV⟩
                        · by_cases h7 : 1000 < nG
                          · have HRV : Hid (refJoinR d q = (dl0, 2)) := hide (by rw [unhide HR, if_neg (by rw [unhide H1]; simp), if_neg (by rw [unhide H2]; simp), if_neg (by rw [unhide H3]; simp), if_neg (by rw [unhide H4]; simp), if_neg (by rw [unhide H5]; simp), if_neg (by rw [unhide HnA]; exact h6), if_pos (by rw [unhide HnG]; exact h7)])
                            go_wp2
                            have hfin : Bx (((wc.setCell ⟨B + 1 + 1, 0, none⟩ (.int .i64 0)).setCell ⟨B + 1 + 1, 1, none⟩ (.slice none 0 0)).setCell ⟨B + 1 + 1, 2, none⟩ (.slice none 0 0)) (B + 1 + 1) #[.int .i64 0, .slice none 0 0, .slice none 0 0] 26 := ((((unhide HS _ (unhide HJM).1.fr).2.2.2.1).setCell 0 _).setCell 1 _).setCell 2 _
                            have HFV : Hid (Fr (fun _ => False) w (((wc.setCell ⟨B + 1 + 1, 0, none⟩ (.int .i64 0)).setCell ⟨B + 1 + 1, 1, none⟩ (.slice none 0 0)).setCell ⟨B + 1 + 1, 2, none⟩ (.slice none 0 0))) := hide ((((((unhide HS _ (unhide HJM).1.fr).1)).setCell (fun h => absurd h (by show ¬ B + 1 + 1 < _; have := unhide HBw; omega)) _).setCell (fun h => absurd h (by show ¬ B + 1 + 1 < _; have := unhide HBw; omega)) _).setCell (fun h => absurd h (by show ¬ B + 1 + 1 < _; have := unhide HBw; omega)) _)
                            have HFB : Hid (Fr (fun k => k = B + 1 + 1) wc (((wc.setCell ⟨B + 1 + 1, 0, none⟩ (.int .i64 0)).setCell ⟨B + 1 + 1, 1, none⟩ (.slice none 0 0)).setCell ⟨B + 1 + 1, 2, none⟩ (.slice none 0 0))) := hide (((((Fr.refl (fun k => k = B + 1 + 1) _)).setCell (fun _ => rfl) _).setCell (fun _ => rfl) _).setCell (fun _ => rfl) _)
                            generalize ((wc.setCell ⟨B + 1 + 1, 0, none⟩ (.int .i64 0)).setCell ⟨B + 1 + 1, 1, none⟩ (.slice none 0 0)).setCell ⟨B + 1 + 1, 2, none⟩ (.slice none 0 0) = V at *
                            have x0 : V.cell? ⟨B + 1 + 1, 0, none⟩ = some (.int .i64 0) := hfin.cell 0
                            have x1 : V.cell? ⟨B + 1 + 1, 1, none⟩ = some (.slice none 0 0) := hfin.cell 1
                            have x2 : V.cell? ⟨B + 1 + 1, 2, none⟩ = some (.slice none 0 0) := hfin.cell 2
                            clear hfin
                            refine bodyPost_ret (v := .tuple #[.agg #[.int .i64 0, .slice none 0 0, .slice none 0 0], .int .i64 2]) ?_ rfl ?_
                            · simp [results, Tryz.results23, go_sem, x0, x1, x2]
                            · exact ⟨none, 0, 0, none, 0, 0, by rw [unhide HRV]; rfl, by rw [unhide HRV]; exact LO.nil _ _, by rw [unhide HRV]; exact LO.nil _ _, unhide HFV⟩
                          · have HRV : Hid (refJoinR d q = (⟨q.ver, rjA d q, rjG d q⟩, 0)) := hide (by rw [unhide HR, if_neg (by rw [unhide H1]; simp), if_neg (by rw [unhide H2]; simp), if_neg (by rw [unhide H3]; simp), if_neg (by rw [unhide H4]; simp), if_neg (by rw [unhide H5]; simp), if_neg (by rw [unhide HnA]; exact h6), if_neg (by rw [unhide HnG]; exact h7)])
                            go_wp2
                            have hfin : Bx (((wc.setCell ⟨B + 1 + 1, 0, none⟩ (.int .i64 q.ver)).setCell ⟨B + 1 + 1, 1, none⟩ (.slice a7 nA c7)).setCell ⟨B + 1 + 1, 2, none⟩ (.slice a9 nG c9)) (B + 1 + 1) #[.int .i64 q.ver, .slice a7 nA c7, .slice a9 nG c9] 26 := ((((unhide HS _ (unhide HJM).1.fr).2.2.2.1).setCell 0 _).setCell 1 _).setCell 2 _
                            have HFV : Hid (Fr (fun _ => False) w (((wc.setCell ⟨B + 1 + 1, 0, none⟩ (.int .i64 q.ver)).setCell ⟨B + 1 + 1, 1, none⟩ (.slice a7 nA c7)).setCell ⟨B + 1 + 1, 2, none⟩ (.slice a9 nG c9))) := hide ((((((unhide HS _ (unhide HJM).1.fr).1)).setCell (fun h => absurd h (by show ¬ B + 1 + 1 < _; have := unhide HBw; omega)) _).setCell (fun h => absurd h (by show ¬ B + 1 + 1 < _; have := unhide HBw; omega)) _).setCell (fun h => absurd h (by show ¬ B + 1 + 1 < _; have := unhide HBw; omega)) _)
                            have HFB : Hid (Fr (fun k => k = B + 1 + 1) wc (((wc.setCell ⟨B + 1 + 1, 0, none⟩ (.int .i64 q.ver)).setCell ⟨B + 1 + 1, 1, none⟩ (.slice a7 nA c7)).setCell ⟨B + 1 + 1, 2, none⟩ (.slice a9 nG c9))) := hide (((((Fr.refl (fun k => k = B + 1 + 1) _)).setCell (fun _ => rfl) _).setCell (fun _ => rfl) _).setCell (fun _ => rfl) _)
                            generalize ((wc.setCell ⟨B + 1 + 1, 0, none⟩ (.int .i64 q.ver)).setCell ⟨B + 1 + 1, 1, none⟩ (.slice a7 nA c7)).setCell ⟨B + 1 + 1, 2, none⟩ (.slice a9 nG c9) = V at *
                            have x0 : V.cell? ⟨B + 1 + 1, 0, none⟩ = some (.int .i64 q.ver) := hfin.cell 0
                            have x1 : V.cell? ⟨B + 1 + 1, 1, none⟩ = some (.slice a7 nA c7) := hfin.cell 1
                            have x2 : V.cell? ⟨B + 1 + 1, 2, none⟩ = some (.slice a9 nG c9) := hfin.cell 2
                            clear hfin
                            refine bodyPost_ret (v := .tuple #[.agg #[.int .i64 q.ver, .slice a7 nA c7, .slice a9 nG c9], .int .i64 0]) ?_ rfl ?_
                            · simp [results, Tryz.results23, go_sem, x0, x1, x2]
                            · have hW := (unhide HS W0 (Fr.refl _ _)).2.2.2.1.lt
                              have hw0 := (unhide HS W0 (Fr.refl _ _)).1.size
                              refine ⟨a7, c7, g7, a9, c9, g9, by rw [unhide HRV, ← unhide HnA, ← unhide HnG]; rfl, ?_, ?_, unhide HFV⟩
                              · rw [unhide HRV]
                                exact ((unhide HJM).1.ra.go (unhide HFB) (fun hc t => by have := (unhide HJM).1.ra.new hc; omega)).later hw0
                              · rw [unhide HRV]
                                exact ((unhide HJM).1.rg.go (unhide HFB) (fun hc t => by have := (unhide HJM).1.rg.new hc; omega)).later hw0
            · as_aux_lemma =>
                have HJ1 : Hid (JS W0 (((wb.setCell ⟨w4.heap.size, 0, none⟩ (.int .i64 q.ver)).setCell ⟨w4.heap.size, 1, none⟩ (.slice aoa (outL d.add q.gone).length capa)).setCell ⟨w4.heap.size, 2, none⟩ (.slice aob (outL d.gone q.add).length capb)) w4.heap.size q.ver (outL d.add q.gone) (outL d.gone q.add) aoa capa ga aob capb gb) := hide (by
                  have hs : Fr (fun k => k = w4.heap.size) wb (((wb.setCell ⟨w4.heap.size, 0, none⟩ (.int .i64 q.ver)).setCell ⟨w4.heap.size, 1, none⟩ (.slice aoa (outL d.add q.gone).length capa)).setCell ⟨w4.heap.size, 2, none⟩ (.slice aob (outL d.gone q.add).length capb)) := (((Fr.refl (fun k => k = w4.heap.size) wb).setCell (fun _ => rfl) _).setCell (fun _ => rfl) _).setCell (fun _ => rfl) _
                  have s4 := (unhide HF4).size
                  have sa := (unhide hFa).size
                  have l1 : LO W0 wb aoa capa ga (outL d.add q.gone) := ((unhide hLa).keep (unhide hEb)).later (by rw [heap_alloc]; show W0.heap.size ≤ w4.heap.size + 1; omega)
                  have l2 : LO W0 wb aob capb gb (outL d.gone q.add) := (unhide hLb).later (by omega)
                  have hq4 := (unhide hBc).lt
                  have n1' : 0 < capa → ¬ ga = w4.heap.size := fun hc t => by have := (unhide hLa).new hc; rw [heap_alloc] at this; have e4 : w4.drew.heap.size = w4.heap.size := rfl; omega
                  have n2' : 0 < capb → ¬ gb = w4.heap.size := fun hc t => by have := (unhide hLb).new hc; omega
                  exact ⟨((unhide HF4).trans (unhide hFb) (fun _ _ t => t)).trans hs (fun i hi t => by omega), (((unhide hBx).setCell 0 _).setCell 1 _).setCell 2 _, l1.go hs n1', l2.go hs n2', n1', n2', by omega⟩)
                generalize ((wb.setCell ⟨w4.heap.size, 0, none⟩ (.int .i64 q.ver)).setCell ⟨w4.heap.size, 1, none⟩ (.slice aoa (outL d.add q.gone).length capa)).setCell ⟨w4.heap.size, 2, none⟩ (.slice aob (outL d.gone q.add).length capb) = V at *
                obtain ⟨Q, HQe⟩ : ∃ Q, Hid (w4.heap.size = Q) := ⟨_, rfl⟩
                rw [unhide HQe] at HJ1 ⊢
                clear hLa hLb hFa hFb hEb hBx y0 y1 y2 z0 z1 z2 HSS hRA hRB hBc
                have x1 : V.cell? ⟨B + 1, 1, none⟩ = some (.slice b1 q.add.length k1) := (unhide HS _ (unhide HJ1).fr).2.2.1.cell 1
                have x2 : V.cell? ⟨B, 2, none⟩ = some (.slice a2 d.gone.length c2) := (unhide HS _ (unhide HJ1).fr).2.1.cell 2
                have RW := hide (without13_any V q.add d.gone b1 k1 a2 c2 (unhide HS _ (unhide HJ1).fr).2.2.2.2.2.add (unhide HS _ (unhide HJ1).fr).2.2.2.2.1.gone (by omega) (by omega))
                have HLM := hide (outL_len q.add d.gone)
                go_wp2_with fail
                refine (unhide RW).mono ?_
                clear RW x1 x2
                rintro e w5 ⟨mo, mc, mg, rfl, hLm, hF⟩
                have H5a : Hid (JS W0 w5 Q q.ver (outL d.add q.gone) (outL d.gone q.add) aoa capa ga aob capb gb ∧ LO V w5 mo mc mg (outL q.add d.gone) ∧ Q < V.heap.size) := hide ⟨(unhide HJ1).keep hF, hLm, (unhide HJ1).bx.lt⟩
                clear hLm hF HJ1
                obtain ⟨LM, HLMe⟩ : ∃ LM, Hid (outL q.add d.gone = LM) := ⟨_, rfl⟩
                rw [unhide HLMe] at H5a HLM ⊢
                have hlm : LM.length ≤ 1000 := by have := unhide HLM; omega
                go_wp2
                go_loopw [10] (fun iv wr => ∃ (i : Nat), i ≤ LM.length ∧ iv = .int .i64 i ∧ Hid (∃ (a7 : Option Addr) (c7 g7 : Nat), JS W0 wr Q q.ver (putsL (outL d.add q.gone) (LM.take i)) (outL d.gone q.add) a7 c7 g7 aob capb gb ∧ LO V wr mo mc mg LM)) (fun iv _ => LM.length - (intOf iv).toNat)
                case atStart => exact ⟨0, Nat.zero_le _, rfl, aoa, capa, ga, (unhide H5a).1, (unhide H5a).2.1⟩
                case round =>
                  have HQVa := hide (unhide H5a).2.2
                  clear H5a
                  obtain ⟨i, hi, rfl, HI⟩ := hrel
                  obtain ⟨wc, hwc⟩ : ∃ wc, wc = wr := ⟨_, rfl⟩
                  rw [← hwc] at HI ⊢
                  clear hwc
                  obtain ⟨a7, c7, g7, hJ, hM⟩ := unhide HI
                  have HJM := hide (And.intro hJ hM)
                  clear HI hJ hM
                  by_cases hil : i < LM.length
                  · obtain ⟨b', off', e', c0⟩ := (unhide HJM).2.sat.at hil
                    subst e'
                    have HST : Hid (putsL (outL d.add q.gone) (LM.take (i + 1)) = putL (putsL (outL d.add q.gone) (LM.take i)) LM[i]) := hide (by rw [List.take_succ_eq_append_getElem hil, putsL_snoc])
                    have HLN : Hid ((putsL (outL d.add q.gone) (LM.take i)).length ≤ 5000) := hide (by have h1 := (putsL_len (LM.take i) (outL d.add q.gone)).2; rw [List.length_take] at h1; have h2 := outL_len d.add q.gone; omega)
                    have RP := put_any2 W0 wc.drew a7 c7 g7 (putsL (outL d.add q.gone) (LM.take i)) LM[i] ((unhide HJM).1.ra.keep ((Fr.refl _ _).drew)) (unhide HJM).1.fr.size (by have := unhide HLN; omega)
                    rw [← unhide HST] at RP
                    have RP := hide RP
                    have u1 : wc.cell? ⟨Q, 1, none⟩ = some (.slice a7 (putsL (outL d.add q.gone) (LM.take i)).length c7) := (unhide HJM).1.bx.cell 1
                    obtain ⟨n0, Hn0⟩ : ∃ n, Hid ((putsL (outL d.add q.gone) (LM.take i)).length = n) := ⟨_, rfl⟩
                    obtain ⟨n1, Hn1⟩ : ∃ n, Hid ((putsL (outL d.add q.gone) (LM.take (i + 1))).length = n) := ⟨_, rfl⟩
                    rw [unhide Hn0] at RP u1
                    rw [unhide Hn1] at RP
                    obtain ⟨x, HXX⟩ : ∃ x, Hid (LM[i] = x) := ⟨LM[i], rfl⟩
                    rw [unhide HXX] at RP c0
                    go_upto_region 14 with (fail)
                    go_region_with ((go_at_call 34; refine (unhide RP).mono ?_; rintro e w8 ⟨ao8, cap8, g8, rfl, hL8', hF8', hO8'⟩; have hR8 := hide (And.intro hL8' (And.intro hF8' hO8')); have hb8 := (unhide HJM).1.bx.keep (((Fr.refl (fun _ => False) wc).drew).trans hF8' (fun _ _ t => t)); have y1 := hb8.cell 1; have z1 := hb8.frozen 1; simp only [List.getElem?_toArray, List.getElem?_cons_succ, List.getElem?_cons_zero] at y1; clear hL8' hF8' hO8' hb8))
                    all_goals
                      have HN : Hid (∃ (a7 : Option Addr) (c7 g7 : Nat), JS W0 (w8.setCell ⟨Q, 1, none⟩ (.slice ao8 n1 cap8)) Q q.ver (putsL (outL d.add q.gone) (LM.take (i + 1))) (outL d.gone q.add) a7 c7 g7 aob capb gb ∧ LO V (w8.setCell ⟨Q, 1, none⟩ (.slice ao8 n1 cap8)) (some ⟨b', off', none⟩) mc mg LM) := hide (by
                        obtain ⟨hL8, hF8, hO8⟩ := unhide hR8
                        have hF0 : Fr (fun _ => False) wc w8 := ((Fr.refl (fun _ => False) wc).drew).trans hF8 (fun _ _ t => t)
                        obtain ⟨j1, j2⟩ := (unhide HJM).1.putA hF0 hL8 hO8 (unhide Hn1).symm
                        refine ⟨ao8, cap8, g8, j1, ((unhide HJM).2.keep hF0).go j2 (fun hc t => ?_)⟩
                        have := (unhide HJM).2.new hc
                        have := unhide HQVa
                        omega)
                      generalize w8.setCell ⟨Q, 1, none⟩ (.slice ao8 n1 cap8) = w9 at *
                      clear hR8 y1 z1 u1 c0 RP HJM HST HLN
                      go_wp2
                      exact ⟨⟨i + 1, by omega, by go_num, unhide HN⟩, by simp [intOf]; omega⟩
                  · obtain rfl : i = LM.length := by omega
                    rw [List.take_length] at HJM
                    rw [← unhide HLMe] at HJM
                    have HJ2 : Hid (JS W0 wc Q q.ver (rjA d q) (outL d.gone q.add) a7 c7 g7 aob capb gb) := hide (unhide HJM).1
                    clear HJM HLMe HLM hlm hi hil HQVa
                    obtain ⟨V2, hV2⟩ : ∃ V2, V2 = wc := ⟨_, rfl⟩
                    rw [← hV2] at HJ2 ⊢
                    clear hV2
                    have x1 : V2.cell? ⟨B + 1, 2, none⟩ = some (.slice b2 q.gone.length k2) := (unhide HS _ (unhide HJ2).fr).2.2.1.cell 2
                    have x2 : V2.cell? ⟨B, 1, none⟩ = some (.slice a1 d.add.length c1) := (unhide HS _ (unhide HJ2).fr).2.1.cell 1
                    have RW := hide (without13_any V2 q.gone d.add b2 k2 a1 c1 (unhide HS _ (unhide HJ2).fr).2.2.2.2.2.gone (unhide HS _ (unhide HJ2).fr).2.2.2.2.1.add (by omega) (by omega))
                    have HLM := hide (outL_len q.gone d.add)
                    go_wp2_with fail
                    refine (unhide RW).mono ?_
                    clear RW x1 x2
                    rintro e w5 ⟨mo, mc, mg, rfl, hLm, hF⟩
                    have H5b : Hid (JS W0 w5 Q q.ver (rjA d q) (outL d.gone q.add) a7 c7 g7 aob capb gb ∧ LO V2 w5 mo mc mg (outL q.gone d.add) ∧ Q < V2.heap.size) := hide ⟨(unhide HJ2).keep hF, hLm, (unhide HJ2).bx.lt⟩
                    clear hLm hF HJ2
                    obtain ⟨LM, HLMe⟩ : ∃ LM, Hid (outL q.gone d.add = LM) := ⟨_, rfl⟩
                    rw [unhide HLMe] at H5b HLM ⊢
                    have hlm : LM.length ≤ 1000 := by have := unhide HLM; omega
                    go_wp2
                    go_loopw [12] (fun iv wr => ∃ (i : Nat), i ≤ LM.length ∧ iv = .int .i64 i ∧ Hid (∃ (a9 : Option Addr) (c9 g9 : Nat), JS W0 wr Q q.ver (rjA d q) (putsL (outL d.gone q.add) (LM.take i)) a7 c7 g7 a9 c9 g9 ∧ LO V2 wr mo mc mg LM)) (fun iv _ => LM.length - (intOf iv).toNat)
                    case atStart => exact ⟨0, Nat.zero_le _, rfl, aob, capb, gb, (unhide H5b).1, (unhide H5b).2.1⟩
                    case round =>
                      have HQVb := hide (unhide H5b).2.2
                      clear H5b
                      obtain ⟨i, hi, rfl, HI⟩ := hrel
                      obtain ⟨wc, hwc⟩ : ∃ wc, wc = wr := ⟨_, rfl⟩
                      rw [← hwc] at HI ⊢
                      clear hwc
                      obtain ⟨a9, c9, g9, hJ, hM⟩ := unhide HI
                      have HJM := hide (And.intro hJ hM)
                      clear HI hJ hM
                      by_cases hil : i < LM.length
                      · obtain ⟨b', off', e', c0⟩ := (unhide HJM).2.sat.at hil
                        subst e'
                        have HST : Hid (putsL (outL d.gone q.add) (LM.take (i + 1)) = putL (putsL (outL d.gone q.add) (LM.take i)) LM[i]) := hide (by rw [List.take_succ_eq_append_getElem hil, putsL_snoc])
                        have HLN : Hid ((putsL (outL d.gone q.add) (LM.take i)).length ≤ 5000) := hide (by have h1 := (putsL_len (LM.take i) (outL d.gone q.add)).2; rw [List.length_take] at h1; have h2 := outL_len d.gone q.add; omega)
                        have RP := put_any2 W0 wc.drew a9 c9 g9 (putsL (outL d.gone q.add) (LM.take i)) LM[i] ((unhide HJM).1.rg.keep ((Fr.refl _ _).drew)) (unhide HJM).1.fr.size (by have := unhide HLN; omega)
                        rw [← unhide HST] at RP
                        have RP := hide RP
                        have u1 : wc.cell? ⟨Q, 2, none⟩ = some (.slice a9 (putsL (outL d.gone q.add) (LM.take i)).length c9) := (unhide HJM).1.bx.cell 2
                        obtain ⟨n0, Hn0⟩ : ∃ n, Hid ((putsL (outL d.gone q.add) (LM.take i)).length = n) := ⟨_, rfl⟩
                        obtain ⟨n1, Hn1⟩ : ∃ n, Hid ((putsL (outL d.gone q.add) (LM.take (i + 1))).length = n) := ⟨_, rfl⟩
                        rw [unhide Hn0] at RP u1
                        rw [unhide Hn1] at RP
                        obtain ⟨x, HXX⟩ : ∃ x, Hid (LM[i] = x) := ⟨LM[i], rfl⟩
                        rw [unhide HXX] at RP c0
                        go_upto_region 19 with (fail)
                        go_region_with ((go_at_call 34; refine (unhide RP).mono ?_; rintro e w8 ⟨ao8, cap8, g8, rfl, hL8', hF8', hO8'⟩; have hR8 := hide (And.intro hL8' (And.intro hF8' hO8')); have hb8 := (unhide HJM).1.bx.keep (((Fr.refl (fun _ => False) wc).drew).trans hF8' (fun _ _ t => t)); have y1 := hb8.cell 2; have z1 := hb8.frozen 2; simp only [List.getElem?_toArray, List.getElem?_cons_succ, List.getElem?_cons_zero] at y1; clear hL8' hF8' hO8' hb8))
                        all_goals
                          have HN : Hid (∃ (a9 : Option Addr) (c9 g9 : Nat), JS W0 (w8.setCell ⟨Q, 2, none⟩ (.slice ao8 n1 cap8)) Q q.ver (rjA d q) (putsL (outL d.gone q.add) (LM.take (i + 1))) a7 c7 g7 a9 c9 g9 ∧ LO V2 (w8.setCell ⟨Q, 2, none⟩ (.slice ao8 n1 cap8)) (some ⟨b', off', none⟩) mc mg LM) := hide (by
                            obtain ⟨hL8, hF8, hO8⟩ := unhide hR8
                            have hF0 : Fr (fun _ => False) wc w8 := ((Fr.refl (fun _ => False) wc).drew).trans hF8 (fun _ _ t => t)
                            obtain ⟨j1, j2⟩ := (unhide HJM).1.putG hF0 hL8 hO8 (unhide Hn1).symm
                            refine ⟨ao8, cap8, g8, j1, ((unhide HJM).2.keep hF0).go j2 (fun hc t => ?_)⟩
                            have := (unhide HJM).2.new hc
                            have := unhide HQVb
                            omega)
                          generalize w8.setCell ⟨Q, 2, none⟩ (.slice ao8 n1 cap8) = w9 at *
                          clear hR8 y1 z1 u1 c0 RP HJM HST HLN
                          go_wp2
                          exact ⟨⟨i + 1, by omega, by go_num, unhide HN⟩, by simp [intOf]; omega⟩
                      · obtain rfl : i = LM.length := by omega
                        rw [List.take_length] at HJM
                        rw [← unhide HLMe] at HJM
                        have HJM : Hid (JS W0 wc Q q.ver (rjA d q) (rjG d q) a7 c7 g7 a9 c9 g9 ∧ True) := hide ⟨(unhide HJM).1, trivial⟩
                        clear HLMe HLM hlm
                        have y0 : wc.cell? ⟨B + 1 + 1, 0, none⟩ = some (.int .i64 0) := (unhide HS _ ((unhide HJM).1.fr)).2.2.2.1.cell 0
                        have y1 : wc.cell? ⟨B + 1 + 1, 1, none⟩ = some (.slice none 0 0) := (unhide HS _ ((unhide HJM).1.fr)).2.2.2.1.cell 1
                        have y2 : wc.cell? ⟨B + 1 + 1, 2, none⟩ = some (.slice none 0 0) := (unhide HS _ ((unhide HJM).1.fr)).2.2.2.1.cell 2
                        have z0 := (unhide HS _ ((unhide HJM).1.fr)).2.2.2.1.frozen 0
                        have z1 := (unhide HS _ ((unhide HJM).1.fr)).2.2.2.1.frozen 1
                        have z2 := (unhide HS _ ((unhide HJM).1.fr)).2.2.2.1.frozen 2
                        have u0 : wc.cell? ⟨Q, 0, none⟩ = some (.int .i64 q.ver) := (unhide HJM).1.bx.cell 0
                        have u1 : wc.cell? ⟨Q, 1, none⟩ = some (.slice a7 (rjA d q).length c7) := (unhide HJM).1.bx.cell 1
                        have u2 : wc.cell? ⟨Q, 2, none⟩ = some (.slice a9 (rjG d q).length c9) := (unhide HJM).1.bx.cell 2
                        obtain ⟨nA, HnA⟩ : ∃ n, Hid ((rjA d q).length = n) := ⟨_, rfl⟩
                        obtain ⟨nG, HnG⟩ : ∃ n, Hid ((rjG d q).length = n) := ⟨_, rfl⟩
                        rw [unhide HnA] at u1
                        rw [unhide HnG] at u2
                        by_cases h6 : 1000 < nA
                        · have HRV : Hid (refJoinR d q = (dl0, 2)) := hide (by rw [unhide HR, if_neg (by rw [unhide H1]; simp), if_neg (by rw [unhide H2]; simp), if_neg (by rw [unhide H3]; simp), if_neg (by rw [unhide H4]; simp), if_neg (by rw [unhide H5]; simp), if_pos (by rw [unhide HnA]; exact h6)])
                          go_wp2
                          have hfin : Bx (((wc.setCell ⟨B + 1 + 1, 0, none⟩ (.int .i64 0)).setCell ⟨B + 1 + 1, 1, none⟩ (.slice none 0 0)).setCell ⟨B + 1 + 1, 2, none⟩ (.slice none 0 0)) (B + 1 + 1) #[.int .i64 0, .slice none 0 0, .slice none 0 0] 26 := ((((unhide HS _ (unhide HJM).1.fr).2.2.2.1).setCell 0 _).setCell 1 _).setCell 2 _
                          have HFV : Hid (Fr (fun _ => False) w (((wc.setCell ⟨B + 1 + 1, 0, none⟩ (.int .i64 0)).setCell ⟨B + 1 + 1, 1, none⟩ (.slice none 0 0)).setCell ⟨B + 1 + 1, 2, none⟩ (.slice none 0 0))) := hide ((((((unhide HS _ (unhide HJM).1.fr).1)).setCell (fun h => absurd h (by show ¬ B + 1 + 1 < _; have := unhide HBw; omega)) _).setCell (fun h => absurd h (by show ¬ B + 1 + 1 < _; have := unhide HBw; omega)) _).setCell (fun h => absurd h (by show ¬ B + 1 + 1 < _; have := unhide HBw; omega)) _)
                          have HFB : Hid (Fr (fun k => k = B + 1 + 1) wc (((wc.setCell ⟨B + 1 + 1, 0, none⟩ (.int .i64 0)).setCell ⟨B + 1 + 1, 1, none⟩ (.slice none 0 0)).setCell ⟨B + 1 + 1, 2, none⟩ (.slice none 0 0))) := hide (((((Fr.refl (fun k => k = B + 1 + 1) _)).setCell (fun _ => rfl) _).setCell (fun _ => rfl) _).setCell (fun _ => rfl) _)
                          generalize ((wc.setCell ⟨B + 1 + 1, 0, none⟩ (.int .i64 0)).setCell ⟨B + 1 + 1, 1, none⟩ (.slice none 0 0)).setCell ⟨B + 1 + 1, 2, none⟩ (.slice none 0 0) = V at *
                          have x0 : V.cell? ⟨B + 1 + 1, 0, none⟩ = some (.int .i64 0) := hfin.cell 0
                          have x1 : V.cell? ⟨B + 1 + 1, 1, none⟩ = some (.slice none 0 0) := hfin.cell 1
                          have x2 : V.cell? ⟨B + 1 + 1, 2, none⟩ = some (.slice none 0 0) := hfin.cell 2
                          clear hfin
                          refine bodyPost_ret (v := .tuple #[.agg #[.int .i64 0, .slice none 0 0, .slice none 0 0], .int .i64 2]) ?_ rfl ?_
                          · simp [results, Tryz.results23, go_sem, x0, x1, x2]
                          · exact ⟨none, 0, 0, none, 0, 0, by rw [unhide HRV]; rfl, by rw [unhide HRV]; exact LO.nil _ _, by rw [unhide HRV]; exact LO.nil _ _, unhide HFV⟩
                        · by_cases h7 : 1000 < nG
                          · have HRV : Hid (refJoinR d q = (dl0, 2)) := hide (by rw [unhide HR, if_neg (by rw [unhide H1]; simp), if_neg (by rw [unhide H2]; simp), if_neg (by rw [unhide H3]; simp), if_neg (by rw [unhide H4]; simp), if_neg (by rw [unhide H5]; simp), if_neg (by rw [unhide HnA]; exact h6), if_pos (by rw [unhide HnG]; exact h7)])
                            go_wp2
                            have hfin : Bx (((wc.setCell ⟨B + 1 + 1, 0, none⟩ (.int .i64 0)).setCell ⟨B + 1 + 1, 1, none⟩ (.slice none 0 0)).setCell ⟨B + 1 + 1, 2, none⟩ (.slice none 0 0)) (B + 1 + 1) #[.int .i64 0, .slice none 0 0, .slice none 0 0] 26 := ((((unhide HS _ (unhide HJM).1.fr).2.2.2.1).setCell 0 _).setCell 1 _).setCell 2 _
                            have HFV : Hid (Fr (fun _ => False) w (((wc.setCell ⟨B + 1 + 1, 0, none⟩ (.int .i64 0)).setCell ⟨B + 1 + 1, 1, none⟩ (.slice none 0 0)).setCell ⟨B + 1 + 1, 2, none⟩ (.slice none 0 0))) := hide ((((((unhide HS _ (unhide HJM).1.fr).1)).setCell (fun h => absurd h (by show ¬ B + 1 + 1 < _; have := unhide HBw; omega)) _).setCell (fun h => absurd h (by show ¬ B + 1 + 1 < _; have := unhide HBw; omega)) _).setCell (fun h => absurd h (by show ¬ B + 1 + 1 < _; have := unhide HBw; omega)) _)
                            have HFB : Hid (Fr (fun k => k = B + 1 + 1) wc (((wc.setCell ⟨B + 1 + 1, 0, none⟩ (.int .i64 0)).setCell ⟨B + 1 + 1, 1, none⟩ (.slice none 0 0)).setCell ⟨B + 1 + 1, 2, none⟩ (.slice none 0 0))) := hide (((((Fr.refl (fun k => k = B + 1 + 1) _)).setCell (fun _ => rfl) _).setCell (fun _ => rfl) _).setCell (fun _ => rfl) _)
                            generalize ((wc.setCell ⟨B + 1 + 1, 0, none⟩ (.int .i64 0)).setCell ⟨B + 1 + 1, 1, none⟩ (.slice none 0 0)).setCell ⟨B + 1 + 1, 2, none⟩ (.slice none 0 0) = V at *
                            have x0 : V.cell? ⟨B + 1 + 1, 0, none⟩ = some (.int .i64 0) := hfin.cell 0
                            have x1 : V.cell? ⟨B + 1 + 1, 1, none⟩ = some (.slice none 0 0) := hfin.cell 1
                            have x2 : V.cell? ⟨B + 1 + 1, 2, none⟩ = some (.slice none 0 0) := hfin.cell 2
                            clear hfin
                            refine bodyPost_ret (v := .tuple #[.agg #[.int .i64 0, .slice none 0 0, .slice none 0 0], .int .i64 2]) ?_ rfl ?_
                            · simp [results, Tryz.results23, go_sem, x0, x1, x2]
                            · exact ⟨none, 0, 0, none, 0, 0, by rw [unhide HRV]; rfl, by rw [unhide HRV]; exact LO.nil _ _, by rw [unhide HRV]; exact LO.nil _ _, unhide HFV⟩
                          · have HRV : Hid (refJoinR d q = (⟨q.ver, rjA d q, rjG d q⟩, 0)) := hide (by rw [unhide HR, if_neg (by rw [unhide H1]; simp), if_neg (by rw [unhide H2]; simp), if_neg (by rw [unhide H3]; simp), if_neg (by rw [unhide H4]; simp), if_neg (by rw [unhide H5]; simp), if_neg (by rw [unhide HnA]; exact h6), if_neg (by rw [unhide HnG]; exact h7)])
                            go_wp2
                            have hfin : Bx (((wc.setCell ⟨B + 1 + 1, 0, none⟩ (.int .i64 q.ver)).setCell ⟨B + 1 + 1, 1, none⟩ (.slice a7 nA c7)).setCell ⟨B + 1 + 1, 2, none⟩ (.slice a9 nG c9)) (B + 1 + 1) #[.int .i64 q.ver, .slice a7 nA c7, .slice a9 nG c9] 26 := ((((unhide HS _ (unhide HJM).1.fr).2.2.2.1).setCell 0 _).setCell 1 _).setCell 2 _
                            have HFV : Hid (Fr (fun _ => False) w (((wc.setCell ⟨B + 1 + 1, 0, none⟩ (.int .i64 q.ver)).setCell ⟨B + 1 + 1, 1, none⟩ (.slice a7 nA c7)).setCell ⟨B + 1 + 1, 2, none⟩ (.slice a9 nG c9))) := hide ((((((unhide HS _ (unhide HJM).1.fr).1)).setCell (fun h => absurd h (by show ¬ B + 1 + 1 < _; have := unhide HBw; omega)) _).setCell (fun h => absurd h (by show ¬ B + 1 + 1 < _; have := unhide HBw; omega)) _).setCell (fun h => absurd h (by show ¬ B + 1 + 1 < _; have := unhide HBw; omega)) _)
                            have HFB : Hid (Fr (fun k => k = B + 1 + 1) wc (((wc.setCell ⟨B + 1 + 1, 0, none⟩ (.int .i64 q.ver)).setCell ⟨B + 1 + 1, 1, none⟩ (.slice a7 nA c7)).setCell ⟨B + 1 + 1, 2, none⟩ (.slice a9 nG c9))) := hide (((((Fr.refl (fun k => k = B + 1 + 1) _)).setCell (fun _ => rfl) _).setCell (fun _ => rfl) _).setCell (fun _ => rfl) _)
                            generalize ((wc.setCell ⟨B + 1 + 1, 0, none⟩ (.int .i64 q.ver)).setCell ⟨B + 1 + 1, 1, none⟩ (.slice a7 nA c7)).setCell ⟨B + 1 + 1, 2, none⟩ (.slice a9 nG c9) = V at *
                            have x0 : V.cell? ⟨B + 1 + 1, 0, none⟩ = some (.int .i64 q.ver) := hfin.cell 0
                            have x1 : V.cell? ⟨B + 1 + 1, 1, none⟩ = some (.slice a7 nA c7) := hfin.cell 1
                            have x2 : V.cell? ⟨B + 1 + 1, 2, none⟩ = some (.slice a9 nG c9) := hfin.cell 2
                            clear hfin
                            refine bodyPost_ret (v := .tuple #[.agg #[.int .i64 q.ver, .slice a7 nA c7, .slice a9 nG c9], .int .i64 0]) ?_ rfl ?_
                            · simp [results, Tryz.results23, go_sem, x0, x1, x2]
                            · have hW := (unhide HS W0 (Fr.refl _ _)).2.2.2.1.lt
                              have hw0 := (unhide HS W0 (Fr.refl _ _)).1.size
                              refine ⟨a7, c7, g7, a9, c9, g9, by rw [unhide HRV, ← unhide HnA, ← unhide HnG]; rfl, ?_, ?_, unhide HFV⟩
                              · rw [unhide HRV]
                                exact ((unhide HJM).1.ra.go (unhide HFB) (fun hc t => by have := (unhide HJM).1.ra.new hc; omega)).later hw0
                              · rw [unhide HRV]
                                exact ((unhide HJM).1.rg.go (unhide HFB) (fun hc t => by have := (unhide HJM).1.rg.new hc; omega)).later hw0

end Go.Proofs.YtmhljehkodhggaaGreat

