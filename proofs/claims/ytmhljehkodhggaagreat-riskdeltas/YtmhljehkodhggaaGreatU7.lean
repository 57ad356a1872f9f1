import Derived.Test.YtmhljehkodhggaaGreatU6
/- Package risk: the delta by which a list becomes one of these tokens. -/
namespace Go.Proofs.YtmhljehkodhggaaGreat
open Go.RowKit

def dl0 : Dl := ⟨0, [], []⟩
/-- How a list becomes one of these tokens, or what is wrong. -/
def diffR (l : Rl) (ts : List ByteArray) : Dl × Int :=
  if rightE l ≠ 0 then (dl0, rightE l) else if l.ver = 9223372036854775807 then (dl0, 130) else if ts.all isTok = false then (dl0, 131) else if 1000 < (riseL ts).length then (dl0, 2) else (⟨l.ver + 1, woL (riseL ts) l.toks, woL l.toks (riseL ts)⟩, 0)

/-- A delta of one's own, made behind w0. -/
structure DO (w0 w : World) (d : Dl) (a1 : Option Addr) (c1 g1 : Nat) (a2 : Option Addr) (c2 g2 : Nat) : Prop where
  add : LO w0 w a1 c1 g1 d.add
  gone : LO w0 w a2 c2 g2 d.gone
  ne : 0 < c1 → 0 < c2 → g1 ≠ g2
theorem DO.keep {w0 w w' : World} {d : Dl} {a1 : Option Addr} {c1 g1 : Nat} {a2 : Option Addr} {c2 g2 : Nat} (h : DO w0 w d a1 c1 g1 a2 c2 g2) (hf : Fr (fun _ => False) w w') : DO w0 w' d a1 c1 g1 a2 c2 g2 := ⟨h.add.keep hf, h.gone.keep hf, h.ne⟩
theorem DO.go {S : Nat → Prop} {w0 w w' : World} {d : Dl} {a1 : Option Addr} {c1 g1 : Nat} {a2 : Option Addr} {c2 g2 : Nat} (h : DO w0 w d a1 c1 g1 a2 c2 g2) (hf : Fr S w w') (h1 : 0 < c1 → ¬ S g1) (h2 : 0 < c2 → ¬ S g2) : DO w0 w' d a1 c1 g1 a2 c2 g2 := ⟨h.add.go hf h1, h.gone.go hf h2, h.ne⟩
theorem DO.later {w0 w1 w : World} {d : Dl} {a1 : Option Addr} {c1 g1 : Nat} {a2 : Option Addr} {c2 g2 : Nat} (h : DO w1 w d a1 c1 g1 a2 c2 g2) (hs : w0.heap.size ≤ w1.heap.size) : DO w0 w d a1 c1 g1 a2 c2 g2 := ⟨h.add.later hs, h.gone.later hs, h.ne⟩
theorem DO.zero (w0 w : World) : DO w0 w dl0 none 0 0 none 0 0 := ⟨LO.nil _ _, LO.nil _ _, fun h => absurd h (by omega)⟩
/-- What Diff and Join come to. -/
def Delta2 (w : World) (r : Dl × Int) (e : Ending) (w' : World) : Prop := ∃ a1 c1 g1 a2 c2 g2, e = .returned (.tuple #[.agg (dlC r.1 a1 c1 a2 c2), .int .i64 r.2]) ∧ DO w w' r.1 a1 c1 g1 a2 c2 g2 ∧ Fr (fun _ => False) w w'

/-- Two rows, one made behind the other. -/
theorem two_rows {w W wa wb : World} {d : Dl} {a1 : Option Addr} {c1 g1 : Nat} {a2 : Option Addr} {c2 g2 : Nat} (h0 : Fr (fun _ => False) w W) (hW : W.heap.size ≤ wa.heap.size) {v : World} (hv : W.heap.size ≤ v.heap.size) (ha : LO v wa a1 c1 g1 d.add) (hb : LO wa wb a2 c2 g2 d.gone) (hf : Fr (fun _ => False) wa wb) : DO w wb d a1 c1 g1 a2 c2 g2 ∧ (0 < c1 → W.heap.size ≤ g1) ∧ (0 < c2 → W.heap.size ≤ g2) :=
  ⟨⟨(ha.later (Nat.le_trans h0.size hv)).keep hf, hb.later (Nat.le_trans h0.size hW), fun i1 i2 => by have := ha.lt i1; have := hb.new i2; omega⟩, fun i => Nat.le_trans hv (ha.new i), fun i => Nat.le_trans hW (hb.new i)⟩
theorem two_rows' {w W wa wb : World} {d : Dl} {a1 : Option Addr} {c1 g1 : Nat} {a2 : Option Addr} {c2 g2 : Nat} (h0 : Fr (fun _ => False) w W) (hW : W.heap.size ≤ wa.heap.size) {v : World} (hv : W.heap.size ≤ v.heap.size) (ha : LO v wa a2 c2 g2 d.gone) (hb : LO wa wb a1 c1 g1 d.add) (hf : Fr (fun _ => False) wa wb) : DO w wb d a1 c1 g1 a2 c2 g2 ∧ (0 < c1 → W.heap.size ≤ g1) ∧ (0 < c2 → W.heap.size ≤ g2) :=
  ⟨⟨hb.later (Nat.le_trans h0.size hW), (ha.later (Nat.le_trans h0.size hv)).keep hf, fun i1 i2 => by have := ha.lt i2; have := hb.new i1; omega⟩, fun i => Nat.le_trans hW (hb.new i), fun i => Nat.le_trans hv (ha.new i)⟩

set_option maxHeartbeats 4000000 in
set_option maxRecDepth 20000 in
theorem diff_any (w : World) (l : Rl) (a : Option Addr) (c : Nat) (hl : RIn w l a c) (ts : List ByteArray) (at' : Option Addr) (ct : Nat) (ht : SAt w at' ts) (hlt : ts.length * 16 ≤ 140737488355328) :
    Calls Tryz.prog 19 #[.agg (rlC l a c), .slice at' ts.length ct] w (Delta2 w (diffR l ts)) := by
  have R1 := hide (fun (w1 : World) (hf : Fr (fun _ => False) w w1) => right_any w1 l a c (hl.toks.keep hf) hl.len)
  have R2 := hide (fun (w1 : World) (hf : Fr (fun _ => False) w w1) => areTokens_any w1 at' ct ts (ht.keep hf) (by omega))
  have R3 := hide (fun (w1 : World) (hf : Fr (fun _ => False) w w1) => riseS_any w1 at' ct ts (ht.keep hf) hlt)
  have HK : Hid (rightE l = 0 → l.toks.length ≤ 1000 ∧ 0 ≤ l.ver) := hide (fun h => ⟨listOk_len (rightE_ok h).1, (rightE_ok h).2.1⟩)
  have HV := hide hl.ver
  have RA : Hid (∀ W, Fr (fun _ => False) w W → l.toks.length ≤ 1000 → (riseL ts).length ≤ 1000 → ∀ ro rc g, LO w W ro rc g (riseL ts) → ∀ w', Fr (fun _ => False) W w' → Calls Tryz.prog 30 #[.slice ro (riseL ts).length rc, .slice a l.toks.length c] w' fun e w'' => ∃ ao cap g, e = .returned (.slice ao (woL (riseL ts) l.toks).length cap) ∧ LO w' w'' ao cap g (woL (riseL ts) l.toks) ∧ Fr (fun _ => False) w' w'') := hide (fun W h0 k1 k2 ro rc g hL w' hf => without_any w' (riseL ts) l.toks ro rc a c (hL.sat.keep hf) hL.len (hl.toks.keep (h0.trans hf (fun _ _ t => t))) hl.n1 (by omega) (by omega))
  have RB : Hid (∀ W, Fr (fun _ => False) w W → l.toks.length ≤ 1000 → (riseL ts).length ≤ 1000 → ∀ ro rc g, LO w W ro rc g (riseL ts) → ∀ w', Fr (fun _ => False) W w' → Calls Tryz.prog 30 #[.slice a l.toks.length c, .slice ro (riseL ts).length rc] w' fun e w'' => ∃ ao cap g, e = .returned (.slice ao (woL l.toks (riseL ts)).length cap) ∧ LO w' w'' ao cap g (woL l.toks (riseL ts)) ∧ Fr (fun _ => False) w' w'') := hide (fun W h0 k1 k2 ro rc g hL w' hf => without_any w' l.toks (riseL ts) a c ro rc (hl.toks.keep (h0.trans hf (fun _ _ t => t))) hl.n1 (hL.sat.keep hf) hL.len (by omega) (by omega))
  have HR : Hid (diffR l ts = if rightE l ≠ 0 then (dl0, rightE l) else if l.ver = 9223372036854775807 then (dl0, 130) else if ts.all isTok = false then (dl0, 131) else if 1000 < (riseL ts).length then (dl0, 2) else (⟨l.ver + 1, woL (riseL ts) l.toks, woL l.toks (riseL ts)⟩, 0)) := hide rfl
  have hX0 : Fr (fun _ => False) w ((w.alloc (.cells (rlC l a c) 24)).alloc (.cells #[.int .i64 0, .slice none 0 0, .slice none 0 0] 26)) := ((Fr.refl _ _).alloc _).alloc _
  have b1 : Bx ((w.alloc (.cells (rlC l a c) 24)).alloc (.cells #[.int .i64 0, .slice none 0 0, .slice none 0 0] 26)) w.heap.size (rlC l a c) 24 := (Bx.new _ _ _).alloc _
  have b2 := Bx.new (w.alloc (.cells (rlC l a c) 24)) #[.int .i64 0, .slice none 0 0, .slice none 0 0] 26
  rw [heap_alloc] at b2
  have HX0 := hide (And.intro hX0 (And.intro b1 b2))
  clear hX0 b1 b2 hl ht hlt
  unfold rlC at *
  obtain ⟨B, HB⟩ : ∃ B, Hid (w.heap.size = B) := ⟨_, rfl⟩
  generalize diffR l ts = RR at *
  generalize rightE l = E1 at *
  generalize ts.all isTok = bt at *
  generalize woL (riseL ts) l.toks = L1 at *
  generalize woL l.toks (riseL ts) = L2 at *
  generalize riseL ts = r at *
  generalize l.toks.length = n at *
  generalize ts.length = m at *
  generalize l.ver = v at *
  clear l ts
  go_enter Tryz.func19, Tryz.ntmps19
  go_wp2_with fail
  refine (unhide R1 _ (unhide HX0).1).mono ?_
  rintro e w1 ⟨rfl, hF⟩
  have HX1 : Hid (Fr (fun _ => False) w w1 ∧ Bx w1 B #[.int .i64 v, .slice a n c] 24 ∧ Bx w1 (B + 1) #[.int .i64 0, .slice none 0 0, .slice none 0 0] 26) := hide (by
    obtain ⟨k0, k1, k2⟩ := unhide HX0
    rw [← unhide HB]
    exact ⟨k0.trans hF (fun _ _ t => t), k1.keep hF, k2.keep hF⟩)
  have HBw : Hid (w.heap.size ≤ B) := hide (by rw [← unhide HB]; exact Nat.le_refl _)
  rw [unhide HB]
  clear hF HX0 HB
  have y0 : w1.cell? ⟨B + 1, 0, none⟩ = some (.int .i64 0) := (unhide HX1).2.2.cell 0
  have y1 : w1.cell? ⟨B + 1, 1, none⟩ = some (.slice none 0 0) := (unhide HX1).2.2.cell 1
  have y2 : w1.cell? ⟨B + 1, 2, none⟩ = some (.slice none 0 0) := (unhide HX1).2.2.cell 2
  have z0 := (unhide HX1).2.2.frozen 0
  have z1 := (unhide HX1).2.2.frozen 1
  have z2 := (unhide HX1).2.2.frozen 2
  by_cases h1 : E1 = 0
  · subst h1
    obtain ⟨i1, i2⟩ := unhide HK rfl
    have u0 : w1.cell? ⟨B, 0, none⟩ = some (.int .i64 v) := (unhide HX1).2.1.cell 0
    by_cases h2 : v = 9223372036854775807
    · subst h2
      go_wp2
      have hfin : Bx (((w1.setCell ⟨B + 1, 0, none⟩ (.int .i64 0)).setCell ⟨B + 1, 1, none⟩ (.slice none 0 0)).setCell ⟨B + 1, 2, none⟩ (.slice none 0 0)) (B + 1) #[.int .i64 0, .slice none 0 0, .slice none 0 0] 26 := ((((unhide HX1).2.2).setCell 0 _).setCell 1 _).setCell 2 _
      have HFV : Hid (Fr (fun _ => False) w (((w1.setCell ⟨B + 1, 0, none⟩ (.int .i64 0)).setCell ⟨B + 1, 1, none⟩ (.slice none 0 0)).setCell ⟨B + 1, 2, none⟩ (.slice none 0 0))) := hide ((((((unhide HX1).1)).setCell (fun h => absurd h (by show ¬ B + 1 < _; have := unhide HBw; omega)) _).setCell (fun h => absurd h (by show ¬ B + 1 < _; have := unhide HBw; omega)) _).setCell (fun h => absurd h (by show ¬ B + 1 < _; have := unhide HBw; omega)) _)
      have HFB : Hid (Fr (fun k => k = B + 1) w1 (((w1.setCell ⟨B + 1, 0, none⟩ (.int .i64 0)).setCell ⟨B + 1, 1, none⟩ (.slice none 0 0)).setCell ⟨B + 1, 2, none⟩ (.slice none 0 0))) := hide (((((Fr.refl (fun k => k = B + 1) _)).setCell (fun _ => rfl) _).setCell (fun _ => rfl) _).setCell (fun _ => rfl) _)
      generalize ((w1.setCell ⟨B + 1, 0, none⟩ (.int .i64 0)).setCell ⟨B + 1, 1, none⟩ (.slice none 0 0)).setCell ⟨B + 1, 2, none⟩ (.slice none 0 0) = V at *
      have x0 : V.cell? ⟨B + 1, 0, none⟩ = some (.int .i64 0) := hfin.cell 0
      have x1 : V.cell? ⟨B + 1, 1, none⟩ = some (.slice none 0 0) := hfin.cell 1
      have x2 : V.cell? ⟨B + 1, 2, none⟩ = some (.slice none 0 0) := hfin.cell 2
      clear hfin
      refine bodyPost_ret (v := .tuple #[.agg #[.int .i64 0, .slice none 0 0, .slice none 0 0], .int .i64 130]) ?_ rfl ?_
      · simp [results, Tryz.results19, go_sem, x0, x1, x2]
      · exact ⟨none, 0, 0, none, 0, 0, by rw [unhide HR]; rfl, by rw [unhide HR]; exact DO.zero _ _, unhide HFV⟩
    · have hv2 : (v == 9223372036854775807) = false := by rw [beq_eq_false_iff_ne]; exact h2
      have HH2 := hide h2
      clear h2
      go_wp2_with fail
      refine (unhide R2 _ (unhide HX1).1).mono ?_
      rintro e w2 ⟨rfl, hF⟩
      have HX2 : Hid (Fr (fun _ => False) w w2 ∧ Bx w2 B #[.int .i64 v, .slice a n c] 24 ∧ Bx w2 (B + 1) #[.int .i64 0, .slice none 0 0, .slice none 0 0] 26) := hide (by
        obtain ⟨k0, k1, k2⟩ := unhide HX1
        exact ⟨k0.trans hF (fun _ _ t => t), k1.keep hF, k2.keep hF⟩)
      clear hF HX1 y0 y1 y2 z0 z1 z2 u0
      cases bt
      · have y0 : w2.cell? ⟨B + 1, 0, none⟩ = some (.int .i64 0) := (unhide HX2).2.2.cell 0
        have y1 : w2.cell? ⟨B + 1, 1, none⟩ = some (.slice none 0 0) := (unhide HX2).2.2.cell 1
        have y2 : w2.cell? ⟨B + 1, 2, none⟩ = some (.slice none 0 0) := (unhide HX2).2.2.cell 2
        have z0 := (unhide HX2).2.2.frozen 0
        have z1 := (unhide HX2).2.2.frozen 1
        have z2 := (unhide HX2).2.2.frozen 2
        go_wp2
        have hfin : Bx (((w2.setCell ⟨B + 1, 0, none⟩ (.int .i64 0)).setCell ⟨B + 1, 1, none⟩ (.slice none 0 0)).setCell ⟨B + 1, 2, none⟩ (.slice none 0 0)) (B + 1) #[.int .i64 0, .slice none 0 0, .slice none 0 0] 26 := ((((unhide HX2).2.2).setCell 0 _).setCell 1 _).setCell 2 _
        have HFV : Hid (Fr (fun _ => False) w (((w2.setCell ⟨B + 1, 0, none⟩ (.int .i64 0)).setCell ⟨B + 1, 1, none⟩ (.slice none 0 0)).setCell ⟨B + 1, 2, none⟩ (.slice none 0 0))) := hide ((((((unhide HX2).1)).setCell (fun h => absurd h (by show ¬ B + 1 < _; have := unhide HBw; omega)) _).setCell (fun h => absurd h (by show ¬ B + 1 < _; have := unhide HBw; omega)) _).setCell (fun h => absurd h (by show ¬ B + 1 < _; have := unhide HBw; omega)) _)
        have HFB : Hid (Fr (fun k => k = B + 1) w2 (((w2.setCell ⟨B + 1, 0, none⟩ (.int .i64 0)).setCell ⟨B + 1, 1, none⟩ (.slice none 0 0)).setCell ⟨B + 1, 2, none⟩ (.slice none 0 0))) := hide (((((Fr.refl (fun k => k = B + 1) _)).setCell (fun _ => rfl) _).setCell (fun _ => rfl) _).setCell (fun _ => rfl) _)
        generalize ((w2.setCell ⟨B + 1, 0, none⟩ (.int .i64 0)).setCell ⟨B + 1, 1, none⟩ (.slice none 0 0)).setCell ⟨B + 1, 2, none⟩ (.slice none 0 0) = V at *
        have x0 : V.cell? ⟨B + 1, 0, none⟩ = some (.int .i64 0) := hfin.cell 0
        have x1 : V.cell? ⟨B + 1, 1, none⟩ = some (.slice none 0 0) := hfin.cell 1
        have x2 : V.cell? ⟨B + 1, 2, none⟩ = some (.slice none 0 0) := hfin.cell 2
        clear hfin
        refine bodyPost_ret (v := .tuple #[.agg #[.int .i64 0, .slice none 0 0, .slice none 0 0], .int .i64 131]) ?_ rfl ?_
        · simp [results, Tryz.results19, go_sem, x0, x1, x2]
        · exact ⟨none, 0, 0, none, 0, 0, by rw [unhide HR, if_neg (by simp), if_neg (unhide HH2)]; rfl, by rw [unhide HR, if_neg (by simp), if_neg (unhide HH2)]; exact DO.zero _ _, unhide HFV⟩
      · go_wp2_with fail
        refine (unhide R3 _ (unhide HX2).1).mono ?_
        rintro e w3 ⟨ro, rc, rg, rfl, hL, hF⟩
        have HX3 : Hid (Fr (fun _ => False) w w3 ∧ Bx w3 B #[.int .i64 v, .slice a n c] 24 ∧ Bx w3 (B + 1) #[.int .i64 0, .slice none 0 0, .slice none 0 0] 26 ∧ LO w w3 ro rc rg r) := hide (by
          obtain ⟨k0, k1, k2⟩ := unhide HX2
          exact ⟨k0.trans hF (fun _ _ t => t), k1.keep hF, k2.keep hF, hL.later k0.size⟩)
        clear hF hL HX2
        by_cases h3 : 1000 < r.length
        · have y0 : w3.cell? ⟨B + 1, 0, none⟩ = some (.int .i64 0) := (unhide HX3).2.2.1.cell 0
          have y1 : w3.cell? ⟨B + 1, 1, none⟩ = some (.slice none 0 0) := (unhide HX3).2.2.1.cell 1
          have y2 : w3.cell? ⟨B + 1, 2, none⟩ = some (.slice none 0 0) := (unhide HX3).2.2.1.cell 2
          have z0 := (unhide HX3).2.2.1.frozen 0
          have z1 := (unhide HX3).2.2.1.frozen 1
          have z2 := (unhide HX3).2.2.1.frozen 2
          go_wp2
          have hfin : Bx (((w3.setCell ⟨B + 1, 0, none⟩ (.int .i64 0)).setCell ⟨B + 1, 1, none⟩ (.slice none 0 0)).setCell ⟨B + 1, 2, none⟩ (.slice none 0 0)) (B + 1) #[.int .i64 0, .slice none 0 0, .slice none 0 0] 26 := ((((unhide HX3).2.2.1).setCell 0 _).setCell 1 _).setCell 2 _
          have HFV : Hid (Fr (fun _ => False) w (((w3.setCell ⟨B + 1, 0, none⟩ (.int .i64 0)).setCell ⟨B + 1, 1, none⟩ (.slice none 0 0)).setCell ⟨B + 1, 2, none⟩ (.slice none 0 0))) := hide ((((((unhide HX3).1)).setCell (fun h => absurd h (by show ¬ B + 1 < _; have := unhide HBw; omega)) _).setCell (fun h => absurd h (by show ¬ B + 1 < _; have := unhide HBw; omega)) _).setCell (fun h => absurd h (by show ¬ B + 1 < _; have := unhide HBw; omega)) _)
          have HFB : Hid (Fr (fun k => k = B + 1) w3 (((w3.setCell ⟨B + 1, 0, none⟩ (.int .i64 0)).setCell ⟨B + 1, 1, none⟩ (.slice none 0 0)).setCell ⟨B + 1, 2, none⟩ (.slice none 0 0))) := hide (((((Fr.refl (fun k => k = B + 1) _)).setCell (fun _ => rfl) _).setCell (fun _ => rfl) _).setCell (fun _ => rfl) _)
          generalize ((w3.setCell ⟨B + 1, 0, none⟩ (.int .i64 0)).setCell ⟨B + 1, 1, none⟩ (.slice none 0 0)).setCell ⟨B + 1, 2, none⟩ (.slice none 0 0) = V at *
          have x0 : V.cell? ⟨B + 1, 0, none⟩ = some (.int .i64 0) := hfin.cell 0
          have x1 : V.cell? ⟨B + 1, 1, none⟩ = some (.slice none 0 0) := hfin.cell 1
          have x2 : V.cell? ⟨B + 1, 2, none⟩ = some (.slice none 0 0) := hfin.cell 2
          clear hfin
          refine bodyPost_ret (v := .tuple #[.agg #[.int .i64 0, .slice none 0 0, .slice none 0 0], .int .i64 2]) ?_ rfl ?_
          · simp [results, Tryz.results19, go_sem, x0, x1, x2]
          · exact ⟨none, 0, 0, none, 0, 0, by rw [unhide HR, if_neg (by simp), if_neg (unhide HH2), if_neg (by simp), if_pos h3]; rfl, by rw [unhide HR, if_neg (by simp), if_neg (unhide HH2), if_neg (by simp), if_pos h3]; exact DO.zero _ _, unhide HFV⟩
        · have hRA := hide (unhide RA w3 (unhide HX3).1 i1 (by omega) ro rc rg (unhide HX3).2.2.2)
          have hRB := hide (unhide RB w3 (unhide HX3).1 i1 (by omega) ro rc rg (unhide HX3).2.2.2)
          have HSS : Hid (∀ w', Fr (fun k => k = B + 1) w3 w' → w'.cell? ⟨B, 0, none⟩ = some (.int .i64 v) ∧ w'.cell? ⟨B, 1, none⟩ = some (.slice a n c)) := hide (fun w' hf => ⟨((unhide HX3).2.1.frame hf (by omega)).cell 0, ((unhide HX3).2.1.frame hf (by omega)).cell 1⟩)
          have HYY : Hid (∀ w', Fr (fun _ => False) w3 w' → (w'.cell? ⟨B + 1, 0, none⟩ = some (.int .i64 0) ∧ w'.cell? ⟨B + 1, 1, none⟩ = some (.slice none 0 0) ∧ w'.cell? ⟨B + 1, 2, none⟩ = some (.slice none 0 0)) ∧ ∀ k, w'.frozen? ⟨B + 1, k, none⟩ = false) := hide (fun w' hf => ⟨⟨((unhide HX3).2.2.1.keep hf).cell 0, ((unhide HX3).2.2.1.keep hf).cell 1, ((unhide HX3).2.2.1.keep hf).cell 2⟩, fun k => ((unhide HX3).2.2.1.keep hf).frozen k⟩)
          have hwr : IntKind.i64.wrap (v + 1) = v + 1 := by rw [IntKind.wrap_i64]; have := unhide HV; have := unhide HH2; omega
          have HRV : Hid (RR = (⟨v + 1, L1, L2⟩, 0)) := hide (by rw [unhide HR, if_neg (by simp), if_neg (unhide HH2), if_neg (by simp), if_neg h3])
          clear RA RB HR hv2 HK R1 R2 R3 HV i1 i2
          go_upto_region 11 with (fail)
          go_region_held3 (fun w' => w'.cell? ⟨B, 0, none⟩ = some (.int .i64 v) ∧ w'.cell? ⟨B, 1, none⟩ = some (.slice a n c)) (first | exact unhide HSS _ (Fr.refl _ _) | exact unhide HSS _ ((Fr.refl _ _).drew) | exact unhide HSS _ ((unhide hFa).mono (fun _ _ t => t.elim)) | exact unhide HSS _ ((unhide hFb).mono (fun _ _ t => t.elim)) | exact unhide HSS _ ((((Fr.mono (T := fun k => k = B + 1) (unhide hFa) (fun _ _ t => t.elim)).setCell (fun _ => rfl) _).setCell (fun _ => rfl) _).setCell (fun _ => rfl) _) | exact unhide HSS _ ((((Fr.mono (T := fun k => k = B + 1) (unhide hFb) (fun _ _ t => t.elim)).setCell (fun _ => rfl) _).setCell (fun _ => rfl) _).setCell (fun _ => rfl) _)) (first | (go_at_call_of 30 (Value.slice ro r.length rc); first | (refine (unhide hRA _ (unhide hFb)).mono ?_; rintro e wa ⟨aoa, capa, ga, rfl, hLa', hEa'⟩; have hLa := hide hLa'; have hEa := hide hEa'; have hFa := hide ((unhide hFb).trans hEa' (fun _ _ t => t)); clear hLa' hEa'; have y0 := (unhide HYY wa (unhide hFa)).1.1; have y1 := (unhide HYY wa (unhide hFa)).1.2.1; have y2 := (unhide HYY wa (unhide hFa)).1.2.2; have z0 := (unhide HYY wa (unhide hFa)).2 0; have z1 := (unhide HYY wa (unhide hFa)).2 1; have z2 := (unhide HYY wa (unhide hFa)).2 2) | (refine (unhide hRA _ ((Fr.refl _ _).drew)).mono ?_; rintro e wa ⟨aoa, capa, ga, rfl, hLa', hEa'⟩; have hLa := hide hLa'; have hEa := hide hEa'; have hFa := hide (((Fr.refl _ _).drew).trans hEa' (fun _ _ t => t)); clear hLa' hEa'; have y0 := (unhide HYY wa (unhide hFa)).1.1; have y1 := (unhide HYY wa (unhide hFa)).1.2.1; have y2 := (unhide HYY wa (unhide hFa)).1.2.2; have z0 := (unhide HYY wa (unhide hFa)).2 0; have z1 := (unhide HYY wa (unhide hFa)).2 1; have z2 := (unhide HYY wa (unhide hFa)).2 2)) | (go_at_call_of 30 (Value.slice a n c); first | (refine (unhide hRB _ (unhide hFa)).mono ?_; rintro e wb ⟨aob, capb, gb, rfl, hLb', hEb'⟩; have hLb := hide hLb'; have hEb := hide hEb'; have hFb := hide ((unhide hFa).trans hEb' (fun _ _ t => t)); clear hLb' hEb'; have y0 := (unhide HYY wb (unhide hFb)).1.1; have y1 := (unhide HYY wb (unhide hFb)).1.2.1; have y2 := (unhide HYY wb (unhide hFb)).1.2.2; have z0 := (unhide HYY wb (unhide hFb)).2 0; have z1 := (unhide HYY wb (unhide hFb)).2 1; have z2 := (unhide HYY wb (unhide hFb)).2 2) | (refine (unhide hRB _ ((Fr.refl _ _).drew)).mono ?_; rintro e wb ⟨aob, capb, gb, rfl, hLb', hEb'⟩; have hLb := hide hLb'; have hEb := hide hEb'; have hFb := hide (((Fr.refl _ _).drew).trans hEb' (fun _ _ t => t)); clear hLb' hEb'; have y0 := (unhide HYY wb (unhide hFb)).1.1; have y1 := (unhide HYY wb (unhide hFb)).1.2.1; have y2 := (unhide HYY wb (unhide hFb)).1.2.2; have z0 := (unhide HYY wb (unhide hFb)).2 0; have z1 := (unhide HYY wb (unhide hFb)).2 1; have z2 := (unhide HYY wb (unhide hFb)).2 2)))
          have HDO := hide (two_rows (d := ⟨v + 1, L1, L2⟩) (unhide HX3).1 (unhide hFa).size (v := w3.drew) (Nat.le_refl _) (unhide hLa) (unhide hLb) (unhide hEb))
          have HXB : Hid (Bx wb (B + 1) #[.int .i64 0, .slice none 0 0, .slice none 0 0] 26 ∧ Fr (fun _ => False) w wb ∧ B + 1 < w3.heap.size) := hide ⟨(unhide HX3).2.2.1.keep (unhide hFb), (unhide HX3).1.trans (unhide hFb) (fun _ _ t => t), (unhide HX3).2.2.1.lt⟩
          clear hLa hLb hEa hEb hFa hFb HX3 HSS HYY hRA hRB
          go_wp2
          have hfin : Bx (((wb.setCell ⟨B + 1, 0, none⟩ (.int .i64 (v + 1))).setCell ⟨B + 1, 1, none⟩ (.slice aoa L1.length capa)).setCell ⟨B + 1, 2, none⟩ (.slice aob L2.length capb)) (B + 1) #[.int .i64 (v + 1), .slice aoa L1.length capa, .slice aob L2.length capb] 26 := ((((unhide HXB).1).setCell 0 _).setCell 1 _).setCell 2 _
          have HFV : Hid (Fr (fun _ => False) w (((wb.setCell ⟨B + 1, 0, none⟩ (.int .i64 (v + 1))).setCell ⟨B + 1, 1, none⟩ (.slice aoa L1.length capa)).setCell ⟨B + 1, 2, none⟩ (.slice aob L2.length capb))) := hide ((((((unhide HXB).2.1)).setCell (fun h => absurd h (by show ¬ B + 1 < _; have := unhide HBw; omega)) _).setCell (fun h => absurd h (by show ¬ B + 1 < _; have := unhide HBw; omega)) _).setCell (fun h => absurd h (by show ¬ B + 1 < _; have := unhide HBw; omega)) _)
          have HFB : Hid (Fr (fun k => k = B + 1) wb (((wb.setCell ⟨B + 1, 0, none⟩ (.int .i64 (v + 1))).setCell ⟨B + 1, 1, none⟩ (.slice aoa L1.length capa)).setCell ⟨B + 1, 2, none⟩ (.slice aob L2.length capb))) := hide (((((Fr.refl (fun k => k = B + 1) _)).setCell (fun _ => rfl) _).setCell (fun _ => rfl) _).setCell (fun _ => rfl) _)
          generalize ((wb.setCell ⟨B + 1, 0, none⟩ (.int .i64 (v + 1))).setCell ⟨B + 1, 1, none⟩ (.slice aoa L1.length capa)).setCell ⟨B + 1, 2, none⟩ (.slice aob L2.length capb) = V at *
          have x0 : V.cell? ⟨B + 1, 0, none⟩ = some (.int .i64 (v + 1)) := hfin.cell 0
          have x1 : V.cell? ⟨B + 1, 1, none⟩ = some (.slice aoa L1.length capa) := hfin.cell 1
          have x2 : V.cell? ⟨B + 1, 2, none⟩ = some (.slice aob L2.length capb) := hfin.cell 2
          clear hfin
          refine bodyPost_ret (v := .tuple #[.agg #[.int .i64 (v + 1), .slice aoa L1.length capa, .slice aob L2.length capb], .int .i64 0]) ?_ rfl ?_
          · simp [results, Tryz.results19, go_sem, x0, x1, x2]
          · exact ⟨aoa, capa, ga, aob, capb, gb, by rw [unhide HRV]; rfl, by rw [unhide HRV]; exact (unhide HDO).1.go (unhide HFB) (fun hc t => by have := (unhide HDO).2.1 hc; have := (unhide HXB).2.2; omega) (fun hc t => by have := (unhide HDO).2.2 hc; have := (unhide HXB).2.2; omega), unhide HFV⟩
  · go_wp2
    have hfin : Bx (((w1.setCell ⟨B + 1, 0, none⟩ (.int .i64 0)).setCell ⟨B + 1, 1, none⟩ (.slice none 0 0)).setCell ⟨B + 1, 2, none⟩ (.slice none 0 0)) (B + 1) #[.int .i64 0, .slice none 0 0, .slice none 0 0] 26 := ((((unhide HX1).2.2).setCell 0 _).setCell 1 _).setCell 2 _
    have HFV : Hid (Fr (fun _ => False) w (((w1.setCell ⟨B + 1, 0, none⟩ (.int .i64 0)).setCell ⟨B + 1, 1, none⟩ (.slice none 0 0)).setCell ⟨B + 1, 2, none⟩ (.slice none 0 0))) := hide ((((((unhide HX1).1)).setCell (fun h => absurd h (by show ¬ B + 1 < _; have := unhide HBw; omega)) _).setCell (fun h => absurd h (by show ¬ B + 1 < _; have := unhide HBw; omega)) _).setCell (fun h => absurd h (by show ¬ B + 1 < _; have := unhide HBw; omega)) _)
    have HFB : Hid (Fr (fun k => k = B + 1) w1 (((w1.setCell ⟨B + 1, 0, none⟩ (.int .i64 0)).setCell ⟨B + 1, 1, none⟩ (.slice none 0 0)).setCell ⟨B + 1, 2, none⟩ (.slice none 0 0))) := hide (((((Fr.refl (fun k => k = B + 1) _)).setCell (fun _ => rfl) _).setCell (fun _ => rfl) _).setCell (fun _ => rfl) _)
    generalize ((w1.setCell ⟨B + 1, 0, none⟩ (.int .i64 0)).setCell ⟨B + 1, 1, none⟩ (.slice none 0 0)).setCell ⟨B + 1, 2, none⟩ (.slice none 0 0) = V at *
    have x0 : V.cell? ⟨B + 1, 0, none⟩ = some (.int .i64 0) := hfin.cell 0
    have x1 : V.cell? ⟨B + 1, 1, none⟩ = some (.slice none 0 0) := hfin.cell 1
    have x2 : V.cell? ⟨B + 1, 2, none⟩ = some (.slice none 0 0) := hfin.cell 2
    clear hfin
    refine bodyPost_ret (v := .tuple #[.agg #[.int .i64 0, .slice none 0 0, .slice none 0 0], .int .i64 E1]) ?_ rfl ?_
    · simp [results, Tryz.results19, go_sem, x0, x1, x2]
    · exact ⟨none, 0, 0, none, 0, 0, by rw [unhide HR, if_pos h1]; rfl, by rw [unhide HR, if_pos h1]; exact DO.zero _ _, unhide HFV⟩

end Go.Proofs.YtmhljehkodhggaaGreat

