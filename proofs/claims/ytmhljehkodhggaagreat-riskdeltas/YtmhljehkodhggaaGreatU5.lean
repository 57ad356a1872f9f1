import Derived.Test.YtmhljehkodhggaaGreatU4
import Derived.Deep.Cut
import Derived.Deep.RegionHeld3
/- Package risk: the next version of a list; two deltas joined. -/
namespace Go.Proofs.YtmhljehkodhggaaGreat
open Go.RowKit

def applyT (l : Rl) (d : Dl) : List ByteArray := eiL (woL l.toks d.gone) d.add
/-- The next version, or what is wrong. -/
def applyR (l : Rl) (d : Dl) : Rl × Int := if applyE l d ≠ 0 then (⟨0, []⟩, applyE l d) else if 1000 < (applyT l d).length then (⟨0, []⟩, 2) else (⟨d.ver, applyT l d⟩, 0)

/-- What Apply comes to. -/
def Applied (w : World) (r : Rl × Int) (e : Ending) (w' : World) : Prop := ∃ ao cap g, e = .returned (.tuple #[.agg (rlC r.1 ao cap), .int .i64 r.2]) ∧ LO w w' ao cap g r.1.toks ∧ Fr (fun _ => False) w w'

theorem applyE_ok {l : Rl} {d : Dl} (h : applyE l d = 0) : rightE l = 0 ∧ deltaOk d = true ∧ d.ver - 1 = l.ver ∧ coL d.add l.toks = [] ∧ woL d.gone l.toks = [] := by
  unfold applyE at h
  split at h
  · rename_i h1; exact absurd h h1
  · rename_i h1
    split at h
    · omega
    · rename_i h2
      split at h
      · omega
      · rename_i h3
        split at h
        · omega
        · rename_i h4
          split at h
          · omega
          · rename_i h5
            exact ⟨Classical.not_not.1 h1, by simpa using h2, by simpa using h3, List.eq_nil_of_length_eq_zero (by omega), List.eq_nil_of_length_eq_zero (by omega)⟩

set_option maxHeartbeats 4000000 in
set_option maxRecDepth 20000 in
theorem apply_any (w : World) (l : Rl) (a : Option Addr) (c : Nat) (hl : RIn w l a c) (d : Dl) (a1 : Option Addr) (c1 : Nat) (a2 : Option Addr) (c2 : Nat) (hd : DI w d a1 c1 a2 c2) :
    Calls Tryz.prog 11 #[.agg (rlC l a c), .agg (dlC d a1 c1 a2 c2)] w (Applied w (applyR l d)) := by
  have R1 := hide (fun (w1 : World) (hf : Fr (fun _ => False) w w1) => applyError_any w1 l a c (hl.keep hf) d a1 c1 a2 c2 (hd.keep hf))
  have HK : Hid (applyE l d = 0 → l.toks.length ≤ 1000 ∧ d.add.length ≤ 1000 ∧ d.gone.length ≤ 1000) := hide (fun h => by
    obtain ⟨k1, k2, _⟩ := applyE_ok h
    exact ⟨listOk_len (rightE_ok k1).1, listOk_len (deltaOk_iff.1 k2).2.1, listOk_len (deltaOk_iff.1 k2).2.2.1⟩)
  have HL : Hid ((woL l.toks d.gone).length ≤ l.toks.length + d.gone.length) := hide (woL_len _ _)
  have RW : Hid (∀ W, Fr (fun _ => False) w W → l.toks.length ≤ 1000 → d.gone.length ≤ 1000 → ∀ w', Fr (fun _ => False) W w' → Calls Tryz.prog 30 #[.slice a l.toks.length c, .slice a2 d.gone.length c2] w' fun e w'' => ∃ ao cap g, e = .returned (.slice ao (woL l.toks d.gone).length cap) ∧ LO W w'' ao cap g (woL l.toks d.gone) ∧ Fr (fun _ => False) W w'') := hide (fun W h0 k1 k2 w' hf => (without_any w' l.toks d.gone a c a2 c2 (hl.toks.keep (h0.trans hf (fun _ _ t => t))) hl.n1 (hd.gone.keep (h0.trans hf (fun _ _ t => t))) hd.n2 (by omega) (by omega)).mono (fun e w'' ⟨ao, cap, g, e1, e2, e3⟩ => ⟨ao, cap, g, e1, e2.later hf.size, hf.trans e3 (fun _ _ t => t)⟩))
  have RE : Hid (∀ W, Fr (fun _ => False) w W → l.toks.length ≤ 1000 → d.add.length ≤ 1000 → d.gone.length ≤ 1000 → ∀ w' ao cap g, Fr (fun _ => False) W w' → LO W w' ao cap g (woL l.toks d.gone) → Calls Tryz.prog 29 #[.slice ao (woL l.toks d.gone).length cap, .slice a1 d.add.length c1] w' fun e w'' => ∃ ao cap g, e = .returned (.slice ao (applyT l d).length cap) ∧ LO W w'' ao cap g (applyT l d) ∧ Fr (fun _ => False) W w'') := hide (fun W h0 k1 k2 k3 w' ao cap g hf hL => (either_any w' (woL l.toks d.gone) d.add ao cap a1 c1 hL.sat hL.len (hd.add.keep (h0.trans hf (fun _ _ t => t))) hd.n1 (by have := woL_len l.toks d.gone; omega) (by omega)).mono (fun e w'' ⟨ao, cap, g, e1, e2, e3⟩ => ⟨ao, cap, g, e1, e2.later hf.size, hf.trans e3 (fun _ _ t => t)⟩))
  have HR : Hid (applyR l d = if applyE l d ≠ 0 then (⟨0, []⟩, applyE l d) else if 1000 < (applyT l d).length then (⟨0, []⟩, 2) else (⟨d.ver, applyT l d⟩, 0)) := hide rfl
  have hX0 : Fr (fun _ => False) w (((w.alloc (.cells (rlC l a c) 24)).alloc (.cells (dlC d a1 c1 a2 c2) 26)).alloc (.cells #[.int .i64 0, .slice none 0 0] 24)) := (((Fr.refl _ _).alloc _).alloc _).alloc _
  have b1 : Bx (((w.alloc (.cells (rlC l a c) 24)).alloc (.cells (dlC d a1 c1 a2 c2) 26)).alloc (.cells #[.int .i64 0, .slice none 0 0] 24)) w.heap.size (rlC l a c) 24 := ((Bx.new _ _ _).alloc _).alloc _
  have b2 := (Bx.new (w.alloc (.cells (rlC l a c) 24)) (dlC d a1 c1 a2 c2) 26).alloc (.cells #[.int .i64 0, .slice none 0 0] 24)
  have b3 := Bx.new ((w.alloc (.cells (rlC l a c) 24)).alloc (.cells (dlC d a1 c1 a2 c2) 26)) #[.int .i64 0, .slice none 0 0] 24
  rw [heap_alloc] at b2
  rw [heap_alloc, heap_alloc] at b3
  have HX0 := hide (And.intro hX0 (And.intro b1 (And.intro b2 b3)))
  clear hX0 b1 b2 b3 hl hd
  unfold rlC dlC at *
  obtain ⟨B, HB⟩ : ∃ B, Hid (w.heap.size = B) := ⟨_, rfl⟩
  generalize applyR l d = RR at *
  generalize applyE l d = E1 at *
  generalize applyT l d = T at *
  generalize woL l.toks d.gone = L1 at *
  generalize l.toks.length = n at *
  generalize d.add.length = n1 at *
  generalize d.gone.length = n2 at *
  generalize l.ver = v at *
  generalize d.ver = u at *
  clear l d
  go_enter Tryz.func11, Tryz.ntmps11
  go_wp2_with fail
  refine (unhide R1 _ (unhide HX0).1).mono ?_
  rintro e w1 ⟨rfl, hF⟩
  have HX1 : Hid (Fr (fun _ => False) w w1 ∧ Bx w1 B #[.int .i64 v, .slice a n c] 24 ∧ Bx w1 (B + 1) #[.int .i64 u, .slice a1 n1 c1, .slice a2 n2 c2] 26 ∧ Bx w1 (B + 1 + 1) #[.int .i64 0, .slice none 0 0] 24) := hide (by
    obtain ⟨k0, k1, k2, k3⟩ := unhide HX0
    rw [← unhide HB]
    exact ⟨k0.trans hF (fun _ _ t => t), k1.keep hF, k2.keep hF, k3.keep hF⟩)
  have HBw : Hid (w.heap.size ≤ B) := hide (by rw [← unhide HB]; exact Nat.le_refl _)
  rw [unhide HB]
  clear hF HX0 HB
  by_cases h1 : E1 = 0
  · subst h1
    obtain ⟨i1, i2, i3⟩ := unhide HK rfl
    have HSS : Hid (∀ w', Fr (fun _ => False) w1 w' → w'.cell? ⟨B, 1, none⟩ = some (.slice a n c) ∧ w'.cell? ⟨B + 1, 2, none⟩ = some (.slice a2 n2 c2) ∧ w'.cell? ⟨B + 1, 1, none⟩ = some (.slice a1 n1 c1)) := hide (fun w' hf => ⟨((unhide HX1).2.1.keep hf).cell 1, ((unhide HX1).2.2.1.keep hf).cell 2, ((unhide HX1).2.2.1.keep hf).cell 1⟩)
    have hRW := hide (unhide RW w1 (unhide HX1).1 i1 i3)
    have hRE := hide (unhide RE w1 (unhide HX1).1 i1 i2 i3)
    clear RW RE HK i1 i2 i3
    go_upto_region 4 with (fail)
    go_region_held3 (fun w' => w'.cell? ⟨B, 1, none⟩ = some (.slice a n c) ∧ w'.cell? ⟨B + 1, 2, none⟩ = some (.slice a2 n2 c2) ∧ w'.cell? ⟨B + 1, 1, none⟩ = some (.slice a1 n1 c1)) (first | exact unhide HSS _ (Fr.refl _ _) | exact unhide HSS _ ((Fr.refl _ _).drew) | exact unhide HSS _ (unhide hF3) | exact unhide HSS _ (unhide hF2)) (first | (go_at_call 30; refine (unhide hRW _ ((Fr.refl _ _).drew)).mono ?_; rintro e w2 ⟨ao, cap, g, rfl, hL2', hF2'⟩; have hL2 := hide hL2'; have hF2 := hide hF2'; clear hL2' hF2') | (go_at_call 29; refine (unhide hRE w2 ao cap g (unhide hF2) (unhide hL2)).mono ?_; rintro e w3 ⟨ao3, cap3, g3, rfl, hL3', hF3'⟩; have hL3 := hide hL3'; have hF3 := hide hF3'; clear hL3' hF3'))
    have HX3 : Hid (Fr (fun _ => False) w w3 ∧ Bx w3 (B + 1) #[.int .i64 u, .slice a1 n1 c1, .slice a2 n2 c2] 26 ∧ Bx w3 (B + 1 + 1) #[.int .i64 0, .slice none 0 0] 24 ∧ LO w w3 ao3 cap3 g3 T ∧ g3 < B + (g3 + 1)) := hide (by
      obtain ⟨k0, k1, k2, k3⟩ := unhide HX1
      have hf := unhide hF3
      exact ⟨k0.trans hf (fun _ _ t => t), k2.keep hf, k3.keep hf, (unhide hL3).later k0.size, by omega⟩)
    have HNE : Hid (0 < cap3 → B + 1 + 1 < g3) := hide (fun hc => Nat.lt_of_lt_of_le (unhide HX1).2.2.2.lt ((unhide hL3).new hc))
    clear hL2 hF2 hL3 hF3 HX1 hRW hRE HSS
    have y0 : w3.cell? ⟨B + 1 + 1, 0, none⟩ = some (.int .i64 0) := (unhide HX3).2.2.1.cell 0
    have y1 : w3.cell? ⟨B + 1 + 1, 1, none⟩ = some (.slice none 0 0) := (unhide HX3).2.2.1.cell 1
    have z0 := (unhide HX3).2.2.1.frozen 0
    have z1 := (unhide HX3).2.2.1.frozen 1
    have u0 : w3.cell? ⟨B + 1, 0, none⟩ = some (.int .i64 u) := (unhide HX3).2.1.cell 0
    by_cases h2 : 1000 < T.length
    · go_wp2
      have hfin : Bx ((w3.setCell ⟨B + 1 + 1, 0, none⟩ (.int .i64 0)).setCell ⟨B + 1 + 1, 1, none⟩ (.slice none 0 0)) (B + 1 + 1) #[.int .i64 0, .slice none 0 0] 24 := (((unhide HX3).2.2.1).setCell 0 _).setCell 1 _
      have HFV : Hid (Fr (fun _ => False) w ((w3.setCell ⟨B + 1 + 1, 0, none⟩ (.int .i64 0)).setCell ⟨B + 1 + 1, 1, none⟩ (.slice none 0 0))) := hide (((((unhide HX3).1)).setCell (fun h => absurd h (by show ¬ B + 1 + 1 < _; have := unhide HBw; omega)) _).setCell (fun h => absurd h (by show ¬ B + 1 + 1 < _; have := unhide HBw; omega)) _)
      have HFB : Hid (Fr (fun k => k = B + 1 + 1) w3 ((w3.setCell ⟨B + 1 + 1, 0, none⟩ (.int .i64 0)).setCell ⟨B + 1 + 1, 1, none⟩ (.slice none 0 0))) := hide ((((Fr.refl (fun k => k = B + 1 + 1) _)).setCell (fun _ => rfl) _).setCell (fun _ => rfl) _)
      generalize (w3.setCell ⟨B + 1 + 1, 0, none⟩ (.int .i64 0)).setCell ⟨B + 1 + 1, 1, none⟩ (.slice none 0 0) = V at *
      have x0 : V.cell? ⟨B + 1 + 1, 0, none⟩ = some (.int .i64 0) := hfin.cell 0
      have x1 : V.cell? ⟨B + 1 + 1, 1, none⟩ = some (.slice none 0 0) := hfin.cell 1
      clear hfin
      refine bodyPost_ret (v := .tuple #[.agg #[.int .i64 0, .slice none 0 0], .int .i64 2]) ?_ rfl ?_
      · simp [results, Tryz.results11, go_sem, x0, x1]
      · exact ⟨none, 0, 0, by rw [unhide HR, if_neg (by simp), if_pos h2]; rfl, by rw [unhide HR, if_neg (by simp), if_pos h2]; exact LO.nil _ _, unhide HFV⟩
    · go_wp2
      have hfin : Bx ((w3.setCell ⟨B + 1 + 1, 0, none⟩ (.int .i64 u)).setCell ⟨B + 1 + 1, 1, none⟩ (.slice ao3 T.length cap3)) (B + 1 + 1) #[.int .i64 u, .slice ao3 T.length cap3] 24 := (((unhide HX3).2.2.1).setCell 0 _).setCell 1 _
      have HFV : Hid (Fr (fun _ => False) w ((w3.setCell ⟨B + 1 + 1, 0, none⟩ (.int .i64 u)).setCell ⟨B + 1 + 1, 1, none⟩ (.slice ao3 T.length cap3))) := hide (((((unhide HX3).1)).setCell (fun h => absurd h (by show ¬ B + 1 + 1 < _; have := unhide HBw; omega)) _).setCell (fun h => absurd h (by show ¬ B + 1 + 1 < _; have := unhide HBw; omega)) _)
      have HFB : Hid (Fr (fun k => k = B + 1 + 1) w3 ((w3.setCell ⟨B + 1 + 1, 0, none⟩ (.int .i64 u)).setCell ⟨B + 1 + 1, 1, none⟩ (.slice ao3 T.length cap3))) := hide ((((Fr.refl (fun k => k = B + 1 + 1) _)).setCell (fun _ => rfl) _).setCell (fun _ => rfl) _)
      generalize (w3.setCell ⟨B + 1 + 1, 0, none⟩ (.int .i64 u)).setCell ⟨B + 1 + 1, 1, none⟩ (.slice ao3 T.length cap3) = V at *
      have x0 : V.cell? ⟨B + 1 + 1, 0, none⟩ = some (.int .i64 u) := hfin.cell 0
      have x1 : V.cell? ⟨B + 1 + 1, 1, none⟩ = some (.slice ao3 T.length cap3) := hfin.cell 1
      clear hfin
      refine bodyPost_ret (v := .tuple #[.agg #[.int .i64 u, .slice ao3 T.length cap3], .int .i64 0]) ?_ rfl ?_
      · simp [results, Tryz.results11, go_sem, x0, x1]
      · refine ⟨ao3, cap3, g3, by rw [unhide HR, if_neg (by simp), if_neg h2]; rfl, ?_, unhide HFV⟩
        rw [unhide HR, if_neg (by simp), if_neg h2]
        exact (unhide HX3).2.2.2.1.go (unhide HFB) (fun hc t => by have := unhide HNE hc; omega)
  · have y0 : w1.cell? ⟨B + 1 + 1, 0, none⟩ = some (.int .i64 0) := (unhide HX1).2.2.2.cell 0
    have y1 : w1.cell? ⟨B + 1 + 1, 1, none⟩ = some (.slice none 0 0) := (unhide HX1).2.2.2.cell 1
    have z0 := (unhide HX1).2.2.2.frozen 0
    have z1 := (unhide HX1).2.2.2.frozen 1
    go_wp2
    have hfin : Bx ((w1.setCell ⟨B + 1 + 1, 0, none⟩ (.int .i64 0)).setCell ⟨B + 1 + 1, 1, none⟩ (.slice none 0 0)) (B + 1 + 1) #[.int .i64 0, .slice none 0 0] 24 := (((unhide HX1).2.2.2).setCell 0 _).setCell 1 _
    have HFV : Hid (Fr (fun _ => False) w ((w1.setCell ⟨B + 1 + 1, 0, none⟩ (.int .i64 0)).setCell ⟨B + 1 + 1, 1, none⟩ (.slice none 0 0))) := hide (((((unhide HX1).1)).setCell (fun h => absurd h (by show ¬ B + 1 + 1 < _; have := unhide HBw; omega)) _).setCell (fun h => absurd h (by show ¬ B + 1 + 1 < _; have := unhide HBw; omega)) _)
    have HFB : Hid (Fr (fun k => k = B + 1 + 1) w1 ((w1.setCell ⟨B + 1 + 1, 0, none⟩ (.int .i64 0)).setCell ⟨B + 1 + 1, 1, none⟩ (.slice none 0 0))) := hide ((((Fr.refl (fun k => k = B + 1 + 1) _)).setCell (fun _ => rfl) _).setCell (fun _ => rfl) _)
    generalize (w1.setCell ⟨B + 1 + 1, 0, none⟩ (.int .i64 0)).setCell ⟨B + 1 + 1, 1, none⟩ (.slice none 0 0) = V at *
    have x0 : V.cell? ⟨B + 1 + 1, 0, none⟩ = some (.int .i64 0) := hfin.cell 0
    have x1 : V.cell? ⟨B + 1 + 1, 1, none⟩ = some (.slice none 0 0) := hfin.cell 1
    clear hfin
    refine bodyPost_ret (v := .tuple #[.agg #[.int .i64 0, .slice none 0 0], .int .i64 E1]) ?_ rfl ?_
    · simp [results, Tryz.results11, go_sem, x0, x1]
    · exact ⟨none, 0, 0, by rw [unhide HR, if_pos h1]; rfl, by rw [unhide HR, if_pos h1]; exact LO.nil _ _, unhide HFV⟩

end Go.Proofs.YtmhljehkodhggaaGreat

