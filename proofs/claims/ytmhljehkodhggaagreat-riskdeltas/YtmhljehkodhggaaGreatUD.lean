import Derived.Test.YtmhljehkodhggaaGreatUC
/- The document's own: the next version of a list. -/
namespace Go.Proofs.YtmhljehkodhggaaGreat
open Go.RowKit

/-- The document's next version, or what is wrong. -/
def refApplyR (l : Rl) (d : Dl) : Rl × Int :=
  if rightE l ≠ 0 then (⟨0, []⟩, rightE l) else if deltaOk d = false then (⟨0, []⟩, 80) else if (d.ver - 1 == l.ver) = false then (⟨0, []⟩, 130) else if d.add.any (memS l.toks) = true then (⟨0, []⟩, 131) else if d.gone.all (memS l.toks) = false then (⟨0, []⟩, 131)
  else if 1000 < (putsL (outL l.toks d.gone) d.add).length then (⟨0, []⟩, 2) else (⟨d.ver, putsL (outL l.toks d.gone) d.add⟩, 0)

theorem any_co {a b : List ByteArray} (ha : Ris a) (hb : Ris b) : a.any (memS b) = decide (0 < (coL a b).length) := by
  rw [Bool.eq_iff_iff, List.any_eq_true, decide_eq_true_eq]
  constructor
  · rintro ⟨x, hx, hy⟩
    exact List.length_pos_of_mem ((coL_mem ha hb x).2 ⟨hx, memS_mem.1 hy⟩)
  · intro h
    obtain ⟨x, hx⟩ := List.exists_mem_of_length_pos h
    obtain ⟨h1, h2⟩ := (coL_mem ha hb x).1 hx
    exact ⟨x, h1, memS_mem.2 h2⟩
theorem all_wo {a b : List ByteArray} (ha : Ris a) (hb : Ris b) : a.all (memS b) = !decide (0 < (woL a b).length) := by
  rw [Bool.eq_iff_iff, List.all_eq_true, Bool.not_eq_true', decide_eq_false_iff_not]
  constructor
  · intro h h0
    obtain ⟨x, hx⟩ := List.exists_mem_of_length_pos h0
    obtain ⟨h1, h2⟩ := (woL_mem ha hb x).1 hx
    exact h2 (memS_mem.1 (h x h1))
  · intro h x hx
    refine memS_mem.2 (Classical.not_not.1 (fun hy => h (List.length_pos_of_mem ((woL_mem ha hb x).2 ⟨hx, hy⟩))))

theorem refApply_eq (l : Rl) (d : Dl) : refApplyR l d = applyR l d := by
  unfold refApplyR applyR applyE
  by_cases h1 : rightE l ≠ 0
  · rw [if_pos h1, if_pos h1, if_pos h1]
  · rw [if_neg h1, if_neg h1]
    have r0 := listOk_ris (rightE_ok (Classical.not_not.1 h1)).1
    by_cases h2 : deltaOk d = false
    · rw [if_pos h2, if_pos h2, if_pos (by omega)]
    · rw [if_neg h2, if_neg h2]
      have h2' : deltaOk d = true := by simpa using h2
      obtain ⟨_, k1, k2, _⟩ := deltaOk_iff.1 h2'
      by_cases h3 : (d.ver - 1 == l.ver) = false
      · rw [if_pos h3, if_pos h3, if_pos (by omega)]
      · rw [if_neg h3, if_neg h3, any_co (listOk_ris k1) r0, all_wo (listOk_ris k2) r0]
        by_cases h4 : 0 < (coL d.add l.toks).length
        · rw [if_pos (decide_eq_true h4), if_pos h4, if_pos (by omega)]
        · rw [if_neg (by simpa using h4), if_neg h4]
          by_cases h5 : 0 < (woL d.gone l.toks).length
          · rw [if_pos (by simpa using h5), if_pos h5, if_pos (by omega)]
          · rw [if_neg (by simpa using h5), if_neg h5]
            have e : putsL (outL l.toks d.gone) d.add = applyT l d := by
              unfold applyT
              rw [outL_eq r0 (listOk_ris k2), puts_eq (woL_ris r0 (listOk_ris k2)) (listOk_ris k1)]
            rw [e]
            simp

set_option maxHeartbeats 8000000 in
set_option maxRecDepth 20000 in
theorem refApply_any (w : World) (l : Rl) (a : Option Addr) (c : Nat) (hl : RIn w l a c) (d : Dl) (a1 : Option Addr) (c1 : Nat) (a2 : Option Addr) (c2 : Nat) (hd : DI w d a1 c1 a2 c2) :
    Calls Tryz.prog 13 #[.agg (rlC l a c), .agg (dlC d a1 c1 a2 c2)] w (Applied w (applyR l d)) := by
  rw [← refApply_eq]
  obtain ⟨B, HB⟩ : ∃ B, Hid (w.heap.size = B) := ⟨_, rfl⟩
  obtain ⟨W0, HW0⟩ : ∃ W, Hid (W = ((w.alloc (.cells (rlC l a c) 24)).alloc (.cells (dlC d a1 c1 a2 c2) 26)).alloc (.cells #[.int .i64 0, .slice none 0 0] 24)) := ⟨_, rfl⟩
  have HS : Hid (∀ w', Fr (fun _ => False) W0 w' → Fr (fun _ => False) w w' ∧ Bx w' B #[.int .i64 l.ver, .slice a l.toks.length c] 24 ∧ Bx w' (B + 1) #[.int .i64 d.ver, .slice a1 d.add.length c1, .slice a2 d.gone.length c2] 26 ∧ Bx w' (B + 1 + 1) #[.int .i64 0, .slice none 0 0] 24 ∧ RIn w' l a c ∧ DI w' d a1 c1 a2 c2) := hide (fun w' hf => by
    rw [unhide HW0] at hf
    have z1 : Bx (((w.alloc (.cells (rlC l a c) 24)).alloc (.cells (dlC d a1 c1 a2 c2) 26)).alloc (.cells #[.int .i64 0, .slice none 0 0] 24)) w.heap.size (rlC l a c) 24 := ((Bx.new _ _ _).alloc _).alloc _
    have z2 := (Bx.new (w.alloc (.cells (rlC l a c) 24)) (dlC d a1 c1 a2 c2) 26).alloc (.cells #[.int .i64 0, .slice none 0 0] 24)
    have z3 := Bx.new ((w.alloc (.cells (rlC l a c) 24)).alloc (.cells (dlC d a1 c1 a2 c2) 26)) #[.int .i64 0, .slice none 0 0] 24
    rw [heap_alloc] at z2
    rw [heap_alloc, heap_alloc] at z3
    rw [unhide HB] at z1 z2 z3
    have h0 : Fr (fun _ => False) w w' := ((((Fr.refl _ w).alloc _).alloc _).alloc _).trans hf (fun _ _ t => t)
    exact ⟨h0, z1.keep hf, z2.keep hf, z3.keep hf, hl.keep h0, hd.keep h0⟩)
  have HBw : Hid (w.heap.size ≤ B) := hide (by rw [← unhide HB]; exact Nat.le_refl _)
  have HR : Hid (refApplyR l d = if rightE l ≠ 0 then (⟨0, []⟩, rightE l) else if deltaOk d = false then (⟨0, []⟩, 80) else if (d.ver - 1 == l.ver) = false then (⟨0, []⟩, 130) else if d.add.any (memS l.toks) = true then (⟨0, []⟩, 131) else if d.gone.all (memS l.toks) = false then (⟨0, []⟩, 131) else if 1000 < (putsL (outL l.toks d.gone) d.add).length then (⟨0, []⟩, 2) else (⟨d.ver, putsL (outL l.toks d.gone) d.add⟩, 0)) := hide rfl
  have HK : Hid (rightE l = 0 → l.toks.length ≤ 1000) := hide (fun h => listOk_len (rightE_ok h).1)
  have HKd : Hid (deltaOk d = true → 1 ≤ d.ver ∧ d.add.length ≤ 1000 ∧ d.gone.length ≤ 1000) := hide (fun h => ⟨(deltaOk_iff.1 h).1, listOk_len (deltaOk_iff.1 h).2.1, listOk_len (deltaOk_iff.1 h).2.2.1⟩)
  have HDV := hide hd.ver
  have RR : Hid (∀ w', Fr (fun _ => False) W0 w' → Calls Tryz.prog 16 #[.agg #[.int .i64 l.ver, .slice a l.toks.length c]] w' fun e w'' => e = .returned (.int .i64 (rightE l)) ∧ Fr (fun _ => False) w' w'') := hide (fun w' hf => refRight_any w' l a c (unhide HS w' hf).2.2.2.2.1.toks (unhide HS w' hf).2.2.2.2.1.len)
  have RD : Hid (∀ w', Fr (fun _ => False) W0 w' → Calls Tryz.prog 31 #[.agg #[.int .i64 d.ver, .slice a1 d.add.length c1, .slice a2 d.gone.length c2]] w' fun e w'' => e = .returned (.bool (deltaOk d)) ∧ Fr (fun _ => False) w' w'') := hide (fun w' hf => deltaRight_any d w' a1 c1 a2 c2 (unhide HS w' hf).2.2.2.2.2.add (unhide HS w' hf).2.2.2.2.2.gone (unhide HS w' hf).2.2.2.2.2.l1 (unhide HS w' hf).2.2.2.2.2.l2)
  have RI : Hid (∀ w', Fr (fun _ => False) W0 w' → ∀ x, Calls Tryz.prog 32 #[.slice a l.toks.length c, .string x] w' fun e w'' => e = .returned (.bool (memS l.toks x)) ∧ Fr (fun _ => False) w' w'') := hide (fun w' hf x => in_any w' a c l.toks x (unhide HS w' hf).2.2.2.2.1.toks (unhide HS w' hf).2.2.2.2.1.len)
  clear hl hd
  unfold rlC dlC at HW0 ⊢
  go_enter Tryz.func13, Tryz.ntmps13
  go_wp2_with fail
  rw [← unhide HW0, unhide HB]
  clear HW0 HB
  refine (unhide RR W0 (Fr.refl _ _)).mono ?_
  clear RR
  rintro e w1 ⟨rfl, hF⟩
  have HF1 := hide hF
  clear hF
  by_cases h1 : rightE l = 0
  · rw [h1]
    have hn := unhide HK h1
    have x0 : w1.cell? ⟨B + 1, 0, none⟩ = some (.int .i64 d.ver) := (unhide HS _ (unhide HF1)).2.2.1.cell 0
    have x1 : w1.cell? ⟨B + 1, 1, none⟩ = some (.slice a1 d.add.length c1) := (unhide HS _ (unhide HF1)).2.2.1.cell 1
    have x2 : w1.cell? ⟨B + 1, 2, none⟩ = some (.slice a2 d.gone.length c2) := (unhide HS _ (unhide HF1)).2.2.1.cell 2
    have H1 := hide h1
    clear h1 HK
    go_wp2_with fail
    refine (unhide RD w1 (unhide HF1)).mono ?_
    clear RD x0 x1 x2
    rintro e w2 ⟨rfl, hF⟩
    have HF2 := hide ((unhide HF1).trans hF (fun _ _ t => t))
    clear hF HF1
    cases h2 : deltaOk d with
    | false =>
      have y0 : w2.cell? ⟨B + 1 + 1, 0, none⟩ = some (.int .i64 0) := (unhide HS _ (unhide HF2)).2.2.2.1.cell 0
      have y1 : w2.cell? ⟨B + 1 + 1, 1, none⟩ = some (.slice none 0 0) := (unhide HS _ (unhide HF2)).2.2.2.1.cell 1
      have z0 := (unhide HS _ (unhide HF2)).2.2.2.1.frozen 0
      have z1 := (unhide HS _ (unhide HF2)).2.2.2.1.frozen 1
      go_wp2
      have hfin : Bx ((w2.setCell ⟨B + 1 + 1, 0, none⟩ (.int .i64 0)).setCell ⟨B + 1 + 1, 1, none⟩ (.slice none 0 0)) (B + 1 + 1) #[.int .i64 0, .slice none 0 0] 24 := (((unhide HS _ (unhide HF2)).2.2.2.1).setCell 0 _).setCell 1 _
      have HFV : Hid (Fr (fun _ => False) w ((w2.setCell ⟨B + 1 + 1, 0, none⟩ (.int .i64 0)).setCell ⟨B + 1 + 1, 1, none⟩ (.slice none 0 0))) := hide (((((unhide HS _ (unhide HF2)).1)).setCell (fun h => absurd h (by show ¬ B + 1 + 1 < _; have := unhide HBw; omega)) _).setCell (fun h => absurd h (by show ¬ B + 1 + 1 < _; have := unhide HBw; omega)) _)
      have HFB : Hid (Fr (fun k => k = B + 1 + 1) w2 ((w2.setCell ⟨B + 1 + 1, 0, none⟩ (.int .i64 0)).setCell ⟨B + 1 + 1, 1, none⟩ (.slice none 0 0))) := hide ((((Fr.refl (fun k => k = B + 1 + 1) _)).setCell (fun _ => rfl) _).setCell (fun _ => rfl) _)
      generalize (w2.setCell ⟨B + 1 + 1, 0, none⟩ (.int .i64 0)).setCell ⟨B + 1 + 1, 1, none⟩ (.slice none 0 0) = V at *
      have x0 : V.cell? ⟨B + 1 + 1, 0, none⟩ = some (.int .i64 0) := hfin.cell 0
      have x1 : V.cell? ⟨B + 1 + 1, 1, none⟩ = some (.slice none 0 0) := hfin.cell 1
      clear hfin
      refine bodyPost_ret (v := .tuple #[.agg #[.int .i64 0, .slice none 0 0], .int .i64 80]) ?_ rfl ?_
      · simp [results, Tryz.results13, go_sem, x0, x1]
      · exact ⟨none, 0, 0, by rw [unhide HR, if_neg (by rw [unhide H1]; simp), if_pos h2]; rfl, by rw [unhide HR, if_neg (by rw [unhide H1]; simp), if_pos h2]; exact LO.nil _ _, unhide HFV⟩
    | true =>
      obtain ⟨v1, n1, n2⟩ := unhide HKd h2
      have H2 := hide h2
      have hw : IntKind.i64.wrap (d.ver - 1) = d.ver - 1 := by rw [IntKind.wrap_i64]; have := unhide HDV; omega
      have x0 : w2.cell? ⟨B + 1, 0, none⟩ = some (.int .i64 d.ver) := (unhide HS _ (unhide HF2)).2.2.1.cell 0
      have y0 : w2.cell? ⟨B, 0, none⟩ = some (.int .i64 l.ver) := (unhide HS _ (unhide HF2)).2.1.cell 0
      clear h2 HKd
      cases h3 : (d.ver - 1 == l.ver) with
      | false =>
        have H3 := hide h3
        have hne : (d.ver - 1 != l.ver) = true := by rw [bne, h3]; rfl
        clear h3 y0
        have q0 : w2.cell? ⟨B, 0, none⟩ = some (.int .i64 l.ver) := (unhide HS _ (unhide HF2)).2.1.cell 0
        have y0 : w2.cell? ⟨B + 1 + 1, 0, none⟩ = some (.int .i64 0) := (unhide HS _ (unhide HF2)).2.2.2.1.cell 0
        have y1 : w2.cell? ⟨B + 1 + 1, 1, none⟩ = some (.slice none 0 0) := (unhide HS _ (unhide HF2)).2.2.2.1.cell 1
        have z0 := (unhide HS _ (unhide HF2)).2.2.2.1.frozen 0
        have z1 := (unhide HS _ (unhide HF2)).2.2.2.1.frozen 1
        go_wp2
        have hfin : Bx ((w2.setCell ⟨B + 1 + 1, 0, none⟩ (.int .i64 0)).setCell ⟨B + 1 + 1, 1, none⟩ (.slice none 0 0)) (B + 1 + 1) #[.int .i64 0, .slice none 0 0] 24 := (((unhide HS _ (unhide HF2)).2.2.2.1).setCell 0 _).setCell 1 _
        have HFV : Hid (Fr (fun _ => False) w ((w2.setCell ⟨B + 1 + 1, 0, none⟩ (.int .i64 0)).setCell ⟨B + 1 + 1, 1, none⟩ (.slice none 0 0))) := hide (((((unhide HS _ (unhide HF2)).1)).setCell (fun h => absurd h (by show ¬ B + 1 + 1 < _; have := unhide HBw; omega)) _).setCell (fun h => absurd h (by show ¬ B + 1 + 1 < _; have := unhide HBw; omega)) _)
        have HFB : Hid (Fr (fun k => k = B + 1 + 1) w2 ((w2.setCell ⟨B + 1 + 1, 0, none⟩ (.int .i64 0)).setCell ⟨B + 1 + 1, 1, none⟩ (.slice none 0 0))) := hide ((((Fr.refl (fun k => k = B + 1 + 1) _)).setCell (fun _ => rfl) _).setCell (fun _ => rfl) _)
        generalize (w2.setCell ⟨B + 1 + 1, 0, none⟩ (.int .i64 0)).setCell ⟨B + 1 + 1, 1, none⟩ (.slice none 0 0) = V at *
        have x0 : V.cell? ⟨B + 1 + 1, 0, none⟩ = some (.int .i64 0) := hfin.cell 0
        have x1 : V.cell? ⟨B + 1 + 1, 1, none⟩ = some (.slice none 0 0) := hfin.cell 1
        clear hfin
        refine bodyPost_ret (v := .tuple #[.agg #[.int .i64 0, .slice none 0 0], .int .i64 130]) ?_ rfl ?_
        · simp [results, Tryz.results13, go_sem, x0, x1]
        · exact ⟨none, 0, 0, by rw [unhide HR, if_neg (by rw [unhide H1]; simp), if_neg (by rw [unhide H2]; simp), if_pos (unhide H3)]; rfl, by rw [unhide HR, if_neg (by rw [unhide H1]; simp), if_neg (by rw [unhide H2]; simp), if_pos (unhide H3)]; exact LO.nil _ _, unhide HFV⟩
      | true =>
        have H3 := hide h3
        have hne : (d.ver - 1 != l.ver) = false := by rw [bne, h3]; rfl
        clear h3
        go_wp2
        clear x0 y0 hw hne
        go_loopw [8, 9] (fun iv _ wr => ∃ (i : Nat), i ≤ d.add.length ∧ iv = .int .i64 i ∧ Hid (Fr (fun _ => False) W0 wr ∧ (d.add.drop i).any (memS l.toks) = d.add.any (memS l.toks))) (fun iv _ _ => d.add.length - (intOf iv).toNat)
        case atStart => exact ⟨0, Nat.zero_le _, rfl, unhide HF2, by simp⟩
        case round =>
          obtain ⟨i, hi, rfl, HI⟩ := hrel
          clear HF2
          have x1 : wr.cell? ⟨B + 1, 1, none⟩ = some (.slice a1 d.add.length c1) := (unhide HS _ (unhide HI).1).2.2.1.cell 1
          by_cases hil : i < d.add.length
          · have HTK : Hid ((memS l.toks d.add[i] || (d.add.drop (i + 1)).any (memS l.toks)) = d.add.any (memS l.toks)) := hide (by have := (unhide HI).2; rw [List.drop_eq_getElem_cons hil, List.any_cons] at this; exact this)
            obtain ⟨q, off, rfl, c0⟩ := (unhide HS _ (unhide HI).1).2.2.2.2.2.add.at hil
            have HSS : Hid (∀ w', Fr (fun _ => False) wr w' → w'.cell? ⟨B, 1, none⟩ = some (.slice a l.toks.length c) ∧ w'.cell? ⟨B + 1, 1, none⟩ = some (.slice (some ⟨q, off, none⟩) d.add.length c1) ∧ w'.cell? ⟨q, off + i, none⟩ = some (.string d.add[i])) := hide (fun w' hf => ⟨((unhide HS _ (unhide HI).1).2.1.keep hf).cell 1, ((unhide HS _ (unhide HI).1).2.2.1.keep hf).cell 1, (hf.cell (a := ⟨q, off + i, none⟩) (World.block_lt_of_cell? _ _ c0) (fun t => t)).trans c0⟩)
            have RX : Hid (∀ w', Fr (fun _ => False) wr w' → Calls Tryz.prog 32 #[.slice a l.toks.length c, .string d.add[i]] w' fun e w'' => e = .returned (.bool (memS l.toks d.add[i])) ∧ Fr (fun _ => False) wr w'') := hide (fun w' hf => (unhide RI w' ((unhide HI).1.trans hf (fun _ _ t => t)) d.add[i]).mono (fun e w'' h => ⟨h.1, hf.trans h.2 (fun _ _ t => t)⟩))
            clear c0
            obtain ⟨x, HX⟩ : ∃ x, Hid (d.add[i] = x) := ⟨d.add[i], rfl⟩
            rw [unhide HX] at HSS RX HTK
            go_upto_region 12 with (fail)
            clear x1
            go_region_held3 (fun w' => w'.cell? ⟨B, 1, none⟩ = some (.slice a l.toks.length c) ∧ w'.cell? ⟨B + 1, 1, none⟩ = some (.slice (some ⟨q, off, none⟩) d.add.length c1) ∧ w'.cell? ⟨q, off + i, none⟩ = some (.string x)) (first | exact unhide HSS _ (Fr.refl _ _) | exact unhide HSS _ ((Fr.refl _ _).drew) | exact unhide HSS _ (unhide hF3)) (first | (go_at_call 32; refine (unhide RX _ ((Fr.refl _ _).drew)).mono ?_; rintro e w3 ⟨rfl, hF3'⟩; have hF3 := hide hF3'; clear hF3'))
            have HF3 : Hid (Fr (fun _ => False) W0 w3) := hide ((unhide HI).1.trans (unhide hF3) (fun _ _ t => t))
            clear hF3 HSS RX
            cases hx : memS l.toks x with
            | true =>
              have HH : Hid (d.add.any (memS l.toks) = true) := hide (by rw [← unhide HTK, hx]; rfl)
              clear hx HI
              have y0 : w3.cell? ⟨B + 1 + 1, 0, none⟩ = some (.int .i64 0) := (unhide HS _ (unhide HF3)).2.2.2.1.cell 0
              have y1 : w3.cell? ⟨B + 1 + 1, 1, none⟩ = some (.slice none 0 0) := (unhide HS _ (unhide HF3)).2.2.2.1.cell 1
              have z0 := (unhide HS _ (unhide HF3)).2.2.2.1.frozen 0
              have z1 := (unhide HS _ (unhide HF3)).2.2.2.1.frozen 1
              go_wp2
              have hfin : Bx ((w3.setCell ⟨B + 1 + 1, 0, none⟩ (.int .i64 0)).setCell ⟨B + 1 + 1, 1, none⟩ (.slice none 0 0)) (B + 1 + 1) #[.int .i64 0, .slice none 0 0] 24 := (((unhide HS _ (unhide HF3)).2.2.2.1).setCell 0 _).setCell 1 _
              have HFV : Hid (Fr (fun _ => False) w ((w3.setCell ⟨B + 1 + 1, 0, none⟩ (.int .i64 0)).setCell ⟨B + 1 + 1, 1, none⟩ (.slice none 0 0))) := hide (((((unhide HS _ (unhide HF3)).1)).setCell (fun h => absurd h (by show ¬ B + 1 + 1 < _; have := unhide HBw; omega)) _).setCell (fun h => absurd h (by show ¬ B + 1 + 1 < _; have := unhide HBw; omega)) _)
              have HFB : Hid (Fr (fun k => k = B + 1 + 1) w3 ((w3.setCell ⟨B + 1 + 1, 0, none⟩ (.int .i64 0)).setCell ⟨B + 1 + 1, 1, none⟩ (.slice none 0 0))) := hide ((((Fr.refl (fun k => k = B + 1 + 1) _)).setCell (fun _ => rfl) _).setCell (fun _ => rfl) _)
              generalize (w3.setCell ⟨B + 1 + 1, 0, none⟩ (.int .i64 0)).setCell ⟨B + 1 + 1, 1, none⟩ (.slice none 0 0) = V at *
              have x0 : V.cell? ⟨B + 1 + 1, 0, none⟩ = some (.int .i64 0) := hfin.cell 0
              have x1 : V.cell? ⟨B + 1 + 1, 1, none⟩ = some (.slice none 0 0) := hfin.cell 1
              clear hfin
              refine bodyPost_ret (v := .tuple #[.agg #[.int .i64 0, .slice none 0 0], .int .i64 131]) ?_ rfl ?_
              · simp [results, Tryz.results13, go_sem, x0, x1]
              · exact ⟨none, 0, 0, by rw [unhide HR, if_neg (by rw [unhide H1]; simp), if_neg (by rw [unhide H2]; simp), if_neg (by rw [unhide H3]; simp), if_pos (unhide HH)]; rfl, by rw [unhide HR, if_neg (by rw [unhide H1]; simp), if_neg (by rw [unhide H2]; simp), if_neg (by rw [unhide H3]; simp), if_pos (unhide HH)]; exact LO.nil _ _, unhide HFV⟩
            | false =>
              have HH : Hid ((d.add.drop (i + 1)).any (memS l.toks) = d.add.any (memS l.toks)) := hide (by rw [← unhide HTK, hx, Bool.false_or])
              clear hx HI
              go_wp2
              exact ⟨⟨i + 1, by omega, by go_num, unhide HF3, unhide HH⟩, by simp [intOf]; omega⟩
          · obtain rfl : i = d.add.length := by omega
            have H4 : Hid (d.add.any (memS l.toks) = false) := hide (by rw [← (unhide HI).2, List.drop_length]; rfl)
            obtain ⟨wa, hwa⟩ : ∃ wa, wa = wr := ⟨_, rfl⟩
            rw [← hwa] at HI x1 ⊢
            have HFa := hide (unhide HI).1
            clear hwa HI
            go_wp2
            clear x1
            go_loopw [10, 11] (fun iv _ wr => ∃ (i : Nat), i ≤ d.gone.length ∧ iv = .int .i64 i ∧ Hid (Fr (fun _ => False) W0 wr ∧ (d.gone.drop i).all (memS l.toks) = d.gone.all (memS l.toks))) (fun iv _ _ => d.gone.length - (intOf iv).toNat)
            case atStart => exact ⟨0, Nat.zero_le _, rfl, unhide HFa, by simp⟩
            case round =>
              obtain ⟨i, hi, rfl, HI⟩ := hrel
              clear HFa
              obtain ⟨wb, hwb⟩ : ∃ wb, wb = wr := ⟨_, rfl⟩
              rw [← hwb] at HI ⊢
              clear hwb
              have x2 : wb.cell? ⟨B + 1, 2, none⟩ = some (.slice a2 d.gone.length c2) := (unhide HS _ (unhide HI).1).2.2.1.cell 2
              by_cases hil : i < d.gone.length
              · have HTK : Hid ((memS l.toks d.gone[i] && (d.gone.drop (i + 1)).all (memS l.toks)) = d.gone.all (memS l.toks)) := hide (by have := (unhide HI).2; rw [List.drop_eq_getElem_cons hil, List.all_cons] at this; exact this)
                obtain ⟨q, off, rfl, c0⟩ := (unhide HS _ (unhide HI).1).2.2.2.2.2.gone.at hil
                have HSS : Hid (∀ w', Fr (fun _ => False) wb w' → w'.cell? ⟨B, 1, none⟩ = some (.slice a l.toks.length c) ∧ w'.cell? ⟨B + 1, 2, none⟩ = some (.slice (some ⟨q, off, none⟩) d.gone.length c2) ∧ w'.cell? ⟨q, off + i, none⟩ = some (.string d.gone[i])) := hide (fun w' hf => ⟨((unhide HS _ (unhide HI).1).2.1.keep hf).cell 1, ((unhide HS _ (unhide HI).1).2.2.1.keep hf).cell 2, (hf.cell (a := ⟨q, off + i, none⟩) (World.block_lt_of_cell? _ _ c0) (fun t => t)).trans c0⟩)
                have RX : Hid (∀ w', Fr (fun _ => False) wb w' → Calls Tryz.prog 32 #[.slice a l.toks.length c, .string d.gone[i]] w' fun e w'' => e = .returned (.bool (memS l.toks d.gone[i])) ∧ Fr (fun _ => False) wb w'') := hide (fun w' hf => (unhide RI w' ((unhide HI).1.trans hf (fun _ _ t => t)) d.gone[i]).mono (fun e w'' h => ⟨h.1, hf.trans h.2 (fun _ _ t => t)⟩))
                clear c0
                obtain ⟨x, HX⟩ : ∃ x, Hid (d.gone[i] = x) := ⟨d.gone[i], rfl⟩
                rw [unhide HX] at HSS RX HTK
                go_upto_region 18 with (fail)
                clear x2
                go_region_held3 (fun w' => w'.cell? ⟨B, 1, none⟩ = some (.slice a l.toks.length c) ∧ w'.cell? ⟨B + 1, 2, none⟩ = some (.slice (some ⟨q, off, none⟩) d.gone.length c2) ∧ w'.cell? ⟨q, off + i, none⟩ = some (.string x)) (first | exact unhide HSS _ (Fr.refl _ _) | exact unhide HSS _ ((Fr.refl _ _).drew) | exact unhide HSS _ (unhide hF4)) (first | (go_at_call 32; refine (unhide RX _ ((Fr.refl _ _).drew)).mono ?_; rintro e w4 ⟨rfl, hF4'⟩; have hF4 := hide hF4'; clear hF4'))
                have HF4 : Hid (Fr (fun _ => False) W0 w4) := hide ((unhide HI).1.trans (unhide hF4) (fun _ _ t => t))
                clear hF4 HSS RX
                cases hx : memS l.toks x with
                | false =>
                  have HH : Hid (d.gone.all (memS l.toks) = false) := hide (by rw [← unhide HTK, hx]; rfl)
                  clear hx HI
                  have y0 : w4.cell? ⟨B + 1 + 1, 0, none⟩ = some (.int .i64 0) := (unhide HS _ (unhide HF4)).2.2.2.1.cell 0
                  have y1 : w4.cell? ⟨B + 1 + 1, 1, none⟩ = some (.slice none 0 0) := (unhide HS _ (unhide HF4)).2.2.2.1.cell 1
                  have z0 := (unhide HS _ (unhide HF4)).2.2.2.1.frozen 0
                  have z1 := (unhide HS _ (unhide HF4)).2.2.2.1.frozen 1
                  go_wp2
                  have hfin : Bx ((w4.setCell ⟨B + 1 + 1, 0, none⟩ (.int .i64 0)).setCell ⟨B + 1 + 1, 1, none⟩ (.slice none 0 0)) (B + 1 + 1) #[.int .i64 0, .slice none 0 0] 24 := (((unhide HS _ (unhide HF4)).2.2.2.1).setCell 0 _).setCell 1 _
                  have HFV : Hid (Fr (fun _ => False) w ((w4.setCell ⟨B + 1 + 1, 0, none⟩ (.int .i64 0)).setCell ⟨B + 1 + 1, 1, none⟩ (.slice none 0 0))) := hide (((((unhide HS _ (unhide HF4)).1)).setCell (fun h => absurd h (by show ¬ B + 1 + 1 < _; have := unhide HBw; omega)) _).setCell (fun h => absurd h (by show ¬ B + 1 + 1 < _; have := unhide HBw; omega)) _)
                  have HFB : Hid (Fr (fun k => k = B + 1 + 1) w4 ((w4.setCell ⟨B + 1 + 1, 0, none⟩ (.int .i64 0)).setCell ⟨B + 1 + 1, 1, none⟩ (.slice none 0 0))) := hide ((((Fr.refl (fun k => k = B + 1 + 1) _)).setCell (fun _ => rfl) _).setCell (fun _ => rfl) _)
                  generalize (w4.setCell ⟨B + 1 + 1, 0, none⟩ (.int .i64 0)).setCell ⟨B + 1 + 1, 1, none⟩ (.slice none 0 0) = V at *
                  have x0 : V.cell? ⟨B + 1 + 1, 0, none⟩ = some (.int .i64 0) := hfin.cell 0
                  have x1 : V.cell? ⟨B + 1 + 1, 1, none⟩ = some (.slice none 0 0) := hfin.cell 1
                  clear hfin
                  refine bodyPost_ret (v := .tuple #[.agg #[.int .i64 0, .slice none 0 0], .int .i64 131]) ?_ rfl ?_
                  · simp [results, Tryz.results13, go_sem, x0, x1]
                  · exact ⟨none, 0, 0, by rw [unhide HR, if_neg (by rw [unhide H1]; simp), if_neg (by rw [unhide H2]; simp), if_neg (by rw [unhide H3]; simp), if_neg (by rw [unhide H4]; simp), if_pos (unhide HH)]; rfl, by rw [unhide HR, if_neg (by rw [unhide H1]; simp), if_neg (by rw [unhide H2]; simp), if_neg (by rw [unhide H3]; simp), if_neg (by rw [unhide H4]; simp), if_pos (unhide HH)]; exact LO.nil _ _, unhide HFV⟩
                | true =>
                  have HH : Hid ((d.gone.drop (i + 1)).all (memS l.toks) = d.gone.all (memS l.toks)) := hide (by rw [← unhide HTK, hx, Bool.true_and])
                  clear hx HI
                  go_wp2
                  exact ⟨⟨i + 1, by omega, by go_num, unhide HF4, unhide HH⟩, by simp [intOf]; omega⟩
              · obtain rfl : i = d.gone.length := by omega
                have H5 : Hid (d.gone.all (memS l.toks) = true) := hide (by rw [← (unhide HI).2, List.drop_length]; rfl)
                have HFb := hide (unhide HI).1
                clear HI
                have x1 : wb.cell? ⟨B, 1, none⟩ = some (.slice a l.toks.length c) := (unhide HS _ (unhide HFb)).2.1.cell 1
                have RW := hide (without13_any wb l.toks d.gone a c a2 c2 (unhide HS _ (unhide HFb)).2.2.2.2.1.toks (unhide HS _ (unhide HFb)).2.2.2.2.2.gone (by omega) (by omega))
                go_wp2_with fail
                refine (unhide RW).mono ?_
                clear RW x1 x2
                rintro e w5 ⟨ao, cap, g, rfl, hL, hF⟩
                have H6 : Hid (Fr (fun _ => False) W0 w5 ∧ LO W0 w5 ao cap g (outL l.toks d.gone)) := hide ⟨(unhide HFb).trans hF (fun _ _ t => t), hL.later (unhide HFb).size⟩
                have HOL := hide (outL_len l.toks d.gone)
                clear hL hF HFb RI
                generalize hq0 : (outL l.toks d.gone).length = m0
                have HQ0 := hide hq0
                clear hq0
                go_wp2
                go_loopw [12, 13] (fun ov iv wr => ∃ (i m : Nat) (ao : Option Addr) (cap : Nat), i ≤ d.add.length ∧ iv = .int .i64 i ∧ ov = .slice ao m cap ∧ Hid (∃ g, Fr (fun _ => False) W0 wr ∧ LO W0 wr ao cap g (putsL (outL l.toks d.gone) (d.add.take i)) ∧ m = (putsL (outL l.toks d.gone) (d.add.take i)).length)) (fun _ iv _ => d.add.length - (intOf iv).toNat)
                case atStart => exact ⟨0, m0, ao, cap, Nat.zero_le _, rfl, rfl, g, (unhide H6).1, (unhide H6).2, (unhide HQ0).symm⟩
                case round =>
                  clear H6
                  obtain ⟨i, m, ao, cap, hi, rfl, rfl, HI⟩ := hrel
                  obtain ⟨wc, hwc⟩ : ∃ wc, wc = wr := ⟨_, rfl⟩
                  rw [← hwc] at HI ⊢
                  clear hwc
                  have HFc : Hid (Fr (fun _ => False) W0 wc) := hide (by obtain ⟨g, h1, _⟩ := unhide HI; exact h1)
                  have x1 : wc.cell? ⟨B + 1, 1, none⟩ = some (.slice a1 d.add.length c1) := (unhide HS _ (unhide HFc)).2.2.1.cell 1
                  by_cases hil : i < d.add.length
                  · obtain ⟨q, off, rfl, c0⟩ := (unhide HS _ (unhide HFc)).2.2.2.2.2.add.at hil
                    have HST : Hid (putsL (outL l.toks d.gone) (d.add.take (i + 1)) = putL (putsL (outL l.toks d.gone) (d.add.take i)) d.add[i]) := hide (by rw [List.take_succ_eq_append_getElem hil, putsL_snoc])
                    have HPL := hide (putsL_len (d.add.take i) (outL l.toks d.gone))
                    obtain ⟨g, p1, p2, p3⟩ := unhide HI
                    have RP := put_any W0 wc ao cap g _ d.add[i] p2 p1.size (by have hp := (unhide HPL).2; rw [List.length_take] at hp; have ho := unhide HOL; omega)
                    rw [← p3, ← unhide HST] at RP
                    have RP := hide RP
                    clear HI p1 p2 p3 HST HPL
                    generalize d.add[i] = x at *
                    go_wp2_with fail
                    refine (unhide RP).mono ?_
                    clear RP c0 x1
                    rintro e w6 ⟨ao2, cap2, g2, rfl, hL, hF⟩
                    have HN : Hid (∃ g, Fr (fun _ => False) W0 w6 ∧ LO W0 w6 ao2 cap2 g (putsL (outL l.toks d.gone) (d.add.take (i + 1)))) := hide ⟨g2, (unhide HFc).trans hF (fun _ _ t => t), hL⟩
                    clear hL hF HFc
                    generalize hq : (putsL (outL l.toks d.gone) (d.add.take (i + 1))).length = m2
                    have HQ := hide hq
                    clear hq
                    go_wp2
                    exact ⟨⟨i + 1, m2, ao2, cap2, by omega, by go_num, rfl, by obtain ⟨g, h1, h2⟩ := unhide HN; exact ⟨g, h1, h2, (unhide HQ).symm⟩⟩, by simp [intOf]; omega⟩
                  · obtain rfl : i = d.add.length := by omega
                    have H7 : Hid (∃ g, LO W0 wc ao cap g (putsL (outL l.toks d.gone) d.add) ∧ m = (putsL (outL l.toks d.gone) d.add).length) := hide (by obtain ⟨g, _, p2, p3⟩ := unhide HI; rw [List.take_length] at p2 p3; exact ⟨g, p2, p3⟩)
                    clear HI
                    have y0 : wc.cell? ⟨B + 1 + 1, 0, none⟩ = some (.int .i64 0) := (unhide HS _ (unhide HFc)).2.2.2.1.cell 0
                    have y1 : wc.cell? ⟨B + 1 + 1, 1, none⟩ = some (.slice none 0 0) := (unhide HS _ (unhide HFc)).2.2.2.1.cell 1
                    have z0 := (unhide HS _ (unhide HFc)).2.2.2.1.frozen 0
                    have z1 := (unhide HS _ (unhide HFc)).2.2.2.1.frozen 1
                    have u0 : wc.cell? ⟨B + 1, 0, none⟩ = some (.int .i64 d.ver) := (unhide HS _ (unhide HFc)).2.2.1.cell 0
                    by_cases h8 : 1000 < m
                    · have HRV : Hid (refApplyR l d = (⟨0, []⟩, 2)) := hide (by obtain ⟨g, _, p3⟩ := unhide H7; rw [unhide HR, if_neg (by rw [unhide H1]; simp), if_neg (by rw [unhide H2]; simp), if_neg (by rw [unhide H3]; simp), if_neg (by rw [unhide H4]; simp), if_neg (by rw [unhide H5]; simp), if_pos (by omega)])
                      go_wp2
                      have hfin : Bx ((wc.setCell ⟨B + 1 + 1, 0, none⟩ (.int .i64 0)).setCell ⟨B + 1 + 1, 1, none⟩ (.slice none 0 0)) (B + 1 + 1) #[.int .i64 0, .slice none 0 0] 24 := (((unhide HS _ (unhide HFc)).2.2.2.1).setCell 0 _).setCell 1 _
                      have HFV : Hid (Fr (fun _ => False) w ((wc.setCell ⟨B + 1 + 1, 0, none⟩ (.int .i64 0)).setCell ⟨B + 1 + 1, 1, none⟩ (.slice none 0 0))) := hide (((((unhide HS _ (unhide HFc)).1)).setCell (fun h => absurd h (by show ¬ B + 1 + 1 < _; have := unhide HBw; omega)) _).setCell (fun h => absurd h (by show ¬ B + 1 + 1 < _; have := unhide HBw; omega)) _)
                      have HFB : Hid (Fr (fun k => k = B + 1 + 1) wc ((wc.setCell ⟨B + 1 + 1, 0, none⟩ (.int .i64 0)).setCell ⟨B + 1 + 1, 1, none⟩ (.slice none 0 0))) := hide ((((Fr.refl (fun k => k = B + 1 + 1) _)).setCell (fun _ => rfl) _).setCell (fun _ => rfl) _)
                      generalize (wc.setCell ⟨B + 1 + 1, 0, none⟩ (.int .i64 0)).setCell ⟨B + 1 + 1, 1, none⟩ (.slice none 0 0) = V at *
                      have x0 : V.cell? ⟨B + 1 + 1, 0, none⟩ = some (.int .i64 0) := hfin.cell 0
                      have x1 : V.cell? ⟨B + 1 + 1, 1, none⟩ = some (.slice none 0 0) := hfin.cell 1
                      clear hfin
                      refine bodyPost_ret (v := .tuple #[.agg #[.int .i64 0, .slice none 0 0], .int .i64 2]) ?_ rfl ?_
                      · simp [results, Tryz.results13, go_sem, x0, x1]
                      · exact ⟨none, 0, 0, by rw [unhide HRV]; rfl, by rw [unhide HRV]; exact LO.nil _ _, unhide HFV⟩
                    · have HRV : Hid (refApplyR l d = (⟨d.ver, putsL (outL l.toks d.gone) d.add⟩, 0)) := hide (by obtain ⟨g, _, p3⟩ := unhide H7; rw [unhide HR, if_neg (by rw [unhide H1]; simp), if_neg (by rw [unhide H2]; simp), if_neg (by rw [unhide H3]; simp), if_neg (by rw [unhide H4]; simp), if_neg (by rw [unhide H5]; simp), if_neg (by omega)])
                      go_wp2
                      have hfin : Bx ((wc.setCell ⟨B + 1 + 1, 0, none⟩ (.int .i64 d.ver)).setCell ⟨B + 1 + 1, 1, none⟩ (.slice ao m cap)) (B + 1 + 1) #[.int .i64 d.ver, .slice ao m cap] 24 := (((unhide HS _ (unhide HFc)).2.2.2.1).setCell 0 _).setCell 1 _
                      have HFV : Hid (Fr (fun _ => False) w ((wc.setCell ⟨B + 1 + 1, 0, none⟩ (.int .i64 d.ver)).setCell ⟨B + 1 + 1, 1, none⟩ (.slice ao m cap))) := hide (((((unhide HS _ (unhide HFc)).1)).setCell (fun h => absurd h (by show ¬ B + 1 + 1 < _; have := unhide HBw; omega)) _).setCell (fun h => absurd h (by show ¬ B + 1 + 1 < _; have := unhide HBw; omega)) _)
                      have HFB : Hid (Fr (fun k => k = B + 1 + 1) wc ((wc.setCell ⟨B + 1 + 1, 0, none⟩ (.int .i64 d.ver)).setCell ⟨B + 1 + 1, 1, none⟩ (.slice ao m cap))) := hide ((((Fr.refl (fun k => k = B + 1 + 1) _)).setCell (fun _ => rfl) _).setCell (fun _ => rfl) _)
                      generalize (wc.setCell ⟨B + 1 + 1, 0, none⟩ (.int .i64 d.ver)).setCell ⟨B + 1 + 1, 1, none⟩ (.slice ao m cap) = V at *
                      have x0 : V.cell? ⟨B + 1 + 1, 0, none⟩ = some (.int .i64 d.ver) := hfin.cell 0
                      have x1 : V.cell? ⟨B + 1 + 1, 1, none⟩ = some (.slice ao m cap) := hfin.cell 1
                      clear hfin
                      refine bodyPost_ret (v := .tuple #[.agg #[.int .i64 d.ver, .slice ao m cap], .int .i64 0]) ?_ rfl ?_
                      · simp [results, Tryz.results13, go_sem, x0, x1]
                      · obtain ⟨g, p2, p3⟩ := unhide H7
                        refine ⟨ao, cap, g, by rw [unhide HRV, p3]; rfl, ?_, unhide HFV⟩
                        rw [unhide HRV]
                        exact (p2.go (unhide HFB) (fun hc t => by have := p2.new hc; have := (unhide HS W0 (Fr.refl _ _)).2.2.2.1.lt; omega)).later (unhide HS W0 (Fr.refl _ _)).1.size
  · have hx : (rightE l == 0) = false := by rw [beq_eq_false_iff_ne]; exact h1
    generalize hE : rightE l = E1 at *
    have HE1 := hide hE
    clear hE HK
    have y0 : w1.cell? ⟨B + 1 + 1, 0, none⟩ = some (.int .i64 0) := (unhide HS _ (unhide HF1)).2.2.2.1.cell 0
    have y1 : w1.cell? ⟨B + 1 + 1, 1, none⟩ = some (.slice none 0 0) := (unhide HS _ (unhide HF1)).2.2.2.1.cell 1
    have z0 := (unhide HS _ (unhide HF1)).2.2.2.1.frozen 0
    have z1 := (unhide HS _ (unhide HF1)).2.2.2.1.frozen 1
    go_wp2
    have hfin : Bx ((w1.setCell ⟨B + 1 + 1, 0, none⟩ (.int .i64 0)).setCell ⟨B + 1 + 1, 1, none⟩ (.slice none 0 0)) (B + 1 + 1) #[.int .i64 0, .slice none 0 0] 24 := (((unhide HS _ (unhide HF1)).2.2.2.1).setCell 0 _).setCell 1 _
    have HFV : Hid (Fr (fun _ => False) w ((w1.setCell ⟨B + 1 + 1, 0, none⟩ (.int .i64 0)).setCell ⟨B + 1 + 1, 1, none⟩ (.slice none 0 0))) := hide (((((unhide HS _ (unhide HF1)).1)).setCell (fun h => absurd h (by show ¬ B + 1 + 1 < _; have := unhide HBw; omega)) _).setCell (fun h => absurd h (by show ¬ B + 1 + 1 < _; have := unhide HBw; omega)) _)
    have HFB : Hid (Fr (fun k => k = B + 1 + 1) w1 ((w1.setCell ⟨B + 1 + 1, 0, none⟩ (.int .i64 0)).setCell ⟨B + 1 + 1, 1, none⟩ (.slice none 0 0))) := hide ((((Fr.refl (fun k => k = B + 1 + 1) _)).setCell (fun _ => rfl) _).setCell (fun _ => rfl) _)
    generalize (w1.setCell ⟨B + 1 + 1, 0, none⟩ (.int .i64 0)).setCell ⟨B + 1 + 1, 1, none⟩ (.slice none 0 0) = V at *
    have x0 : V.cell? ⟨B + 1 + 1, 0, none⟩ = some (.int .i64 0) := hfin.cell 0
    have x1 : V.cell? ⟨B + 1 + 1, 1, none⟩ = some (.slice none 0 0) := hfin.cell 1
    clear hfin
    refine bodyPost_ret (v := .tuple #[.agg #[.int .i64 0, .slice none 0 0], .int .i64 E1]) ?_ rfl ?_
    · simp [results, Tryz.results13, go_sem, x0, x1]
    · exact ⟨none, 0, 0, by rw [unhide HR, if_pos h1]; rfl, by rw [unhide HR, if_pos h1]; exact LO.nil _ _, unhide HFV⟩

end Go.Proofs.YtmhljehkodhggaaGreat

