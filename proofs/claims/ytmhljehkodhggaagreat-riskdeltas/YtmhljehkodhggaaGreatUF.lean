import Derived.Test.YtmhljehkodhggaaGreatUD
/- The document's own: the delta by which a list becomes one of these tokens. -/
namespace Go.Proofs.YtmhljehkodhggaaGreat
open Go.RowKit

/-- The document's delta, or what is wrong. -/
def refDiffR (l : Rl) (ts : List ByteArray) : Dl × Int :=
  if rightE l ≠ 0 then (dl0, rightE l) else if l.ver = 9223372036854775807 then (dl0, 130) else if ts.all isTok = false then (dl0, 131) else if 1000 < (riseL ts).length then (dl0, 2) else (⟨l.ver + 1, outL (riseL ts) l.toks, outL l.toks (riseL ts)⟩, 0)
theorem refDiff_eq (l : Rl) (ts : List ByteArray) : refDiffR l ts = diffR l ts := by
  unfold refDiffR diffR
  by_cases h1 : rightE l ≠ 0
  · rw [if_pos h1, if_pos h1]
  · rw [if_neg h1, if_neg h1]
    have r0 := listOk_ris (rightE_ok (Classical.not_not.1 h1)).1
    rw [outL_eq (riseL_ris ts) r0, outL_eq r0 (riseL_ris ts)]
theorem rise_long {ts : List ByteArray} {i : Nat} (h : 1000 < (putsL [] (ts.take i)).length) : 1000 < (riseL ts).length := by
  have e : riseL ts = putsL (putsL [] (ts.take i)) (ts.drop i) := by
    unfold riseL putsL
    rw [← List.foldl_append, List.take_append_drop]
  rw [e]
  exact Nat.lt_of_lt_of_le h (putsL_len _ _).1

set_option maxHeartbeats 8000000 in
set_option maxRecDepth 20000 in
theorem refDiff_any (w : World) (l : Rl) (a : Option Addr) (c : Nat) (hl : RIn w l a c) (ts : List ByteArray) (at' : Option Addr) (ct : Nat) (ht : SAt w at' ts) (hlt : ts.length * 16 ≤ 140737488355328) :
    Calls Tryz.prog 20 #[.agg (rlC l a c), .slice at' ts.length ct] w (Delta2 w (diffR l ts)) := by
  rw [← refDiff_eq]
  obtain ⟨B, HB⟩ : ∃ B, Hid (w.heap.size = B) := ⟨_, rfl⟩
  obtain ⟨W0, HW0⟩ : ∃ W, Hid (W = (w.alloc (.cells (rlC l a c) 24)).alloc (.cells #[.int .i64 0, .slice none 0 0, .slice none 0 0] 26)) := ⟨_, rfl⟩
  have HS : Hid (∀ w', Fr (fun _ => False) W0 w' → Fr (fun _ => False) w w' ∧ Bx w' B #[.int .i64 l.ver, .slice a l.toks.length c] 24 ∧ Bx w' (B + 1) #[.int .i64 0, .slice none 0 0, .slice none 0 0] 26 ∧ RIn w' l a c ∧ SAt w' at' ts) := hide (fun w' hf => by
    rw [unhide HW0] at hf
    have z1 : Bx ((w.alloc (.cells (rlC l a c) 24)).alloc (.cells #[.int .i64 0, .slice none 0 0, .slice none 0 0] 26)) w.heap.size (rlC l a c) 24 := (Bx.new _ _ _).alloc _
    have z2 := Bx.new (w.alloc (.cells (rlC l a c) 24)) #[.int .i64 0, .slice none 0 0, .slice none 0 0] 26
    rw [heap_alloc] at z2
    rw [unhide HB] at z1 z2
    have h0 : Fr (fun _ => False) w w' := (((Fr.refl _ w).alloc _).alloc _).trans hf (fun _ _ t => t)
    exact ⟨h0, z1.keep hf, z2.keep hf, hl.keep h0, ht.keep h0⟩)
  have HBw : Hid (w.heap.size ≤ B) := hide (by rw [← unhide HB]; exact Nat.le_refl _)
  have HR : Hid (refDiffR l ts = if rightE l ≠ 0 then (dl0, rightE l) else if l.ver = 9223372036854775807 then (dl0, 130) else if ts.all isTok = false then (dl0, 131) else if 1000 < (riseL ts).length then (dl0, 2) else (⟨l.ver + 1, outL (riseL ts) l.toks, outL l.toks (riseL ts)⟩, 0)) := hide rfl
  have HK : Hid (rightE l = 0 → l.toks.length ≤ 1000 ∧ 0 ≤ l.ver) := hide (fun h => ⟨listOk_len (rightE_ok h).1, (rightE_ok h).2.1⟩)
  have HV := hide hl.ver
  have hmlt : ts.length ≤ 8796093022208 := by omega
  have RR : Hid (∀ w', Fr (fun _ => False) W0 w' → Calls Tryz.prog 16 #[.agg #[.int .i64 l.ver, .slice a l.toks.length c]] w' fun e w'' => e = .returned (.int .i64 (rightE l)) ∧ Fr (fun _ => False) w' w'') := hide (fun w' hf => refRight_any w' l a c (unhide HS w' hf).2.2.2.1.toks (unhide HS w' hf).2.2.2.1.len)
  clear hl ht hlt
  unfold rlC at HW0 ⊢
  go_enter Tryz.func20, Tryz.ntmps20
  go_wp2_with fail
  rw [← unhide HW0, unhide HB]
  clear HW0 HB
  refine (unhide RR W0 (Fr.refl _ _)).mono ?_
  clear RR
  rintro e w1 ⟨rfl, hF⟩
  have HF1 := hide hF
  clear hF
  by_cases h1 : rightE l = 0
  · rw [h1]
    obtain ⟨hn, hv0⟩ := unhide HK h1
    have H1 := hide h1
    have x0 : w1.cell? ⟨B, 0, none⟩ = some (.int .i64 l.ver) := (unhide HS _ (unhide HF1)).2.1.cell 0
    clear h1 HK
    by_cases h2 : l.ver = 9223372036854775807
    · have hvb : (l.ver == 9223372036854775807) = true := by rw [h2]; rfl
      have y0 : w1.cell? ⟨B + 1, 0, none⟩ = some (.int .i64 0) := (unhide HS _ (unhide HF1)).2.2.1.cell 0
      have y1 : w1.cell? ⟨B + 1, 1, none⟩ = some (.slice none 0 0) := (unhide HS _ (unhide HF1)).2.2.1.cell 1
      have y2 : w1.cell? ⟨B + 1, 2, none⟩ = some (.slice none 0 0) := (unhide HS _ (unhide HF1)).2.2.1.cell 2
      have z0 := (unhide HS _ (unhide HF1)).2.2.1.frozen 0
      have z1 := (unhide HS _ (unhide HF1)).2.2.1.frozen 1
      have z2 := (unhide HS _ (unhide HF1)).2.2.1.frozen 2
      go_wp2
      have hfin : Bx (((w1.setCell ⟨B + 1, 0, none⟩ (.int .i64 0)).setCell ⟨B + 1, 1, none⟩ (.slice none 0 0)).setCell ⟨B + 1, 2, none⟩ (.slice none 0 0)) (B + 1) #[.int .i64 0, .slice none 0 0, .slice none 0 0] 26 := ((((unhide HS _ (unhide HF1)).2.2.1).setCell 0 _).setCell 1 _).setCell 2 _
      have HFV : Hid (Fr (fun _ => False) w (((w1.setCell ⟨B + 1, 0, none⟩ (.int .i64 0)).setCell ⟨B + 1, 1, none⟩ (.slice none 0 0)).setCell ⟨B + 1, 2, none⟩ (.slice none 0 0))) := hide ((((((unhide HS _ (unhide HF1)).1)).setCell (fun h => absurd h (by show ¬ B + 1 < _; have := unhide HBw; omega)) _).setCell (fun h => absurd h (by show ¬ B + 1 < _; have := unhide HBw; omega)) _).setCell (fun h => absurd h (by show ¬ B + 1 < _; have := unhide HBw; omega)) _)
      have HFB : Hid (Fr (fun k => k = B + 1) w1 (((w1.setCell ⟨B + 1, 0, none⟩ (.int .i64 0)).setCell ⟨B + 1, 1, none⟩ (.slice none 0 0)).setCell ⟨B + 1, 2, none⟩ (.slice none 0 0))) := hide (((((Fr.refl (fun k => k = B + 1) _)).setCell (fun _ => rfl) _).setCell (fun _ => rfl) _).setCell (fun _ => rfl) _)
      generalize ((w1.setCell ⟨B + 1, 0, none⟩ (.int .i64 0)).setCell ⟨B + 1, 1, none⟩ (.slice none 0 0)).setCell ⟨B + 1, 2, none⟩ (.slice none 0 0) = V at *
      have x0 : V.cell? ⟨B + 1, 0, none⟩ = some (.int .i64 0) := hfin.cell 0
      have x1 : V.cell? ⟨B + 1, 1, none⟩ = some (.slice none 0 0) := hfin.cell 1
      have x2 : V.cell? ⟨B + 1, 2, none⟩ = some (.slice none 0 0) := hfin.cell 2
      clear hfin
      refine bodyPost_ret (v := .tuple #[.agg #[.int .i64 0, .slice none 0 0, .slice none 0 0], .int .i64 130]) ?_ rfl ?_
      · simp [results, Tryz.results20, go_sem, x0, x1, x2]
      · exact ⟨none, 0, 0, none, 0, 0, by rw [unhide HR, if_neg (by rw [unhide H1]; simp), if_pos h2]; rfl, by rw [unhide HR, if_neg (by rw [unhide H1]; simp), if_pos h2]; exact DO.zero _ _, unhide HFV⟩
    · have hvb : (l.ver == 9223372036854775807) = false := by rw [beq_eq_false_iff_ne]; exact h2
      have H2 := hide h2
      clear h2
      go_wp2
      clear x0 hvb
      go_loopw [7] (fun iv wr => ∃ (i : Nat), i ≤ ts.length ∧ iv = .int .i64 i ∧ Hid (Fr (fun _ => False) W0 wr ∧ (ts.drop i).all isTok = ts.all isTok)) (fun iv _ => ts.length - (intOf iv).toNat)
      case atStart => exact ⟨0, Nat.zero_le _, rfl, unhide HF1, by simp⟩
      case round =>
        obtain ⟨i, hi, rfl, HI⟩ := hrel
        clear HF1
        have HF2 := hide (unhide HI).1
        by_cases hil : i < ts.length
        · have HTK : Hid ((isTok ts[i] && (ts.drop (i + 1)).all isTok) = ts.all isTok) := hide (by have := (unhide HI).2; rw [List.drop_eq_getElem_cons hil, List.all_cons] at this; exact this)
          obtain ⟨q, off, rfl, c0⟩ := (unhide HS _ (unhide HI).1).2.2.2.2.at hil
          generalize ts[i] = x at *
          cases hx : isTok x with
          | false =>
            have HH : Hid (ts.all isTok = false) := hide (by rw [← unhide HTK, hx]; rfl)
            have hd : ((x.size : Int) == 8) = false := hx
            have hnn : ((x.size : Int) != 8) = true := by rw [bne, hd]; rfl
            clear hx HI HTK
            have y0 : wr.cell? ⟨B + 1, 0, none⟩ = some (.int .i64 0) := (unhide HS _ (unhide HF2)).2.2.1.cell 0
            have y1 : wr.cell? ⟨B + 1, 1, none⟩ = some (.slice none 0 0) := (unhide HS _ (unhide HF2)).2.2.1.cell 1
            have y2 : wr.cell? ⟨B + 1, 2, none⟩ = some (.slice none 0 0) := (unhide HS _ (unhide HF2)).2.2.1.cell 2
            have z0 := (unhide HS _ (unhide HF2)).2.2.1.frozen 0
            have z1 := (unhide HS _ (unhide HF2)).2.2.1.frozen 1
            have z2 := (unhide HS _ (unhide HF2)).2.2.1.frozen 2
            go_wp2
            have hfin : Bx (((wr.setCell ⟨B + 1, 0, none⟩ (.int .i64 0)).setCell ⟨B + 1, 1, none⟩ (.slice none 0 0)).setCell ⟨B + 1, 2, none⟩ (.slice none 0 0)) (B + 1) #[.int .i64 0, .slice none 0 0, .slice none 0 0] 26 := ((((unhide HS _ (unhide HF2)).2.2.1).setCell 0 _).setCell 1 _).setCell 2 _
            have HFV : Hid (Fr (fun _ => False) w (((wr.setCell ⟨B + 1, 0, none⟩ (.int .i64 0)).setCell ⟨B + 1, 1, none⟩ (.slice none 0 0)).setCell ⟨B + 1, 2, none⟩ (.slice none 0 0))) := hide ((((((unhide HS _ (unhide HF2)).1)).setCell (fun h => absurd h (by show ¬ B + 1 < _; have := unhide HBw; omega)) _).setCell (fun h => absurd h (by show ¬ B + 1 < _; have := unhide HBw; omega)) _).setCell (fun h => absurd h (by show ¬ B + 1 < _; have := unhide HBw; omega)) _)
            have HFB : Hid (Fr (fun k => k = B + 1) wr (((wr.setCell ⟨B + 1, 0, none⟩ (.int .i64 0)).setCell ⟨B + 1, 1, none⟩ (.slice none 0 0)).setCell ⟨B + 1, 2, none⟩ (.slice none 0 0))) := hide (((((Fr.refl (fun k => k = B + 1) _)).setCell (fun _ => rfl) _).setCell (fun _ => rfl) _).setCell (fun _ => rfl) _)
            generalize ((wr.setCell ⟨B + 1, 0, none⟩ (.int .i64 0)).setCell ⟨B + 1, 1, none⟩ (.slice none 0 0)).setCell ⟨B + 1, 2, none⟩ (.slice none 0 0) = V at *
            have x0 : V.cell? ⟨B + 1, 0, none⟩ = some (.int .i64 0) := hfin.cell 0
            have x1 : V.cell? ⟨B + 1, 1, none⟩ = some (.slice none 0 0) := hfin.cell 1
            have x2 : V.cell? ⟨B + 1, 2, none⟩ = some (.slice none 0 0) := hfin.cell 2
            clear hfin
            refine bodyPost_ret (v := .tuple #[.agg #[.int .i64 0, .slice none 0 0, .slice none 0 0], .int .i64 131]) ?_ rfl ?_
            · simp [results, Tryz.results20, go_sem, x0, x1, x2]
            · exact ⟨none, 0, 0, none, 0, 0, by rw [unhide HR, if_neg (by rw [unhide H1]; simp), if_neg (unhide H2), if_pos (unhide HH)]; rfl, by rw [unhide HR, if_neg (by rw [unhide H1]; simp), if_neg (unhide H2), if_pos (unhide HH)]; exact DO.zero _ _, unhide HFV⟩
          | true =>
            have HH : Hid ((ts.drop (i + 1)).all isTok = ts.all isTok) := hide (by rw [← unhide HTK, hx, Bool.true_and])
            have hd : ((x.size : Int) == 8) = true := hx
            have hnn : ((x.size : Int) != 8) = false := by rw [bne, hd]; rfl
            clear hx HTK
            go_wp2
            exact ⟨⟨i + 1, by omega, by go_num, unhide HF2, unhide HH⟩, by simp [intOf]; omega⟩
        · obtain rfl : i = ts.length := by omega
          have H3 : Hid (ts.all isTok = true) := hide (by rw [← (unhide HI).2, List.drop_length]; rfl)
          obtain ⟨wa, hwa⟩ : ∃ wa, wa = wr := ⟨_, rfl⟩
          rw [← hwa] at HF2 ⊢
          clear hwa HI
          go_wp2
          go_loopw [8, 9] (fun ov iv wr => ∃ (i m : Nat) (ao : Option Addr) (cap : Nat), i ≤ ts.length ∧ iv = .int .i64 i ∧ ov = .slice ao m cap ∧ Hid (∃ g, Fr (fun _ => False) W0 wr ∧ LO W0 wr ao cap g (putsL [] (ts.take i)) ∧ m = (putsL [] (ts.take i)).length ∧ m ≤ 1000)) (fun _ iv _ => ts.length - (intOf iv).toNat)
          case atStart => exact ⟨0, 0, none, 0, Nat.zero_le _, rfl, rfl, 0, unhide HF2, LO.nil _ _, rfl, by omega⟩
          case round =>
            obtain ⟨i, m, ao, cap, hi, rfl, rfl, HI⟩ := hrel
            clear HF2
            obtain ⟨wc, hwc⟩ : ∃ wc, wc = wr := ⟨_, rfl⟩
            rw [← hwc] at HI ⊢
            clear hwc
            have HFc : Hid (Fr (fun _ => False) W0 wc) := hide (by obtain ⟨g, h1, _⟩ := unhide HI; exact h1)
            by_cases hil : i < ts.length
            · obtain ⟨q, off, rfl, c0⟩ := (unhide HS _ (unhide HFc)).2.2.2.2.at hil
              have HST : Hid (putsL [] (ts.take (i + 1)) = putL (putsL [] (ts.take i)) ts[i]) := hide (by rw [List.take_succ_eq_append_getElem hil, putsL_snoc])
              obtain ⟨g, p1, p2, p3, p4⟩ := unhide HI
              have RP := put_any W0 wc ao cap g _ ts[i] p2 p1.size (by omega)
              rw [← p3, ← unhide HST] at RP
              have RP := hide RP
              have HLG := hide (rise_long (ts := ts) (i := i + 1))
              clear HI p1 p2 p3 p4 HST
              generalize ts[i] = x at *
              go_wp2_with fail
              refine (unhide RP).mono ?_
              clear RP c0
              rintro e w6 ⟨ao2, cap2, g2, rfl, hL, hF⟩
              have HN : Hid (Fr (fun _ => False) W0 w6 ∧ LO W0 w6 ao2 cap2 g2 (putsL [] (ts.take (i + 1)))) := hide ⟨(unhide HFc).trans hF (fun _ _ t => t), hL⟩
              have HF6 := hide (unhide HN).1
              clear hL hF HFc
              generalize hq : (putsL [] (ts.take (i + 1))).length = m2 at *
              have HQ := hide hq
              clear hq
              by_cases h8 : 1000 < m2
              · have HH : Hid (1000 < (riseL ts).length) := hide (unhide HLG h8)
                clear HN
                have y0 : w6.cell? ⟨B + 1, 0, none⟩ = some (.int .i64 0) := (unhide HS _ (unhide HF6)).2.2.1.cell 0
                have y1 : w6.cell? ⟨B + 1, 1, none⟩ = some (.slice none 0 0) := (unhide HS _ (unhide HF6)).2.2.1.cell 1
                have y2 : w6.cell? ⟨B + 1, 2, none⟩ = some (.slice none 0 0) := (unhide HS _ (unhide HF6)).2.2.1.cell 2
                have z0 := (unhide HS _ (unhide HF6)).2.2.1.frozen 0
                have z1 := (unhide HS _ (unhide HF6)).2.2.1.frozen 1
                have z2 := (unhide HS _ (unhide HF6)).2.2.1.frozen 2
                go_wp2
                have hfin : Bx (((w6.setCell ⟨B + 1, 0, none⟩ (.int .i64 0)).setCell ⟨B + 1, 1, none⟩ (.slice none 0 0)).setCell ⟨B + 1, 2, none⟩ (.slice none 0 0)) (B + 1) #[.int .i64 0, .slice none 0 0, .slice none 0 0] 26 := ((((unhide HS _ (unhide HF6)).2.2.1).setCell 0 _).setCell 1 _).setCell 2 _
                have HFV : Hid (Fr (fun _ => False) w (((w6.setCell ⟨B + 1, 0, none⟩ (.int .i64 0)).setCell ⟨B + 1, 1, none⟩ (.slice none 0 0)).setCell ⟨B + 1, 2, none⟩ (.slice none 0 0))) := hide ((((((unhide HS _ (unhide HF6)).1)).setCell (fun h => absurd h (by show ¬ B + 1 < _; have := unhide HBw; omega)) _).setCell (fun h => absurd h (by show ¬ B + 1 < _; have := unhide HBw; omega)) _).setCell (fun h => absurd h (by show ¬ B + 1 < _; have := unhide HBw; omega)) _)
                have HFB : Hid (Fr (fun k => k = B + 1) w6 (((w6.setCell ⟨B + 1, 0, none⟩ (.int .i64 0)).setCell ⟨B + 1, 1, none⟩ (.slice none 0 0)).setCell ⟨B + 1, 2, none⟩ (.slice none 0 0))) := hide (((((Fr.refl (fun k => k = B + 1) _)).setCell (fun _ => rfl) _).setCell (fun _ => rfl) _).setCell (fun _ => rfl) _)
                generalize ((w6.setCell ⟨B + 1, 0, none⟩ (.int .i64 0)).setCell ⟨B + 1, 1, none⟩ (.slice none 0 0)).setCell ⟨B + 1, 2, none⟩ (.slice none 0 0) = V at *
                have x0 : V.cell? ⟨B + 1, 0, none⟩ = some (.int .i64 0) := hfin.cell 0
                have x1 : V.cell? ⟨B + 1, 1, none⟩ = some (.slice none 0 0) := hfin.cell 1
                have x2 : V.cell? ⟨B + 1, 2, none⟩ = some (.slice none 0 0) := hfin.cell 2
                clear hfin
                refine bodyPost_ret (v := .tuple #[.agg #[.int .i64 0, .slice none 0 0, .slice none 0 0], .int .i64 2]) ?_ rfl ?_
                · simp [results, Tryz.results20, go_sem, x0, x1, x2]
                · exact ⟨none, 0, 0, none, 0, 0, by rw [unhide HR, if_neg (by rw [unhide H1]; simp), if_neg (unhide H2), if_neg (by rw [unhide H3]; simp), if_pos (unhide HH)]; rfl, by rw [unhide HR, if_neg (by rw [unhide H1]; simp), if_neg (unhide H2), if_neg (by rw [unhide H3]; simp), if_pos (unhide HH)]; exact DO.zero _ _, unhide HFV⟩
              · go_wp2
                exact ⟨⟨i + 1, m2, ao2, cap2, by omega, by go_num, rfl, ⟨g2, (unhide HN).1, (unhide HN).2, (unhide HQ).symm, by omega⟩⟩, by simp [intOf]; omega⟩
            · obtain rfl : i = ts.length := by omega
              have H7 : Hid (∃ g, LO W0 wc ao cap g (riseL ts) ∧ m = (riseL ts).length ∧ m ≤ 1000) := hide (by obtain ⟨g, _, p2, p3, p4⟩ := unhide HI; rw [List.take_length] at p2 p3; exact ⟨g, p2, p3, p4⟩)
              clear HI
              obtain ⟨g, hLr, hm, hm1⟩ := unhide H7
              have HRV : Hid (refDiffR l ts = (⟨l.ver + 1, outL (riseL ts) l.toks, outL l.toks (riseL ts)⟩, 0)) := hide (by rw [unhide HR, if_neg (by rw [unhide H1]; simp), if_neg (unhide H2), if_neg (by rw [unhide H3]; simp), if_neg (by omega)])
              have hRA : Hid (∀ w', Fr (fun _ => False) wc w' → Calls Tryz.prog 33 #[.slice ao m cap, .slice a l.toks.length c] w' fun e w'' => ∃ ao cap g, e = .returned (.slice ao (outL (riseL ts) l.toks).length cap) ∧ LO w' w'' ao cap g (outL (riseL ts) l.toks) ∧ Fr (fun _ => False) w' w'') := hide (fun w' hf => by rw [hm]; exact without13_any w' (riseL ts) l.toks ao cap a c (hLr.sat.keep hf) ((unhide HS _ (unhide HFc)).2.2.2.1.toks.keep hf) (by omega) (by omega))
              have hRB : Hid (∀ w', Fr (fun _ => False) wc w' → Calls Tryz.prog 33 #[.slice a l.toks.length c, .slice ao m cap] w' fun e w'' => ∃ ao cap g, e = .returned (.slice ao (outL l.toks (riseL ts)).length cap) ∧ LO w' w'' ao cap g (outL l.toks (riseL ts)) ∧ Fr (fun _ => False) w' w'') := hide (fun w' hf => by rw [hm]; exact without13_any w' l.toks (riseL ts) a c ao cap ((unhide HS _ (unhide HFc)).2.2.2.1.toks.keep hf) (hLr.sat.keep hf) (by omega) (by omega))
              have HSS : Hid (∀ w', Fr (fun k => k = B + 1) wc w' → w'.cell? ⟨B, 0, none⟩ = some (.int .i64 l.ver) ∧ w'.cell? ⟨B, 1, none⟩ = some (.slice a l.toks.length c)) := hide (fun w' hf => ⟨((unhide HS _ (unhide HFc)).2.1.frame hf (by omega)).cell 0, ((unhide HS _ (unhide HFc)).2.1.frame hf (by omega)).cell 1⟩)
              have HYY : Hid (∀ w', Fr (fun _ => False) wc w' → (w'.cell? ⟨B + 1, 0, none⟩ = some (.int .i64 0) ∧ w'.cell? ⟨B + 1, 1, none⟩ = some (.slice none 0 0) ∧ w'.cell? ⟨B + 1, 2, none⟩ = some (.slice none 0 0)) ∧ ∀ k, w'.frozen? ⟨B + 1, k, none⟩ = false) := hide (fun w' hf => ⟨⟨((unhide HS _ (unhide HFc)).2.2.1.keep hf).cell 0, ((unhide HS _ (unhide HFc)).2.2.1.keep hf).cell 1, ((unhide HS _ (unhide HFc)).2.2.1.keep hf).cell 2⟩, fun k => ((unhide HS _ (unhide HFc)).2.2.1.keep hf).frozen k⟩)
              have hwr : IntKind.i64.wrap (l.ver + 1) = l.ver + 1 := by rw [IntKind.wrap_i64]; have := unhide HV; have := unhide H2; omega
              clear H7 hLr hm HR
              generalize outL (riseL ts) l.toks = L1 at *
              generalize outL l.toks (riseL ts) = L2 at *
              have HC2 : Hid (Fr (fun _ => False) w wc ∧ Bx wc (B + 1) #[.int .i64 0, .slice none 0 0, .slice none 0 0] 26) := hide ⟨(unhide HS _ (unhide HFc)).1, (unhide HS _ (unhide HFc)).2.2.1⟩
              clear HS HFc H3 H2 H1 HV hv0 hn hm1 hil hi hmlt
              generalize l.toks.length = n at *
              generalize l.ver = v at *
              go_upto_region 18 with (fail)
              go_region_held3 (fun w' => w'.cell? ⟨B, 0, none⟩ = some (.int .i64 v) ∧ w'.cell? ⟨B, 1, none⟩ = some (.slice a n c)) (first | exact unhide HSS _ (Fr.refl _ _) | exact unhide HSS _ ((Fr.refl _ _).drew) | exact unhide HSS _ ((unhide hFa).mono (fun _ _ t => t.elim)) | exact unhide HSS _ ((unhide hFb).mono (fun _ _ t => t.elim)) | exact unhide HSS _ ((((Fr.mono (T := fun k => k = B + 1) (unhide hFa) (fun _ _ t => t.elim)).setCell (fun _ => rfl) _).setCell (fun _ => rfl) _).setCell (fun _ => rfl) _) | exact unhide HSS _ ((((Fr.mono (T := fun k => k = B + 1) (unhide hFb) (fun _ _ t => t.elim)).setCell (fun _ => rfl) _).setCell (fun _ => rfl) _).setCell (fun _ => rfl) _)) (first | (go_at_call_of 33 (Value.slice a n c); refine (unhide hRB _ (unhide hFa)).mono ?_; rintro e wb ⟨aob, capb, gb, rfl, hLb', hEb'⟩; have hLb := hide hLb'; have hEb := hide hEb'; have hFb := hide ((unhide hFa).trans hEb' (fun _ _ t => t)); clear hLb' hEb'; have y0 := (unhide HYY wb (unhide hFb)).1.1; have y1 := (unhide HYY wb (unhide hFb)).1.2.1; have y2 := (unhide HYY wb (unhide hFb)).1.2.2; have z0 := (unhide HYY wb (unhide hFb)).2 0; have z1 := (unhide HYY wb (unhide hFb)).2 1; have z2 := (unhide HYY wb (unhide hFb)).2 2) | (go_at_call_of 33 (Value.slice ao m cap); refine (unhide hRA _ ((Fr.refl _ _).drew)).mono ?_; rintro e wa ⟨aoa, capa, ga, rfl, hLa', hEa'⟩; have hLa := hide hLa'; have hEa := hide hEa'; have hFa := hide (((Fr.refl _ _).drew).trans hEa' (fun _ _ t => t)); clear hLa' hEa'; have y0 := (unhide HYY wa (unhide hFa)).1.1; have y1 := (unhide HYY wa (unhide hFa)).1.2.1; have y2 := (unhide HYY wa (unhide hFa)).1.2.2; have z0 := (unhide HYY wa (unhide hFa)).2 0; have z1 := (unhide HYY wa (unhide hFa)).2 1; have z2 := (unhide HYY wa (unhide hFa)).2 2))
              have HDO := hide (two_rows (d := ⟨v + 1, L1, L2⟩) (unhide HC2).1 (unhide hFa).size (v := wc.drew) (Nat.le_refl _) (unhide hLa) (unhide hLb) (unhide hEb))
              have HXB : Hid (Bx wb (B + 1) #[.int .i64 0, .slice none 0 0, .slice none 0 0] 26 ∧ Fr (fun _ => False) w wb ∧ B + 1 < wc.heap.size) := hide ⟨(unhide HC2).2.keep (unhide hFb), (unhide HC2).1.trans (unhide hFb) (fun _ _ t => t), (unhide HC2).2.lt⟩
              clear hLa hLb hEa hEb hFa hFb HSS HYY hRA hRB
              go_wp2
              have hfin : Bx (((wb.setCell ⟨B + 1, 0, none⟩ (.int .i64 (v + 1))).setCell ⟨B + 1, 1, none⟩ (.slice aoa L1.length capa)).setCell ⟨B + 1, 2, none⟩ (.slice aob L2.length capb)) (B + 1) #[.int .i64 (v + 1), .slice aoa L1.length capa, .slice aob L2.length capb] 26 := ((((unhide HXB).1).setCell 0 _).setCell 1 _).setCell 2 _
              have HFV : Hid (Fr (fun _ => False) w (((wb.setCell ⟨B + 1, 0, none⟩ (.int .i64 (v + 1))).setCell ⟨B + 1, 1, none⟩ (.slice aoa L1.length capa)).setCell ⟨B + 1, 2, none⟩ (.slice aob L2.length capb))) := hide ((((((unhide HXB).2.1)).setCell (fun h => absurd h (by show ¬ B + 1 < _; have := unhide HBw; omega)) _).setCell (fun h => absurd h (by show ¬ B + 1 < _; have := unhide HBw; omega)) _).setCell (fun h => absurd h (by show ¬ B + 1 < _; have := unhide HBw; omega)) _)
              have HFB : Hid (Fr (fun k => k = B + 1) wb (((wb.setCell ⟨B + 1, 0, none⟩ (.int .i64 (v + 1))).setCell ⟨B + 1, 1, none⟩ (.slice aoa L1.length capa)).setCell ⟨B + 1, 2, none⟩ (.slice aob L2.length capb))) := hide (((((Fr.refl (fun k => k = B + 1) _)).setCell (fun _ => rfl) _).setCell (fun _ => rfl) _).setCell (fun _ => rfl) _)
              generalize ((wb.setCell ⟨B + 1, 0, none⟩ (.int .i64 (v + 1))).setCell ⟨B + 1, 1, none⟩ (.slice aoa L1.length capa)).setCell ⟨B + 1, 2, none⟩ (.slice aob L2.length capb) = V at *
              have x0 : V.cell? ⟨B + 1, 0, none⟩ = some (.int .i64 (v + 1)) := hfin.cell 0
              have x1 : V.cell? ⟨B + 1, 1, none⟩ = some (.slice aoa L1.length capa) := hfin.cell 1
              have x2 : V.cell? ⟨B + 1, 2, none⟩ = some (.slice aob L2.length capb) := hfin.cell 2
              clear hfin
              refine bodyPost_ret (v := .tuple #[.agg #[.int .i64 (v + 1), .slice aoa L1.length capa, .slice aob L2.length capb], .int .i64 0]) ?_ rfl ?_
              · simp [results, Tryz.results20, go_sem, x0, x1, x2]
              · exact ⟨aoa, capa, ga, aob, capb, gb, by rw [unhide HRV]; rfl, by rw [unhide HRV]; exact (unhide HDO).1.go (unhide HFB) (fun hc t => by have := (unhide HDO).2.1 hc; have := (unhide HXB).2.2; omega) (fun hc t => by have := (unhide HDO).2.2 hc; have := (unhide HXB).2.2; omega), unhide HFV⟩
  · have hx : (rightE l == 0) = false := by rw [beq_eq_false_iff_ne]; exact h1
    generalize hE : rightE l = E1 at *
    have HE1 := hide hE
    clear hE HK
    have y0 : w1.cell? ⟨B + 1, 0, none⟩ = some (.int .i64 0) := (unhide HS _ (unhide HF1)).2.2.1.cell 0
    have y1 : w1.cell? ⟨B + 1, 1, none⟩ = some (.slice none 0 0) := (unhide HS _ (unhide HF1)).2.2.1.cell 1
    have y2 : w1.cell? ⟨B + 1, 2, none⟩ = some (.slice none 0 0) := (unhide HS _ (unhide HF1)).2.2.1.cell 2
    have z0 := (unhide HS _ (unhide HF1)).2.2.1.frozen 0
    have z1 := (unhide HS _ (unhide HF1)).2.2.1.frozen 1
    have z2 := (unhide HS _ (unhide HF1)).2.2.1.frozen 2
    go_wp2
    have hfin : Bx (((w1.setCell ⟨B + 1, 0, none⟩ (.int .i64 0)).setCell ⟨B + 1, 1, none⟩ (.slice none 0 0)).setCell ⟨B + 1, 2, none⟩ (.slice none 0 0)) (B + 1) #[.int .i64 0, .slice none 0 0, .slice none 0 0] 26 := ((((unhide HS _ (unhide HF1)).2.2.1).setCell 0 _).setCell 1 _).setCell 2 _
    have HFV : Hid (Fr (fun _ => False) w (((w1.setCell ⟨B + 1, 0, none⟩ (.int .i64 0)).setCell ⟨B + 1, 1, none⟩ (.slice none 0 0)).setCell ⟨B + 1, 2, none⟩ (.slice none 0 0))) := hide ((((((unhide HS _ (unhide HF1)).1)).setCell (fun h => absurd h (by show ¬ B + 1 < _; have := unhide HBw; omega)) _).setCell (fun h => absurd h (by show ¬ B + 1 < _; have := unhide HBw; omega)) _).setCell (fun h => absurd h (by show ¬ B + 1 < _; have := unhide HBw; omega)) _)
    have HFB : Hid (Fr (fun k => k = B + 1) w1 (((w1.setCell ⟨B + 1, 0, none⟩ (.int .i64 0)).setCell ⟨B + 1, 1, none⟩ (.slice none 0 0)).setCell ⟨B + 1, 2, none⟩ (.slice none 0 0))) := hide (((((Fr.refl (fun k => k = B + 1) _)).setCell (fun _ => rfl) _).setCell (fun _ => rfl) _).setCell (fun _ => rfl) _)
    generalize ((w1.setCell ⟨B + 1, 0, none⟩ (.int .i64 0)).setCell ⟨B + 1, 1, none⟩ (.slice none 0 0)).setCell ⟨B + 1, 2, none⟩ (.slice none 0 0) = V at *
    have x0 : V.cell? ⟨B + 1, 0, none⟩ = some (.int .i64 0) := hfin.cell 0
    have x1 : V.cell? ⟨B + 1, 1, none⟩ = some (.slice none 0 0) := hfin.cell 1
    have x2 : V.cell? ⟨B + 1, 2, none⟩ = some (.slice none 0 0) := hfin.cell 2
    clear hfin
    refine bodyPost_ret (v := .tuple #[.agg #[.int .i64 0, .slice none 0 0, .slice none 0 0], .int .i64 E1]) ?_ rfl ?_
    · simp [results, Tryz.results20, go_sem, x0, x1, x2]
    · exact ⟨none, 0, 0, none, 0, 0, by rw [unhide HR, if_pos h1]; rfl, by rw [unhide HR, if_pos h1]; exact DO.zero _ _, unhide HFV⟩

end Go.Proofs.YtmhljehkodhggaaGreat

