import Derived.Test.YtndiohojgpdkgaaDoorZGB
import Derived.Test.YtndiohojgpdkgaaDoorZB2
/- The walk of LinkBack. -/
namespace Go.Proofs.YtndiohojgpdkgaaDoor
open Go.RowKit

theorem parse_made {s raw : List UInt8} (h : (parseF s raw).2 = 0) : makeF s (parseF s raw).1 = (raw, 0) := by
  unfold parseF at *
  split at h
  · simp at h
  · rename_i h1
    split at h
    · simp at h
    · rename_i h2
      split at h
      · rename_i h3
        rw [if_neg h1, if_neg h2, if_pos h3]
        obtain ⟨m, r⟩ := read_form h3
        have hh : ¬ (raw.length < 16) ∧ (hmac s (raw.take (raw.length - 16))).take 16 = raw.drop (raw.length - 16) := ⟨fun t => h2 (.inl t), Decidable.of_not_not (fun t => h2 (.inr t))⟩
        unfold makeF
        simp only
        rw [m, if_pos rfl, if_pos (by omega), r]
        unfold sealed
        rw [hh.2, List.take_append_drop]
      · simp at h
theorem made_parse {s : List UInt8} {f : Fm} (h : f.may = true) (hs : s.length ≤ 200) : makeF s f = (sealed s f.raw, 0) ∧ parseF s (sealed s f.raw) = (f, 0) := by
  obtain ⟨r1, r2⟩ := read_back h
  refine ⟨by unfold makeF; rw [h, if_pos rfl, if_pos hs], ?_⟩
  rw [parse_sealed s f.raw hs r2, r1]
theorem made_none {s : List UInt8} {f : Fm} (h : ¬ (f.may = true ∧ s.length ≤ 200)) : ∃ g : Int, makeF s f = ([], g) ∧ g ≠ 0 := by
  unfold makeF
  by_cases hm : f.may = true
  · rw [if_pos hm, if_neg (fun t => h ⟨hm, t⟩)]; exact ⟨2, rfl, by decide⟩
  · rw [if_neg hm]; exact ⟨1, rfl, by decide⟩

set_option maxHeartbeats 4000000 in
set_option maxRecDepth 20000 in
theorem back_walk (w : World) (hT : TabP w) (s : List UInt8) (f : Fm) (io : Option Addr) (ic : Nat) (bo : Option Addr) (bc : Nat) (hA : f.At w io bo bc) (ro : Option Addr) (rc : Nat) (raw : List UInt8) (hB : BAt w ro rc raw) (hcap : raw.length ≤ rc) :
    Calls Tryd.prog 5 #[.string ⟨s.toArray⟩, .agg (f.cells io ic bo bc), .slice ro raw.length rc] w fun e w' => e = .returned (.bool true) ∧ Fr (fun _ => False) w w' := by
  obtain ⟨kd, ba, sq, its, bts⟩ := f
  simp only [Fm.cells]
  have HT := hide hT
  have HA := hide hA
  have HB := hide hB
  have HC := hide hcap
  have HF0 : Hid (Fr (fun _ => False) w (w.alloc (.cells #[.int .i64 kd, .int .i64 ba, .int .i64 sq, .slice io its.length ic, .slice bo bts.length bc] 36))) := hide ((Fr.refl _ _).alloc _)
  have HX0 := hide (Bx.new w #[.int .i64 kd, .int .i64 ba, .int .i64 sq, .slice io its.length ic, .slice bo bts.length bc] 36)
  clear hT hA hB hcap
  go_enter Tryd.func5, Tryd.ntmps5
  go_wp2_with fail
  refine (awakeL_any _ ((unhide HT).later (unhide HF0))).mono ?_
  rintro e w1 ⟨rfl, h1⟩
  have HF1 := hide ((unhide HF0).trans (unhide h1) (fun _ _ t => t))
  have HX1 := hide ((unhide HX0).keep (unhide h1))
  clear h1 HF0 HX0
  generalize w.heap.size = Z at *
  go_wp2_with fail
  refine (parse_any w1 ((unhide HT).later (unhide HF1)) s ro rc raw ((unhide HB).later (unhide HF1)) (unhide HC)).mono ?_
  have HPM := hide (parse_made (s := s) (raw := raw))
  obtain ⟨x, hx⟩ : ∃ x, (parseF s raw).1 = x := ⟨_, rfl⟩
  obtain ⟨E, hE⟩ : ∃ E, (parseF s raw).2 = E := ⟨_, rfl⟩
  rw [hx, hE] at HPM ⊢
  clear hx hE
  obtain ⟨kx, bx, qx, ix, yx⟩ := x
  rintro e w2 ⟨io2, ic2, bo2, bc2, rfl, h2⟩
  simp only [Fm.cells]
  have HA2 : Hid ((Fm.mk kx bx qx ix yx).At w2 io2 bo2 bc2) := by
    obtain ⟨ib, ds, hil⟩ := (unhide h2).il
    obtain ⟨gb, hb1, hb2⟩ := (unhide h2).bs
    have n1 := (unhide h2).n1
    have n2 := (unhide h2).n2
    exact hide ⟨hil.rows (by omega), (hb1.bat (by omega)).2⟩
  have HF2 := hide ((unhide HF1).trans (unhide h2).fr (fun _ _ t => t))
  have HX2 := hide ((unhide HX1).keep (unhide h2).fr)
  have HFB : Hid (Fr (fun _ => False) w2 (w2.alloc (.cells #[.int .i64 kx, .int .i64 bx, .int .i64 qx, .slice io2 ix.length ic2, .slice bo2 yx.length bc2] 36))) := hide ((Fr.refl _ _).alloc _)
  clear h2 HF1 HX1
  by_cases hE0 : E = 0
  · subst hE0
    have HMK := hide (unhide HPM rfl)
    clear HPM
    go_wp2_with fail
    refine (make_any _ ((unhide HT).later ((unhide HF2).trans (unhide HFB) (fun _ _ t => t))) s ⟨kx, bx, qx, ix, yx⟩ io2 ic2 bo2 bc2 ((unhide HA2).later (unhide HFB))).mono ?_
    rw [unhide HMK]
    rintro e w3 ⟨ao3, cap3, rfl, h3⟩
    obtain ⟨⟨g3, r1, r2⟩, r3⟩ := unhide h3
    have HF5 := hide (((unhide HF2).trans (unhide HFB) (fun _ _ t => t)).trans r3 (fun _ _ t => t))
    have HX5 := hide ((unhide HX2).keep ((unhide HFB).trans r3 (fun _ _ t => t)))
    have hcv1 := conv_batL (r1.bat (unhide HB).2.2).2
    have hcv2 := conv_batL ((unhide HB).later (unhide HF5))
    dsimp only at hcv1 hcv2 ⊢
    clear h3 r1 r2 r3 HA2 HFB HF2 HX2 HMK
    have c0 : w3.cell? ⟨Z, 0, none⟩ = some (.int .i64 kd) := (unhide HX5).cell 0
    have c1 : w3.cell? ⟨Z, 1, none⟩ = some (.int .i64 ba) := (unhide HX5).cell 1
    have c2 : w3.cell? ⟨Z, 2, none⟩ = some (.int .i64 sq) := (unhide HX5).cell 2
    have c3 : w3.cell? ⟨Z, 3, none⟩ = some (.slice io its.length ic) := (unhide HX5).cell 3
    have c4 : w3.cell? ⟨Z, 4, none⟩ = some (.slice bo bts.length bc) := (unhide HX5).cell 4
    go_wp2_with fail
    clear hcv1 hcv2
    refine (make_any _ ((unhide HT).later (unhide HF5)) s ⟨kd, ba, sq, its, bts⟩ io ic bo bc ((unhide HA).later (unhide HF5))).mono ?_
    by_cases hm : (Fm.mk kd ba sq its bts).may = true ∧ s.length ≤ 200
    · obtain ⟨e1, e2⟩ := made_parse hm.1 hm.2
      rw [e1]
      have HPO := hide (And.intro e1 e2)
      have hsm := Fm.raw_small hm.1
      have hsl := sealed_length s (Fm.mk kd ba sq its bts).raw
      generalize sealed s (Fm.mk kd ba sq its bts).raw = SL at *
      rintro e w6 ⟨ao6, cap6, rfl, h6⟩
      obtain ⟨⟨g6, r1, r2⟩, r3⟩ := unhide h6
      have HB6 := hide (r1.batn (by show SL.length ≤ _; omega))
      have HF6 := hide ((unhide HF5).trans r3 (fun _ _ t => t))
      have HX6 := hide ((unhide HX5).keep r3)
      have HP := hide (parse_any w6 ((unhide HT).later (unhide HF6)) s ao6 cap6 SL (unhide HB6).1 (unhide HB6).2.2)
      rw [e2] at HP
      dsimp only
      clear h6 r1 r2 r3 e1 e2 hm hsm hsl HPO HX5 HF5 c0 c1 c2 c3 c4
      go_wp2_with fail
      refine (unhide HP).mono ?_
      rintro e w7 ⟨io7, ic7, bo7, bc7, rfl, h7⟩
      dsimp only [Fm.cells]
      have HA7 : Hid ((Fm.mk kd ba sq its bts).At w7 io7 bo7 bc7) := by
        obtain ⟨ib, ds, hil⟩ := (unhide h7).il
        obtain ⟨gb, hb1, hb2⟩ := (unhide h7).bs
        have n1 := (unhide h7).n1
        have n2 := (unhide h7).n2
        exact hide ⟨hil.rows (by omega), (hb1.bat (by omega)).2⟩
      have HFA : Hid (Fr (fun _ => False) w7 (w7.alloc (.cells #[.int .i64 kd, .int .i64 ba, .int .i64 sq, .slice io7 its.length ic7, .slice bo7 bts.length bc7] 36))) := hide ((Fr.refl _ _).alloc _)
      have HF8 := hide (((unhide HF6).trans (unhide h7).fr (fun _ _ t => t)).trans (unhide HFA) (fun _ _ t => t))
      have HX8 := hide (((unhide HX6).keep (unhide h7).fr).keep (unhide HFA))
      have c0 : (w7.alloc (.cells #[.int .i64 kd, .int .i64 ba, .int .i64 sq, .slice io7 its.length ic7, .slice bo7 bts.length bc7] 36)).cell? ⟨Z, 0, none⟩ = some (.int .i64 kd) := (unhide HX8).cell 0
      have c1 : (w7.alloc (.cells #[.int .i64 kd, .int .i64 ba, .int .i64 sq, .slice io7 its.length ic7, .slice bo7 bts.length bc7] 36)).cell? ⟨Z, 1, none⟩ = some (.int .i64 ba) := (unhide HX8).cell 1
      have c2 : (w7.alloc (.cells #[.int .i64 kd, .int .i64 ba, .int .i64 sq, .slice io7 its.length ic7, .slice bo7 bts.length bc7] 36)).cell? ⟨Z, 2, none⟩ = some (.int .i64 sq) := (unhide HX8).cell 2
      have c3 : (w7.alloc (.cells #[.int .i64 kd, .int .i64 ba, .int .i64 sq, .slice io7 its.length ic7, .slice bo7 bts.length bc7] 36)).cell? ⟨Z, 3, none⟩ = some (.slice io its.length ic) := (unhide HX8).cell 3
      have c4 : (w7.alloc (.cells #[.int .i64 kd, .int .i64 ba, .int .i64 sq, .slice io7 its.length ic7, .slice bo7 bts.length bc7] 36)).cell? ⟨Z, 4, none⟩ = some (.slice bo bts.length bc) := (unhide HX8).cell 4
      clear h7 HP HX6 HB6
      go_wp2_with fail
      refine (same_eq _ ⟨kd, ba, sq, its, bts⟩ io7 ic7 bo7 bc7 io ic bo bc ((unhide HA7).later (unhide HFA)) ((unhide HA).later (unhide HF8))).mono ?_
      rintro e w9 ⟨rfl, h9⟩
      have HF9 := hide ((unhide HF8).trans (unhide h9) (fun _ _ t => t))
      clear h9 c0 c1 c2 c3 c4
      go_wp2
      go_ret
      exact ⟨rfl, unhide HF9⟩
    · obtain ⟨g, e1, e2⟩ := made_none hm
      rw [e1]
      dsimp only
      have hg1 : (g != 0) = true := by simp [e2]
      clear e1 e2 hm
      rintro e w6 ⟨ao6, cap6, rfl, h6⟩
      have HF6 := hide ((unhide HF5).trans (unhide h6).2 (fun _ _ t => t))
      clear h6 c0 c1 c2 c3 c4
      go_wp2
      go_ret
      exact ⟨rfl, unhide HF6⟩
  · have hEb : (E == 0) = false := by simp [hE0]
    have HF5 := hide ((unhide HF2).trans (unhide HFB) (fun _ _ t => t))
    have HX5 := hide ((unhide HX2).keep (unhide HFB))
    clear hE0 HPM HA2 HFB HF2 HX2
    have c0 : (w2.alloc (.cells #[.int .i64 kx, .int .i64 bx, .int .i64 qx, .slice io2 ix.length ic2, .slice bo2 yx.length bc2] 36)).cell? ⟨Z, 0, none⟩ = some (.int .i64 kd) := (unhide HX5).cell 0
    have c1 : (w2.alloc (.cells #[.int .i64 kx, .int .i64 bx, .int .i64 qx, .slice io2 ix.length ic2, .slice bo2 yx.length bc2] 36)).cell? ⟨Z, 1, none⟩ = some (.int .i64 ba) := (unhide HX5).cell 1
    have c2 : (w2.alloc (.cells #[.int .i64 kx, .int .i64 bx, .int .i64 qx, .slice io2 ix.length ic2, .slice bo2 yx.length bc2] 36)).cell? ⟨Z, 2, none⟩ = some (.int .i64 sq) := (unhide HX5).cell 2
    have c3 : (w2.alloc (.cells #[.int .i64 kx, .int .i64 bx, .int .i64 qx, .slice io2 ix.length ic2, .slice bo2 yx.length bc2] 36)).cell? ⟨Z, 3, none⟩ = some (.slice io its.length ic) := (unhide HX5).cell 3
    have c4 : (w2.alloc (.cells #[.int .i64 kx, .int .i64 bx, .int .i64 qx, .slice io2 ix.length ic2, .slice bo2 yx.length bc2] 36)).cell? ⟨Z, 4, none⟩ = some (.slice bo bts.length bc) := (unhide HX5).cell 4
    go_wp2_with fail
    refine (make_any _ ((unhide HT).later (unhide HF5)) s ⟨kd, ba, sq, its, bts⟩ io ic bo bc ((unhide HA).later (unhide HF5))).mono ?_
    by_cases hm : (Fm.mk kd ba sq its bts).may = true ∧ s.length ≤ 200
    · obtain ⟨e1, e2⟩ := made_parse hm.1 hm.2
      rw [e1]
      have HPO := hide (And.intro e1 e2)
      have hsm := Fm.raw_small hm.1
      have hsl := sealed_length s (Fm.mk kd ba sq its bts).raw
      generalize sealed s (Fm.mk kd ba sq its bts).raw = SL at *
      rintro e w6 ⟨ao6, cap6, rfl, h6⟩
      obtain ⟨⟨g6, r1, r2⟩, r3⟩ := unhide h6
      have HB6 := hide (r1.batn (by show SL.length ≤ _; omega))
      have HF6 := hide ((unhide HF5).trans r3 (fun _ _ t => t))
      have HX6 := hide ((unhide HX5).keep r3)
      have HP := hide (parse_any w6 ((unhide HT).later (unhide HF6)) s ao6 cap6 SL (unhide HB6).1 (unhide HB6).2.2)
      rw [e2] at HP
      dsimp only
      clear h6 r1 r2 r3 e1 e2 hm hsm hsl HPO HX5 HF5 c0 c1 c2 c3 c4
      go_wp2_with fail
      refine (unhide HP).mono ?_
      rintro e w7 ⟨io7, ic7, bo7, bc7, rfl, h7⟩
      dsimp only [Fm.cells]
      have HA7 : Hid ((Fm.mk kd ba sq its bts).At w7 io7 bo7 bc7) := by
        obtain ⟨ib, ds, hil⟩ := (unhide h7).il
        obtain ⟨gb, hb1, hb2⟩ := (unhide h7).bs
        have n1 := (unhide h7).n1
        have n2 := (unhide h7).n2
        exact hide ⟨hil.rows (by omega), (hb1.bat (by omega)).2⟩
      have HFA : Hid (Fr (fun _ => False) w7 (w7.alloc (.cells #[.int .i64 kd, .int .i64 ba, .int .i64 sq, .slice io7 its.length ic7, .slice bo7 bts.length bc7] 36))) := hide ((Fr.refl _ _).alloc _)
      have HF8 := hide (((unhide HF6).trans (unhide h7).fr (fun _ _ t => t)).trans (unhide HFA) (fun _ _ t => t))
      have HX8 := hide (((unhide HX6).keep (unhide h7).fr).keep (unhide HFA))
      have c0 : (w7.alloc (.cells #[.int .i64 kd, .int .i64 ba, .int .i64 sq, .slice io7 its.length ic7, .slice bo7 bts.length bc7] 36)).cell? ⟨Z, 0, none⟩ = some (.int .i64 kd) := (unhide HX8).cell 0
      have c1 : (w7.alloc (.cells #[.int .i64 kd, .int .i64 ba, .int .i64 sq, .slice io7 its.length ic7, .slice bo7 bts.length bc7] 36)).cell? ⟨Z, 1, none⟩ = some (.int .i64 ba) := (unhide HX8).cell 1
      have c2 : (w7.alloc (.cells #[.int .i64 kd, .int .i64 ba, .int .i64 sq, .slice io7 its.length ic7, .slice bo7 bts.length bc7] 36)).cell? ⟨Z, 2, none⟩ = some (.int .i64 sq) := (unhide HX8).cell 2
      have c3 : (w7.alloc (.cells #[.int .i64 kd, .int .i64 ba, .int .i64 sq, .slice io7 its.length ic7, .slice bo7 bts.length bc7] 36)).cell? ⟨Z, 3, none⟩ = some (.slice io its.length ic) := (unhide HX8).cell 3
      have c4 : (w7.alloc (.cells #[.int .i64 kd, .int .i64 ba, .int .i64 sq, .slice io7 its.length ic7, .slice bo7 bts.length bc7] 36)).cell? ⟨Z, 4, none⟩ = some (.slice bo bts.length bc) := (unhide HX8).cell 4
      clear h7 HP HX6 HB6
      go_wp2_with fail
      refine (same_eq _ ⟨kd, ba, sq, its, bts⟩ io7 ic7 bo7 bc7 io ic bo bc ((unhide HA7).later (unhide HFA)) ((unhide HA).later (unhide HF8))).mono ?_
      rintro e w9 ⟨rfl, h9⟩
      have HF9 := hide ((unhide HF8).trans (unhide h9) (fun _ _ t => t))
      clear h9 c0 c1 c2 c3 c4
      go_wp2
      go_ret
      exact ⟨rfl, unhide HF9⟩
    · obtain ⟨g, e1, e2⟩ := made_none hm
      rw [e1]
      dsimp only
      have hg1 : (g != 0) = true := by simp [e2]
      clear e1 e2 hm
      rintro e w6 ⟨ao6, cap6, rfl, h6⟩
      have HF6 := hide ((unhide HF5).trans (unhide h6).2 (fun _ _ t => t))
      clear h6 c0 c1 c2 c3 c4
      go_wp2
      go_ret
      exact ⟨rfl, unhide HF6⟩

end Go.Proofs.YtndiohojgpdkgaaDoor

