import Derived.Test.YtabhfeocelljdaaGreatDoorZF6
import Derived.Test.YtabhfeocelljdaaGreatDoorZSB
/- Contracts: Make, Parse. -/
namespace Go.Proofs.YtabhfeocelljdaaGreatDoor
open Go.RowKit

/-- What Make answers. -/
def makeF (s : List UInt8) (f : Fm) : List UInt8 × Int := if f.may then (if s.length ≤ 200 then (sealed s f.raw, 0) else ([], 2)) else ([], 1)

/-- Bytes of one's own. -/
def NewB (w : World) (bs : List UInt8) (ao : Option Addr) (cap : Nat) (w' : World) : Prop := (∃ g, Row w' (.slice ao bs.length cap) g bs ∧ w.heap.size ≤ g) ∧ Fr (fun _ => False) w w'
theorem NewB.nil {w w' : World} (h : Fr (fun _ => False) w w') : NewB w [] none 0 w' := ⟨⟨w.heap.size, Row.nil _ _, Nat.le_refl _⟩, h⟩

set_option maxHeartbeats 1000000 in
set_option maxRecDepth 20000 in
theorem make_any (w : World) (hT : TabP w) (s : List UInt8) (f : Fm) (io : Option Addr) (ic : Nat) (bo : Option Addr) (bc : Nat) (hA : f.At w io bo bc) :
    Calls Tryz.prog 7 #[.string ⟨s.toArray⟩, .agg (f.cells io ic bo bc)] w fun e w' => ∃ ao cap, e = .returned (.tuple #[.slice ao (makeF s f).1.length cap, .int .i64 (makeF s f).2]) ∧ Hid (NewB w (makeF s f).1 ao cap w') := by
  obtain ⟨kd, ba, sq, its, bts⟩ := f
  have HA := hide (And.intro hT hA)
  clear hT hA
  have hF0 : Fr (fun _ => False) w (w.alloc (.cells #[.int .i64 kd, .int .i64 ba, .int .i64 sq, .slice io its.length ic, .slice bo bts.length bc] 25)) := (Fr.refl _ _).alloc _
  have hbx := Bx.new w #[.int .i64 kd, .int .i64 ba, .int .i64 sq, .slice io its.length ic, .slice bo bts.length bc] 25
  obtain ⟨B, hB⟩ : ∃ B, w.heap.size = B := ⟨_, rfl⟩
  rw [hB] at hbx
  have HF := hide (And.intro hF0 (And.intro hbx hB))
  clear hF0 hbx
  cases hm : (Fm.mk kd ba sq its bts).may with
  | false =>
    rw [show makeF s ⟨kd, ba, sq, its, bts⟩ = ([], 1) by unfold makeF; rw [hm]; rfl]
    have HM := hide hm
    clear hm
    simp only [Fm.cells]
    go_enter Tryz.func7, Tryz.ntmps7
    go_wp2_with fail
    refine (maybe_any _ ⟨kd, ba, sq, its, bts⟩ io ic bo bc ((unhide HA).2.later (unhide HF).1).items).mono ?_
    rw [unhide HM]
    rintro e w1 ⟨rfl, h1⟩
    go_wp2
    go_ret2
    exact ⟨none, 0, rfl, hide (NewB.nil ((unhide HF).1.trans (unhide h1) (fun _ _ t => t)))⟩
  | true =>
    have HM := hide hm
    have hsm := Fm.raw_small hm
    by_cases hs : s.length ≤ 200
    · rw [show makeF s ⟨kd, ba, sq, its, bts⟩ = (sealed s (Fm.mk kd ba sq its bts).raw, 0) by unfold makeF; rw [hm, if_pos rfl, if_pos hs]]
      clear hm
      simp only [Fm.cells]
      obtain ⟨R, hR⟩ : ∃ R, (Fm.mk kd ba sq its bts).raw = R := ⟨_, rfl⟩
      rw [hR] at hsm
      try rw [hR]
      have HR := hide hR
      clear hR
      go_enter Tryz.func7, Tryz.ntmps7
      go_wp2_with fail
      refine (maybe_any _ ⟨kd, ba, sq, its, bts⟩ io ic bo bc ((unhide HA).2.later (unhide HF).1).items).mono ?_
      rw [unhide HM]
      rintro e w1 ⟨rfl, h1⟩
      have hF1 := (unhide HF).1.trans (unhide h1) (fun _ _ t => t)
      have hb1 := (unhide HF).2.1.keep (unhide h1)
      have c0 : w1.cell? ⟨B, 0, none⟩ = some (.int .i64 kd) := hb1.cell 0
      have c1 : w1.cell? ⟨B, 1, none⟩ = some (.int .i64 ba) := hb1.cell 1
      have c2 : w1.cell? ⟨B, 2, none⟩ = some (.int .i64 sq) := hb1.cell 2
      have c3 : w1.cell? ⟨B, 3, none⟩ = some (.slice io its.length ic) := hb1.cell 3
      have c4 : w1.cell? ⟨B, 4, none⟩ = some (.slice bo bts.length bc) := hb1.cell 4
      have HF1 := hide hF1
      clear h1 hb1 hF1
      go_wp2_with fail
      refine (bytesof_any _ ⟨kd, ba, sq, its, bts⟩ io ic bo bc ((unhide HA).2.later (unhide HF1)) (unhide HM)).mono ?_
      rw [unhide HR]
      rintro e w2 ⟨v, g, rfl, h2⟩
      obtain ⟨ao, cap, rfl, hl1, hl2⟩ : ∃ ao cap, v = .slice ao R.length cap ∧ R.length ≤ cap ∧ cap ≤ maxLen := by
        obtain ⟨ao, cap, e, h3, h4, _⟩ := (unhide h2).1.shape
        exact ⟨ao, cap, e, h3, h4⟩
      have HF2 := hide ((unhide HF1).trans (unhide h2).2.1 (fun _ _ t => t))
      have HB2 := hide ((unhide h2).1.bat (by omega)).2
      clear c0 c1 c2 c3 c4
      go_wp2_with fail
      refine (seal_any _ ((unhide HA).1.later (unhide HF2)) s hs ao cap R (unhide HB2) (by omega) (by omega)).mono ?_
      rintro e w3 ⟨ao3, cap3, rfl, h3⟩
      have hsl := sealed_length s R
      have HN : Hid (NewB w (sealed s R) ao3 cap3 w3) := by
        obtain ⟨g3, r1, r2, r3⟩ := h3
        have hz := (unhide HF2).size
        exact hide ⟨⟨g3, by rw [hsl]; exact r1, by omega⟩, (unhide HF2).trans r2 (fun _ _ t => t)⟩
      clear h3
      go_wp2
      go_ret2
      exact ⟨ao3, cap3, by rw [hsl]; rfl, HN⟩
    · rw [show makeF s ⟨kd, ba, sq, its, bts⟩ = ([], 2) by unfold makeF; rw [hm, if_pos rfl, if_neg hs]]
      clear hm
      simp only [Fm.cells]
      obtain ⟨R, hR⟩ : ∃ R, (Fm.mk kd ba sq its bts).raw = R := ⟨_, rfl⟩
      rw [hR] at hsm
      try rw [hR]
      have HR := hide hR
      clear hR
      go_enter Tryz.func7, Tryz.ntmps7
      go_wp2_with fail
      refine (maybe_any _ ⟨kd, ba, sq, its, bts⟩ io ic bo bc ((unhide HA).2.later (unhide HF).1).items).mono ?_
      rw [unhide HM]
      rintro e w1 ⟨rfl, h1⟩
      have hF1 := (unhide HF).1.trans (unhide h1) (fun _ _ t => t)
      have hb1 := (unhide HF).2.1.keep (unhide h1)
      have c0 : w1.cell? ⟨B, 0, none⟩ = some (.int .i64 kd) := hb1.cell 0
      have c1 : w1.cell? ⟨B, 1, none⟩ = some (.int .i64 ba) := hb1.cell 1
      have c2 : w1.cell? ⟨B, 2, none⟩ = some (.int .i64 sq) := hb1.cell 2
      have c3 : w1.cell? ⟨B, 3, none⟩ = some (.slice io its.length ic) := hb1.cell 3
      have c4 : w1.cell? ⟨B, 4, none⟩ = some (.slice bo bts.length bc) := hb1.cell 4
      have HF1 := hide hF1
      clear h1 hb1 hF1
      go_wp2_with fail
      refine (bytesof_any _ ⟨kd, ba, sq, its, bts⟩ io ic bo bc ((unhide HA).2.later (unhide HF1)) (unhide HM)).mono ?_
      rw [unhide HR]
      rintro e w2 ⟨v, g, rfl, h2⟩
      have HF2 := hide ((unhide HF1).trans (unhide h2).2.1 (fun _ _ t => t))
      clear c0 c1 c2 c3 c4 h2
      go_wp2_with fail
      refine (seal_long _ s (by omega) _).mono ?_
      rintro e w3 ⟨rfl, rfl⟩
      go_wp2
      go_ret2
      exact ⟨none, 0, rfl, hide (NewB.nil (unhide HF2))⟩

def zeroFm : Fm := ⟨0, 0, 0, [], []⟩
/-- What Parse answers. -/
def parseF (s raw : List UInt8) : Fm × Int :=
  if 200 < s.length then (zeroFm, 2)
  else if raw.length < 16 ∨ ¬ (hmac s (raw.take (raw.length - 16))).take 16 = raw.drop (raw.length - 16) then (zeroFm, 121)
  else if readOk (raw.take (raw.length - 16)) then ((readF (raw.take (raw.length - 16))).1, 0) else (zeroFm, 120)

/-- A frame of one's own. -/
structure NewF (w : World) (f : Fm) (io : Option Addr) (ic : Nat) (bo : Option Addr) (bc : Nat) (w' : World) : Prop where
  fr : Fr (fun _ => False) w w'
  il : ∃ ib ds, IL w.heap.size w' io ic ib ds f.items
  bs : ∃ gb, Row w' (.slice bo f.bytes.length bc) gb f.bytes ∧ w.heap.size ≤ gb
  n1 : f.items.length ≤ 8
  n2 : f.bytes.length ≤ 16100 ∧ (bc = 0 ∨ f.items.length = 0)
theorem NewF.zero {w w' : World} (h : Fr (fun _ => False) w w') : NewF w zeroFm none 0 none 0 w' := ⟨h, ⟨w.heap.size, [], IL.nil _ _ _⟩, ⟨w.heap.size, Row.nil _ _, Nat.le_refl _⟩, by simp [zeroFm], ⟨by simp [zeroFm], .inl rfl⟩⟩

set_option maxHeartbeats 4000000 in
set_option maxRecDepth 20000 in
theorem parse_any (w : World) (hT : TabP w) (s : List UInt8) (ro : Option Addr) (rc : Nat) (raw : List UInt8) (hB : BAt w ro rc raw) (hcap : raw.length ≤ rc) :
    Calls Tryz.prog 11 #[.string ⟨s.toArray⟩, .slice ro raw.length rc] w fun e w' => ∃ io ic bo bc, e = .returned (.tuple #[.agg ((parseF s raw).1.cells io ic bo bc), .int .i64 (parseF s raw).2]) ∧ Hid (NewF w (parseF s raw).1 io ic bo bc w') := by
  have hF0 : Fr (fun _ => False) w (w.alloc (.cells #[.int .i64 0, .int .i64 0, .int .i64 0, .slice none 0 0, .slice none 0 0] 25)) := (Fr.refl _ _).alloc _
  have hbx := Bx.new w #[.int .i64 0, .int .i64 0, .int .i64 0, .slice none 0 0, .slice none 0 0] 25
  obtain ⟨B, hBz⟩ : ∃ B, w.heap.size = B := ⟨_, rfl⟩
  rw [hBz] at hbx
  have HT := hide hT
  have HB := hide hB
  have HC := hide hcap
  have HF := hide (And.intro hF0 (And.intro hbx hBz))
  clear hT hB hF0 hbx hcap
  by_cases hs : 200 < s.length
  · rw [show parseF s raw = (zeroFm, 2) by unfold parseF; rw [if_pos hs]]
    go_enter Tryz.func11, Tryz.ntmps11
    go_wp2_with fail
    refine (open_long _ s hs _).mono ?_
    rintro e W ⟨rfl, hW⟩
    have HF1 : Hid (Fr (fun _ => False) w W) := hide (by rw [hW]; exact (unhide HF).1)
    have HX : Hid (Bx W B #[.int .i64 0, .int .i64 0, .int .i64 0, .slice none 0 0, .slice none 0 0] 25) := hide (by rw [hW]; exact (unhide HF).2.1)
    clear hW
    have c0 : W.cell? ⟨B, 0, none⟩ = some (.int .i64 0) := (unhide HX).cell 0
    have c1 : W.cell? ⟨B, 1, none⟩ = some (.int .i64 0) := (unhide HX).cell 1
    have c2 : W.cell? ⟨B, 2, none⟩ = some (.int .i64 0) := (unhide HX).cell 2
    have c3 : W.cell? ⟨B, 3, none⟩ = some (.slice none 0 0) := (unhide HX).cell 3
    have c4 : W.cell? ⟨B, 4, none⟩ = some (.slice none 0 0) := (unhide HX).cell 4
    have f0 : W.frozen? ⟨B, 0, none⟩ = false := (unhide HX).frozen 0
    have f1 : W.frozen? ⟨B, 1, none⟩ = false := (unhide HX).frozen 1
    have f2 : W.frozen? ⟨B, 2, none⟩ = false := (unhide HX).frozen 2
    have f3 : W.frozen? ⟨B, 3, none⟩ = false := (unhide HX).frozen 3
    have f4 : W.frozen? ⟨B, 4, none⟩ = false := (unhide HX).frozen 4
    have hfin : Hid (Fr (fun _ => False) w (((((W.setCell ⟨B, 0, none⟩ (.int .i64 0)).setCell ⟨B, 1, none⟩ (.int .i64 0)).setCell ⟨B, 2, none⟩ (.int .i64 0)).setCell ⟨B, 3, none⟩ (.slice none 0 0)).setCell ⟨B, 4, none⟩ (.slice none 0 0))) := hide ((((((unhide HF1).setCell (p := ⟨B, 0, none⟩) (fun t => absurd t (by have t : B < w.heap.size := t; omega)) (.int .i64 0)).setCell (p := ⟨B, 1, none⟩) (fun t => absurd t (by have t : B < w.heap.size := t; omega)) (.int .i64 0)).setCell (p := ⟨B, 2, none⟩) (fun t => absurd t (by have t : B < w.heap.size := t; omega)) (.int .i64 0)).setCell (p := ⟨B, 3, none⟩) (fun t => absurd t (by have t : B < w.heap.size := t; omega)) (.slice none 0 0)).setCell (p := ⟨B, 4, none⟩) (fun t => absurd t (by have t : B < w.heap.size := t; omega)) (.slice none 0 0))
    have hbz : Hid (Bx (((((W.setCell ⟨B, 0, none⟩ (.int .i64 0)).setCell ⟨B, 1, none⟩ (.int .i64 0)).setCell ⟨B, 2, none⟩ (.int .i64 0)).setCell ⟨B, 3, none⟩ (.slice none 0 0)).setCell ⟨B, 4, none⟩ (.slice none 0 0)) B #[.int .i64 0, .int .i64 0, .int .i64 0, .slice none 0 0, .slice none 0 0] 25) := hide ((((((unhide HX).setCell 0 (.int .i64 0)).setCell 1 (.int .i64 0)).setCell 2 (.int .i64 0)).setCell 3 (.slice none 0 0)).setCell 4 (.slice none 0 0))
    go_wp2
    generalize (((((W.setCell ⟨B, 0, none⟩ (.int .i64 0)).setCell ⟨B, 1, none⟩ (.int .i64 0)).setCell ⟨B, 2, none⟩ (.int .i64 0)).setCell ⟨B, 3, none⟩ (.slice none 0 0)).setCell ⟨B, 4, none⟩ (.slice none 0 0)) = V at *
    have x0 : V.cell? ⟨B, 0, none⟩ = some (.int .i64 0) := (unhide hbz).cell 0
    have x1 : V.cell? ⟨B, 1, none⟩ = some (.int .i64 0) := (unhide hbz).cell 1
    have x2 : V.cell? ⟨B, 2, none⟩ = some (.int .i64 0) := (unhide hbz).cell 2
    have x3 : V.cell? ⟨B, 3, none⟩ = some (.slice none 0 0) := (unhide hbz).cell 3
    have x4 : V.cell? ⟨B, 4, none⟩ = some (.slice none 0 0) := (unhide hbz).cell 4
    refine bodyPost_ret (v := .tuple #[.agg #[.int .i64 0, .int .i64 0, .int .i64 0, .slice none 0 0, .slice none 0 0], .int .i64 2]) ?_ rfl ?_
    · simp [results, Tryz.results11, go_sem, x0, x1, x2, x3, x4]
    · exact ⟨none, 0, none, 0, rfl, hide (NewF.zero (unhide hfin))⟩

  by_cases h16 : raw.length < 16
  · rw [show parseF s raw = (zeroFm, 121) by unfold parseF; rw [if_neg hs, if_pos (.inl h16)]]
    go_enter Tryz.func11, Tryz.ntmps11
    go_wp2_with fail
    refine (open_short _ s (by omega) ro raw.length rc h16).mono ?_
    rintro e W ⟨rfl, hW⟩
    have HF1 : Hid (Fr (fun _ => False) w W) := hide (by rw [hW]; exact (unhide HF).1)
    have HX : Hid (Bx W B #[.int .i64 0, .int .i64 0, .int .i64 0, .slice none 0 0, .slice none 0 0] 25) := hide (by rw [hW]; exact (unhide HF).2.1)
    clear hW
    have c0 : W.cell? ⟨B, 0, none⟩ = some (.int .i64 0) := (unhide HX).cell 0
    have c1 : W.cell? ⟨B, 1, none⟩ = some (.int .i64 0) := (unhide HX).cell 1
    have c2 : W.cell? ⟨B, 2, none⟩ = some (.int .i64 0) := (unhide HX).cell 2
    have c3 : W.cell? ⟨B, 3, none⟩ = some (.slice none 0 0) := (unhide HX).cell 3
    have c4 : W.cell? ⟨B, 4, none⟩ = some (.slice none 0 0) := (unhide HX).cell 4
    have f0 : W.frozen? ⟨B, 0, none⟩ = false := (unhide HX).frozen 0
    have f1 : W.frozen? ⟨B, 1, none⟩ = false := (unhide HX).frozen 1
    have f2 : W.frozen? ⟨B, 2, none⟩ = false := (unhide HX).frozen 2
    have f3 : W.frozen? ⟨B, 3, none⟩ = false := (unhide HX).frozen 3
    have f4 : W.frozen? ⟨B, 4, none⟩ = false := (unhide HX).frozen 4
    have hfin : Hid (Fr (fun _ => False) w (((((W.setCell ⟨B, 0, none⟩ (.int .i64 0)).setCell ⟨B, 1, none⟩ (.int .i64 0)).setCell ⟨B, 2, none⟩ (.int .i64 0)).setCell ⟨B, 3, none⟩ (.slice none 0 0)).setCell ⟨B, 4, none⟩ (.slice none 0 0))) := hide ((((((unhide HF1).setCell (p := ⟨B, 0, none⟩) (fun t => absurd t (by have t : B < w.heap.size := t; omega)) (.int .i64 0)).setCell (p := ⟨B, 1, none⟩) (fun t => absurd t (by have t : B < w.heap.size := t; omega)) (.int .i64 0)).setCell (p := ⟨B, 2, none⟩) (fun t => absurd t (by have t : B < w.heap.size := t; omega)) (.int .i64 0)).setCell (p := ⟨B, 3, none⟩) (fun t => absurd t (by have t : B < w.heap.size := t; omega)) (.slice none 0 0)).setCell (p := ⟨B, 4, none⟩) (fun t => absurd t (by have t : B < w.heap.size := t; omega)) (.slice none 0 0))
    have hbz : Hid (Bx (((((W.setCell ⟨B, 0, none⟩ (.int .i64 0)).setCell ⟨B, 1, none⟩ (.int .i64 0)).setCell ⟨B, 2, none⟩ (.int .i64 0)).setCell ⟨B, 3, none⟩ (.slice none 0 0)).setCell ⟨B, 4, none⟩ (.slice none 0 0)) B #[.int .i64 0, .int .i64 0, .int .i64 0, .slice none 0 0, .slice none 0 0] 25) := hide ((((((unhide HX).setCell 0 (.int .i64 0)).setCell 1 (.int .i64 0)).setCell 2 (.int .i64 0)).setCell 3 (.slice none 0 0)).setCell 4 (.slice none 0 0))
    go_wp2
    generalize (((((W.setCell ⟨B, 0, none⟩ (.int .i64 0)).setCell ⟨B, 1, none⟩ (.int .i64 0)).setCell ⟨B, 2, none⟩ (.int .i64 0)).setCell ⟨B, 3, none⟩ (.slice none 0 0)).setCell ⟨B, 4, none⟩ (.slice none 0 0)) = V at *
    have x0 : V.cell? ⟨B, 0, none⟩ = some (.int .i64 0) := (unhide hbz).cell 0
    have x1 : V.cell? ⟨B, 1, none⟩ = some (.int .i64 0) := (unhide hbz).cell 1
    have x2 : V.cell? ⟨B, 2, none⟩ = some (.int .i64 0) := (unhide hbz).cell 2
    have x3 : V.cell? ⟨B, 3, none⟩ = some (.slice none 0 0) := (unhide hbz).cell 3
    have x4 : V.cell? ⟨B, 4, none⟩ = some (.slice none 0 0) := (unhide hbz).cell 4
    refine bodyPost_ret (v := .tuple #[.agg #[.int .i64 0, .int .i64 0, .int .i64 0, .slice none 0 0, .slice none 0 0], .int .i64 121]) ?_ rfl ?_
    · simp [results, Tryz.results11, go_sem, x0, x1, x2, x3, x4]
    · exact ⟨none, 0, none, 0, rfl, hide (NewF.zero (unhide hfin))⟩

  obtain ⟨m, hm⟩ : ∃ m, raw.length = m + 16 := ⟨raw.length - 16, by omega⟩
  have hmm : raw.length - 16 = m := by omega
  have hsm := (unhide HB).2.2
  by_cases he : ¬ (hmac s (raw.take m)).take 16 = raw.drop m
  · rw [hm]
    rw [show parseF s raw = (zeroFm, 121) by unfold parseF; rw [if_neg hs, hmm, if_pos (.inr he)]]
    go_enter Tryz.func11, Tryz.ntmps11
    go_wp2_with fail
    refine (open_bad _ ((unhide HT).later (unhide HF).1) s (by omega) ro rc (raw.take m) (raw.drop m) m (by rw [List.length_take]; omega) (by rw [List.length_drop]; omega) (by rw [List.take_append_drop]; exact (unhide HB).later (unhide HF).1) (by have := unhide HC; omega) he).mono ?_
    rintro e W ⟨rfl, hW⟩
    have HF1 : Hid (Fr (fun _ => False) w W) := hide ((unhide HF).1.trans hW (fun _ _ t => t))
    have HX : Hid (Bx W B #[.int .i64 0, .int .i64 0, .int .i64 0, .slice none 0 0, .slice none 0 0] 25) := hide ((unhide HF).2.1.keep hW)
    have c0 : W.cell? ⟨B, 0, none⟩ = some (.int .i64 0) := (unhide HX).cell 0
    have c1 : W.cell? ⟨B, 1, none⟩ = some (.int .i64 0) := (unhide HX).cell 1
    have c2 : W.cell? ⟨B, 2, none⟩ = some (.int .i64 0) := (unhide HX).cell 2
    have c3 : W.cell? ⟨B, 3, none⟩ = some (.slice none 0 0) := (unhide HX).cell 3
    have c4 : W.cell? ⟨B, 4, none⟩ = some (.slice none 0 0) := (unhide HX).cell 4
    have f0 : W.frozen? ⟨B, 0, none⟩ = false := (unhide HX).frozen 0
    have f1 : W.frozen? ⟨B, 1, none⟩ = false := (unhide HX).frozen 1
    have f2 : W.frozen? ⟨B, 2, none⟩ = false := (unhide HX).frozen 2
    have f3 : W.frozen? ⟨B, 3, none⟩ = false := (unhide HX).frozen 3
    have f4 : W.frozen? ⟨B, 4, none⟩ = false := (unhide HX).frozen 4
    have hfin : Hid (Fr (fun _ => False) w (((((W.setCell ⟨B, 0, none⟩ (.int .i64 0)).setCell ⟨B, 1, none⟩ (.int .i64 0)).setCell ⟨B, 2, none⟩ (.int .i64 0)).setCell ⟨B, 3, none⟩ (.slice none 0 0)).setCell ⟨B, 4, none⟩ (.slice none 0 0))) := hide ((((((unhide HF1).setCell (p := ⟨B, 0, none⟩) (fun t => absurd t (by have t : B < w.heap.size := t; omega)) (.int .i64 0)).setCell (p := ⟨B, 1, none⟩) (fun t => absurd t (by have t : B < w.heap.size := t; omega)) (.int .i64 0)).setCell (p := ⟨B, 2, none⟩) (fun t => absurd t (by have t : B < w.heap.size := t; omega)) (.int .i64 0)).setCell (p := ⟨B, 3, none⟩) (fun t => absurd t (by have t : B < w.heap.size := t; omega)) (.slice none 0 0)).setCell (p := ⟨B, 4, none⟩) (fun t => absurd t (by have t : B < w.heap.size := t; omega)) (.slice none 0 0))
    have hbz : Hid (Bx (((((W.setCell ⟨B, 0, none⟩ (.int .i64 0)).setCell ⟨B, 1, none⟩ (.int .i64 0)).setCell ⟨B, 2, none⟩ (.int .i64 0)).setCell ⟨B, 3, none⟩ (.slice none 0 0)).setCell ⟨B, 4, none⟩ (.slice none 0 0)) B #[.int .i64 0, .int .i64 0, .int .i64 0, .slice none 0 0, .slice none 0 0] 25) := hide ((((((unhide HX).setCell 0 (.int .i64 0)).setCell 1 (.int .i64 0)).setCell 2 (.int .i64 0)).setCell 3 (.slice none 0 0)).setCell 4 (.slice none 0 0))
    go_wp2
    generalize (((((W.setCell ⟨B, 0, none⟩ (.int .i64 0)).setCell ⟨B, 1, none⟩ (.int .i64 0)).setCell ⟨B, 2, none⟩ (.int .i64 0)).setCell ⟨B, 3, none⟩ (.slice none 0 0)).setCell ⟨B, 4, none⟩ (.slice none 0 0)) = V at *
    have x0 : V.cell? ⟨B, 0, none⟩ = some (.int .i64 0) := (unhide hbz).cell 0
    have x1 : V.cell? ⟨B, 1, none⟩ = some (.int .i64 0) := (unhide hbz).cell 1
    have x2 : V.cell? ⟨B, 2, none⟩ = some (.int .i64 0) := (unhide hbz).cell 2
    have x3 : V.cell? ⟨B, 3, none⟩ = some (.slice none 0 0) := (unhide hbz).cell 3
    have x4 : V.cell? ⟨B, 4, none⟩ = some (.slice none 0 0) := (unhide hbz).cell 4
    refine bodyPost_ret (v := .tuple #[.agg #[.int .i64 0, .int .i64 0, .int .i64 0, .slice none 0 0, .slice none 0 0], .int .i64 121]) ?_ rfl ?_
    · simp [results, Tryz.results11, go_sem, x0, x1, x2, x3, x4]
    · exact ⟨none, 0, none, 0, rfl, hide (NewF.zero (unhide hfin))⟩

  have he : (hmac s (raw.take m)).take 16 = raw.drop m := Decidable.of_not_not he
  have hlt : (raw.take m).length = m := by rw [List.length_take]; omega
  have HE := hide he
  have HL := hide hlt
  have HP : Hid (parseF s raw = if readOk (raw.take m) then ((readF (raw.take m)).1, 0) else (zeroFm, 120)) := hide (by unfold parseF; rw [if_neg hs, hmm, if_neg (by rintro (t | t); exact h16 t; exact t he)])
  rw [hm]
  have HO := hide (open_ok _ ((unhide HT).later (unhide HF).1) s (by omega) ro rc (raw.take m) (raw.drop m) m hlt (by rw [List.length_drop]; omega) (by rw [List.take_append_drop]; exact (unhide HB).later (unhide HF).1) (by have := unhide HC; omega) he)
  clear he hlt hmm
  generalize raw.take m = x at *
  generalize parseF s raw = PR at *
  have hxs : x.length ≤ 140737488355328 := by rw [unhide HL]; omega
  go_enter Tryz.func11, Tryz.ntmps11
  go_wp2_with fail
  refine (unhide HO).mono ?_
  rintro e w1 ⟨ao, cap, rfl, h1⟩
  obtain ⟨g1, r1, r2, r3⟩ := h1
  have HF1 := hide ((unhide HF).1.trans r2 (fun _ _ t => t))
  have HX1 := hide ((unhide HF).2.1.keep r2)
  have HB1 : Hid (B < w1.heap.size) := hide (unhide HX1).lt
  have HRD := readframe_any w1 ao cap x (r1.batn (by rw [← unhide HL]; exact hxs)).1
  rw [unhide HL] at HRD
  have HRD := hide HRD
  clear r1 r2 r3 HO
  go_wp2_with fail
  refine (unhide HRD).mono ?_
  clear HRD
  rintro e w2 ⟨io, ic, bo, bc, rfl, h2⟩
  have HF2 := hide ((unhide HF1).trans (unhide h2).1 (fun _ _ t => t))
  have HX2 := hide ((unhide HX1).keep (unhide h2).1)
  obtain ⟨f, hf⟩ : ∃ f, (readF x).1 = f := ⟨_, rfl⟩
  rw [hf] at h2 ⊢
  have HFX := hide hf
  clear hf HX1
  obtain ⟨kd, ba, sq, its, bts⟩ := f
  simp only [Fm.cells]
  have HX3 := hide ((unhide HX2).alloc (.cells #[.int .i64 kd, .int .i64 ba, .int .i64 sq, .slice io its.length ic, .slice bo bts.length bc] 25))
  have HX4 := hide (Bx.new w2 #[.int .i64 kd, .int .i64 ba, .int .i64 sq, .slice io its.length ic, .slice bo bts.length bc] 25)
  have HF3 := hide ((unhide HF2).alloc (.cells #[.int .i64 kd, .int .i64 ba, .int .i64 sq, .slice io its.length ic, .slice bo bts.length bc] 25))
  have HF4 := hide ((Fr.refl (fun k => k = B) w2).alloc (.cells #[.int .i64 kd, .int .i64 ba, .int .i64 sq, .slice io its.length ic, .slice bo bts.length bc] 25))
  have hBl := (unhide HX2).lt
  cases hr : readOk x with
  | true =>
    have HRK := hide hr
    clear hr
    go_upto_region 9 with (fail)
    generalize (w2.alloc (.cells #[.int .i64 kd, .int .i64 ba, .int .i64 sq, .slice io its.length ic, .slice bo bts.length bc] 25)) = W2 at *
    generalize w2.heap.size = Z at *
    have c0 : W2.cell? ⟨B, 0, none⟩ = some (.int .i64 0) := (unhide HX3).cell 0
    have f0 : W2.frozen? ⟨B, 0, none⟩ = false := (unhide HX3).frozen 0
    have c1 : W2.cell? ⟨B, 1, none⟩ = some (.int .i64 0) := (unhide HX3).cell 1
    have f1 : W2.frozen? ⟨B, 1, none⟩ = false := (unhide HX3).frozen 1
    have c2 : W2.cell? ⟨B, 2, none⟩ = some (.int .i64 0) := (unhide HX3).cell 2
    have f2 : W2.frozen? ⟨B, 2, none⟩ = false := (unhide HX3).frozen 2
    have c3 : W2.cell? ⟨B, 3, none⟩ = some (.slice none 0 0) := (unhide HX3).cell 3
    have f3 : W2.frozen? ⟨B, 3, none⟩ = false := (unhide HX3).frozen 3
    have c4 : W2.cell? ⟨B, 4, none⟩ = some (.slice none 0 0) := (unhide HX3).cell 4
    have f4 : W2.frozen? ⟨B, 4, none⟩ = false := (unhide HX3).frozen 4
    have d0 : W2.cell? ⟨Z, 0, none⟩ = some (.int .i64 kd) := (unhide HX4).cell 0
    have d1 : W2.cell? ⟨Z, 1, none⟩ = some (.int .i64 ba) := (unhide HX4).cell 1
    have d2 : W2.cell? ⟨Z, 2, none⟩ = some (.int .i64 sq) := (unhide HX4).cell 2
    have d3 : W2.cell? ⟨Z, 3, none⟩ = some (.slice io its.length ic) := (unhide HX4).cell 3
    have d4 : W2.cell? ⟨Z, 4, none⟩ = some (.slice bo bts.length bc) := (unhide HX4).cell 4
    have hfin : Hid (Fr (fun _ => False) w (((((W2.setCell ⟨B, 0, none⟩ (.int .i64 kd)).setCell ⟨B, 1, none⟩ (.int .i64 ba)).setCell ⟨B, 2, none⟩ (.int .i64 sq)).setCell ⟨B, 3, none⟩ (.slice io its.length ic)).setCell ⟨B, 4, none⟩ (.slice bo bts.length bc))) := hide ((((((unhide HF3).setCell (p := ⟨B, 0, none⟩) (fun t => absurd t (by have t : B < w.heap.size := t; omega)) (.int .i64 kd)).setCell (p := ⟨B, 1, none⟩) (fun t => absurd t (by have t : B < w.heap.size := t; omega)) (.int .i64 ba)).setCell (p := ⟨B, 2, none⟩) (fun t => absurd t (by have t : B < w.heap.size := t; omega)) (.int .i64 sq)).setCell (p := ⟨B, 3, none⟩) (fun t => absurd t (by have t : B < w.heap.size := t; omega)) (.slice io its.length ic)).setCell (p := ⟨B, 4, none⟩) (fun t => absurd t (by have t : B < w.heap.size := t; omega)) (.slice bo bts.length bc))
    have hbz : Hid (Bx (((((W2.setCell ⟨B, 0, none⟩ (.int .i64 kd)).setCell ⟨B, 1, none⟩ (.int .i64 ba)).setCell ⟨B, 2, none⟩ (.int .i64 sq)).setCell ⟨B, 3, none⟩ (.slice io its.length ic)).setCell ⟨B, 4, none⟩ (.slice bo bts.length bc)) B #[.int .i64 kd, .int .i64 ba, .int .i64 sq, .slice io its.length ic, .slice bo bts.length bc] 25) := hide ((((((unhide HX3).setCell 0 (.int .i64 kd)).setCell 1 (.int .i64 ba)).setCell 2 (.int .i64 sq)).setCell 3 (.slice io its.length ic)).setCell 4 (.slice bo bts.length bc))
    have HFV : Hid (Fr (fun k => k = B) w2 (((((W2.setCell ⟨B, 0, none⟩ (.int .i64 kd)).setCell ⟨B, 1, none⟩ (.int .i64 ba)).setCell ⟨B, 2, none⟩ (.int .i64 sq)).setCell ⟨B, 3, none⟩ (.slice io its.length ic)).setCell ⟨B, 4, none⟩ (.slice bo bts.length bc))) := hide (Fr.setCell (S := fun k => k = B) (Fr.setCell (S := fun k => k = B) (Fr.setCell (S := fun k => k = B) (Fr.setCell (S := fun k => k = B) (Fr.setCell (S := fun k => k = B) (unhide HF4) (p := ⟨B, 0, none⟩) (fun _ => rfl) (.int .i64 kd)) (p := ⟨B, 1, none⟩) (fun _ => rfl) (.int .i64 ba)) (p := ⟨B, 2, none⟩) (fun _ => rfl) (.int .i64 sq)) (p := ⟨B, 3, none⟩) (fun _ => rfl) (.slice io its.length ic)) (p := ⟨B, 4, none⟩) (fun _ => rfl) (.slice bo bts.length bc))
    go_wp2
    generalize (((((W2.setCell ⟨B, 0, none⟩ (.int .i64 kd)).setCell ⟨B, 1, none⟩ (.int .i64 ba)).setCell ⟨B, 2, none⟩ (.int .i64 sq)).setCell ⟨B, 3, none⟩ (.slice io its.length ic)).setCell ⟨B, 4, none⟩ (.slice bo bts.length bc)) = V at *
    have x0 : V.cell? ⟨B, 0, none⟩ = some (.int .i64 kd) := (unhide hbz).cell 0
    have x1 : V.cell? ⟨B, 1, none⟩ = some (.int .i64 ba) := (unhide hbz).cell 1
    have x2 : V.cell? ⟨B, 2, none⟩ = some (.int .i64 sq) := (unhide hbz).cell 2
    have x3 : V.cell? ⟨B, 3, none⟩ = some (.slice io its.length ic) := (unhide hbz).cell 3
    have x4 : V.cell? ⟨B, 4, none⟩ = some (.slice bo bts.length bc) := (unhide hbz).cell 4
    refine bodyPost_ret (v := .tuple #[.agg #[.int .i64 kd, .int .i64 ba, .int .i64 sq, .slice io its.length ic, .slice bo bts.length bc], .int .i64 0]) ?_ rfl ?_
    · simp [results, Tryz.results11, go_sem, x0, x1, x2, x3, x4]
    · obtain ⟨v1, ⟨ib, ds, v2⟩, ⟨gb, v3, v4⟩, v5, v6⟩ := unhide h2
      have hz1 := (unhide HF1).size
      have hff := (unhide hfin)
      have hd : Fr (fun k => k = B) w2 V := unhide HFV
      have hb1 := unhide HB1
      rw [unhide HP, unhide HRK, if_pos rfl, unhide HFX]
      refine ⟨io, ic, bo, bc, rfl, hide ⟨hff, ⟨ib, ds, (v2.stay hd (fun i t => by have t : i = B := t; omega)).low hz1⟩, ⟨gb, v3.frame hd (by show ¬ gb = B; omega), by omega⟩, v5, v6⟩⟩
  | false =>
    have HRK := hide hr
    clear hr
    go_upto_region 8 with (fail)
    generalize (w2.alloc (.cells #[.int .i64 kd, .int .i64 ba, .int .i64 sq, .slice io its.length ic, .slice bo bts.length bc] 25)) = W2 at *
    generalize w2.heap.size = Z at *
    have c0 : W2.cell? ⟨B, 0, none⟩ = some (.int .i64 0) := (unhide HX3).cell 0
    have f0 : W2.frozen? ⟨B, 0, none⟩ = false := (unhide HX3).frozen 0
    have c1 : W2.cell? ⟨B, 1, none⟩ = some (.int .i64 0) := (unhide HX3).cell 1
    have f1 : W2.frozen? ⟨B, 1, none⟩ = false := (unhide HX3).frozen 1
    have c2 : W2.cell? ⟨B, 2, none⟩ = some (.int .i64 0) := (unhide HX3).cell 2
    have f2 : W2.frozen? ⟨B, 2, none⟩ = false := (unhide HX3).frozen 2
    have c3 : W2.cell? ⟨B, 3, none⟩ = some (.slice none 0 0) := (unhide HX3).cell 3
    have f3 : W2.frozen? ⟨B, 3, none⟩ = false := (unhide HX3).frozen 3
    have c4 : W2.cell? ⟨B, 4, none⟩ = some (.slice none 0 0) := (unhide HX3).cell 4
    have f4 : W2.frozen? ⟨B, 4, none⟩ = false := (unhide HX3).frozen 4
    have hfin : Hid (Fr (fun _ => False) w (((((W2.setCell ⟨B, 0, none⟩ (.int .i64 0)).setCell ⟨B, 1, none⟩ (.int .i64 0)).setCell ⟨B, 2, none⟩ (.int .i64 0)).setCell ⟨B, 3, none⟩ (.slice none 0 0)).setCell ⟨B, 4, none⟩ (.slice none 0 0))) := hide ((((((unhide HF3).setCell (p := ⟨B, 0, none⟩) (fun t => absurd t (by have t : B < w.heap.size := t; omega)) (.int .i64 0)).setCell (p := ⟨B, 1, none⟩) (fun t => absurd t (by have t : B < w.heap.size := t; omega)) (.int .i64 0)).setCell (p := ⟨B, 2, none⟩) (fun t => absurd t (by have t : B < w.heap.size := t; omega)) (.int .i64 0)).setCell (p := ⟨B, 3, none⟩) (fun t => absurd t (by have t : B < w.heap.size := t; omega)) (.slice none 0 0)).setCell (p := ⟨B, 4, none⟩) (fun t => absurd t (by have t : B < w.heap.size := t; omega)) (.slice none 0 0))
    have hbz : Hid (Bx (((((W2.setCell ⟨B, 0, none⟩ (.int .i64 0)).setCell ⟨B, 1, none⟩ (.int .i64 0)).setCell ⟨B, 2, none⟩ (.int .i64 0)).setCell ⟨B, 3, none⟩ (.slice none 0 0)).setCell ⟨B, 4, none⟩ (.slice none 0 0)) B #[.int .i64 0, .int .i64 0, .int .i64 0, .slice none 0 0, .slice none 0 0] 25) := hide ((((((unhide HX3).setCell 0 (.int .i64 0)).setCell 1 (.int .i64 0)).setCell 2 (.int .i64 0)).setCell 3 (.slice none 0 0)).setCell 4 (.slice none 0 0))
    go_wp2
    generalize (((((W2.setCell ⟨B, 0, none⟩ (.int .i64 0)).setCell ⟨B, 1, none⟩ (.int .i64 0)).setCell ⟨B, 2, none⟩ (.int .i64 0)).setCell ⟨B, 3, none⟩ (.slice none 0 0)).setCell ⟨B, 4, none⟩ (.slice none 0 0)) = V at *
    have x0 : V.cell? ⟨B, 0, none⟩ = some (.int .i64 0) := (unhide hbz).cell 0
    have x1 : V.cell? ⟨B, 1, none⟩ = some (.int .i64 0) := (unhide hbz).cell 1
    have x2 : V.cell? ⟨B, 2, none⟩ = some (.int .i64 0) := (unhide hbz).cell 2
    have x3 : V.cell? ⟨B, 3, none⟩ = some (.slice none 0 0) := (unhide hbz).cell 3
    have x4 : V.cell? ⟨B, 4, none⟩ = some (.slice none 0 0) := (unhide hbz).cell 4
    refine bodyPost_ret (v := .tuple #[.agg #[.int .i64 0, .int .i64 0, .int .i64 0, .slice none 0 0, .slice none 0 0], .int .i64 120]) ?_ rfl ?_
    · simp [results, Tryz.results11, go_sem, x0, x1, x2, x3, x4]
    · rw [unhide HP, unhide HRK]
      exact ⟨none, 0, none, 0, rfl, hide (NewF.zero (unhide hfin))⟩

end Go.Proofs.YtabhfeocelljdaaGreatDoor

