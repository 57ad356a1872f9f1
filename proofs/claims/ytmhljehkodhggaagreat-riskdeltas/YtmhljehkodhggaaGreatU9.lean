import Derived.Test.YtmhljehkodhggaaGreatUM
/- Are two lists, two deltas the same? Which token is in a list? The document's example. -/
namespace Go.Proofs.YtmhljehkodhggaaGreat
open Go.RowKit

theorem sameT_is (w : World) (l : List ByteArray) (a1 : Option Addr) (c1 : Nat) (a2 : Option Addr) (c2 : Nat) (h1 : SAt w a1 l) (h2 : SAt w a2 l) (hl : l.length ≤ 140737488355328) :
    Calls Tryz.prog 24 #[.slice a1 l.length c1, .slice a2 l.length c2] w fun e w' => e = .returned (.bool true) ∧ Fr (fun _ => False) w w' := by
  have H1 := hide h1
  have H2 := hide h2
  clear h1 h2
  go_enter Tryz.func24, Tryz.ntmps24
  go_wp2
  go_loopw [5] (fun iv wr => ∃ (i : Nat), i ≤ l.length ∧ iv = .int .i64 i ∧ Hid (Fr (fun _ => False) w wr)) (fun iv _ => l.length - (intOf iv).toNat)
  case atStart => exact ⟨0, Nat.zero_le _, rfl, Fr.refl _ _⟩
  case round =>
    obtain ⟨i, hi, rfl, HI⟩ := hrel
    by_cases hil : i < l.length
    · obtain ⟨b1, o1, rfl, e1⟩ := ((unhide H1).keep (unhide HI)).at hil
      obtain ⟨b2, o2, rfl, e2⟩ := ((unhide H2).keep (unhide HI)).at hil
      generalize l[i] = x at *
      go_wp2
      go_quiet (fail)
      go_wp2
      exact ⟨⟨i + 1, by omega, by go_num, (unhide HI).drewN _⟩, by simp [intOf]; omega⟩
    · obtain rfl : i = l.length := by omega
      go_wp2
      go_ret
      exact ⟨rfl, unhide HI⟩

theorem sameD_is (w : World) (d : Dl) (a1 : Option Addr) (c1 : Nat) (a2 : Option Addr) (c2 : Nat) (b1 : Option Addr) (k1 : Nat) (b2 : Option Addr) (k2 : Nat) (h1 : SAt w a1 d.add) (h2 : SAt w a2 d.gone) (h3 : SAt w b1 d.add) (h4 : SAt w b2 d.gone) (hl1 : d.add.length ≤ 140737488355328) (hl2 : d.gone.length ≤ 140737488355328) :
    Calls Tryz.prog 21 #[.agg (dlC d a1 c1 a2 c2), .agg (dlC d b1 k1 b2 k2)] w fun e w' => e = .returned (.bool true) ∧ Fr (fun _ => False) w w' := by
  have R1 := hide (fun (w' : World) (hf : Fr (fun _ => False) w w') => sameT_is w' d.add a1 c1 b1 k1 (h1.keep hf) (h3.keep hf) hl1)
  have R2 := hide (fun (w' : World) (hf : Fr (fun _ => False) w w') => sameT_is w' d.gone a2 c2 b2 k2 (h2.keep hf) (h4.keep hf) hl2)
  clear h1 h2 h3 h4 hl1 hl2
  unfold dlC
  have HX0 : Hid (Fr (fun _ => False) w ((w.alloc (.cells #[.int .i64 d.ver, .slice a1 d.add.length c1, .slice a2 d.gone.length c2] 26)).alloc (.cells #[.int .i64 d.ver, .slice b1 d.add.length k1, .slice b2 d.gone.length k2] 26)) ∧ Bx ((w.alloc (.cells #[.int .i64 d.ver, .slice a1 d.add.length c1, .slice a2 d.gone.length c2] 26)).alloc (.cells #[.int .i64 d.ver, .slice b1 d.add.length k1, .slice b2 d.gone.length k2] 26)) w.heap.size #[.int .i64 d.ver, .slice a1 d.add.length c1, .slice a2 d.gone.length c2] 26 ∧ Bx ((w.alloc (.cells #[.int .i64 d.ver, .slice a1 d.add.length c1, .slice a2 d.gone.length c2] 26)).alloc (.cells #[.int .i64 d.ver, .slice b1 d.add.length k1, .slice b2 d.gone.length k2] 26)) (w.heap.size + 1) #[.int .i64 d.ver, .slice b1 d.add.length k1, .slice b2 d.gone.length k2] 26) := hide (by
    have h2 := Bx.new (w.alloc (.cells #[.int .i64 d.ver, .slice a1 d.add.length c1, .slice a2 d.gone.length c2] 26)) #[.int .i64 d.ver, .slice b1 d.add.length k1, .slice b2 d.gone.length k2] 26
    rw [heap_alloc] at h2
    exact ⟨((Fr.refl _ w).alloc _).alloc _, (Bx.new _ _ _).alloc _, h2⟩)
  go_enter Tryz.func21, Tryz.ntmps21
  go_wp2_with fail
  refine (unhide R1 _ (unhide HX0).1).mono ?_
  rintro e w1 ⟨rfl, hF⟩
  obtain ⟨B, HB⟩ : ∃ B, Hid (w.heap.size = B) := ⟨_, rfl⟩
  have HX1 : Hid (Fr (fun _ => False) w w1 ∧ Bx w1 B #[.int .i64 d.ver, .slice a1 d.add.length c1, .slice a2 d.gone.length c2] 26 ∧ Bx w1 (B + 1) #[.int .i64 d.ver, .slice b1 d.add.length k1, .slice b2 d.gone.length k2] 26) := hide (by
    rw [← unhide HB]
    obtain ⟨k0, k1, k2⟩ := unhide HX0
    exact ⟨k0.trans hF (fun _ _ t => t), k1.keep hF, k2.keep hF⟩)
  rw [unhide HB]
  have x2 : w1.cell? ⟨B, 2, none⟩ = some (.slice a2 d.gone.length c2) := (unhide HX1).2.1.cell 2
  have y2 : w1.cell? ⟨B + 1, 2, none⟩ = some (.slice b2 d.gone.length k2) := (unhide HX1).2.2.cell 2
  clear hF HX0
  go_wp2_with fail
  refine (unhide R2 _ (unhide HX1).1).mono ?_
  rintro e w2 ⟨rfl, hF⟩
  have x0 : w2.cell? ⟨B, 0, none⟩ = some (.int .i64 d.ver) := ((unhide HX1).2.1.keep hF).cell 0
  have y0 : w2.cell? ⟨B + 1, 0, none⟩ = some (.int .i64 d.ver) := ((unhide HX1).2.2.keep hF).cell 0
  have HF2 : Hid (Fr (fun _ => False) w w2) := hide ((unhide HX1).1.trans hF (fun _ _ t => t))
  clear hF x2 y2
  go_wp2
  go_ret
  exact ⟨by first | rfl | simp, unhide HF2⟩

theorem sameL_is (w : World) (l : Rl) (a1 : Option Addr) (c1 : Nat) (b1 : Option Addr) (k1 : Nat) (h1 : SAt w a1 l.toks) (h3 : SAt w b1 l.toks) (hl1 : l.toks.length ≤ 140737488355328) :
    Calls Tryz.prog 14 #[.agg (rlC l a1 c1), .agg (rlC l b1 k1)] w fun e w' => e = .returned (.bool true) ∧ Fr (fun _ => False) w w' := by
  have R1 := hide (fun (w' : World) (hf : Fr (fun _ => False) w w') => sameT_is w' l.toks a1 c1 b1 k1 (h1.keep hf) (h3.keep hf) hl1)
  clear h1 h3 hl1
  have hX0 : Fr (fun _ => False) w ((w.alloc (.cells (rlC l a1 c1) 24)).alloc (.cells (rlC l b1 k1) 24)) := ((Fr.refl _ w).alloc _).alloc _
  have z1 : Bx ((w.alloc (.cells (rlC l a1 c1) 24)).alloc (.cells (rlC l b1 k1) 24)) w.heap.size (rlC l a1 c1) 24 := (Bx.new _ _ _).alloc _
  have z2 := Bx.new (w.alloc (.cells (rlC l a1 c1) 24)) (rlC l b1 k1) 24
  rw [heap_alloc] at z2
  have HX0 := hide (And.intro hX0 (And.intro z1 z2))
  clear hX0 z1 z2
  unfold rlC at *
  go_enter Tryz.func14, Tryz.ntmps14
  go_wp2_with fail
  refine (unhide R1 _ (unhide HX0).1).mono ?_
  rintro e w1 ⟨rfl, hF⟩
  have x0 : w1.cell? ⟨w.heap.size, 0, none⟩ = some (.int .i64 l.ver) := ((unhide HX0).2.1.keep hF).cell 0
  have y0 : w1.cell? ⟨w.heap.size + 1, 0, none⟩ = some (.int .i64 l.ver) := ((unhide HX0).2.2.keep hF).cell 0
  have HF2 : Hid (Fr (fun _ => False) w w1) := hide ((unhide HX0).1.trans hF (fun _ _ t => t))
  clear hF
  go_wp2
  go_ret
  exact ⟨by first | rfl | simp, unhide HF2⟩

theorem in_any (w : World) (ao : Option Addr) (cap : Nat) (l : List ByteArray) (s : ByteArray) (h : SAt w ao l) (hl : l.length ≤ 140737488355328) :
    Calls Tryz.prog 32 #[.slice ao l.length cap, .string s] w fun e w' => e = .returned (.bool (memS l s)) ∧ Fr (fun _ => False) w w' := by
  obtain ⟨y, HY⟩ : ∃ y, Hid (memS l s = y) := ⟨_, rfl⟩
  rw [unhide HY]
  have H := hide h
  clear h
  go_enter Tryz.func32, Tryz.ntmps32
  go_wp2
  go_loopw [5] (fun iv wr => ∃ (i : Nat), i ≤ l.length ∧ iv = .int .i64 i ∧ Hid (Fr (fun _ => False) w wr ∧ memS (l.drop i) s = memS l s)) (fun iv _ => l.length - (intOf iv).toNat)
  case atStart => exact ⟨0, Nat.zero_le _, rfl, Fr.refl _ _, by simp⟩
  case round =>
    obtain ⟨i, hi, rfl, HI⟩ := hrel
    by_cases hil : i < l.length
    · obtain ⟨b, off, rfl, c0⟩ := ((unhide H).keep (unhide HI).1).at hil
      have ht := (unhide HI).2
      rw [List.drop_eq_getElem_cons hil, memS_cons] at ht
      generalize l[i] = x at *
      have HT := hide ht
      clear ht
      cases hx : (x.toList == s.toList) with
      | true =>
        have HT' : Hid (y = true) := hide (by have := unhide HT; rw [show eqS x s = true from hx, Bool.true_or] at this; rw [← unhide HY, ← this])
        clear HT
        go_wp2
        go_ret
        exact ⟨by rw [unhide HT']; rfl, (unhide HI).1⟩
      | false =>
        have HT' : Hid (memS (l.drop (i + 1)) s = memS l s) := hide (by have := unhide HT; rw [show eqS x s = false from hx, Bool.false_or] at this; exact this)
        clear HT
        go_wp2
        exact ⟨⟨i + 1, by omega, by go_num, (unhide HI).1, unhide HT'⟩, by simp [intOf]; omega⟩
    · obtain rfl : i = l.length := by omega
      have HT' : Hid (y = false) := hide (by have := (unhide HI).2; rw [List.drop_length] at this; rw [← unhide HY, ← this]; rfl)
      have HF := hide (unhide HI).1
      clear HI H HY
      go_wp2
      go_ret
      exact ⟨by rw [unhide HT']; rfl, unhide HF⟩

theorem refHas_any (w : World) (l : Rl) (a : Option Addr) (c : Nat) (s : ByteArray) (h : SAt w a l.toks) (hl : l.toks.length ≤ 140737488355328) :
    Calls Tryz.prog 18 #[.agg (rlC l a c), .string s] w fun e w' => e = .returned (.bool (memS l.toks s)) ∧ Fr (fun _ => False) w w' := by
  have hA : Fr (fun _ => False) w (w.alloc (.cells (rlC l a c) 24)) := (Fr.refl _ _).alloc _
  have R := hide (in_any (w.alloc (.cells (rlC l a c) 24)) a c l.toks s (h.keep hA) hl)
  have HA := hide hA
  clear h hA
  unfold rlC at *
  go_enter Tryz.func18, Tryz.ntmps18
  go_wp2_with fail
  refine (unhide R).mono ?_
  rintro e w1 ⟨rfl, hF⟩
  have HF := hide ((unhide HA).trans hF (fun _ _ t => t))
  clear hF
  go_wp2
  go_ret
  exact ⟨rfl, unhide HF⟩

/-- The example's tokens. -/
def tA : ByteArray := ⟨#[97, 97, 97, 97, 97, 97, 97, 97]⟩
def tB : ByteArray := ⟨#[98, 98, 98, 98, 98, 98, 98, 98]⟩
def tC : ByteArray := ⟨#[99, 99, 99, 99, 99, 99, 99, 99]⟩
theorem ltAB : ltS tA tB = true := by unfold ltS tA tB; rw [ByteArray.toList_eq, ByteArray.toList_eq]; decide
theorem ltBC : ltS tB tC = true := by unfold ltS tB tC; rw [ByteArray.toList_eq, ByteArray.toList_eq]; decide
theorem ltAC : ltS tA tC = true := lt_tr ltAB ltBC
theorem neAB : tA ≠ tB := lt_ne ltAB
theorem neBC : tB ≠ tC := lt_ne ltBC
theorem neAC : tA ≠ tC := lt_ne ltAC
theorem risAC : Ris [tA, tC] := Ris.cons.2 ⟨by simpa using ltAC, Ris.cons.2 ⟨by simp, Ris.nil⟩⟩
theorem risBC : Ris [tB, tC] := Ris.cons.2 ⟨by simpa using ltBC, Ris.cons.2 ⟨by simp, Ris.nil⟩⟩
theorem exRise : riseL [tC, tB, tC] = [tB, tC] := (riseL_ris _).ext risBC (fun x => by rw [riseL_mem]; simp only [List.mem_cons, List.not_mem_nil, or_false]; exact ⟨fun h => h.elim Or.inr id, fun h => Or.inr h⟩)
theorem exDiff : diffR ⟨1, [tA, tC]⟩ [tC, tB, tC] = (⟨2, [tB], [tA]⟩, 0) := by
  have h1 : rightE ⟨1, [tA, tC]⟩ = 0 := rightE_iff (listOk_iff.2 ⟨by simp, by simp; exact ⟨rfl, rfl⟩, risAC⟩) (Or.inl (by decide))
  have e1 : woL [tB, tC] [tA, tC] = [tB] := (woL_ris risBC risAC).ext (Ris.cons.2 ⟨by simp, Ris.nil⟩) (fun x => by
    rw [woL_mem risBC risAC]
    simp
    constructor
    · rintro ⟨h | h, h2, h3⟩
      · exact h
      · exact absurd h h3
    · rintro rfl
      exact ⟨Or.inl rfl, neAB.symm, neBC⟩)
  have e2 : woL [tA, tC] [tB, tC] = [tA] := (woL_ris risAC risBC).ext (Ris.cons.2 ⟨by simp, Ris.nil⟩) (fun x => by
    rw [woL_mem risAC risBC]
    simp
    constructor
    · rintro ⟨h | h, h2, h3⟩
      · exact h
      · exact absurd h h3
    · rintro rfl
      exact ⟨Or.inl rfl, neAB, neAC⟩)
  rw [diffR_of h1 (by show (1 : Int) ≠ _; decide) (all_tok.2 (fun x hx => by simp only [List.mem_cons, List.not_mem_nil, or_false] at hx; rcases hx with rfl | rfl | rfl <;> rfl)) (by rw [exRise]; simp), exRise, e1, e2]
  rfl
theorem exApply : applyR ⟨1, [tA, tC]⟩ ⟨2, [tB], [tA]⟩ = (⟨2, [tB, tC]⟩, 0) := by
  have h := there (l := ⟨1, [tA, tC]⟩) (ts := [tC, tB, tC]) (by rw [exDiff])
  rw [exDiff, exRise] at h
  exact h.1

/-- A list that lies in a box. -/
theorem sat_box {w : World} {b : Nat} {cs : Array Value} {t : TypeId} (h : Bx w b cs t) (l : List ByteArray) (hl : cs = (l.map Value.string).toArray) : SAt w (some ⟨b, 0, none⟩) l := fun _ => by
  subst hl
  refine ⟨b, 0, rfl, fun j hj => ?_⟩
  rw [h.cell, Nat.zero_add, getD_eq hj]
  simp [hj]

/-- The example's world. -/
def exW (w : World) : World := ((((w.alloc (.cells #[.string tA, .string tC] 9)).alloc (.cells #[.int .i64 1, .slice (some ⟨w.heap.size, 0, none⟩) 2 2] 24)).alloc (.cells #[.string tB] 9)).alloc (.cells #[.string tA] 9)).alloc (.cells #[.int .i64 2, .slice (some ⟨w.heap.size + 1 + 1, 0, none⟩) 1 1, .slice (some ⟨w.heap.size + 1 + 1 + 1, 0, none⟩) 1 1] 26)
theorem exW_fr (w : World) : Fr (fun _ => False) w (exW w) := (((((Fr.refl _ _).alloc _).alloc _).alloc _).alloc _).alloc _
theorem exW_1 (w : World) : Bx (exW w) w.heap.size #[.string tA, .string tC] 9 := ((((Bx.new _ _ _).alloc _).alloc _).alloc _).alloc _
theorem exW_2 (w : World) : Bx (exW w) (w.heap.size + 1) #[.int .i64 1, .slice (some ⟨w.heap.size, 0, none⟩) 2 2] 24 := by
  have h := (((Bx.new (w.alloc (.cells #[.string tA, .string tC] 9)) #[.int .i64 1, .slice (some ⟨w.heap.size, 0, none⟩) 2 2] 24).alloc (.cells #[.string tB] 9)).alloc (.cells #[.string tA] 9)).alloc (.cells #[.int .i64 2, .slice (some ⟨w.heap.size + 1 + 1, 0, none⟩) 1 1, .slice (some ⟨w.heap.size + 1 + 1 + 1, 0, none⟩) 1 1] 26)
  rw [heap_alloc] at h
  exact h
theorem exW_3 (w : World) : Bx (exW w) (w.heap.size + 1 + 1) #[.string tB] 9 := by
  have h := ((Bx.new ((w.alloc (.cells #[.string tA, .string tC] 9)).alloc (.cells #[.int .i64 1, .slice (some ⟨w.heap.size, 0, none⟩) 2 2] 24)) #[.string tB] 9).alloc (.cells #[.string tA] 9)).alloc (.cells #[.int .i64 2, .slice (some ⟨w.heap.size + 1 + 1, 0, none⟩) 1 1, .slice (some ⟨w.heap.size + 1 + 1 + 1, 0, none⟩) 1 1] 26)
  rw [heap_alloc, heap_alloc] at h
  exact h
theorem exW_4 (w : World) : Bx (exW w) (w.heap.size + 1 + 1 + 1) #[.string tA] 9 := by
  have h := (Bx.new (((w.alloc (.cells #[.string tA, .string tC] 9)).alloc (.cells #[.int .i64 1, .slice (some ⟨w.heap.size, 0, none⟩) 2 2] 24)).alloc (.cells #[.string tB] 9)) #[.string tA] 9).alloc (.cells #[.int .i64 2, .slice (some ⟨w.heap.size + 1 + 1, 0, none⟩) 1 1, .slice (some ⟨w.heap.size + 1 + 1 + 1, 0, none⟩) 1 1] 26)
  rw [heap_alloc, heap_alloc, heap_alloc] at h
  exact h
theorem exW_5 (w : World) : Bx (exW w) (w.heap.size + 1 + 1 + 1 + 1) #[.int .i64 2, .slice (some ⟨w.heap.size + 1 + 1, 0, none⟩) 1 1, .slice (some ⟨w.heap.size + 1 + 1 + 1, 0, none⟩) 1 1] 26 := by
  have h := Bx.new ((((w.alloc (.cells #[.string tA, .string tC] 9)).alloc (.cells #[.int .i64 1, .slice (some ⟨w.heap.size, 0, none⟩) 2 2] 24)).alloc (.cells #[.string tB] 9)).alloc (.cells #[.string tA] 9)) #[.int .i64 2, .slice (some ⟨w.heap.size + 1 + 1, 0, none⟩) 1 1, .slice (some ⟨w.heap.size + 1 + 1 + 1, 0, none⟩) 1 1] 26
  rw [heap_alloc, heap_alloc, heap_alloc, heap_alloc] at h
  exact h

set_option maxHeartbeats 4000000 in
set_option maxRecDepth 20000 in
theorem awake13_any (w : World) : Calls Tryz.prog 6 #[] w fun e w' => e = .returned (.bool true) ∧ Fr (fun _ => False) w w' := by
  obtain ⟨B, HB⟩ : ∃ B, Hid (w.heap.size = B) := ⟨_, rfl⟩
  have HW : Hid (∀ w', Fr (fun _ => False) (exW w) w' → Fr (fun _ => False) w w' ∧ RIn w' ⟨1, [tA, tC]⟩ (some ⟨B, 0, none⟩) 2 ∧ DI w' ⟨2, [tB], [tA]⟩ (some ⟨B + 1 + 1, 0, none⟩) 1 (some ⟨B + 1 + 1 + 1, 0, none⟩) 1 ∧ Bx w' (B + 1) #[.int .i64 1, .slice (some ⟨B, 0, none⟩) 2 2] 24 ∧ Bx w' (B + 1 + 1 + 1 + 1) #[.int .i64 2, .slice (some ⟨B + 1 + 1, 0, none⟩) 1 1, .slice (some ⟨B + 1 + 1 + 1, 0, none⟩) 1 1] 26) := hide (fun w' hf => by
    rw [← unhide HB]
    exact ⟨(exW_fr w).trans hf (fun _ _ t => t), ⟨sat_box ((exW_1 w).keep hf) _ rfl, by simp, by simp, by show (1 : Int) ≤ _; omega⟩, ⟨sat_box ((exW_3 w).keep hf) _ rfl, sat_box ((exW_4 w).keep hf) _ rfl, by simp, by simp, by show (2 : Int) ≤ _; omega, by simp, by simp⟩, (exW_2 w).keep hf, (exW_5 w).keep hf⟩)
  have R0 := apply_any (exW w) ⟨1, [tA, tC]⟩ (some ⟨B, 0, none⟩) 2 (unhide HW _ (Fr.refl _ _)).2.1 ⟨2, [tB], [tA]⟩ (some ⟨B + 1 + 1, 0, none⟩) 1 (some ⟨B + 1 + 1 + 1, 0, none⟩) 1 (unhide HW _ (Fr.refl _ _)).2.2.1
  rw [exApply] at R0
  have R0 : Hid (Calls Tryz.prog 11 #[.agg #[.int .i64 1, .slice (some ⟨B, 0, none⟩) 2 2], .agg #[.int .i64 2, .slice (some ⟨B + 1 + 1, 0, none⟩) 1 1, .slice (some ⟨B + 1 + 1 + 1, 0, none⟩) 1 1]] (exW w) fun e w' => ∃ ao cap g, e = .returned (.tuple #[.agg #[.int .i64 2, .slice ao 2 cap], .int .i64 0]) ∧ LO (exW w) w' ao cap g [tB, tC] ∧ Fr (fun _ => False) (exW w) w') := hide R0
  go_enter Tryz.func6, Tryz.ntmps6
  go_wp2_with fail
  have R1 := unhide R0
  rw [← unhide HB] at R1
  refine Calls.mono (show Calls _ _ _ (exW w) _ from R1) ?_
  clear R1 R0
  rintro e w1 ⟨ao, cap, g, rfl, hL, hF⟩
  rw [unhide HB]
  obtain ⟨M, HM⟩ : ∃ M, Hid (w1.heap.size = M) := ⟨_, rfl⟩
  have hF1 : Fr (fun _ => False) w1 ((w1.alloc (.cells #[.int .i64 2, .slice ao 2 cap] 24)).alloc (.cells #[.string tC, .string tB, .string tC] 9)) := ((Fr.refl _ _).alloc _).alloc _
  have m1 : Bx ((w1.alloc (.cells #[.int .i64 2, .slice ao 2 cap] 24)).alloc (.cells #[.string tC, .string tB, .string tC] 9)) M #[.int .i64 2, .slice ao 2 cap] 24 := by rw [← unhide HM]; exact (Bx.new _ _ _).alloc _
  have m2 := Bx.new (w1.alloc (.cells #[.int .i64 2, .slice ao 2 cap] 24)) #[.string tC, .string tB, .string tC] 9
  rw [heap_alloc, unhide HM] at m2
  have HX1 := hide (And.intro (hF.trans hF1 (fun _ _ t => t)) (And.intro m1 (And.intro m2 (hL.sat.keep hF1))))
  have x0 : (w1.alloc (.cells #[.int .i64 2, .slice ao 2 cap] 24)).cell? ⟨B + 1, 0, none⟩ = some (.int .i64 1) := (unhide HW _ (hF.alloc _)).2.2.2.1.cell 0
  have x1 : (w1.alloc (.cells #[.int .i64 2, .slice ao 2 cap] 24)).cell? ⟨B + 1, 1, none⟩ = some (.slice (some ⟨B, 0, none⟩) 2 2) := (unhide HW _ (hF.alloc _)).2.2.2.1.cell 1
  clear hF hF1 m1 m2 hL
  have R1 := diff_any _ ⟨1, [tA, tC]⟩ (some ⟨B, 0, none⟩) 2 (unhide HW _ (unhide HX1).1).2.1 [tC, tB, tC] (some ⟨M + 1, 0, none⟩) 3 (sat_box (unhide HX1).2.2.1 _ rfl) (by simp)
  rw [exDiff] at R1
  have R1 : Hid (Calls Tryz.prog 19 #[.agg #[.int .i64 1, .slice (some ⟨B, 0, none⟩) 2 2], .slice (some ⟨M + 1, 0, none⟩) 3 3] ((w1.alloc (.cells #[.int .i64 2, .slice ao 2 cap] 24)).alloc (.cells #[.string tC, .string tB, .string tC] 9)) fun e w' => ∃ a1 c1 g1 a2 c2 g2, e = .returned (.tuple #[.agg #[.int .i64 2, .slice a1 1 c1, .slice a2 1 c2], .int .i64 0]) ∧ DO ((w1.alloc (.cells #[.int .i64 2, .slice ao 2 cap] 24)).alloc (.cells #[.string tC, .string tB, .string tC] 9)) w' ⟨2, [tB], [tA]⟩ a1 c1 g1 a2 c2 g2 ∧ Fr (fun _ => False) ((w1.alloc (.cells #[.int .i64 2, .slice ao 2 cap] 24)).alloc (.cells #[.string tC, .string tB, .string tC] 9)) w') := hide R1
  go_wp2_with fail
  rw [unhide HM]
  refine Calls.mono (unhide R1) ?_
  clear x0 x1 R1
  rintro e w2 ⟨a1, c1, g1, a2, c2, g2, rfl, hD, hF⟩
  obtain ⟨N, HN⟩ : ∃ N, Hid (w2.heap.size = N) := ⟨_, rfl⟩
  have hF2 : Fr (fun _ => False) w2 (w2.alloc (.cells #[.int .i64 2, .slice a1 1 c1, .slice a2 1 c2] 26)) := (Fr.refl _ _).alloc _
  have HX2 : Hid (Fr (fun _ => False) (exW w) (w2.alloc (.cells #[.int .i64 2, .slice a1 1 c1, .slice a2 1 c2] 26)) ∧ Bx (w2.alloc (.cells #[.int .i64 2, .slice a1 1 c1, .slice a2 1 c2] 26)) M #[.int .i64 2, .slice ao 2 cap] 24 ∧ SAt (w2.alloc (.cells #[.int .i64 2, .slice a1 1 c1, .slice a2 1 c2] 26)) ao [tB, tC] ∧ SAt (w2.alloc (.cells #[.int .i64 2, .slice a1 1 c1, .slice a2 1 c2] 26)) a1 [tB] ∧ SAt (w2.alloc (.cells #[.int .i64 2, .slice a1 1 c1, .slice a2 1 c2] 26)) a2 [tA]) := hide (by
    obtain ⟨k0, k1, k2, k3⟩ := unhide HX1
    have hFF := hF.trans hF2 (fun _ _ t => t)
    exact ⟨k0.trans hFF (fun _ _ t => t), k1.keep hFF, k3.keep hFF, hD.add.sat.keep hF2, hD.gone.sat.keep hF2⟩)
  clear hF hF2 hD HX1
  have x0 : (w2.alloc (.cells #[.int .i64 2, .slice a1 1 c1, .slice a2 1 c2] 26)).cell? ⟨B + 1 + 1 + 1 + 1, 0, none⟩ = some (.int .i64 2) := (unhide HW _ (unhide HX2).1).2.2.2.2.cell 0
  have x1 : (w2.alloc (.cells #[.int .i64 2, .slice a1 1 c1, .slice a2 1 c2] 26)).cell? ⟨B + 1 + 1 + 1 + 1, 1, none⟩ = some (.slice (some ⟨B + 1 + 1, 0, none⟩) 1 1) := (unhide HW _ (unhide HX2).1).2.2.2.2.cell 1
  have x2 : (w2.alloc (.cells #[.int .i64 2, .slice a1 1 c1, .slice a2 1 c2] 26)).cell? ⟨B + 1 + 1 + 1 + 1, 2, none⟩ = some (.slice (some ⟨B + 1 + 1 + 1, 0, none⟩) 1 1) := (unhide HW _ (unhide HX2).1).2.2.2.2.cell 2
  have RD := hide (sameD_is _ ⟨2, [tB], [tA]⟩ a1 c1 a2 c2 (some ⟨B + 1 + 1, 0, none⟩) 1 (some ⟨B + 1 + 1 + 1, 0, none⟩) 1 (unhide HX2).2.2.2.1 (unhide HX2).2.2.2.2 (unhide HW _ (unhide HX2).1).2.2.1.add (unhide HW _ (unhide HX2).1).2.2.1.gone (by simp) (by simp))
  go_wp2_with fail
  refine Calls.mono (unhide RD) ?_
  clear x0 x1 x2 RD
  rintro e w3 ⟨rfl, hF⟩
  have HX3 : Hid (Fr (fun _ => False) (exW w) w3 ∧ Bx w3 M #[.int .i64 2, .slice ao 2 cap] 24 ∧ SAt w3 ao [tB, tC]) := hide ⟨(unhide HX2).1.trans hF (fun _ _ t => t), (unhide HX2).2.1.keep hF, (unhide HX2).2.2.1.keep hF⟩
  clear hF HX2
  have x0 : w3.cell? ⟨M, 0, none⟩ = some (.int .i64 2) := (unhide HX3).2.1.cell 0
  have x1 : w3.cell? ⟨M, 1, none⟩ = some (.slice ao 2 cap) := (unhide HX3).2.1.cell 1
  have RH := hide (has_any w3 ⟨2, [tB, tC]⟩ ao cap tB (unhide HX3).2.2 (by simp))
  go_wp2_with fail
  refine Calls.mono (unhide RH) ?_
  clear x0 x1 RH
  rintro e w4 ⟨rfl, hF⟩
  have x0 : w4.cell? ⟨M, 0, none⟩ = some (.int .i64 2) := ((unhide HX3).2.1.keep hF).cell 0
  have x1 : w4.cell? ⟨M, 1, none⟩ = some (.slice ao 2 cap) := ((unhide HX3).2.1.keep hF).cell 1
  have HF := hide (unhide HW _ ((unhide HX3).1.trans hF (fun _ _ t => t))).1
  have hm : memS [tB, tC] tB = true := memS_mem.2 (List.mem_cons_self ..)
  simp only [hm]
  clear hF hm HX3 HW
  go_wp2
  go_ret
  exact ⟨by first | rfl | simp, unhide HF⟩

end Go.Proofs.YtmhljehkodhggaaGreat

