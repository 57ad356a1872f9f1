import Derived.Test.YtlhgfnpialndaaaN2
/- Records of a fixed number of pieces, read and written. -/
namespace Go.Proofs.Ytlhgfnpialndaaa
open Go.RowKit

theorem ptrs1 (w : World) (b o : Nat) (T : TypeId) : Ptrs (w.alloc (.cells #[.pointer (some ⟨b, o, none⟩)] T)) w.heap.size b o 1 := fun j hj => by
  obtain rfl : j = 0 := by omega
  simp
theorem ptrs2 (w : World) (b o : Nat) (T : TypeId) : Ptrs (w.alloc (.cells #[.pointer (some ⟨b, o, none⟩), .pointer (some ⟨b, o + 1, none⟩)] T)) w.heap.size b o 2 := fun j hj => by
  match j, hj with
  | 0, _ => simp
  | 1, _ => simp
theorem ptrs3 (w : World) (b o : Nat) (T : TypeId) : Ptrs (w.alloc (.cells #[.pointer (some ⟨b, o, none⟩), .pointer (some ⟨b, o + 1, none⟩), .pointer (some ⟨b, o + 2, none⟩)] T)) w.heap.size b o 3 := fun j hj => by
  match j, hj with
  | 0, _ => simp
  | 1, _ => simp
  | 2, _ => simp
theorem ptrs4 (w : World) (b o : Nat) (T : TypeId) : Ptrs (w.alloc (.cells #[.pointer (some ⟨b, o, none⟩), .pointer (some ⟨b, o + 1, none⟩), .pointer (some ⟨b, o + 2, none⟩), .pointer (some ⟨b, o + 3, none⟩)] T)) w.heap.size b o 4 := fun j hj => by
  match j, hj with
  | 0, _ => simp
  | 1, _ => simp
  | 2, _ => simp
  | 3, _ => simp

/-- The pieces of tap. -/
abbrev tapK : List Kd := [.num 2, .num 4, .fix 8, .num 1, .num 2, .num 4]

/-- The pieces of entry. -/
abbrev entryK : List Kd := [.num 4, .fix 8, .int, .bool]

/-- The pieces of account. -/
abbrev accountK : List Kd := [.fix 8, .num 8, .num 8]

theorem account_r {w : World} {p g b : Nat} {bs : List UInt8} {s : RS} {t : TypeId} (x0 x1 x2 : Value) (h : RB w p g b bs s #[x0, x1, x2] t) :
    Calls Try.prog 40 #[walkR p, .pointer (some ⟨b, 0, none⟩)] w (RDone p g b bs (rdL bs accountK s).2 (rdL bs accountK s).1.toArray t w) := by
  have H := hide h
  have hp := h.plt
  have hb := h.x.lt
  have hbp := h.np
  clear h
  go_enter Try.func40, Try.ntmps40
  go_wp2_with fail
  have HX0 : Hid (Bx (w.alloc (.cells #[.pointer none, .pointer (some ⟨p, 0, none⟩)] 82)) w.heap.size #[.pointer none, .pointer (some ⟨p, 0, none⟩)] 82) := hide (Bx.new _ _ _)
  have HB0 := hide ((unhide H).alloc (.cells #[.pointer none, .pointer (some ⟨p, 0, none⟩)] 82))
  have HF0 : Hid (Fr (fun k => k = p ∨ k = b) w (w.alloc (.cells #[.pointer none, .pointer (some ⟨p, 0, none⟩)] 82))) := hide ((Fr.refl _ _).alloc _)
  obtain ⟨N, HN⟩ : ∃ N, Hid (w.heap.size = N) := ⟨_, rfl⟩
  have hNp : N ≠ p := by have := unhide HN; omega
  have hNb : N ≠ b := by have := unhide HN; omega
  rw [unhide HN] at HX0 ⊢
  generalize w.alloc (.cells #[.pointer none, .pointer (some ⟨p, 0, none⟩)] 82) = w0 at *
  have m0 : w0.cell? ⟨N, 0, none⟩ = some (.pointer none) := (unhide HX0).cell 0
  have m1 : w0.cell? ⟨N, 1, none⟩ = some (.pointer (some ⟨p, 0, none⟩)) := (unhide HX0).cell 1
  have HC0 := hide (token_r (unhide HB0).drew 0 (by first | (simp; done) | simp [putAt_size]))
  go_region_held3 (fun w' => w'.cell? ⟨N, 0, none⟩ = some (.pointer none) ∧ w'.cell? ⟨N, 1, none⟩ = some (.pointer (some ⟨p, 0, none⟩))) (go_keep)
    ((go_at_call 47; refine (unhide HC0).mono ?_; rintro e w1 ⟨rfl, hB1, hF1⟩; have hx1 : Fr (fun k => k = p ∨ k = b) w0 w1 := Fr.trans (((Fr.refl (fun _ => False) w0).drew).mono (fun _ _ t => t.elim)) hF1 (fun _ _ t => t); have k0 : w1.cell? ⟨N, 0, none⟩ = some (.pointer none) := ((unhide HX0).frame hx1 (by omega)).cell 0; have k1 : w1.cell? ⟨N, 1, none⟩ = some (.pointer (some ⟨p, 0, none⟩)) := ((unhide HX0).frame hx1 (by omega)).cell 1; have HX1 := hide ((unhide HX0).frame hx1 (by omega)); have HF1 : Hid (Fr (fun k => k = p ∨ k = b) w w1) := hide ((unhide HF0).trans hx1 (fun _ _ t => t)); have HB1 := hide hB1; clear hB1 hF1 hx1))
  clear HC0 HX0 HF0 HB0 m0 m1
  have m0 : w1.cell? ⟨N, 0, none⟩ = some (.pointer none) := (unhide HX1).cell 0
  have m1 : w1.cell? ⟨N, 1, none⟩ = some (.pointer (some ⟨p, 0, none⟩)) := (unhide HX1).cell 1
  go_wp2_with fail
  have HC1 := hide (numbers_r ((unhide HB1).drew.alloc (.cells #[.pointer (some ⟨b, 1, none⟩), .pointer (some ⟨b, 2, none⟩)] 91)) w1.heap.size 1 2 8 (ptrs2 w1.drew b 1 _) (by have := (unhide HB1).plt; omega) (by have := (unhide HB1).x.lt; omega) (by first | (simp; done) | simp [putAt_size]) (by omega))
  go_region_held3 (fun w' => w'.cell? ⟨N, 0, none⟩ = some (.pointer none) ∧ w'.cell? ⟨N, 1, none⟩ = some (.pointer (some ⟨p, 0, none⟩))) (go_keep)
    ((go_at_call 48; refine (unhide HC1).mono ?_; rintro e w2 ⟨rfl, hB2, hF2⟩; have hx2 : Fr (fun k => k = p ∨ k = b) w1 w2 := Fr.trans ((((Fr.refl (fun _ => False) w1).drew).alloc _).mono (fun _ _ t => t.elim)) hF2 (fun _ _ t => t); have k0 : w2.cell? ⟨N, 0, none⟩ = some (.pointer none) := ((unhide HX1).frame hx2 (by omega)).cell 0; have k1 : w2.cell? ⟨N, 1, none⟩ = some (.pointer (some ⟨p, 0, none⟩)) := ((unhide HX1).frame hx2 (by omega)).cell 1; have HX2 := hide ((unhide HX1).frame hx2 (by omega)); have HF2 : Hid (Fr (fun k => k = p ∨ k = b) w w2) := hide ((unhide HF1).trans hx2 (fun _ _ t => t)); have HB2 := hide hB2; clear hB2 hF2 hx2))
  clear HC1 HX1 HF1 HB1 m0 m1
  have m0 : w2.cell? ⟨N, 0, none⟩ = some (.pointer none) := (unhide HX2).cell 0
  have m1 : w2.cell? ⟨N, 1, none⟩ = some (.pointer (some ⟨p, 0, none⟩)) := (unhide HX2).cell 1
  go_wp2
  go_end0
  refine ⟨rfl, ?_, unhide HF2⟩
  have h := unhide HB2
  simpa [accountK, rdL, putAt] using h

theorem account_w {w : World} {p g b : Nat} {st : Option (List UInt8)} {t : TypeId} (x0 : ByteArray) (x1 : Int) (x2 : Int) (h : WB w p g b st #[.string x0, .int .i64 x1, .int .i64 x2] t) (h1 : x1 ≤ 9223372036854775807) (h2 : x2 ≤ 9223372036854775807) (L : Nat) (hL : Most st L) (hfit : L + 66200 ≤ 140737488355328) :
    Calls Try.prog 40 #[walkW p, .pointer (some ⟨b, 0, none⟩)] w (WDone p g (stepW st (wrL accountK [.string x0, .int .i64 x1, .int .i64 x2])) w) := by
  have H := hide h
  have hp := h.plt
  have hb := h.x.lt
  have hbp := h.np
  have hgl := h.gl
  have HL := hide hL
  have HT := hide hfit
  have J1 := hide h1
  have J2 := hide h2
  clear h hL hfit h1 h2
  go_enter Try.func40, Try.ntmps40
  go_wp2_with fail
  have HX0 : Hid (Bx (w.alloc (.cells #[.pointer (some ⟨p, 0, none⟩), .pointer none] 82)) w.heap.size #[.pointer (some ⟨p, 0, none⟩), .pointer none] 82) := hide (Bx.new _ _ _)
  have HB0 := hide ((unhide H).alloc (.cells #[.pointer (some ⟨p, 0, none⟩), .pointer none] 82))
  have HF0 : Hid (Fr (fun k => k = p ∨ k = g) w (w.alloc (.cells #[.pointer (some ⟨p, 0, none⟩), .pointer none] 82)) ∧ (g = g ∨ w.heap.size ≤ g)) := hide ⟨(Fr.refl _ _).alloc _, Or.inl rfl⟩
  obtain ⟨N, HN⟩ : ∃ N, Hid (w.heap.size = N) := ⟨_, rfl⟩
  have hNp : N ≠ p := by have := unhide HN; omega
  have hN0 : N ≠ g := by have := unhide HN; omega
  rw [unhide HN] at HX0 ⊢
  generalize w.alloc (.cells #[.pointer (some ⟨p, 0, none⟩), .pointer none] 82) = w0 at *
  have m0 : w0.cell? ⟨N, 0, none⟩ = some (.pointer (some ⟨p, 0, none⟩)) := (unhide HX0).cell 0
  have m1 : w0.cell? ⟨N, 1, none⟩ = some (.pointer none) := (unhide HX0).cell 1
  have HM0 := hide (unhide HL)
  have HC0 := hide (token_w (unhide HB0).drew 0 x0 rfl (L + 0) (unhide HM0) (by have := unhide HT; omega))
  go_region_held3 (fun w' => w'.cell? ⟨N, 0, none⟩ = some (.pointer (some ⟨p, 0, none⟩)) ∧ w'.cell? ⟨N, 1, none⟩ = some (.pointer none)) (go_keep)
    ((go_at_call 47; refine (unhide HC0).mono ?_; rintro e w1 ⟨rfl, hP⟩; obtain ⟨g1, hB, hg, hF⟩ := (unhide HB0).next (WP.later ((Fr.refl (fun _ => False) w0).drew) hP); have hN1 : N ≠ g1 := (by have := (unhide HX0).lt; omega); have k0 : w1.cell? ⟨N, 0, none⟩ = some (.pointer (some ⟨p, 0, none⟩)) := ((unhide HX0).frame hF (by omega)).cell 0; have k1 : w1.cell? ⟨N, 1, none⟩ = some (.pointer none) := ((unhide HX0).frame hF (by omega)).cell 1; have HX1 := hide ((unhide HX0).frame hF (by omega)); have HF1 : Hid (Fr (fun k => k = p ∨ k = g) w w1 ∧ (g1 = g ∨ w.heap.size ≤ g1)) := hide (by obtain ⟨q1, q2⟩ := unhide HF0; have := q1.size; exact ⟨q1.trans hF (fun _ _ t => by omega), by omega⟩); have HB1 := hide hB; have HM1 := hide ((unhide HM0).step (Most.kd (Kd.fix 8) (.string x0))); clear hB hF hg hP))
  clear HC0 HX0 HF0 HB0 m0 m1
  have m0 : w1.cell? ⟨N, 0, none⟩ = some (.pointer (some ⟨p, 0, none⟩)) := (unhide HX1).cell 0
  have m1 : w1.cell? ⟨N, 1, none⟩ = some (.pointer none) := (unhide HX1).cell 1
  go_wp2_with fail
  have HC1 := hide (numbers_w ((unhide HB1).drew.alloc (.cells #[.pointer (some ⟨b, 1, none⟩), .pointer (some ⟨b, 2, none⟩)] 91)) w1.heap.size 1 2 8 (ptrs2 w1.drew b 1 _) (by have := (unhide HB1).plt; omega) (by have := (unhide HB1).gl; omega) [x1, x2] rfl (fun j hj => by match j, hj with | 0, _ => rfl | 1, _ => rfl) (fun x hx => by simp only [List.mem_cons, List.not_mem_nil, or_false] at hx; rcases hx with rfl | rfl; exact unhide J1; exact unhide J2) (L + 8) (unhide HM1) (by have := unhide HT; omega) (by omega) (by omega))
  go_region_held3 (fun w' => w'.cell? ⟨N, 0, none⟩ = some (.pointer (some ⟨p, 0, none⟩)) ∧ w'.cell? ⟨N, 1, none⟩ = some (.pointer none)) (go_keep)
    ((go_at_call 48; refine (unhide HC1).mono ?_; rintro e w2 ⟨rfl, hP⟩; obtain ⟨g2, hB, hg, hF⟩ := (unhide HB1).next (WP.later (((Fr.refl (fun _ => False) w1).drew).alloc _) hP); have hN2 : N ≠ g2 := (by have := (unhide HX1).lt; omega); have k0 : w2.cell? ⟨N, 0, none⟩ = some (.pointer (some ⟨p, 0, none⟩)) := ((unhide HX1).frame hF (by omega)).cell 0; have k1 : w2.cell? ⟨N, 1, none⟩ = some (.pointer none) := ((unhide HX1).frame hF (by omega)).cell 1; have HX2 := hide ((unhide HX1).frame hF (by omega)); have HF2 : Hid (Fr (fun k => k = p ∨ k = g) w w2 ∧ (g2 = g ∨ w.heap.size ≤ g2)) := hide (by obtain ⟨q1, q2⟩ := unhide HF1; have := q1.size; exact ⟨q1.trans hF (fun _ _ t => by omega), by omega⟩); have HB2 := hide hB; have HM2 := hide ((unhide HM1).step (Most.wr (List.replicate 2 (.num 8)) ([x1, x2].map (Value.int .i64)))); clear hB hF hg hP))
  clear HC1 HX1 HF1 HB1 m0 m1
  have m0 : w2.cell? ⟨N, 0, none⟩ = some (.pointer (some ⟨p, 0, none⟩)) := (unhide HX2).cell 0
  have m1 : w2.cell? ⟨N, 1, none⟩ = some (.pointer none) := (unhide HX2).cell 1
  go_wp2
  go_end0
  have hB := unhide HB2
  refine ⟨rfl, g2, ?_, hB.gl, (unhide HF2).2, (unhide HF2).1⟩
  have h := hB.s
  simpa only [accountK, wrL, List.replicate, List.map, stepW_assoc, stepW_nil] using h

/-- The pieces of outage. -/
abbrev outageK : List Kd := [.num 2, .num 4, .num 4]

/-- The pieces of station. -/
abbrev stationK : List Kd := [.num 2, .num 1, .num 2]

/-- The pieces of span. -/
abbrev spanK : List Kd := [.num 1, .num 1, .num 4, .num 4, .num 4]

/-- The pieces of band. -/
abbrev bandK : List Kd := [.num 2, .num 2]

end Go.Proofs.Ytlhgfnpialndaaa

