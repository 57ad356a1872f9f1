import Derived.Test.YtmgejkenpfihmaaGreatN2
/- Records of a fixed number of pieces, read and written. -/
namespace Go.Proofs.YtmgejkenpfihmaaGreat
open Go.RowKit

theorem ptrs1 (w : World) (b o : Nat) (T : TypeId) : Ptrs (w.alloc (.cells #[.pointer (some ⟨b, o, none⟩)] T)) w.heap.size b o 1 := fun j hj => by
  obtain rfl : j = 0 := by omega
  simp
theorem ptrs2 (w : World) (b o : Nat) (T : TypeId) : Ptrs (w.alloc (.cells #[.pointer (some ⟨b, o, none⟩), .pointer (some ⟨b, o + 1, none⟩)] T)) w.heap.size b o 2 := fun j hj => by
  match j, hj with
  | 0, _ => simp
  | 1, _ => simp
theorem ptrs3 (w : World) (b o : Nat) (T : TypeId) : Ptrs (w.alloc (.cells #[.pointer (some ⟨b, o, none⟩), .pointer (some ⟨b, o + 1, none⟩), .pointer (some ⟨b, o + 2, none⟩)] T)) w.heap.size b o 3 := fun j hj => by
  match j, hj with
  | 0, _ => simp
  | 1, _ => simp
  | 2, _ => simp
theorem ptrs4 (w : World) (b o : Nat) (T : TypeId) : Ptrs (w.alloc (.cells #[.pointer (some ⟨b, o, none⟩), .pointer (some ⟨b, o + 1, none⟩), .pointer (some ⟨b, o + 2, none⟩), .pointer (some ⟨b, o + 3, none⟩)] T)) w.heap.size b o 4 := fun j hj => by
  match j, hj with
  | 0, _ => simp
  | 1, _ => simp
  | 2, _ => simp
  | 3, _ => simp

/-- The pieces of tap. -/
abbrev tapK : List Kd := [.num 2, .num 4, .fix 8, .num 1, .num 2, .num 4]

theorem tap_r {w : World} {p g b : Nat} {bs : List UInt8} {s : RS} {t : TypeId} (x0 x1 x2 x3 x4 x5 : Value) (h : RB w p g b bs s #[x0, x1, x2, x3, x4, x5] t) :
    Calls Tryz.prog 70 #[walkR p, .pointer (some ⟨b, 0, none⟩)] w (RDone p g b bs (rdL bs tapK s).2 (rdL bs tapK s).1.toArray t w) := by
  have H := hide h
  have hp := h.plt
  have hb := h.x.lt
  have hbp := h.np
  clear h
  go_enter Tryz.func70, Tryz.ntmps70
  go_wp2_with fail
  have HX0 : Hid (Bx (w.alloc (.cells #[.pointer none, .pointer (some ⟨p, 0, none⟩)] 111)) w.heap.size #[.pointer none, .pointer (some ⟨p, 0, none⟩)] 111) := hide (Bx.new _ _ _)
  have HB0 := hide ((unhide H).alloc (.cells #[.pointer none, .pointer (some ⟨p, 0, none⟩)] 111))
  have HF0 : Hid (Fr (fun k => k = p ∨ k = b) w (w.alloc (.cells #[.pointer none, .pointer (some ⟨p, 0, none⟩)] 111))) := hide ((Fr.refl _ _).alloc _)
  obtain ⟨N, HN⟩ : ∃ N, Hid (w.heap.size = N) := ⟨_, rfl⟩
  have hNp : N ≠ p := by have := unhide HN; omega
  have hNb : N ≠ b := by have := unhide HN; omega
  rw [unhide HN] at HX0 ⊢
  generalize w.alloc (.cells #[.pointer none, .pointer (some ⟨p, 0, none⟩)] 111) = w0 at *
  have m0 : w0.cell? ⟨N, 0, none⟩ = some (.pointer none) := (unhide HX0).cell 0
  have m1 : w0.cell? ⟨N, 1, none⟩ = some (.pointer (some ⟨p, 0, none⟩)) := (unhide HX0).cell 1
  have HC0 := hide (numbers_r ((unhide HB0).drew.alloc (.cells #[.pointer (some ⟨b, 0, none⟩)] 132)) w0.heap.size 0 1 2 (ptrs1 w0.drew b 0 _) (by have := (unhide HB0).plt; omega) (by have := (unhide HB0).x.lt; omega) (by first | (simp; done) | simp [putAt_size]) (by omega))
  go_region_held3 (fun w' => w'.cell? ⟨N, 0, none⟩ = some (.pointer none) ∧ w'.cell? ⟨N, 1, none⟩ = some (.pointer (some ⟨p, 0, none⟩))) (go_keep)
    ((go_at_call 96; refine (unhide HC0).mono ?_; rintro e w1 ⟨rfl, hB1, hF1⟩; have hx1 : Fr (fun k => k = p ∨ k = b) w0 w1 := Fr.trans ((((Fr.refl (fun _ => False) w0).drew).alloc _).mono (fun _ _ t => t.elim)) hF1 (fun _ _ t => t); have k0 : w1.cell? ⟨N, 0, none⟩ = some (.pointer none) := ((unhide HX0).frame hx1 (by omega)).cell 0; have k1 : w1.cell? ⟨N, 1, none⟩ = some (.pointer (some ⟨p, 0, none⟩)) := ((unhide HX0).frame hx1 (by omega)).cell 1; have HX1 := hide ((unhide HX0).frame hx1 (by omega)); have HF1 : Hid (Fr (fun k => k = p ∨ k = b) w w1) := hide ((unhide HF0).trans hx1 (fun _ _ t => t)); have HB1 := hide hB1; clear hB1 hF1 hx1))
  clear HC0 HX0 HF0 HB0 m0 m1
  have m0 : w1.cell? ⟨N, 0, none⟩ = some (.pointer none) := (unhide HX1).cell 0
  have m1 : w1.cell? ⟨N, 1, none⟩ = some (.pointer (some ⟨p, 0, none⟩)) := (unhide HX1).cell 1
  go_wp2_with fail
  have HC1 := hide (numbers_r ((unhide HB1).drew.alloc (.cells #[.pointer (some ⟨b, 1, none⟩)] 132)) w1.heap.size 1 1 4 (ptrs1 w1.drew b 1 _) (by have := (unhide HB1).plt; omega) (by have := (unhide HB1).x.lt; omega) (by first | (simp; done) | simp [putAt_size]) (by omega))
  go_region_held3 (fun w' => w'.cell? ⟨N, 0, none⟩ = some (.pointer none) ∧ w'.cell? ⟨N, 1, none⟩ = some (.pointer (some ⟨p, 0, none⟩))) (go_keep)
    ((go_at_call 96; refine (unhide HC1).mono ?_; rintro e w2 ⟨rfl, hB2, hF2⟩; have hx2 : Fr (fun k => k = p ∨ k = b) w1 w2 := Fr.trans ((((Fr.refl (fun _ => False) w1).drew).alloc _).mono (fun _ _ t => t.elim)) hF2 (fun _ _ t => t); have k0 : w2.cell? ⟨N, 0, none⟩ = some (.pointer none) := ((unhide HX1).frame hx2 (by omega)).cell 0; have k1 : w2.cell? ⟨N, 1, none⟩ = some (.pointer (some ⟨p, 0, none⟩)) := ((unhide HX1).frame hx2 (by omega)).cell 1; have HX2 := hide ((unhide HX1).frame hx2 (by omega)); have HF2 : Hid (Fr (fun k => k = p ∨ k = b) w w2) := hide ((unhide HF1).trans hx2 (fun _ _ t => t)); have HB2 := hide hB2; clear hB2 hF2 hx2))
  clear HC1 HX1 HF1 HB1 m0 m1
  have m0 : w2.cell? ⟨N, 0, none⟩ = some (.pointer none) := (unhide HX2).cell 0
  have m1 : w2.cell? ⟨N, 1, none⟩ = some (.pointer (some ⟨p, 0, none⟩)) := (unhide HX2).cell 1
  go_wp2_with fail
  have HC2 := hide (token_r (unhide HB2).drew 2 (by first | (simp; done) | simp [putAt_size]))
  go_region_held3 (fun w' => w'.cell? ⟨N, 0, none⟩ = some (.pointer none) ∧ w'.cell? ⟨N, 1, none⟩ = some (.pointer (some ⟨p, 0, none⟩))) (go_keep)
    ((go_at_call 97; refine (unhide HC2).mono ?_; rintro e w3 ⟨rfl, hB3, hF3⟩; have hx3 : Fr (fun k => k = p ∨ k = b) w2 w3 := Fr.trans (((Fr.refl (fun _ => False) w2).drew).mono (fun _ _ t => t.elim)) hF3 (fun _ _ t => t); have k0 : w3.cell? ⟨N, 0, none⟩ = some (.pointer none) := ((unhide HX2).frame hx3 (by omega)).cell 0; have k1 : w3.cell? ⟨N, 1, none⟩ = some (.pointer (some ⟨p, 0, none⟩)) := ((unhide HX2).frame hx3 (by omega)).cell 1; have HX3 := hide ((unhide HX2).frame hx3 (by omega)); have HF3 : Hid (Fr (fun k => k = p ∨ k = b) w w3) := hide ((unhide HF2).trans hx3 (fun _ _ t => t)); have HB3 := hide hB3; clear hB3 hF3 hx3))
  clear HC2 HX2 HF2 HB2 m0 m1
  have m0 : w3.cell? ⟨N, 0, none⟩ = some (.pointer none) := (unhide HX3).cell 0
  have m1 : w3.cell? ⟨N, 1, none⟩ = some (.pointer (some ⟨p, 0, none⟩)) := (unhide HX3).cell 1
  go_wp2_with fail
  have HC3 := hide (numbers_r ((unhide HB3).drew.alloc (.cells #[.pointer (some ⟨b, 3, none⟩)] 132)) w3.heap.size 3 1 1 (ptrs1 w3.drew b 3 _) (by have := (unhide HB3).plt; omega) (by have := (unhide HB3).x.lt; omega) (by first | (simp; done) | simp [putAt_size]) (by omega))
  go_region_held3 (fun w' => w'.cell? ⟨N, 0, none⟩ = some (.pointer none) ∧ w'.cell? ⟨N, 1, none⟩ = some (.pointer (some ⟨p, 0, none⟩))) (go_keep)
    ((go_at_call 96; refine (unhide HC3).mono ?_; rintro e w4 ⟨rfl, hB4, hF4⟩; have hx4 : Fr (fun k => k = p ∨ k = b) w3 w4 := Fr.trans ((((Fr.refl (fun _ => False) w3).drew).alloc _).mono (fun _ _ t => t.elim)) hF4 (fun _ _ t => t); have k0 : w4.cell? ⟨N, 0, none⟩ = some (.pointer none) := ((unhide HX3).frame hx4 (by omega)).cell 0; have k1 : w4.cell? ⟨N, 1, none⟩ = some (.pointer (some ⟨p, 0, none⟩)) := ((unhide HX3).frame hx4 (by omega)).cell 1; have HX4 := hide ((unhide HX3).frame hx4 (by omega)); have HF4 : Hid (Fr (fun k => k = p ∨ k = b) w w4) := hide ((unhide HF3).trans hx4 (fun _ _ t => t)); have HB4 := hide hB4; clear hB4 hF4 hx4))
  clear HC3 HX3 HF3 HB3 m0 m1
  have m0 : w4.cell? ⟨N, 0, none⟩ = some (.pointer none) := (unhide HX4).cell 0
  have m1 : w4.cell? ⟨N, 1, none⟩ = some (.pointer (some ⟨p, 0, none⟩)) := (unhide HX4).cell 1
  go_wp2_with fail
  have HC4 := hide (numbers_r ((unhide HB4).drew.alloc (.cells #[.pointer (some ⟨b, 4, none⟩)] 132)) w4.heap.size 4 1 2 (ptrs1 w4.drew b 4 _) (by have := (unhide HB4).plt; omega) (by have := (unhide HB4).x.lt; omega) (by first | (simp; done) | simp [putAt_size]) (by omega))
  go_region_held3 (fun w' => w'.cell? ⟨N, 0, none⟩ = some (.pointer none) ∧ w'.cell? ⟨N, 1, none⟩ = some (.pointer (some ⟨p, 0, none⟩))) (go_keep)
    ((go_at_call 96; refine (unhide HC4).mono ?_; rintro e w5 ⟨rfl, hB5, hF5⟩; have hx5 : Fr (fun k => k = p ∨ k = b) w4 w5 := Fr.trans ((((Fr.refl (fun _ => False) w4).drew).alloc _).mono (fun _ _ t => t.elim)) hF5 (fun _ _ t => t); have k0 : w5.cell? ⟨N, 0, none⟩ = some (.pointer none) := ((unhide HX4).frame hx5 (by omega)).cell 0; have k1 : w5.cell? ⟨N, 1, none⟩ = some (.pointer (some ⟨p, 0, none⟩)) := ((unhide HX4).frame hx5 (by omega)).cell 1; have HX5 := hide ((unhide HX4).frame hx5 (by omega)); have HF5 : Hid (Fr (fun k => k = p ∨ k = b) w w5) := hide ((unhide HF4).trans hx5 (fun _ _ t => t)); have HB5 := hide hB5; clear hB5 hF5 hx5))
  clear HC4 HX4 HF4 HB4 m0 m1
  have m0 : w5.cell? ⟨N, 0, none⟩ = some (.pointer none) := (unhide HX5).cell 0
  have m1 : w5.cell? ⟨N, 1, none⟩ = some (.pointer (some ⟨p, 0, none⟩)) := (unhide HX5).cell 1
  go_wp2_with fail
  have HC5 := hide (numbers_r ((unhide HB5).drew.alloc (.cells #[.pointer (some ⟨b, 5, none⟩)] 132)) w5.heap.size 5 1 4 (ptrs1 w5.drew b 5 _) (by have := (unhide HB5).plt; omega) (by have := (unhide HB5).x.lt; omega) (by first | (simp; done) | simp [putAt_size]) (by omega))
  go_region_held3 (fun w' => w'.cell? ⟨N, 0, none⟩ = some (.pointer none) ∧ w'.cell? ⟨N, 1, none⟩ = some (.pointer (some ⟨p, 0, none⟩))) (go_keep)
    ((go_at_call 96; refine (unhide HC5).mono ?_; rintro e w6 ⟨rfl, hB6, hF6⟩; have hx6 : Fr (fun k => k = p ∨ k = b) w5 w6 := Fr.trans ((((Fr.refl (fun _ => False) w5).drew).alloc _).mono (fun _ _ t => t.elim)) hF6 (fun _ _ t => t); have k0 : w6.cell? ⟨N, 0, none⟩ = some (.pointer none) := ((unhide HX5).frame hx6 (by omega)).cell 0; have k1 : w6.cell? ⟨N, 1, none⟩ = some (.pointer (some ⟨p, 0, none⟩)) := ((unhide HX5).frame hx6 (by omega)).cell 1; have HX6 := hide ((unhide HX5).frame hx6 (by omega)); have HF6 : Hid (Fr (fun k => k = p ∨ k = b) w w6) := hide ((unhide HF5).trans hx6 (fun _ _ t => t)); have HB6 := hide hB6; clear hB6 hF6 hx6))
  clear HC5 HX5 HF5 HB5 m0 m1
  have m0 : w6.cell? ⟨N, 0, none⟩ = some (.pointer none) := (unhide HX6).cell 0
  have m1 : w6.cell? ⟨N, 1, none⟩ = some (.pointer (some ⟨p, 0, none⟩)) := (unhide HX6).cell 1
  go_wp2
  go_end0
  refine ⟨rfl, ?_, unhide HF6⟩
  have h := unhide HB6
  simpa [tapK, rdL, putAt] using h

theorem tap_w {w : World} {p g b : Nat} {st : Option (List UInt8)} {t : TypeId} (x0 : Int) (x1 : Int) (x2 : ByteArray) (x3 : Int) (x4 : Int) (x5 : Int) (h : WB w p g b st #[.int .i64 x0, .int .i64 x1, .string x2, .int .i64 x3, .int .i64 x4, .int .i64 x5] t) (h0 : x0 ≤ 9223372036854775807) (h1 : x1 ≤ 9223372036854775807) (h3 : x3 ≤ 9223372036854775807) (h4 : x4 ≤ 9223372036854775807) (h5 : x5 ≤ 9223372036854775807) (L : Nat) (hL : Most st L) (hfit : L + 66200 ≤ 140737488355328) :
    Calls Tryz.prog 70 #[walkW p, .pointer (some ⟨b, 0, none⟩)] w (WDone p g (stepW st (wrL tapK [.int .i64 x0, .int .i64 x1, .string x2, .int .i64 x3, .int .i64 x4, .int .i64 x5])) w) := by
  have H := hide h
  have hp := h.plt
  have hb := h.x.lt
  have hbp := h.np
  have hgl := h.gl
  have HL := hide hL
  have HT := hide hfit
  have J0 := hide h0
  have J1 := hide h1
  have J3 := hide h3
  have J4 := hide h4
  have J5 := hide h5
  clear h hL hfit h0 h1 h3 h4 h5
  go_enter Tryz.func70, Tryz.ntmps70
  go_wp2_with fail
  have HX0 : Hid (Bx (w.alloc (.cells #[.pointer (some ⟨p, 0, none⟩), .pointer none] 111)) w.heap.size #[.pointer (some ⟨p, 0, none⟩), .pointer none] 111) := hide (Bx.new _ _ _)
  have HB0 := hide ((unhide H).alloc (.cells #[.pointer (some ⟨p, 0, none⟩), .pointer none] 111))
  have HF0 : Hid (Fr (fun k => k = p ∨ k = g) w (w.alloc (.cells #[.pointer (some ⟨p, 0, none⟩), .pointer none] 111)) ∧ (g = g ∨ w.heap.size ≤ g)) := hide ⟨(Fr.refl _ _).alloc _, Or.inl rfl⟩
  obtain ⟨N, HN⟩ : ∃ N, Hid (w.heap.size = N) := ⟨_, rfl⟩
  have hNp : N ≠ p := by have := unhide HN; omega
  have hN0 : N ≠ g := by have := unhide HN; omega
  rw [unhide HN] at HX0 ⊢
  generalize w.alloc (.cells #[.pointer (some ⟨p, 0, none⟩), .pointer none] 111) = w0 at *
  have m0 : w0.cell? ⟨N, 0, none⟩ = some (.pointer (some ⟨p, 0, none⟩)) := (unhide HX0).cell 0
  have m1 : w0.cell? ⟨N, 1, none⟩ = some (.pointer none) := (unhide HX0).cell 1
  have HM0 := hide (unhide HL)
  have HC0 := hide (numbers_w ((unhide HB0).drew.alloc (.cells #[.pointer (some ⟨b, 0, none⟩)] 132)) w0.heap.size 0 1 2 (ptrs1 w0.drew b 0 _) (by have := (unhide HB0).plt; omega) (by have := (unhide HB0).gl; omega) [x0] rfl (fun j hj => by match j, hj with | 0, _ => rfl) (fun x hx => by simp only [List.mem_cons, List.not_mem_nil, or_false] at hx; subst hx; exact unhide J0) (L + 0) (unhide HM0) (by have := unhide HT; omega) (by omega) (by omega))
  go_region_held3 (fun w' => w'.cell? ⟨N, 0, none⟩ = some (.pointer (some ⟨p, 0, none⟩)) ∧ w'.cell? ⟨N, 1, none⟩ = some (.pointer none)) (go_keep)
    ((go_at_call 96; refine (unhide HC0).mono ?_; rintro e w1 ⟨rfl, hP⟩; obtain ⟨g1, hB, hg, hF⟩ := (unhide HB0).next (WP.later (((Fr.refl (fun _ => False) w0).drew).alloc _) hP); have hN1 : N ≠ g1 := (by have := (unhide HX0).lt; omega); have k0 : w1.cell? ⟨N, 0, none⟩ = some (.pointer (some ⟨p, 0, none⟩)) := ((unhide HX0).frame hF (by omega)).cell 0; have k1 : w1.cell? ⟨N, 1, none⟩ = some (.pointer none) := ((unhide HX0).frame hF (by omega)).cell 1; have HX1 := hide ((unhide HX0).frame hF (by omega)); have HF1 : Hid (Fr (fun k => k = p ∨ k = g) w w1 ∧ (g1 = g ∨ w.heap.size ≤ g1)) := hide (by obtain ⟨q1, q2⟩ := unhide HF0; have := q1.size; exact ⟨q1.trans hF (fun _ _ t => by omega), by omega⟩); have HB1 := hide hB; have HM1 := hide ((unhide HM0).step (Most.wr (List.replicate 1 (.num 2)) ([x0].map (Value.int .i64)))); clear hB hF hg hP))
  clear HC0 HX0 HF0 HB0 m0 m1
  have m0 : w1.cell? ⟨N, 0, none⟩ = some (.pointer (some ⟨p, 0, none⟩)) := (unhide HX1).cell 0
  have m1 : w1.cell? ⟨N, 1, none⟩ = some (.pointer none) := (unhide HX1).cell 1
  go_wp2_with fail
  have HC1 := hide (numbers_w ((unhide HB1).drew.alloc (.cells #[.pointer (some ⟨b, 1, none⟩)] 132)) w1.heap.size 1 1 4 (ptrs1 w1.drew b 1 _) (by have := (unhide HB1).plt; omega) (by have := (unhide HB1).gl; omega) [x1] rfl (fun j hj => by match j, hj with | 0, _ => rfl) (fun x hx => by simp only [List.mem_cons, List.not_mem_nil, or_false] at hx; subst hx; exact unhide J1) (L + 2) (unhide HM1) (by have := unhide HT; omega) (by omega) (by omega))
  go_region_held3 (fun w' => w'.cell? ⟨N, 0, none⟩ = some (.pointer (some ⟨p, 0, none⟩)) ∧ w'.cell? ⟨N, 1, none⟩ = some (.pointer none)) (go_keep)
    ((go_at_call 96; refine (unhide HC1).mono ?_; rintro e w2 ⟨rfl, hP⟩; obtain ⟨g2, hB, hg, hF⟩ := (unhide HB1).next (WP.later (((Fr.refl (fun _ => False) w1).drew).alloc _) hP); have hN2 : N ≠ g2 := (by have := (unhide HX1).lt; omega); have k0 : w2.cell? ⟨N, 0, none⟩ = some (.pointer (some ⟨p, 0, none⟩)) := ((unhide HX1).frame hF (by omega)).cell 0; have k1 : w2.cell? ⟨N, 1, none⟩ = some (.pointer none) := ((unhide HX1).frame hF (by omega)).cell 1; have HX2 := hide ((unhide HX1).frame hF (by omega)); have HF2 : Hid (Fr (fun k => k = p ∨ k = g) w w2 ∧ (g2 = g ∨ w.heap.size ≤ g2)) := hide (by obtain ⟨q1, q2⟩ := unhide HF1; have := q1.size; exact ⟨q1.trans hF (fun _ _ t => by omega), by omega⟩); have HB2 := hide hB; have HM2 := hide ((unhide HM1).step (Most.wr (List.replicate 1 (.num 4)) ([x1].map (Value.int .i64)))); clear hB hF hg hP))
  clear HC1 HX1 HF1 HB1 m0 m1
  have m0 : w2.cell? ⟨N, 0, none⟩ = some (.pointer (some ⟨p, 0, none⟩)) := (unhide HX2).cell 0
  have m1 : w2.cell? ⟨N, 1, none⟩ = some (.pointer none) := (unhide HX2).cell 1
  go_wp2_with fail
  have HC2 := hide (token_w (unhide HB2).drew 2 x2 rfl (L + 6) (unhide HM2) (by have := unhide HT; omega))
  go_region_held3 (fun w' => w'.cell? ⟨N, 0, none⟩ = some (.pointer (some ⟨p, 0, none⟩)) ∧ w'.cell? ⟨N, 1, none⟩ = some (.pointer none)) (go_keep)
    ((go_at_call 97; refine (unhide HC2).mono ?_; rintro e w3 ⟨rfl, hP⟩; obtain ⟨g3, hB, hg, hF⟩ := (unhide HB2).next (WP.later ((Fr.refl (fun _ => False) w2).drew) hP); have hN3 : N ≠ g3 := (by have := (unhide HX2).lt; omega); have k0 : w3.cell? ⟨N, 0, none⟩ = some (.pointer (some ⟨p, 0, none⟩)) := ((unhide HX2).frame hF (by omega)).cell 0; have k1 : w3.cell? ⟨N, 1, none⟩ = some (.pointer none) := ((unhide HX2).frame hF (by omega)).cell 1; have HX3 := hide ((unhide HX2).frame hF (by omega)); have HF3 : Hid (Fr (fun k => k = p ∨ k = g) w w3 ∧ (g3 = g ∨ w.heap.size ≤ g3)) := hide (by obtain ⟨q1, q2⟩ := unhide HF2; have := q1.size; exact ⟨q1.trans hF (fun _ _ t => by omega), by omega⟩); have HB3 := hide hB; have HM3 := hide ((unhide HM2).step (Most.kd (Kd.fix 8) (.string x2))); clear hB hF hg hP))
  clear HC2 HX2 HF2 HB2 m0 m1
  have m0 : w3.cell? ⟨N, 0, none⟩ = some (.pointer (some ⟨p, 0, none⟩)) := (unhide HX3).cell 0
  have m1 : w3.cell? ⟨N, 1, none⟩ = some (.pointer none) := (unhide HX3).cell 1
  go_wp2_with fail
  have HC3 := hide (numbers_w ((unhide HB3).drew.alloc (.cells #[.pointer (some ⟨b, 3, none⟩)] 132)) w3.heap.size 3 1 1 (ptrs1 w3.drew b 3 _) (by have := (unhide HB3).plt; omega) (by have := (unhide HB3).gl; omega) [x3] rfl (fun j hj => by match j, hj with | 0, _ => rfl) (fun x hx => by simp only [List.mem_cons, List.not_mem_nil, or_false] at hx; subst hx; exact unhide J3) (L + 14) (unhide HM3) (by have := unhide HT; omega) (by omega) (by omega))
  go_region_held3 (fun w' => w'.cell? ⟨N, 0, none⟩ = some (.pointer (some ⟨p, 0, none⟩)) ∧ w'.cell? ⟨N, 1, none⟩ = some (.pointer none)) (go_keep)
    ((go_at_call 96; refine (unhide HC3).mono ?_; rintro e w4 ⟨rfl, hP⟩; obtain ⟨g4, hB, hg, hF⟩ := (unhide HB3).next (WP.later (((Fr.refl (fun _ => False) w3).drew).alloc _) hP); have hN4 : N ≠ g4 := (by have := (unhide HX3).lt; omega); have k0 : w4.cell? ⟨N, 0, none⟩ = some (.pointer (some ⟨p, 0, none⟩)) := ((unhide HX3).frame hF (by omega)).cell 0; have k1 : w4.cell? ⟨N, 1, none⟩ = some (.pointer none) := ((unhide HX3).frame hF (by omega)).cell 1; have HX4 := hide ((unhide HX3).frame hF (by omega)); have HF4 : Hid (Fr (fun k => k = p ∨ k = g) w w4 ∧ (g4 = g ∨ w.heap.size ≤ g4)) := hide (by obtain ⟨q1, q2⟩ := unhide HF3; have := q1.size; exact ⟨q1.trans hF (fun _ _ t => by omega), by omega⟩); have HB4 := hide hB; have HM4 := hide ((unhide HM3).step (Most.wr (List.replicate 1 (.num 1)) ([x3].map (Value.int .i64)))); clear hB hF hg hP))
  clear HC3 HX3 HF3 HB3 m0 m1
  have m0 : w4.cell? ⟨N, 0, none⟩ = some (.pointer (some ⟨p, 0, none⟩)) := (unhide HX4).cell 0
  have m1 : w4.cell? ⟨N, 1, none⟩ = some (.pointer none) := (unhide HX4).cell 1
  go_wp2_with fail
  have HC4 := hide (numbers_w ((unhide HB4).drew.alloc (.cells #[.pointer (some ⟨b, 4, none⟩)] 132)) w4.heap.size 4 1 2 (ptrs1 w4.drew b 4 _) (by have := (unhide HB4).plt; omega) (by have := (unhide HB4).gl; omega) [x4] rfl (fun j hj => by match j, hj with | 0, _ => rfl) (fun x hx => by simp only [List.mem_cons, List.not_mem_nil, or_false] at hx; subst hx; exact unhide J4) (L + 15) (unhide HM4) (by have := unhide HT; omega) (by omega) (by omega))
  go_region_held3 (fun w' => w'.cell? ⟨N, 0, none⟩ = some (.pointer (some ⟨p, 0, none⟩)) ∧ w'.cell? ⟨N, 1, none⟩ = some (.pointer none)) (go_keep)
    ((go_at_call 96; refine (unhide HC4).mono ?_; rintro e w5 ⟨rfl, hP⟩; obtain ⟨g5, hB, hg, hF⟩ := (unhide HB4).next (WP.later (((Fr.refl (fun _ => False) w4).drew).alloc _) hP); have hN5 : N ≠ g5 := (by have := (unhide HX4).lt; omega); have k0 : w5.cell? ⟨N, 0, none⟩ = some (.pointer (some ⟨p, 0, none⟩)) := ((unhide HX4).frame hF (by omega)).cell 0; have k1 : w5.cell? ⟨N, 1, none⟩ = some (.pointer none) := ((unhide HX4).frame hF (by omega)).cell 1; have HX5 := hide ((unhide HX4).frame hF (by omega)); have HF5 : Hid (Fr (fun k => k = p ∨ k = g) w w5 ∧ (g5 = g ∨ w.heap.size ≤ g5)) := hide (by obtain ⟨q1, q2⟩ := unhide HF4; have := q1.size; exact ⟨q1.trans hF (fun _ _ t => by omega), by omega⟩); have HB5 := hide hB; have HM5 := hide ((unhide HM4).step (Most.wr (List.replicate 1 (.num 2)) ([x4].map (Value.int .i64)))); clear hB hF hg hP))
  clear HC4 HX4 HF4 HB4 m0 m1
  have m0 : w5.cell? ⟨N, 0, none⟩ = some (.pointer (some ⟨p, 0, none⟩)) := (unhide HX5).cell 0
  have m1 : w5.cell? ⟨N, 1, none⟩ = some (.pointer none) := (unhide HX5).cell 1
  go_wp2_with fail
  have HC5 := hide (numbers_w ((unhide HB5).drew.alloc (.cells #[.pointer (some ⟨b, 5, none⟩)] 132)) w5.heap.size 5 1 4 (ptrs1 w5.drew b 5 _) (by have := (unhide HB5).plt; omega) (by have := (unhide HB5).gl; omega) [x5] rfl (fun j hj => by match j, hj with | 0, _ => rfl) (fun x hx => by simp only [List.mem_cons, List.not_mem_nil, or_false] at hx; subst hx; exact unhide J5) (L + 17) (unhide HM5) (by have := unhide HT; omega) (by omega) (by omega))
  go_region_held3 (fun w' => w'.cell? ⟨N, 0, none⟩ = some (.pointer (some ⟨p, 0, none⟩)) ∧ w'.cell? ⟨N, 1, none⟩ = some (.pointer none)) (go_keep)
    ((go_at_call 96; refine (unhide HC5).mono ?_; rintro e w6 ⟨rfl, hP⟩; obtain ⟨g6, hB, hg, hF⟩ := (unhide HB5).next (WP.later (((Fr.refl (fun _ => False) w5).drew).alloc _) hP); have hN6 : N ≠ g6 := (by have := (unhide HX5).lt; omega); have k0 : w6.cell? ⟨N, 0, none⟩ = some (.pointer (some ⟨p, 0, none⟩)) := ((unhide HX5).frame hF (by omega)).cell 0; have k1 : w6.cell? ⟨N, 1, none⟩ = some (.pointer none) := ((unhide HX5).frame hF (by omega)).cell 1; have HX6 := hide ((unhide HX5).frame hF (by omega)); have HF6 : Hid (Fr (fun k => k = p ∨ k = g) w w6 ∧ (g6 = g ∨ w.heap.size ≤ g6)) := hide (by obtain ⟨q1, q2⟩ := unhide HF5; have := q1.size; exact ⟨q1.trans hF (fun _ _ t => by omega), by omega⟩); have HB6 := hide hB; have HM6 := hide ((unhide HM5).step (Most.wr (List.replicate 1 (.num 4)) ([x5].map (Value.int .i64)))); clear hB hF hg hP))
  clear HC5 HX5 HF5 HB5 m0 m1
  have m0 : w6.cell? ⟨N, 0, none⟩ = some (.pointer (some ⟨p, 0, none⟩)) := (unhide HX6).cell 0
  have m1 : w6.cell? ⟨N, 1, none⟩ = some (.pointer none) := (unhide HX6).cell 1
  go_wp2
  go_end0
  have hB := unhide HB6
  refine ⟨rfl, g6, ?_, hB.gl, (unhide HF6).2, (unhide HF6).1⟩
  have h := hB.s
  simpa only [tapK, wrL, List.replicate, List.map, stepW_assoc, stepW_nil] using h

/-- The pieces of entry. -/
abbrev entryK : List Kd := [.num 4, .fix 8, .int, .bool]

/-- The pieces of account. -/
abbrev accountK : List Kd := [.fix 8, .num 8, .num 8]

/-- The pieces of outage. -/
abbrev outageK : List Kd := [.num 2, .num 4, .num 4]

/-- The pieces of station. -/
abbrev stationK : List Kd := [.num 2, .num 1, .num 2]

/-- The pieces of span. -/
abbrev spanK : List Kd := [.num 1, .num 1, .num 4, .num 4, .num 4]

/-- The pieces of band. -/
abbrev bandK : List Kd := [.num 2, .num 2]

end Go.Proofs.YtmgejkenpfihmaaGreat

