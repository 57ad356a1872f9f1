/- Contracts of the reader's exported calls: what each answers, and what becomes of the reader. -/
import Derived.Test.YtkjoojamkbpfcaaGreatA4
namespace Go.Proofs.YtkjoojamkbpfcaaGreat
open Go.RowKit

/-- A reader's state: where it is, where the last piece began, the fault's code and place. -/
structure RS where
  a : Nat
  l : Nat
  c : Int
  f : Int

abbrev RS.At (s : RS) (w : World) (p g : Nat) (bs : List UInt8) : Prop := RAt w p g bs s.a s.l s.c s.f

/-- A call that takes a piece: the answer and the state behind it. -/
def stepR (s : RS) (z : Value) (o : Except Int (Value × Nat)) : Value × RS :=
  if s.c = 0 then
    match o with
    | .ok (v, a') => (v, ⟨a', s.a, 0, s.f⟩)
    | .error x => (z, ⟨s.a, s.l, x, s.a⟩)
  else (z, s)

theorem done_step {s : RS} {w w' : World} {p g : Nat} {bs : List UInt8} {z : Value} {o : Except Int (Value × Nat)} {e : Ending} (hc : s.c = 0) (h : Done p g bs s.a s.l s.f w z o e w') :
    e = .returned (stepR s z o).1 ∧ (stepR s z o).2.At w' p g bs ∧ Fr (· = p) w w' := by
  cases o with
  | ok va => obtain ⟨v, a'⟩ := va; obtain ⟨h1, h2, h3⟩ := h; simp only [stepR, hc, if_true]; exact ⟨h1, h2, h3⟩
  | error x => obtain ⟨h1, h2, h3⟩ := h; simp only [stepR, hc, if_true]; exact ⟨h1, h2, h3⟩

theorem Done.of_fr {p g : Nat} {bs : List UInt8} {a l : Nat} {f : Int} {w w1 w' : World} {z : Value} {o : Except Int (Value × Nat)} {e : Ending} (h : Done p g bs a l f w1 z o e w') (hF : Fr (fun _ => False) w w1) : Done p g bs a l f w z o e w' := by
  cases o with
  | ok va => obtain ⟨v, a'⟩ := va; exact ⟨h.1, h.2.1, (hF.mono (T := (· = p)) (fun _ _ t => t.elim)).trans h.2.2 (fun _ _ t => t)⟩
  | error x => exact ⟨h.1, h.2.1, (hF.mono (T := (· = p)) (fun _ _ t => t.elim)).trans h.2.2 (fun _ _ t => t)⟩

theorem rnumber_zero {w : World} {p g : Nat} {bs : List UInt8} {a l : Nat} {f : Int} (h : RAt w p g bs a l 0 f) (size : Int) :
    Calls Tryz.prog 87 #[.pointer (some ⟨p, 0, none⟩), .int .i64 size] w (Done p g bs a l f w (.int .i64 0) (oNumber bs a size)) := by
  have H := hide h
  have hlt := h.lt
  have hmf := makes
  clear h
  go_enter Tryz.func87, Tryz.ntmps87
  go_wp2_with fail
  have hn0 : w.heap.size ≠ p := by omega
  have hn1 : w.heap.size + 1 ≠ p := by omega
  have hF0 : Fr (fun _ => False) w ((w.alloc (.cells #[.pointer (some ⟨p, 0, none⟩)] 57)).alloc (.cells #[.int .i64 size] 3)) := (((Fr.refl _ _).alloc _).alloc _)
  refine (take62_any (((unhide H).alloc (.cells #[.pointer (some ⟨p, 0, none⟩)] 57)).alloc (.cells #[.int .i64 size] 3)) _ (oNumber bs a size) ?_).mono ?_
  · intro w1 hF hR
    have k0 : w1.cell? ⟨w.heap.size, 0, none⟩ = some (.pointer (some ⟨p, 0, none⟩)) := (hF.cell (a := ⟨w.heap.size, 0, none⟩) (by simp; omega) (fun t => t)).trans (by simp [go_sem])
    have k1 : w1.cell? ⟨w.heap.size + 1, 0, none⟩ = some (.int .i64 size) := (hF.cell (a := ⟨w.heap.size + 1, 0, none⟩) (by simp) (fun t => t)).trans (by simp [go_sem])
    exact number_piece hR size _ _ k1 k0
  rintro e w1 hD
  have hD' := hD.of_fr hF0
  have HD := hide hD'
  clear hD hD' hF0 H hn1
  cases ho : oNumber bs a size with
  | ok va =>
    obtain ⟨v, a'⟩ := va
    rw [ho] at HD
    obtain ⟨rfl, hD⟩ := unhide HD
    have HD2 := hide hD
    have Ho := hide ho
    clear HD hD ho
    go_wp2
    go_ret
    rw [unhide Ho]
    exact ⟨rfl, unhide HD2⟩
  | error x =>
    rw [ho] at HD
    obtain ⟨rfl, hD⟩ := unhide HD
    have HD2 := hide hD
    have Ho := hide ho
    clear HD hD ho
    go_wp2
    go_ret
    rw [unhide Ho]
    exact ⟨rfl, unhide HD2⟩

theorem rnumber_failed {w : World} {p g : Nat} {bs : List UInt8} {a l : Nat} {c f : Int} (h : RAt w p g bs a l c f) (hc : c ≠ 0) (size : Int) :
    Calls Tryz.prog 87 #[.pointer (some ⟨p, 0, none⟩), .int .i64 size] w fun e w' => e = .returned (.int .i64 0) ∧ RAt w' p g bs a l c f ∧ Fr (fun _ => False) w w' := by
  have H := hide h
  have Hc := hide hc
  have hlt := h.lt
  have hmf := makes
  clear h hc
  go_enter Tryz.func87, Tryz.ntmps87
  go_wp2_with fail
  have hF0 : Fr (fun _ => False) w ((w.alloc (.cells #[.pointer (some ⟨p, 0, none⟩)] 57)).alloc (.cells #[.int .i64 size] 3)) := (((Fr.refl _ _).alloc _).alloc _)
  refine (take61_failed (((unhide H).alloc (.cells #[.pointer (some ⟨p, 0, none⟩)] 57)).alloc (.cells #[.int .i64 size] 3)) (unhide Hc) _).mono ?_
  rintro e w1 ⟨rfl, hR, hF⟩
  have HD2 := hide (And.intro hR (hF0.trans hF (fun _ _ t => t)))
  clear hR hF hF0
  go_wp2
  go_ret
  exact ⟨rfl, unhide HD2⟩

/-- Number -/
theorem rnumber_any {w : World} {p g : Nat} {bs : List UInt8} {s : RS} (h : s.At w p g bs) (size : Int) :
    Calls Tryz.prog 87 #[.pointer (some ⟨p, 0, none⟩), .int .i64 size] w fun e w' => e = .returned (stepR s (.int .i64 0) (oNumber bs s.a size)).1 ∧ (stepR s (.int .i64 0) (oNumber bs s.a size)).2.At w' p g bs ∧ Fr (· = p) w w' := by
  by_cases hc : s.c = 0
  · have h0 : RAt w p g bs s.a s.l 0 s.f := hc ▸ h
    exact (rnumber_zero h0 size).mono fun e w' hD => done_step hc hD
  · refine (rnumber_failed h hc size).mono ?_
    rintro e w' ⟨rfl, hR, hF⟩
    rw [show stepR s (.int .i64 0) (oNumber bs s.a size) = (.int .i64 0, s) by simp only [stepR, hc, if_false]]
    exact ⟨rfl, hR, hF.mono (fun _ _ t => t.elim)⟩

theorem rfloat_zero {w : World} {p g : Nat} {bs : List UInt8} {a l : Nat} {f : Int} (h : RAt w p g bs a l 0 f)  :
    Calls Tryz.prog 84 #[.pointer (some ⟨p, 0, none⟩)] w (Done p g bs a l f w (.float .f64 0) (oFloat bs a)) := by
  have H := hide h
  have hlt := h.lt
  have hmf := makes
  clear h
  go_enter Tryz.func84, Tryz.ntmps84
  go_wp2_with fail
  have hn0 : w.heap.size ≠ p := by omega
  have hF0 : Fr (fun _ => False) w (w.alloc (.cells #[.pointer (some ⟨p, 0, none⟩)] 57)) := ((Fr.refl _ _).alloc _)
  refine (take67_any ((unhide H).alloc (.cells #[.pointer (some ⟨p, 0, none⟩)] 57)) _ (oFloat bs a) ?_).mono ?_
  · intro w1 hF hR
    have k0 : w1.cell? ⟨w.heap.size, 0, none⟩ = some (.pointer (some ⟨p, 0, none⟩)) := (hF.cell (a := ⟨w.heap.size, 0, none⟩) (by simp) (fun t => t)).trans (by simp [go_sem])
    exact float_piece hR _ k0
  rintro e w1 hD
  have hD' := hD.of_fr hF0
  have HD := hide hD'
  clear hD hD' hF0 H
  cases ho : oFloat bs a with
  | ok va =>
    obtain ⟨v, a'⟩ := va
    rw [ho] at HD
    obtain ⟨rfl, hD⟩ := unhide HD
    have HD2 := hide hD
    have Ho := hide ho
    clear HD hD ho
    go_wp2
    go_ret
    rw [unhide Ho]
    exact ⟨rfl, unhide HD2⟩
  | error x =>
    rw [ho] at HD
    obtain ⟨rfl, hD⟩ := unhide HD
    have HD2 := hide hD
    have Ho := hide ho
    clear HD hD ho
    go_wp2
    go_ret
    rw [unhide Ho]
    exact ⟨rfl, unhide HD2⟩

theorem rfloat_failed {w : World} {p g : Nat} {bs : List UInt8} {a l : Nat} {c f : Int} (h : RAt w p g bs a l c f) (hc : c ≠ 0)  :
    Calls Tryz.prog 84 #[.pointer (some ⟨p, 0, none⟩)] w fun e w' => e = .returned (.float .f64 0) ∧ RAt w' p g bs a l c f ∧ Fr (fun _ => False) w w' := by
  have H := hide h
  have Hc := hide hc
  have hlt := h.lt
  have hmf := makes
  clear h hc
  go_enter Tryz.func84, Tryz.ntmps84
  go_wp2_with fail
  have hF0 : Fr (fun _ => False) w (w.alloc (.cells #[.pointer (some ⟨p, 0, none⟩)] 57)) := ((Fr.refl _ _).alloc _)
  refine (take66_failed ((unhide H).alloc (.cells #[.pointer (some ⟨p, 0, none⟩)] 57)) (unhide Hc) _).mono ?_
  rintro e w1 ⟨rfl, hR, hF⟩
  have HD2 := hide (And.intro hR (hF0.trans hF (fun _ _ t => t)))
  clear hR hF hF0
  go_wp2
  go_ret
  exact ⟨rfl, unhide HD2⟩

/-- Float -/
theorem rfloat_any {w : World} {p g : Nat} {bs : List UInt8} {s : RS} (h : s.At w p g bs)  :
    Calls Tryz.prog 84 #[.pointer (some ⟨p, 0, none⟩)] w fun e w' => e = .returned (stepR s (.float .f64 0) (oFloat bs s.a)).1 ∧ (stepR s (.float .f64 0) (oFloat bs s.a)).2.At w' p g bs ∧ Fr (· = p) w w' := by
  by_cases hc : s.c = 0
  · have h0 : RAt w p g bs s.a s.l 0 s.f := hc ▸ h
    exact (rfloat_zero h0).mono fun e w' hD => done_step hc hD
  · refine (rfloat_failed h hc).mono ?_
    rintro e w' ⟨rfl, hR, hF⟩
    rw [show stepR s (.float .f64 0) (oFloat bs s.a) = (.float .f64 0, s) by simp only [stepR, hc, if_false]]
    exact ⟨rfl, hR, hF.mono (fun _ _ t => t.elim)⟩

theorem rfixed_zero {w : World} {p g : Nat} {bs : List UInt8} {a l : Nat} {f : Int} (h : RAt w p g bs a l 0 f) (size : Int) :
    Calls Tryz.prog 105 #[.pointer (some ⟨p, 0, none⟩), .int .i64 size] w (Done p g bs a l f w (.string ⟨#[]⟩) (oFixed bs a size)) := by
  have H := hide h
  have hlt := h.lt
  have hmf := makes
  clear h
  go_enter Tryz.func105, Tryz.ntmps105
  go_wp2_with fail
  have hn0 : w.heap.size ≠ p := by omega
  have hn1 : w.heap.size + 1 ≠ p := by omega
  have hF0 : Fr (fun _ => False) w ((w.alloc (.cells #[.pointer (some ⟨p, 0, none⟩)] 57)).alloc (.cells #[.int .i64 size] 3)) := (((Fr.refl _ _).alloc _).alloc _)
  refine (take76_any (((unhide H).alloc (.cells #[.pointer (some ⟨p, 0, none⟩)] 57)).alloc (.cells #[.int .i64 size] 3)) _ (oFixed bs a size) ?_).mono ?_
  · intro w1 hF hR
    have k0 : w1.cell? ⟨w.heap.size, 0, none⟩ = some (.pointer (some ⟨p, 0, none⟩)) := (hF.cell (a := ⟨w.heap.size, 0, none⟩) (by simp; omega) (fun t => t)).trans (by simp [go_sem])
    have k1 : w1.cell? ⟨w.heap.size + 1, 0, none⟩ = some (.int .i64 size) := (hF.cell (a := ⟨w.heap.size + 1, 0, none⟩) (by simp) (fun t => t)).trans (by simp [go_sem])
    exact fixed_piece hR size _ _ k1 k0
  rintro e w1 hD
  have hD' := hD.of_fr hF0
  have HD := hide hD'
  clear hD hD' hF0 H hn1
  cases ho : oFixed bs a size with
  | ok va =>
    obtain ⟨v, a'⟩ := va
    rw [ho] at HD
    obtain ⟨rfl, hD⟩ := unhide HD
    have HD2 := hide hD
    have Ho := hide ho
    clear HD hD ho
    go_wp2
    go_ret
    rw [unhide Ho]
    exact ⟨rfl, unhide HD2⟩
  | error x =>
    rw [ho] at HD
    obtain ⟨rfl, hD⟩ := unhide HD
    have HD2 := hide hD
    have Ho := hide ho
    clear HD hD ho
    go_wp2
    go_ret
    rw [unhide Ho]
    exact ⟨rfl, unhide HD2⟩

theorem rfixed_failed {w : World} {p g : Nat} {bs : List UInt8} {a l : Nat} {c f : Int} (h : RAt w p g bs a l c f) (hc : c ≠ 0) (size : Int) :
    Calls Tryz.prog 105 #[.pointer (some ⟨p, 0, none⟩), .int .i64 size] w fun e w' => e = .returned (.string ⟨#[]⟩) ∧ RAt w' p g bs a l c f ∧ Fr (fun _ => False) w w' := by
  have H := hide h
  have Hc := hide hc
  have hlt := h.lt
  have hmf := makes
  clear h hc
  go_enter Tryz.func105, Tryz.ntmps105
  go_wp2_with fail
  have hF0 : Fr (fun _ => False) w ((w.alloc (.cells #[.pointer (some ⟨p, 0, none⟩)] 57)).alloc (.cells #[.int .i64 size] 3)) := (((Fr.refl _ _).alloc _).alloc _)
  refine (take72_failed (((unhide H).alloc (.cells #[.pointer (some ⟨p, 0, none⟩)] 57)).alloc (.cells #[.int .i64 size] 3)) (unhide Hc) _).mono ?_
  rintro e w1 ⟨rfl, hR, hF⟩
  have HD2 := hide (And.intro hR (hF0.trans hF (fun _ _ t => t)))
  clear hR hF hF0
  go_wp2
  go_ret
  exact ⟨rfl, unhide HD2⟩

/-- Fixed -/
theorem rfixed_any {w : World} {p g : Nat} {bs : List UInt8} {s : RS} (h : s.At w p g bs) (size : Int) :
    Calls Tryz.prog 105 #[.pointer (some ⟨p, 0, none⟩), .int .i64 size] w fun e w' => e = .returned (stepR s (.string ⟨#[]⟩) (oFixed bs s.a size)).1 ∧ (stepR s (.string ⟨#[]⟩) (oFixed bs s.a size)).2.At w' p g bs ∧ Fr (· = p) w w' := by
  by_cases hc : s.c = 0
  · have h0 : RAt w p g bs s.a s.l 0 s.f := hc ▸ h
    exact (rfixed_zero h0 size).mono fun e w' hD => done_step hc hD
  · refine (rfixed_failed h hc size).mono ?_
    rintro e w' ⟨rfl, hR, hF⟩
    rw [show stepR s (.string ⟨#[]⟩) (oFixed bs s.a size) = (.string ⟨#[]⟩, s) by simp only [stepR, hc, if_false]]
    exact ⟨rfl, hR, hF.mono (fun _ _ t => t.elim)⟩

theorem rcount_zero {w : World} {p g : Nat} {bs : List UInt8} {a l : Nat} {f : Int} (h : RAt w p g bs a l 0 f) (most : Int) :
    Calls Tryz.prog 81 #[.pointer (some ⟨p, 0, none⟩), .int .i64 most] w (Done p g bs a l f w (.int .i64 0) (oCount bs a most)) := by
  have H := hide h
  have hlt := h.lt
  have hmf := makes
  clear h
  go_enter Tryz.func81, Tryz.ntmps81
  go_wp2_with fail
  have hn0 : w.heap.size ≠ p := by omega
  have hn1 : w.heap.size + 1 ≠ p := by omega
  have hF0 : Fr (fun _ => False) w ((w.alloc (.cells #[.pointer (some ⟨p, 0, none⟩)] 57)).alloc (.cells #[.int .i64 most] 3)) := (((Fr.refl _ _).alloc _).alloc _)
  refine (take77_any (((unhide H).alloc (.cells #[.pointer (some ⟨p, 0, none⟩)] 57)).alloc (.cells #[.int .i64 most] 3)) _ (oCount bs a most) ?_).mono ?_
  · intro w1 hF hR
    have k0 : w1.cell? ⟨w.heap.size, 0, none⟩ = some (.pointer (some ⟨p, 0, none⟩)) := (hF.cell (a := ⟨w.heap.size, 0, none⟩) (by simp; omega) (fun t => t)).trans (by simp [go_sem])
    have k1 : w1.cell? ⟨w.heap.size + 1, 0, none⟩ = some (.int .i64 most) := (hF.cell (a := ⟨w.heap.size + 1, 0, none⟩) (by simp) (fun t => t)).trans (by simp [go_sem])
    exact count_piece hR most _ _ k0 k1
  rintro e w1 hD
  have hD' := hD.of_fr hF0
  have HD := hide hD'
  clear hD hD' hF0 H hn1
  cases ho : oCount bs a most with
  | ok va =>
    obtain ⟨v, a'⟩ := va
    rw [ho] at HD
    obtain ⟨rfl, hD⟩ := unhide HD
    have HD2 := hide hD
    have Ho := hide ho
    clear HD hD ho
    go_wp2
    go_ret
    rw [unhide Ho]
    exact ⟨rfl, unhide HD2⟩
  | error x =>
    rw [ho] at HD
    obtain ⟨rfl, hD⟩ := unhide HD
    have HD2 := hide hD
    have Ho := hide ho
    clear HD hD ho
    go_wp2
    go_ret
    rw [unhide Ho]
    exact ⟨rfl, unhide HD2⟩

theorem rcount_failed {w : World} {p g : Nat} {bs : List UInt8} {a l : Nat} {c f : Int} (h : RAt w p g bs a l c f) (hc : c ≠ 0) (most : Int) :
    Calls Tryz.prog 81 #[.pointer (some ⟨p, 0, none⟩), .int .i64 most] w fun e w' => e = .returned (.int .i64 0) ∧ RAt w' p g bs a l c f ∧ Fr (fun _ => False) w w' := by
  have H := hide h
  have Hc := hide hc
  have hlt := h.lt
  have hmf := makes
  clear h hc
  go_enter Tryz.func81, Tryz.ntmps81
  go_wp2_with fail
  have hF0 : Fr (fun _ => False) w ((w.alloc (.cells #[.pointer (some ⟨p, 0, none⟩)] 57)).alloc (.cells #[.int .i64 most] 3)) := (((Fr.refl _ _).alloc _).alloc _)
  refine (take61_failed (((unhide H).alloc (.cells #[.pointer (some ⟨p, 0, none⟩)] 57)).alloc (.cells #[.int .i64 most] 3)) (unhide Hc) _).mono ?_
  rintro e w1 ⟨rfl, hR, hF⟩
  have HD2 := hide (And.intro hR (hF0.trans hF (fun _ _ t => t)))
  clear hR hF hF0
  go_wp2
  go_ret
  exact ⟨rfl, unhide HD2⟩

/-- Count -/
theorem rcount_any {w : World} {p g : Nat} {bs : List UInt8} {s : RS} (h : s.At w p g bs) (most : Int) :
    Calls Tryz.prog 81 #[.pointer (some ⟨p, 0, none⟩), .int .i64 most] w fun e w' => e = .returned (stepR s (.int .i64 0) (oCount bs s.a most)).1 ∧ (stepR s (.int .i64 0) (oCount bs s.a most)).2.At w' p g bs ∧ Fr (· = p) w w' := by
  by_cases hc : s.c = 0
  · have h0 : RAt w p g bs s.a s.l 0 s.f := hc ▸ h
    exact (rcount_zero h0 most).mono fun e w' hD => done_step hc hD
  · refine (rcount_failed h hc most).mono ?_
    rintro e w' ⟨rfl, hR, hF⟩
    rw [show stepR s (.int .i64 0) (oCount bs s.a most) = (.int .i64 0, s) by simp only [stepR, hc, if_false]]
    exact ⟨rfl, hR, hF.mono (fun _ _ t => t.elim)⟩

end Go.Proofs.YtkjoojamkbpfcaaGreat
