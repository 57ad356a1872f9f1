/- Contracts of the writer's exported calls: what becomes of the writer. -/
import Derived.Test.YtkjoojamkbpfcaaGreatB5
namespace Go.Proofs.YtkjoojamkbpfcaaGreat
open Go.RowKit

theorem stepW_none (o : Option (List UInt8)) : stepW none o = none := by cases o <;> rfl

theorem wnumber_some {w : World} {p g : Nat} {bs : List UInt8} (h : WAt w p g bs) (hfit : bs.length + 8 ≤ 140737488355328) (n : Int) (size : Int) (hn : n ≤ 9223372036854775807) :
    Calls Tryz.prog 86 #[.pointer (some ⟨p, 0, none⟩), .int .i64 n, .int .i64 size] w fun e w' => e = .returned (.tuple #[]) ∧ WPuts p g (stepW (some bs) (wNumber n size)) w w' := by
  have H := hide h
  have hlt := h.lt
  have hgl := h.glt
  have hmf := makes
  clear h
  obtain ⟨o, HO⟩ : ∃ o, Hid (wNumber n size = o) := ⟨_, rfl⟩
  rw [unhide HO]
  go_enter Tryz.func86, Tryz.ntmps86
  go_wp2_with fail
  skip
  have hF0 : Fr (fun _ => False) w (((w.alloc (.cells #[.pointer (some ⟨p, 0, none⟩)] 56)).alloc (.cells #[.int .i64 n] 3)).alloc (.cells #[.int .i64 size] 3)) := ((((Fr.refl _ _).alloc _).alloc _).alloc _)
  refine (put79_any ((((unhide H).alloc (.cells #[.pointer (some ⟨p, 0, none⟩)] 56)).alloc (.cells #[.int .i64 n] 3)).alloc (.cells #[.int .i64 size] 3)) _ o ?_).mono ?_
  · intro w1 hF hW
    have k0 : w1.cell? ⟨w.heap.size, 0, none⟩ = some (.pointer (some ⟨p, 0, none⟩)) := (hF.cell (a := ⟨w.heap.size, 0, none⟩) (by simp <;> omega) (fun t => t)).trans (by simp [go_sem])
    have k1 : w1.cell? ⟨w.heap.size + 1, 0, none⟩ = some (.int .i64 n) := (hF.cell (a := ⟨w.heap.size + 1, 0, none⟩) (by simp <;> omega) (fun t => t)).trans (by simp [go_sem])
    have k2 : w1.cell? ⟨w.heap.size + 2, 0, none⟩ = some (.int .i64 size) := (hF.cell (a := ⟨w.heap.size + 2, 0, none⟩) (by simp <;> omega) (fun t => t)).trans (by simp [go_sem])
    rw [← unhide HO]
    exact number_put hW hfit n size hn _ _ _ k2 k1 k0
  rintro e w1 ⟨rfl, hP⟩
  have HP := hide (WPuts.later hF0 hP)
  clear hP hF0 H HO
  go_wp2
  go_end0
  exact ⟨rfl, unhide HP⟩

theorem wnumber_none {w : World} {p : Nat} (c1 : w.cell? ⟨p, 1, none⟩ = some (.bool true)) (n : Int) (size : Int) :
    Calls Tryz.prog 86 #[.pointer (some ⟨p, 0, none⟩), .int .i64 n, .int .i64 size] w fun e w' => e = .returned (.tuple #[]) ∧ w'.cell? ⟨p, 1, none⟩ = some (.bool true) ∧ Fr (fun _ => False) w w' := by
  have hlt := World.block_lt_of_cell? _ _ c1
  have hmf := makes
  go_enter Tryz.func86, Tryz.ntmps86
  go_wp2_with fail
  have hF0 : Fr (fun _ => False) w (((w.alloc (.cells #[.pointer (some ⟨p, 0, none⟩)] 56)).alloc (.cells #[.int .i64 n] 3)).alloc (.cells #[.int .i64 size] 3)) := ((((Fr.refl _ _).alloc _).alloc _).alloc _)
  refine (put_bad ((hF0.cell (a := ⟨p, 1, none⟩) hlt (fun t => t)).trans c1) _).mono ?_
  rintro e w1 ⟨rfl, hR, hF⟩
  have HD2 := hide (And.intro hR (hF0.trans hF (fun _ _ t => t)))
  clear hR hF hF0
  go_wp2
  go_end0
  exact ⟨rfl, unhide HD2⟩

/-- Number -/
theorem wnumber_any {w : World} {p g : Nat} {s : Option (List UInt8)} (h : WSt w p g s) (hfit : ∀ bs, s = some bs → bs.length + 8 ≤ 140737488355328) (n : Int) (size : Int) (hn : n ≤ 9223372036854775807) :
    Calls Tryz.prog 86 #[.pointer (some ⟨p, 0, none⟩), .int .i64 n, .int .i64 size] w fun e w' => e = .returned (.tuple #[]) ∧ WPuts p g (stepW s (wNumber n size)) w w' := by
  cases s with
  | some bs => exact wnumber_some h (hfit bs rfl) n size hn
  | none =>
    rw [stepW_none]
    refine (wnumber_none h n size).mono ?_
    rintro e w' ⟨rfl, hR, hF⟩
    exact ⟨rfl, g, hR, hF.mono (fun _ _ t => t.elim), .inl rfl⟩

theorem wfloat_some {w : World} {p g : Nat} {bs : List UInt8} (h : WAt w p g bs) (hfit : bs.length + 8 ≤ 140737488355328) (b : Nat) :
    Calls Tryz.prog 83 #[.pointer (some ⟨p, 0, none⟩), .float .f64 b] w fun e w' => e = .returned (.tuple #[]) ∧ WPuts p g (stepW (some bs) (wFloat b)) w w' := by
  have H := hide h
  have hlt := h.lt
  have hgl := h.glt
  have hmf := makes
  clear h
  obtain ⟨o, HO⟩ : ∃ o, Hid (wFloat b = o) := ⟨_, rfl⟩
  rw [unhide HO]
  go_enter Tryz.func83, Tryz.ntmps83
  go_wp2_with fail
  skip
  have hF0 : Fr (fun _ => False) w ((w.alloc (.cells #[.pointer (some ⟨p, 0, none⟩)] 56)).alloc (.cells #[.float .f64 b] 25)) := (((Fr.refl _ _).alloc _).alloc _)
  refine (put85_any (((unhide H).alloc (.cells #[.pointer (some ⟨p, 0, none⟩)] 56)).alloc (.cells #[.float .f64 b] 25)) _ o ?_).mono ?_
  · intro w1 hF hW
    have k0 : w1.cell? ⟨w.heap.size, 0, none⟩ = some (.pointer (some ⟨p, 0, none⟩)) := (hF.cell (a := ⟨w.heap.size, 0, none⟩) (by simp <;> omega) (fun t => t)).trans (by simp [go_sem])
    have k1 : w1.cell? ⟨w.heap.size + 1, 0, none⟩ = some (.float .f64 b) := (hF.cell (a := ⟨w.heap.size + 1, 0, none⟩) (by simp <;> omega) (fun t => t)).trans (by simp [go_sem])
    rw [← unhide HO]
    exact float_put hW hfit b _ _ k1 k0
  rintro e w1 ⟨rfl, hP⟩
  have HP := hide (WPuts.later hF0 hP)
  clear hP hF0 H HO
  go_wp2
  go_end0
  exact ⟨rfl, unhide HP⟩

theorem wfloat_none {w : World} {p : Nat} (c1 : w.cell? ⟨p, 1, none⟩ = some (.bool true)) (b : Nat) :
    Calls Tryz.prog 83 #[.pointer (some ⟨p, 0, none⟩), .float .f64 b] w fun e w' => e = .returned (.tuple #[]) ∧ w'.cell? ⟨p, 1, none⟩ = some (.bool true) ∧ Fr (fun _ => False) w w' := by
  have hlt := World.block_lt_of_cell? _ _ c1
  have hmf := makes
  go_enter Tryz.func83, Tryz.ntmps83
  go_wp2_with fail
  have hF0 : Fr (fun _ => False) w ((w.alloc (.cells #[.pointer (some ⟨p, 0, none⟩)] 56)).alloc (.cells #[.float .f64 b] 25)) := (((Fr.refl _ _).alloc _).alloc _)
  refine (put_bad ((hF0.cell (a := ⟨p, 1, none⟩) hlt (fun t => t)).trans c1) _).mono ?_
  rintro e w1 ⟨rfl, hR, hF⟩
  have HD2 := hide (And.intro hR (hF0.trans hF (fun _ _ t => t)))
  clear hR hF hF0
  go_wp2
  go_end0
  exact ⟨rfl, unhide HD2⟩

/-- Float -/
theorem wfloat_any {w : World} {p g : Nat} {s : Option (List UInt8)} (h : WSt w p g s) (hfit : ∀ bs, s = some bs → bs.length + 8 ≤ 140737488355328) (b : Nat) :
    Calls Tryz.prog 83 #[.pointer (some ⟨p, 0, none⟩), .float .f64 b] w fun e w' => e = .returned (.tuple #[]) ∧ WPuts p g (stepW s (wFloat b)) w w' := by
  cases s with
  | some bs => exact wfloat_some h (hfit bs rfl) b
  | none =>
    rw [stepW_none]
    refine (wfloat_none h b).mono ?_
    rintro e w' ⟨rfl, hR, hF⟩
    exact ⟨rfl, g, hR, hF.mono (fun _ _ t => t.elim), .inl rfl⟩

theorem wfixed_some {w : World} {p g : Nat} {bs : List UInt8} (h : WAt w p g bs) (t : ByteArray) (size : Int) (hfit : t.size ≤ 65535 → bs.length + t.size ≤ 140737488355328) :
    Calls Tryz.prog 104 #[.pointer (some ⟨p, 0, none⟩), .string t, .int .i64 size] w fun e w' => e = .returned (.tuple #[]) ∧ WPuts p g (stepW (some bs) (wFixed t size)) w w' := by
  have H := hide h
  have hlt := h.lt
  have hgl := h.glt
  have hmf := makes
  clear h
  obtain ⟨o, HO⟩ : ∃ o, Hid (wFixed t size = o) := ⟨_, rfl⟩
  rw [unhide HO]
  go_enter Tryz.func104, Tryz.ntmps104
  go_wp2_with fail
  have ng0 : w.heap.size ≠ g := by omega
  have hF0 : Fr (fun _ => False) w (((w.alloc (.cells #[.pointer (some ⟨p, 0, none⟩)] 56)).alloc (.cells #[.string t] 9)).alloc (.cells #[.int .i64 size] 3)) := ((((Fr.refl _ _).alloc _).alloc _).alloc _)
  refine (put86_any ((((unhide H).alloc (.cells #[.pointer (some ⟨p, 0, none⟩)] 56)).alloc (.cells #[.string t] 9)).alloc (.cells #[.int .i64 size] 3)) _ o ?_).mono ?_
  · intro w1 hF hW
    have k0 : w1.cell? ⟨w.heap.size, 0, none⟩ = some (.pointer (some ⟨p, 0, none⟩)) := (hF.cell (a := ⟨w.heap.size, 0, none⟩) (by simp <;> omega) (fun t => t)).trans (by simp [go_sem])
    have k1 : w1.cell? ⟨w.heap.size + 1, 0, none⟩ = some (.string t) := (hF.cell (a := ⟨w.heap.size + 1, 0, none⟩) (by simp <;> omega) (fun t => t)).trans (by simp [go_sem])
    have k2 : w1.cell? ⟨w.heap.size + 2, 0, none⟩ = some (.int .i64 size) := (hF.cell (a := ⟨w.heap.size + 2, 0, none⟩) (by simp <;> omega) (fun t => t)).trans (by simp [go_sem])
    rw [← unhide HO]
    exact fixed_put hW t size hfit _ _ _ k2 k1 k0 ng0
  rintro e w1 ⟨rfl, hP⟩
  have HP := hide (WPuts.later hF0 hP)
  clear hP hF0 H HO
  go_wp2
  go_end0
  exact ⟨rfl, unhide HP⟩

theorem wfixed_none {w : World} {p : Nat} (c1 : w.cell? ⟨p, 1, none⟩ = some (.bool true)) (t : ByteArray) (size : Int) :
    Calls Tryz.prog 104 #[.pointer (some ⟨p, 0, none⟩), .string t, .int .i64 size] w fun e w' => e = .returned (.tuple #[]) ∧ w'.cell? ⟨p, 1, none⟩ = some (.bool true) ∧ Fr (fun _ => False) w w' := by
  have hlt := World.block_lt_of_cell? _ _ c1
  have hmf := makes
  go_enter Tryz.func104, Tryz.ntmps104
  go_wp2_with fail
  have hF0 : Fr (fun _ => False) w (((w.alloc (.cells #[.pointer (some ⟨p, 0, none⟩)] 56)).alloc (.cells #[.string t] 9)).alloc (.cells #[.int .i64 size] 3)) := ((((Fr.refl _ _).alloc _).alloc _).alloc _)
  refine (put_bad ((hF0.cell (a := ⟨p, 1, none⟩) hlt (fun t => t)).trans c1) _).mono ?_
  rintro e w1 ⟨rfl, hR, hF⟩
  have HD2 := hide (And.intro hR (hF0.trans hF (fun _ _ t => t)))
  clear hR hF hF0
  go_wp2
  go_end0
  exact ⟨rfl, unhide HD2⟩

/-- Fixed -/
theorem wfixed_any {w : World} {p g : Nat} {s : Option (List UInt8)} (h : WSt w p g s) (t : ByteArray) (size : Int) (hfit : ∀ bs, s = some bs → t.size ≤ 65535 → bs.length + t.size ≤ 140737488355328) :
    Calls Tryz.prog 104 #[.pointer (some ⟨p, 0, none⟩), .string t, .int .i64 size] w fun e w' => e = .returned (.tuple #[]) ∧ WPuts p g (stepW s (wFixed t size)) w w' := by
  cases s with
  | some bs => exact wfixed_some h t size (hfit bs rfl)
  | none =>
    rw [stepW_none]
    refine (wfixed_none h t size).mono ?_
    rintro e w' ⟨rfl, hR, hF⟩
    exact ⟨rfl, g, hR, hF.mono (fun _ _ t => t.elim), .inl rfl⟩

theorem wcount_some {w : World} {p g : Nat} {bs : List UInt8} (h : WAt w p g bs) (hfit : bs.length + 2 ≤ 140737488355328) (n : Int) :
    Calls Tryz.prog 80 #[.pointer (some ⟨p, 0, none⟩), .int .i64 n] w fun e w' => e = .returned (.tuple #[]) ∧ WPuts p g (stepW (some bs) (wCount n)) w w' := by
  have H := hide h
  have hlt := h.lt
  have hgl := h.glt
  have hmf := makes
  clear h
  obtain ⟨o, HO⟩ : ∃ o, Hid (wCount n = o) := ⟨_, rfl⟩
  rw [unhide HO]
  go_enter Tryz.func80, Tryz.ntmps80
  go_wp2_with fail
  skip
  have hF0 : Fr (fun _ => False) w ((w.alloc (.cells #[.pointer (some ⟨p, 0, none⟩)] 56)).alloc (.cells #[.int .i64 n] 3)) := (((Fr.refl _ _).alloc _).alloc _)
  refine (put83_any (((unhide H).alloc (.cells #[.pointer (some ⟨p, 0, none⟩)] 56)).alloc (.cells #[.int .i64 n] 3)) _ o ?_).mono ?_
  · intro w1 hF hW
    have k0 : w1.cell? ⟨w.heap.size, 0, none⟩ = some (.pointer (some ⟨p, 0, none⟩)) := (hF.cell (a := ⟨w.heap.size, 0, none⟩) (by simp <;> omega) (fun t => t)).trans (by simp [go_sem])
    have k1 : w1.cell? ⟨w.heap.size + 1, 0, none⟩ = some (.int .i64 n) := (hF.cell (a := ⟨w.heap.size + 1, 0, none⟩) (by simp <;> omega) (fun t => t)).trans (by simp [go_sem])
    rw [← unhide HO]
    exact count_put hW hfit n _ _ k1 k0
  rintro e w1 ⟨rfl, hP⟩
  have HP := hide (WPuts.later hF0 hP)
  clear hP hF0 H HO
  go_wp2
  go_end0
  exact ⟨rfl, unhide HP⟩

theorem wcount_none {w : World} {p : Nat} (c1 : w.cell? ⟨p, 1, none⟩ = some (.bool true)) (n : Int) :
    Calls Tryz.prog 80 #[.pointer (some ⟨p, 0, none⟩), .int .i64 n] w fun e w' => e = .returned (.tuple #[]) ∧ w'.cell? ⟨p, 1, none⟩ = some (.bool true) ∧ Fr (fun _ => False) w w' := by
  have hlt := World.block_lt_of_cell? _ _ c1
  have hmf := makes
  go_enter Tryz.func80, Tryz.ntmps80
  go_wp2_with fail
  have hF0 : Fr (fun _ => False) w ((w.alloc (.cells #[.pointer (some ⟨p, 0, none⟩)] 56)).alloc (.cells #[.int .i64 n] 3)) := (((Fr.refl _ _).alloc _).alloc _)
  refine (put_bad ((hF0.cell (a := ⟨p, 1, none⟩) hlt (fun t => t)).trans c1) _).mono ?_
  rintro e w1 ⟨rfl, hR, hF⟩
  have HD2 := hide (And.intro hR (hF0.trans hF (fun _ _ t => t)))
  clear hR hF hF0
  go_wp2
  go_end0
  exact ⟨rfl, unhide HD2⟩

/-- Count -/
theorem wcount_any {w : World} {p g : Nat} {s : Option (List UInt8)} (h : WSt w p g s) (hfit : ∀ bs, s = some bs → bs.length + 2 ≤ 140737488355328) (n : Int) :
    Calls Tryz.prog 80 #[.pointer (some ⟨p, 0, none⟩), .int .i64 n] w fun e w' => e = .returned (.tuple #[]) ∧ WPuts p g (stepW s (wCount n)) w w' := by
  cases s with
  | some bs => exact wcount_some h (hfit bs rfl) n
  | none =>
    rw [stepW_none]
    refine (wcount_none h n).mono ?_
    rintro e w' ⟨rfl, hR, hF⟩
    exact ⟨rfl, g, hR, hF.mono (fun _ _ t => t.elim), .inl rfl⟩

end Go.Proofs.YtkjoojamkbpfcaaGreat
