import Derived.Test.YtlhgfnpialndaaaK0
import Derived.Deep.RegionHeld3
/- A walk's pieces, one at a time: sized, piece; read and written. -/
namespace Go.Proofs.Ytlhgfnpialndaaa
open Go.RowKit

theorem run_store_float {P : Program} {w : World} {a : Addr} {m : Mode} (x : Nat) : (store a (.float .f64 x) m).run P w = stored P w a (.float .f64 x) m := run_store P w a _ m rfl
attribute [local go_sem] run_store_float

/-- A walk that writes; one that reads. -/
abbrev walkW (p : Nat) : Value := .agg #[.pointer (some ⟨p, 0, none⟩), .pointer none]
abbrev walkR (p : Nat) : Value := .agg #[.pointer none, .pointer (some ⟨p, 0, none⟩)]

/-- A reader, and a box beside it. -/
structure RB (w : World) (p g b : Nat) (bs : List UInt8) (s : RS) (cs : Array Value) (t : TypeId) : Prop where
  r : s.At w p g bs
  x : Bx w b cs t
  np : b ≠ p
  ng : 0 < bs.length → b ≠ g

section
variable {w w' : World} {p g b : Nat} {bs : List UInt8} {s s' : RS} {cs : Array Value} {t : TypeId}

theorem RB.alloc (h : RB w p g b bs s cs t) (o : Obj) : RB (w.alloc o) p g b bs s cs t := ⟨RAt.alloc h.r o, h.x.alloc o, h.np, h.ng⟩
theorem RB.drew (h : RB w p g b bs s cs t) : RB w.drew p g b bs s cs t := ⟨RAt.drew h.r, h.x, h.np, h.ng⟩
theorem RB.step (h : RB w p g b bs s cs t) (hr : s'.At w' p g bs) (hf : Fr (· = p) w w') : RB w' p g b bs s' cs t := ⟨hr, h.x.frame hf h.np, h.np, h.ng⟩
theorem RB.set (h : RB w p g b bs s cs t) (o : Nat) (v : Value) : RB (w.setCell ⟨b, o, none⟩ v) p g b bs s (cs.setIfInBounds o v) t :=
  ⟨RAt.setOther h.r h.np h.ng v, h.x.setCell o v, h.np, h.ng⟩
theorem RB.plt (h : RB w p g b bs s cs t) : p < w.heap.size := RAt.lt h.r

theorem WSt.drew {st : Option (List UInt8)} (h : WSt w p g st) : WSt w.drew p g st := by
  cases st with
  | some bs => exact WAt.drew h
  | none => exact h

/-- What a call that reads into a box comes to. -/
def RDone (p g b : Nat) (bs : List UInt8) (s' : RS) (cs' : Array Value) (t : TypeId) (w : World) (e : Ending) (w' : World) : Prop :=
  e = .returned (.tuple #[]) ∧ RB w' p g b bs s' cs' t ∧ Fr (fun k => k = p ∨ k = b) w w'

theorem sizedI_r (h : RB w p g b bs s cs t) (o : Nat) (ho : o < cs.size) (size : Nat) :
    Calls Try.prog 59 #[walkR p, .pointer (some ⟨b, o, none⟩), .int .i64 size, .func (Fn.func 60) #[] #[], .func (Fn.func 61) #[] #[]] w (RDone p g b bs ((Kd.num size).rd bs s).2 (cs.setIfInBounds o ((Kd.num size).rd bs s).1) t w) := by
  have H := hide h
  have hb := h.x.lt
  have hp := h.plt
  have hbp := h.np
  obtain ⟨v, hv⟩ : ∃ v, w.cell? ⟨b, o, none⟩ = some v := ⟨cs[o], by rw [h.x.cell]; simp [ho]⟩
  have hfz := h.x.frozen o
  clear h
  go_enter Try.func59, Try.ntmps59
  go_wp2_with fail
  refine (rnumber_any (RAt.alloc (unhide H).r _) (size : Int)).mono ?_
  obtain ⟨r, HR⟩ : ∃ r, Hid ((Kd.num size).rd bs s = r) := ⟨_, rfl⟩
  have hR : stepR s (.int .i64 0) ((Kd.num size).o bs s.a) = r := unhide HR
  simp only [Kd.o] at hR
  rw [hR]
  clear hR
  rintro e w1 ⟨rfl, h1, h2⟩
  have HB := hide (((unhide H).alloc _).step h1 h2)
  have hc1 : w1.cell? ⟨b, o, none⟩ = some v := (h2.cell (a := ⟨b, o, none⟩) (by simp; omega) hbp).trans ((World.cell?_alloc_lt _ _ _ hb).trans hv)
  have hc2 : w1.frozen? ⟨b, o, none⟩ = false := (unhide HB).x.frozen o
  have HF : Hid (Fr (fun k => k = p ∨ k = b) w w1) := hide ((((Fr.refl _ w).alloc _).trans h2 (fun _ _ t => Or.inl t)))
  clear h1 h2 hv hfz
  have hone : ∃ x, r.1 = (.int .i64 x) := by rw [← unhide HR]; exact rd_num bs _ s (Or.inl ⟨_, rfl⟩)
  obtain ⟨x, hx⟩ := hone
  rw [hx]
  have HX := hide hx
  clear hx
  go_wp2
  go_end0
  refine ⟨rfl, ?_, (unhide HF).setCell (p := ⟨b, o, none⟩) (fun _ => Or.inr rfl) _⟩
  rw [unhide HR, unhide HX]
  exact (unhide HB).set o _

theorem sizedI_w {st : Option (List UInt8)} (h : WSt w p g st) (hb : Bx w b cs t) (o : Nat) (size : Nat) (x : Int) (hx : cs[o]? = some (.int .i64 x)) (L : Nat) (hL : Most st L) (hfit : L + 65600 ≤ 140737488355328) (hn : x ≤ 9223372036854775807) :
    Calls Try.prog 59 #[walkW p, .pointer (some ⟨b, o, none⟩), .int .i64 size, .func (Fn.func 60) #[] #[], .func (Fn.func 61) #[] #[]] w fun e w' => e = .returned (.tuple #[]) ∧ WPuts p g (stepW st ((Kd.num size).w (.int .i64 x))) w w' := by
  have H := hide h
  have hc : w.cell? ⟨b, o, none⟩ = some (.int .i64 x) := by rw [hb.cell]; exact hx
  have hlt := hb.lt
  have hp := h.lt
  have HL := hide hL
  have HFT := hide hfit
  clear h hb hx hL hfit
  go_enter Try.func59, Try.ntmps59
  go_wp2_with fail
  have hwb : (w.alloc (.cells #[.pointer (some ⟨p, 0, none⟩), .pointer none] 82)).cell? ⟨w.heap.size, 0, none⟩ = some (.pointer (some ⟨p, 0, none⟩)) := by simp [go_sem]
  have hcb : (w.alloc (.cells #[.pointer (some ⟨p, 0, none⟩), .pointer none] 82)).cell? ⟨b, o, none⟩ = some (.int .i64 x) := (World.cell?_alloc_lt _ _ _ hlt).trans hc
  have HA := hide (WSt.alloc (unhide H) (.cells #[.pointer (some ⟨p, 0, none⟩), .pointer none] 82))
  have HF0 : Hid (Fr (fun _ => False) w (w.alloc (.cells #[.pointer (some ⟨p, 0, none⟩), .pointer none] 82)).drew) := hide ((Fr.refl _ w).alloc _).drew
  obtain ⟨N, HN⟩ : ∃ N, Hid (w.heap.size = N) := ⟨_, rfl⟩
  rw [unhide HN] at hwb ⊢
  generalize w.alloc (.cells #[.pointer (some ⟨p, 0, none⟩), .pointer none] 82) = wA at *
  go_region_with ((go_at_call 60; refine (wnumber_any (WSt.drew (unhide HA)) (fun bs e => by have := unhide HL bs e; have := unhide HFT; omega) x size hn).mono ?_; rintro e w1 ⟨rfl, hP⟩; have HP := hide (WPuts.later (unhide HF0) hP); clear hP))
  all_goals
    go_wp2
    exact bodyPost_ret (v := .tuple #[]) (results_none rfl _ _ _) rfl ⟨rfl, unhide HP⟩

theorem sizedS_r (h : RB w p g b bs s cs t) (o : Nat) (ho : o < cs.size) (size : Nat) :
    Calls Try.prog 56 #[walkR p, .pointer (some ⟨b, o, none⟩), .int .i64 size, .func (Fn.func 57) #[] #[], .func (Fn.func 58) #[] #[]] w (RDone p g b bs ((Kd.fix size).rd bs s).2 (cs.setIfInBounds o ((Kd.fix size).rd bs s).1) t w) := by
  have H := hide h
  have hb := h.x.lt
  have hp := h.plt
  have hbp := h.np
  obtain ⟨v, hv⟩ : ∃ v, w.cell? ⟨b, o, none⟩ = some v := ⟨cs[o], by rw [h.x.cell]; simp [ho]⟩
  have hfz := h.x.frozen o
  clear h
  go_enter Try.func56, Try.ntmps56
  go_wp2_with fail
  refine (rfixed_any (RAt.alloc (unhide H).r _) (size : Int)).mono ?_
  obtain ⟨r, HR⟩ : ∃ r, Hid ((Kd.fix size).rd bs s = r) := ⟨_, rfl⟩
  have hR : stepR s (.string ⟨#[]⟩) ((Kd.fix size).o bs s.a) = r := unhide HR
  simp only [Kd.o] at hR
  rw [hR]
  clear hR
  rintro e w1 ⟨rfl, h1, h2⟩
  have HB := hide (((unhide H).alloc _).step h1 h2)
  have hc1 : w1.cell? ⟨b, o, none⟩ = some v := (h2.cell (a := ⟨b, o, none⟩) (by simp; omega) hbp).trans ((World.cell?_alloc_lt _ _ _ hb).trans hv)
  have hc2 : w1.frozen? ⟨b, o, none⟩ = false := (unhide HB).x.frozen o
  have HF : Hid (Fr (fun k => k = p ∨ k = b) w w1) := hide ((((Fr.refl _ w).alloc _).trans h2 (fun _ _ t => Or.inl t)))
  clear h1 h2 hv hfz
  have hone : ∃ x, r.1 = (.string x) := by rw [← unhide HR]; exact rd_fix bs _ s
  obtain ⟨x, hx⟩ := hone
  rw [hx]
  have HX := hide hx
  clear hx
  go_wp2
  go_end0
  refine ⟨rfl, ?_, (unhide HF).setCell (p := ⟨b, o, none⟩) (fun _ => Or.inr rfl) _⟩
  rw [unhide HR, unhide HX]
  exact (unhide HB).set o _

theorem sizedS_w {st : Option (List UInt8)} (h : WSt w p g st) (hb : Bx w b cs t) (o : Nat) (size : Nat) (x : ByteArray) (hx : cs[o]? = some (.string x)) (L : Nat) (hL : Most st L) (hfit : L + 65600 ≤ 140737488355328) :
    Calls Try.prog 56 #[walkW p, .pointer (some ⟨b, o, none⟩), .int .i64 size, .func (Fn.func 57) #[] #[], .func (Fn.func 58) #[] #[]] w fun e w' => e = .returned (.tuple #[]) ∧ WPuts p g (stepW st ((Kd.fix size).w (.string x))) w w' := by
  have H := hide h
  have hc : w.cell? ⟨b, o, none⟩ = some (.string x) := by rw [hb.cell]; exact hx
  have hlt := hb.lt
  have hp := h.lt
  have HL := hide hL
  have HFT := hide hfit
  clear h hb hx hL hfit
  go_enter Try.func56, Try.ntmps56
  go_wp2_with fail
  have hwb : (w.alloc (.cells #[.pointer (some ⟨p, 0, none⟩), .pointer none] 82)).cell? ⟨w.heap.size, 0, none⟩ = some (.pointer (some ⟨p, 0, none⟩)) := by simp [go_sem]
  have hcb : (w.alloc (.cells #[.pointer (some ⟨p, 0, none⟩), .pointer none] 82)).cell? ⟨b, o, none⟩ = some (.string x) := (World.cell?_alloc_lt _ _ _ hlt).trans hc
  have HA := hide (WSt.alloc (unhide H) (.cells #[.pointer (some ⟨p, 0, none⟩), .pointer none] 82))
  have HF0 : Hid (Fr (fun _ => False) w (w.alloc (.cells #[.pointer (some ⟨p, 0, none⟩), .pointer none] 82)).drew) := hide ((Fr.refl _ w).alloc _).drew
  obtain ⟨N, HN⟩ : ∃ N, Hid (w.heap.size = N) := ⟨_, rfl⟩
  rw [unhide HN] at hwb ⊢
  generalize w.alloc (.cells #[.pointer (some ⟨p, 0, none⟩), .pointer none] 82) = wA at *
  go_region_with ((go_at_call 57; refine (wfixed_any (WSt.drew (unhide HA)) x size (fun bs e _ => by have := unhide HL bs e; have := unhide HFT; omega)).mono ?_; rintro e w1 ⟨rfl, hP⟩; have HP := hide (WPuts.later (unhide HF0) hP); clear hP))
  all_goals
    go_wp2
    exact bodyPost_ret (v := .tuple #[]) (results_none rfl _ _ _) rfl ⟨rfl, unhide HP⟩

end
end Go.Proofs.Ytlhgfnpialndaaa

