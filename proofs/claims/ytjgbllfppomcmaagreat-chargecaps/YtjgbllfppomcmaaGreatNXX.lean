import Derived.Test.YtjgbllfppomcmaaGreatK0
import Derived.Deep.RegionHeld3
/- A walk's pieces, one at a time: sized, piece; read and written. -/
namespace Go.Proofs.YtjgbllfppomcmaaGreat
open Go.RowKit

theorem run_store_float {P : Program} {w : World} {a : Addr} {m : Mode} (x : Nat) : (store a (.float .f64 x) m).run P w = stored P w a (.float .f64 x) m := run_store P w a _ m rfl
attribute [local go_sem] run_store_float

/-- A walk that writes; one that reads. -/
abbrev walkW (p : Nat) : Value := .agg #[.pointer (some ⟨p, 0, none⟩), .pointer none]
abbrev walkR (p : Nat) : Value := .agg #[.pointer none, .pointer (some ⟨p, 0, none⟩)]

/-- A reader, and a box beside it. -/
structure RB (w : World) (p g b : Nat) (bs : List UInt8) (s : RS) (cs : Array Value) (t : TypeId) : Prop where
  r : s.At w p g bs
  x : Bx w b cs t
  np : b ≠ p
  ng : 0 < bs.length → b ≠ g

section
variable {w w' : World} {p g b : Nat} {bs : List UInt8} {s s' : RS} {cs : Array Value} {t : TypeId}

theorem RB.alloc (h : RB w p g b bs s cs t) (o : Obj) : RB (w.alloc o) p g b bs s cs t := ⟨RAt.alloc h.r o, h.x.alloc o, h.np, h.ng⟩
theorem RB.drew (h : RB w p g b bs s cs t) : RB w.drew p g b bs s cs t := ⟨RAt.drew h.r, h.x, h.np, h.ng⟩
theorem RB.step (h : RB w p g b bs s cs t) (hr : s'.At w' p g bs) (hf : Fr (· = p) w w') : RB w' p g b bs s' cs t := ⟨hr, h.x.frame hf h.np, h.np, h.ng⟩
theorem RB.set (h : RB w p g b bs s cs t) (o : Nat) (v : Value) : RB (w.setCell ⟨b, o, none⟩ v) p g b bs s (cs.setIfInBounds o v) t :=
  ⟨RAt.setOther h.r h.np h.ng v, h.x.setCell o v, h.np, h.ng⟩
theorem RB.plt (h : RB w p g b bs s cs t) : p < w.heap.size := RAt.lt h.r

theorem WSt.drew {st : Option (List UInt8)} (h : WSt w p g st) : WSt w.drew p g st := by
  cases st with
  | some bs => exact WAt.drew h
  | none => exact h

/-- What a call that reads into a box comes to. -/
def RDone (p g b : Nat) (bs : List UInt8) (s' : RS) (cs' : Array Value) (t : TypeId) (w : World) (e : Ending) (w' : World) : Prop :=
  e = .returned (.tuple #[]) ∧ RB w' p g b bs s' cs' t ∧ Fr (fun k => k = p ∨ k = b) w w'

theorem sizedI_r (h : RB w p g b bs s cs t) (o : Nat) (ho : o < cs.size) (size : Nat) :
    Calls Tryz.prog 178 #[walkR p, .pointer (some ⟨b, o, none⟩), .int .i64 size, .func (Fn.func 179) #[] #[], .func (Fn.func 180) #[] #[]] w (RDone p g b bs ((Kd.num size).rd bs s).2 (cs.setIfInBounds o ((Kd.num size).rd bs s).1) t w) := by
  have H := hide h
  have hb := h.x.lt
  have hp := h.plt
  have hbp := h.np
  obtain ⟨v, hv⟩ : ∃ v, w.cell? ⟨b, o, none⟩ = some v := ⟨cs[o], by rw [h.x.cell]; simp [ho]⟩
  have hfz := h.x.frozen o
  clear h
  go_enter Tryz.func178, Tryz.ntmps178
  go_wp2_with fail
  refine (rnumber_any (RAt.alloc (unhide H).r _) (size : Int)).mono ?_
  obtain ⟨r, HR⟩ : ∃ r, Hid ((Kd.num size).rd bs s = r) := ⟨_, rfl⟩
  have hR : stepR s (.int .i64 0) ((Kd.num size).o bs s.a) = r := unhide HR
  simp only [Kd.o] at hR
  rw [hR]
  clear hR
  rintro e w1 ⟨rfl, h1, h2⟩
  have HB := hide (((unhide H).alloc _).step h1 h2)
  have hc1 : w1.cell? ⟨b, o, none⟩ = some v := (h2.cell (a := ⟨b, o, none⟩) (by simp; omega) hbp).trans ((World.cell?_alloc_lt _ _ _ hb).trans hv)
  have hc2 : w1.frozen? ⟨b, o, none⟩ = false := (unhide HB).x.frozen o
  have HF : Hid (Fr (fun k => k = p ∨ k = b) w w1) := hide ((((Fr.refl _ w).alloc _).trans h2 (fun _ _ t => Or.inl t)))
  clear h1 h2 hv hfz
  have hone : ∃ x, r.1 = (.int .i64 x) := by rw [← unhide HR]; exact rd_num bs _ s (Or.inl ⟨_, rfl⟩)
  obtain ⟨x, hx⟩ := hone
  rw [hx]
  have HX := hide hx
  clear hx
  go_wp2
  go_end0
  refine ⟨rfl, ?_, (unhide HF).setCell (p := ⟨b, o, none⟩) (fun _ => Or.inr rfl) _⟩
  rw [unhide HR, unhide HX]
  exact (unhide HB).set o _

theorem sizedI_w {st : Option (List UInt8)} (h : WSt w p g st) (hb : Bx w b cs t) (o : Nat) (size : Nat) (x : Int) (hx : cs[o]? = some (.int .i64 x)) (L : Nat) (hL : Most st L) (hfit : L + 65600 ≤ 140737488355328) (hn : x ≤ 9223372036854775807) :
    Calls Tryz.prog 178 #[walkW p, .pointer (some ⟨b, o, none⟩), .int .i64 size, .func (Fn.func 179) #[] #[], .func (Fn.func 180) #[] #[]] w fun e w' => e = .returned (.tuple #[]) ∧ WPuts p g (stepW st ((Kd.num size).w (.int .i64 x))) w w' := by
  have H := hide h
  have hc : w.cell? ⟨b, o, none⟩ = some (.int .i64 x) := by rw [hb.cell]; exact hx
  have hlt := hb.lt
  have hp := h.lt
  have HL := hide hL
  have HFT := hide hfit
  clear h hb hx hL hfit
  go_enter Tryz.func178, Tryz.ntmps178
  go_wp2_with fail
  have hwb : (w.alloc (.cells #[.pointer (some ⟨p, 0, none⟩), .pointer none] 170)).cell? ⟨w.heap.size, 0, none⟩ = some (.pointer (some ⟨p, 0, none⟩)) := by simp [go_sem]
  have hcb : (w.alloc (.cells #[.pointer (some ⟨p, 0, none⟩), .pointer none] 170)).cell? ⟨b, o, none⟩ = some (.int .i64 x) := (World.cell?_alloc_lt _ _ _ hlt).trans hc
  have HA := hide (WSt.alloc (unhide H) (.cells #[.pointer (some ⟨p, 0, none⟩), .pointer none] 170))
  have HF0 : Hid (Fr (fun _ => False) w (w.alloc (.cells #[.pointer (some ⟨p, 0, none⟩), .pointer none] 170)).drew) := hide ((Fr.refl _ w).alloc _).drew
  obtain ⟨N, HN⟩ : ∃ N, Hid (w.heap.size = N) := ⟨_, rfl⟩
  rw [unhide HN] at hwb ⊢
  generalize w.alloc (.cells #[.pointer (some ⟨p, 0, none⟩), .pointer none] 170) = wA at *
  go_region_with ((go_at_call 179; refine (wnumber_any (WSt.drew (unhide HA)) (fun bs e => by have := unhide HL bs e; have := unhide HFT; omega) x size hn).mono ?_; rintro e w1 ⟨rfl, hP⟩; have HP := hide (WPuts.later (unhide HF0) hP); clear hP))
  all_goals
    go_wp2
    exact bodyPost_ret (v := .tuple #[]) (results_none rfl _ _ _) rfl ⟨rfl, unhide HP⟩

theorem sizedS_r (h : RB w p g b bs s cs t) (o : Nat) (ho : o < cs.size) (size : Nat) :
    Calls Tryz.prog 181 #[walkR p, .pointer (some ⟨b, o, none⟩), .int .i64 size, .func (Fn.func 182) #[] #[], .func (Fn.func 183) #[] #[]] w (RDone p g b bs ((Kd.fix size).rd bs s).2 (cs.setIfInBounds o ((Kd.fix size).rd bs s).1) t w) := by
  have H := hide h
  have hb := h.x.lt
  have hp := h.plt
  have hbp := h.np
  obtain ⟨v, hv⟩ : ∃ v, w.cell? ⟨b, o, none⟩ = some v := ⟨cs[o], by rw [h.x.cell]; simp [ho]⟩
  have hfz := h.x.frozen o
  clear h
  go_enter Tryz.func181, Tryz.ntmps181
  go_wp2_with fail
  refine (rfixed_any (RAt.alloc (unhide H).r _) (size : Int)).mono ?_
  obtain ⟨r, HR⟩ : ∃ r, Hid ((Kd.fix size).rd bs s = r) := ⟨_, rfl⟩
  have hR : stepR s (.string ⟨#[]⟩) ((Kd.fix size).o bs s.a) = r := unhide HR
  simp only [Kd.o] at hR
  rw [hR]
  clear hR
  rintro e w1 ⟨rfl, h1, h2⟩
  have HB := hide (((unhide H).alloc _).step h1 h2)
  have hc1 : w1.cell? ⟨b, o, none⟩ = some v := (h2.cell (a := ⟨b, o, none⟩) (by simp; omega) hbp).trans ((World.cell?_alloc_lt _ _ _ hb).trans hv)
  have hc2 : w1.frozen? ⟨b, o, none⟩ = false := (unhide HB).x.frozen o
  have HF : Hid (Fr (fun k => k = p ∨ k = b) w w1) := hide ((((Fr.refl _ w).alloc _).trans h2 (fun _ _ t => Or.inl t)))
  clear h1 h2 hv hfz
  have hone : ∃ x, r.1 = (.string x) := by rw [← unhide HR]; exact rd_fix bs _ s
  obtain ⟨x, hx⟩ := hone
  rw [hx]
  have HX := hide hx
  clear hx
  go_wp2
  go_end0
  refine ⟨rfl, ?_, (unhide HF).setCell (p := ⟨b, o, none⟩) (fun _ => Or.inr rfl) _⟩
  rw [unhide HR, unhide HX]
  exact (unhide HB).set o _

theorem sizedS_w {st : Option (List UInt8)} (h : WSt w p g st) (hb : Bx w b cs t) (o : Nat) (size : Nat) (x : ByteArray) (hx : cs[o]? = some (.string x)) (L : Nat) (hL : Most st L) (hfit : L + 65600 ≤ 140737488355328) :
    Calls Tryz.prog 181 #[walkW p, .pointer (some ⟨b, o, none⟩), .int .i64 size, .func (Fn.func 182) #[] #[], .func (Fn.func 183) #[] #[]] w fun e w' => e = .returned (.tuple #[]) ∧ WPuts p g (stepW st ((Kd.fix size).w (.string x))) w w' := by
  have H := hide h
  have hc : w.cell? ⟨b, o, none⟩ = some (.string x) := by rw [hb.cell]; exact hx
  have hlt := hb.lt
  have hp := h.lt
  have HL := hide hL
  have HFT := hide hfit
  clear h hb hx hL hfit
  go_enter Tryz.func181, Tryz.ntmps181
  go_wp2_with fail
  have hwb : (w.alloc (.cells #[.pointer (some ⟨p, 0, none⟩), .pointer none] 170)).cell? ⟨w.heap.size, 0, none⟩ = some (.pointer (some ⟨p, 0, none⟩)) := by simp [go_sem]
  have hcb : (w.alloc (.cells #[.pointer (some ⟨p, 0, none⟩), .pointer none] 170)).cell? ⟨b, o, none⟩ = some (.string x) := (World.cell?_alloc_lt _ _ _ hlt).trans hc
  have HA := hide (WSt.alloc (unhide H) (.cells #[.pointer (some ⟨p, 0, none⟩), .pointer none] 170))
  have HF0 : Hid (Fr (fun _ => False) w (w.alloc (.cells #[.pointer (some ⟨p, 0, none⟩), .pointer none] 170)).drew) := hide ((Fr.refl _ w).alloc _).drew
  obtain ⟨N, HN⟩ : ∃ N, Hid (w.heap.size = N) := ⟨_, rfl⟩
  rw [unhide HN] at hwb ⊢
  generalize w.alloc (.cells #[.pointer (some ⟨p, 0, none⟩), .pointer none] 170) = wA at *
  go_region_with ((go_at_call 182; refine (wfixed_any (WSt.drew (unhide HA)) x size (fun bs e _ => by have := unhide HL bs e; have := unhide HFT; omega)).mono ?_; rintro e w1 ⟨rfl, hP⟩; have HP := hide (WPuts.later (unhide HF0) hP); clear hP))
  all_goals
    go_wp2
    exact bodyPost_ret (v := .tuple #[]) (results_none rfl _ _ _) rfl ⟨rfl, unhide HP⟩

end
end Go.Proofs.YtjgbllfppomcmaaGreat

/- A walk's numbers, token, amount, truth, rate; read and written. -/
namespace Go.Proofs.YtjgbllfppomcmaaGreat
open Go.RowKit

/-- A row of values laid into a box, from place o on. -/
def putAt (cs : Array Value) (o : Nat) : List Value → Array Value
  | [] => cs
  | v :: vs => putAt (cs.setIfInBounds o v) (o + 1) vs

theorem putAt_snoc (vs : List Value) (v : Value) : ∀ (cs : Array Value) (o : Nat), putAt cs o (vs ++ [v]) = (putAt cs o vs).setIfInBounds (o + vs.length) v := by
  induction vs with
  | nil => intro cs o; rfl
  | cons u vs ih => intro cs o; rw [List.cons_append, putAt, ih, putAt, List.length_cons, show o + 1 + vs.length = o + (vs.length + 1) by omega]

theorem putAt_size (vs : List Value) : ∀ (cs : Array Value) (o : Nat), (putAt cs o vs).size = cs.size := by
  induction vs with
  | nil => intro cs o; rfl
  | cons u vs ih => intro cs o; rw [putAt, ih]; simp

theorem rep_snoc (n : Nat) (k : Kd) : List.replicate (n + 1) k = List.replicate n k ++ [k] := List.replicate_succ'

theorem wide_cons (k : Kd) (ks : List Kd) : wide (k :: ks) = k.n + wide ks := rfl
theorem wide_rep (n : Nat) (k : Kd) : wide (List.replicate n k) = n * k.n := by
  induction n with
  | zero => simp [wide]
  | succ n ih => rw [List.replicate_succ, wide_cons, ih, Nat.succ_mul, Nat.add_comm]

/-- A writer, and a box beside it. -/
structure WB (w : World) (p g b : Nat) (st : Option (List UInt8)) (cs : Array Value) (t : TypeId) : Prop where
  s : WSt w p g st
  x : Bx w b cs t
  np : b ≠ p
  ng : b ≠ g
  gl : g < w.heap.size

/-- Behind what is put: where the bytes lie now, what else may have turned. -/
def WP (p g : Nat) (st : Option (List UInt8)) (w w' : World) : Prop := ∃ g', WSt w' p g' st ∧ g' < w'.heap.size ∧ (g' = g ∨ w.heap.size ≤ g') ∧ Fr (fun k => k = p ∨ k = g) w w'

theorem WP.of {p g : Nat} {st : Option (List UInt8)} {w w' : World} (h : WPuts p g st w w') (hg : g < w.heap.size) : WP p g st w w' := by
  obtain ⟨g', h1, h2, h3⟩ := h
  cases st with
  | some bs => exact ⟨g', h1, WAt.glt h1, h3, h2⟩
  | none => exact ⟨g, h1, Nat.lt_of_lt_of_le hg h2.size, Or.inl rfl, h2⟩

theorem WP.after {p g g1 : Nat} {st : Option (List UInt8)} {w w1 w2 : World} (h2 : Fr (fun k => k = p ∨ k = g) w w1) (h3 : g1 = g ∨ w.heap.size ≤ g1) (k : WP p g1 st w1 w2) : WP p g st w w2 := by
  obtain ⟨g2, k1, k2, k3, k4⟩ := k
  refine ⟨g2, k1, k2, ?_, h2.trans k4 (fun i hi t => ?_)⟩
  · have := h2.size
    omega
  · omega

theorem WP.later {p g : Nat} {st : Option (List UInt8)} {w w1 w2 : World} (hf : Fr (fun _ => False) w w1) (h : WP p g st w1 w2) : WP p g st w w2 :=
  WP.after (hf.mono (fun _ _ t => t.elim)) (Or.inl rfl) h

section
variable {w w' : World} {p g b : Nat} {bs : List UInt8} {s s' : RS} {cs : Array Value} {t : TypeId} {st st' : Option (List UInt8)}

theorem WB.alloc (h : WB w p g b st cs t) (o : Obj) : WB (w.alloc o) p g b st cs t := ⟨WSt.alloc h.s o, h.x.alloc o, h.np, h.ng, by rw [heap_alloc]; have := h.gl; omega⟩
theorem WB.drew (h : WB w p g b st cs t) : WB w.drew p g b st cs t := ⟨WSt.drew h.s, h.x, h.np, h.ng, h.gl⟩
theorem WB.plt (h : WB w p g b st cs t) : p < w.heap.size := h.s.lt

/-- A call on the writer behind another one. -/
theorem WB.next (h : WB w p g b st cs t) (k : WP p g st' w w') : ∃ g', WB w' p g' b st' cs t ∧ (g' = g ∨ w.heap.size ≤ g') ∧ Fr (fun k => k = p ∨ k = g) w w' := by
  obtain ⟨g', k1, k2, k3, k4⟩ := k
  have := h.x.lt
  have := h.ng
  exact ⟨g', ⟨k1, h.x.frame k4 (by have := h.np; omega), h.np, by omega, k2⟩, k3, k4⟩

/-- What a call that writes out of a box comes to. -/
def WDone (p g : Nat) (st' : Option (List UInt8)) (w : World) (e : Ending) (w' : World) : Prop := e = .returned (.tuple #[]) ∧ WP p g st' w w'

/-- The pointers that numbers is handed: to places one behind another. -/
def Ptrs (w : World) (q b o n : Nat) : Prop := ∀ j, j < n → w.cell? ⟨q, j, none⟩ = some (.pointer (some ⟨b, o + j, none⟩))

theorem Ptrs.frame {S : Nat → Prop} {q o n : Nat} (h : Ptrs w q b o n) (hf : Fr S w w') (hS : ¬ S q) : Ptrs w' q b o n := fun j hj =>
  (hf.cell (a := ⟨q, j, none⟩) (World.block_lt_of_cell? _ _ (h j hj)) hS).trans (h j hj)

theorem numbers_r (h : RB w p g b bs s cs t) (q o n size : Nat) (hq : Ptrs w q b o n) (hqp : q ≠ p) (hqb : q ≠ b) (ho : o + n ≤ cs.size) (hn : n ≤ 100) :
    Calls Tryz.prog 154 #[walkR p, .int .i64 size, .slice (some ⟨q, 0, none⟩) n n] w
      (RDone p g b bs (rdL bs (List.replicate n (.num size)) s).2 (putAt cs o (rdL bs (List.replicate n (.num size)) s).1) t w) := by
  have HB := hide h
  have HQ := hide hq
  have HO := hide ho
  have hp := h.plt
  have hb := h.x.lt
  clear h hq ho
  go_enter Tryz.func154, Tryz.ntmps154
  go_wp2
  have HA := hide ((unhide HB).alloc (.cells #[.pointer none, .pointer (some ⟨p, 0, none⟩)] 170))
  have HX : Hid (Bx (w.alloc (.cells #[.pointer none, .pointer (some ⟨p, 0, none⟩)] 170)) w.heap.size #[.pointer none, .pointer (some ⟨p, 0, none⟩)] 170) := hide (Bx.new _ _ _)
  have HF0 : Hid (Fr (fun k => k = p ∨ k = b) w (w.alloc (.cells #[.pointer none, .pointer (some ⟨p, 0, none⟩)] 170))) := hide ((Fr.refl _ _).alloc _)
  obtain ⟨N, HN⟩ : ∃ N, Hid (w.heap.size = N) := ⟨_, rfl⟩
  have hNp : N ≠ p := by have := unhide HN; omega
  have hNb : N ≠ b := by have := unhide HN; omega
  rw [unhide HN] at HX ⊢
  generalize w.alloc (.cells #[.pointer none, .pointer (some ⟨p, 0, none⟩)] 170) = wA at *
  go_loopw [7, 10] (fun _ iv wr => ∃ i : Nat, i ≤ n ∧ iv = .int .i64 i ∧ Hid (RB wr p g b bs (rdL bs (List.replicate i (.num size)) s).2 (putAt cs o (rdL bs (List.replicate i (.num size)) s).1) t ∧ Bx wr N #[.pointer none, .pointer (some ⟨p, 0, none⟩)] 170 ∧ Fr (fun k => k = p ∨ k = b) w wr)) (fun _ iv _ => n - (intOf iv).toNat)
  case atStart => exact ⟨0, Nat.zero_le _, rfl, unhide HA, unhide HX, unhide HF0⟩
  case round =>
    obtain ⟨i, hi, rfl, HS⟩ := hrel
    by_cases hlt : i < n
    · have c0 : wr.cell? ⟨N, 0, none⟩ = some (.pointer none) := (unhide HS).2.1.cell 0
      have c1 : wr.cell? ⟨N, 1, none⟩ = some (.pointer (some ⟨p, 0, none⟩)) := (unhide HS).2.1.cell 1
      have cq : wr.cell? ⟨q, i, none⟩ = some (.pointer (some ⟨b, o + i, none⟩)) := ((unhide HQ).frame (unhide HS).2.2 (by omega)) i hlt
      obtain ⟨s1, Hs1⟩ : ∃ s1, Hid (rdL bs (List.replicate i (.num size)) s = s1) := ⟨_, rfl⟩
      rw [unhide Hs1] at HS
      have hsz : o + i < (putAt cs o s1.1).size := by rw [putAt_size]; have := unhide HO; omega
      go_wp2_with fail
      refine (sizedI_r (unhide HS).1 (o + i) hsz size).mono ?_
      rintro e w1 ⟨rfl, hB1, hF1⟩
      have HS1 : Hid (RB w1 p g b bs (rdL bs (List.replicate (i + 1) (.num size)) s).2 (putAt cs o (rdL bs (List.replicate (i + 1) (.num size)) s).1) t ∧ Bx w1 N #[.pointer none, .pointer (some ⟨p, 0, none⟩)] 170 ∧ Fr (fun k => k = p ∨ k = b) w w1) := hide (by
        refine ⟨?_, (unhide HS).2.1.frame hF1 (by omega), (unhide HS).2.2.trans hF1 (fun _ _ t => t)⟩
        rw [rep_snoc, rdL_append, unhide Hs1]
        have hl : s1.1.length = i := by rw [← unhide Hs1, rdL_length, List.length_replicate]
        simp only [rdL]
        rw [putAt_snoc, hl]
        exact hB1)
      clear hB1 hF1 c0 c1 cq
      go_wp2
      exact ⟨⟨i + 1, by omega, by go_num, unhide HS1⟩, by simp [intOf]; omega⟩
    · obtain rfl : i = n := by omega
      go_wp2
      go_end0
      exact ⟨rfl, (unhide HS).1, (unhide HS).2.2⟩

theorem numbers_w (h : WB w p g b st cs t) (q o n size : Nat) (hq : Ptrs w q b o n) (hqp : q ≠ p) (hqg : q ≠ g) (xs : List Int) (hxs : xs.length = n) (hx : ∀ j (hj : j < xs.length), cs[o + j]? = some (.int .i64 xs[j])) (hm : ∀ x ∈ xs, x ≤ 9223372036854775807)
    (L : Nat) (hL : Most st L) (hfit : L + 66000 ≤ 140737488355328) (hn : n ≤ 10) (hs8 : size ≤ 8) :
    Calls Tryz.prog 154 #[walkW p, .int .i64 size, .slice (some ⟨q, 0, none⟩) n n] w (WDone p g (stepW st (wrL (List.replicate n (.num size)) (xs.map (Value.int .i64)))) w) := by
  have HB := hide h
  have HQ := hide hq
  have HX := hide hx
  have HM := hide hm
  have HL := hide hL
  have HFT := hide hfit
  have HXS := hide hxs
  have hp := h.plt
  have hb := h.x.lt
  have hgl := h.gl
  clear h hq hx hm hL hfit hxs
  go_enter Tryz.func154, Tryz.ntmps154
  go_wp2
  have HA := hide ((unhide HB).alloc (.cells #[.pointer (some ⟨p, 0, none⟩), .pointer none] 170))
  have HY : Hid (Bx (w.alloc (.cells #[.pointer (some ⟨p, 0, none⟩), .pointer none] 170)) w.heap.size #[.pointer (some ⟨p, 0, none⟩), .pointer none] 170) := hide (Bx.new _ _ _)
  have HF0 : Hid (Fr (fun k => k = p ∨ k = g) w (w.alloc (.cells #[.pointer (some ⟨p, 0, none⟩), .pointer none] 170))) := hide ((Fr.refl _ _).alloc _)
  obtain ⟨N, HN⟩ : ∃ N, Hid (w.heap.size = N) := ⟨_, rfl⟩
  have hNp : N ≠ p := by have := unhide HN; omega
  have hNg : N ≠ g := by have := unhide HN; omega
  have hql : 0 < n → q < w.heap.size := fun h0 => World.block_lt_of_cell? _ _ (unhide HQ 0 h0)
  rw [unhide HN] at HY ⊢
  have HN2 : Hid (N < (w.alloc (.cells #[.pointer (some ⟨p, 0, none⟩), .pointer none] 170)).heap.size) := hide (by rw [heap_alloc]; have := unhide HN; omega)
  generalize w.alloc (.cells #[.pointer (some ⟨p, 0, none⟩), .pointer none] 170) = wA at *
  go_loopw [7, 10] (fun _ iv wr => ∃ i : Nat, i ≤ n ∧ iv = .int .i64 i ∧ ∃ g1, Hid (WB wr p g1 b (stepW st (wrL (List.replicate i (.num size)) ((xs.take i).map (Value.int .i64)))) cs t ∧ Bx wr N #[.pointer (some ⟨p, 0, none⟩), .pointer none] 170 ∧ Fr (fun k => k = p ∨ k = g) w wr ∧ (g1 = g ∨ w.heap.size ≤ g1) ∧ N ≠ g1)) (fun _ iv _ => n - (intOf iv).toNat)
  case atStart =>
    refine ⟨0, Nat.zero_le _, rfl, g, ?_, unhide HY, unhide HF0, Or.inl rfl, hNg⟩
    have e : stepW st (wrL (List.replicate 0 (.num size)) ((xs.take 0).map (Value.int .i64))) = st := by simp [wrL, stepW_nil]
    rw [e]
    exact unhide HA
  case round =>
    obtain ⟨i, hi, rfl, g1, HS⟩ := hrel
    by_cases hlt : i < n
    · have c0 : wr.cell? ⟨N, 0, none⟩ = some (.pointer (some ⟨p, 0, none⟩)) := (unhide HS).2.1.cell 0
      have c1 : wr.cell? ⟨N, 1, none⟩ = some (.pointer none) := (unhide HS).2.1.cell 1
      have cq : wr.cell? ⟨q, i, none⟩ = some (.pointer (some ⟨b, o + i, none⟩)) := ((unhide HQ).frame (unhide HS).2.2.1 (by omega)) i hlt
      have hix : i < xs.length := by rw [unhide HXS]; exact hlt
      obtain ⟨st1, Hst⟩ : ∃ st1, Hid (stepW st (wrL (List.replicate i (.num size)) ((xs.take i).map (Value.int .i64))) = st1) := ⟨_, rfl⟩
      have hM1 : Most st1 (L + 80) := by
        rw [← unhide Hst]
        refine ((unhide HL).step (Most.wr _ _)).mono ?_
        rw [wide_rep]
        have : i * (Kd.num size).n ≤ 10 * 8 := Nat.mul_le_mul (by omega) hs8
        omega
      rw [unhide Hst] at HS
      have hxi := unhide HX i hix
      have hmi := unhide HM _ (List.getElem_mem hix)
      have HNX : Hid (stepW st (wrL (List.replicate (i + 1) (.num size)) ((xs.take (i + 1)).map (Value.int .i64))) = stepW st1 ((Kd.num size).w (.int .i64 xs[i]))) := hide (by
        rw [rep_snoc, List.take_succ_eq_append_getElem hix, List.map_append, wrL_append _ _ _ _ (by rw [List.length_map, List.length_take, List.length_replicate]; omega), ← stepW_assoc, unhide Hst]
        simp only [List.map_cons, List.map_nil, wrL]
        rw [stepW_nil])
      generalize xs[i] = x at hxi hmi HNX
      go_wp2_with fail
      refine (sizedI_w (unhide HS).1.s (unhide HS).1.x (o + i) size x hxi (L + 80) hM1 (by have := unhide HFT; omega) hmi).mono ?_
      rintro e w1 ⟨rfl, hP⟩
      obtain ⟨g2, hB2, hg2, hF2⟩ := (unhide HS).1.next (WP.of hP (unhide HS).1.gl)
      rw [← unhide HNX] at hB2
      have HS1 : Hid (WB w1 p g2 b (stepW st (wrL (List.replicate (i + 1) (.num size)) ((xs.take (i + 1)).map (Value.int .i64)))) cs t ∧ Bx w1 N #[.pointer (some ⟨p, 0, none⟩), .pointer none] 170 ∧ Fr (fun k => k = p ∨ k = g) w w1 ∧ (g2 = g ∨ w.heap.size ≤ g2) ∧ N ≠ g2) := hide (by
        obtain ⟨k1, k2, k3, k4, k5⟩ := unhide HS
        have hNl := k2.lt
        have hsz := k3.size
        exact ⟨hB2, k2.frame hF2 (by omega), k3.trans hF2 (fun _ _ t => by omega), by omega, by omega⟩)
      clear hB2 hF2 hg2 hP c0 c1 cq
      go_wp2
      exact ⟨⟨i + 1, by omega, by go_num, g2, unhide HS1⟩, by simp [intOf]; omega⟩
    · obtain rfl : i = n := by omega
      go_wp2
      go_end0
      obtain ⟨k1, k2, k3, k4, k5⟩ := unhide HS
      rw [List.take_of_length_le (by rw [unhide HXS]; omega)] at k1
      exact ⟨rfl, g1, k1.s, k1.gl, k4, k3⟩

theorem token_r (h : RB w p g b bs s cs t) (o : Nat) (ho : o < cs.size) :
    Calls Tryz.prog 155 #[walkR p, .pointer (some ⟨b, o, none⟩)] w (RDone p g b bs ((Kd.fix 8).rd bs s).2 (cs.setIfInBounds o ((Kd.fix 8).rd bs s).1) t w) := by
  have HB := hide h
  have hp := h.plt
  have hb := h.x.lt
  clear h
  go_enter Tryz.func155, Tryz.ntmps155
  go_wp2_with fail
  refine (sizedS_r ((unhide HB).alloc _) o ho 8).mono ?_
  rintro e w1 ⟨rfl, hB1, hF1⟩
  have H1 := hide (And.intro hB1 (((Fr.refl (fun k => k = p ∨ k = b) w).alloc _).trans hF1 (fun _ _ t => t)))
  clear hB1 hF1
  go_wp2
  go_end0
  exact ⟨rfl, (unhide H1).1, (unhide H1).2⟩

theorem token_w (h : WB w p g b st cs t) (o : Nat) (x : ByteArray) (hx : cs[o]? = some (.string x)) (L : Nat) (hL : Most st L) (hfit : L + 65600 ≤ 140737488355328) :
    Calls Tryz.prog 155 #[walkW p, .pointer (some ⟨b, o, none⟩)] w (WDone p g (stepW st ((Kd.fix 8).w (.string x))) w) := by
  have HB := hide h
  have hp := h.plt
  have hb := h.x.lt
  have hgl := h.gl
  have HX := hide hx
  have HL := hide (And.intro hL hfit)
  clear h hx hL hfit
  go_enter Tryz.func155, Tryz.ntmps155
  go_wp2_with fail
  refine (sizedS_w ((unhide HB).alloc _).s ((unhide HB).alloc _).x o 8 x (unhide HX) L (unhide HL).1 (unhide HL).2).mono ?_
  rintro e w1 ⟨rfl, hP⟩
  have HP := hide (WP.later ((Fr.refl (fun _ => False) w).alloc _) (WP.of hP ((unhide HB).alloc _).gl))
  clear hP
  go_wp2
  go_end0
  exact ⟨rfl, unhide HP⟩

end
end Go.Proofs.YtjgbllfppomcmaaGreat

/- Records of a fixed number of pieces, read and written. -/
namespace Go.Proofs.YtjgbllfppomcmaaGreat
open Go.RowKit

theorem ptrs1 (w : World) (b o : Nat) (T : TypeId) : Ptrs (w.alloc (.cells #[.pointer (some ⟨b, o, none⟩)] T)) w.heap.size b o 1 := fun j hj => by
  obtain rfl : j = 0 := by omega
  simp
theorem ptrs2 (w : World) (b o : Nat) (T : TypeId) : Ptrs (w.alloc (.cells #[.pointer (some ⟨b, o, none⟩), .pointer (some ⟨b, o + 1, none⟩)] T)) w.heap.size b o 2 := fun j hj => by
  match j, hj with
  | 0, _ => simp
  | 1, _ => simp
theorem ptrs3 (w : World) (b o : Nat) (T : TypeId) : Ptrs (w.alloc (.cells #[.pointer (some ⟨b, o, none⟩), .pointer (some ⟨b, o + 1, none⟩), .pointer (some ⟨b, o + 2, none⟩)] T)) w.heap.size b o 3 := fun j hj => by
  match j, hj with
  | 0, _ => simp
  | 1, _ => simp
  | 2, _ => simp
theorem ptrs4 (w : World) (b o : Nat) (T : TypeId) : Ptrs (w.alloc (.cells #[.pointer (some ⟨b, o, none⟩), .pointer (some ⟨b, o + 1, none⟩), .pointer (some ⟨b, o + 2, none⟩), .pointer (some ⟨b, o + 3, none⟩)] T)) w.heap.size b o 4 := fun j hj => by
  match j, hj with
  | 0, _ => simp
  | 1, _ => simp
  | 2, _ => simp
  | 3, _ => simp

/-- The pieces of tap. -/
abbrev tapK : List Kd := [.num 2, .num 4, .fix 8, .num 1, .num 2, .num 4]

theorem tap_r {w : World} {p g b : Nat} {bs : List UInt8} {s : RS} {t : TypeId} (x0 x1 x2 x3 x4 x5 : Value) (h : RB w p g b bs s #[x0, x1, x2, x3, x4, x5] t) :
    Calls Tryz.prog 131 #[walkR p, .pointer (some ⟨b, 0, none⟩)] w (RDone p g b bs (rdL bs tapK s).2 (rdL bs tapK s).1.toArray t w) := by
  have H := hide h
  have hp := h.plt
  have hb := h.x.lt
  have hbp := h.np
  clear h
  go_enter Tryz.func131, Tryz.ntmps131
  go_wp2_with fail
  have HX0 : Hid (Bx (w.alloc (.cells #[.pointer none, .pointer (some ⟨p, 0, none⟩)] 170)) w.heap.size #[.pointer none, .pointer (some ⟨p, 0, none⟩)] 170) := hide (Bx.new _ _ _)
  have HB0 := hide ((unhide H).alloc (.cells #[.pointer none, .pointer (some ⟨p, 0, none⟩)] 170))
  have HF0 : Hid (Fr (fun k => k = p ∨ k = b) w (w.alloc (.cells #[.pointer none, .pointer (some ⟨p, 0, none⟩)] 170))) := hide ((Fr.refl _ _).alloc _)
  obtain ⟨N, HN⟩ : ∃ N, Hid (w.heap.size = N) := ⟨_, rfl⟩
  have hNp : N ≠ p := by have := unhide HN; omega
  have hNb : N ≠ b := by have := unhide HN; omega
  rw [unhide HN] at HX0 ⊢
  generalize w.alloc (.cells #[.pointer none, .pointer (some ⟨p, 0, none⟩)] 170) = w0 at *
  have m0 : w0.cell? ⟨N, 0, none⟩ = some (.pointer none) := (unhide HX0).cell 0
  have m1 : w0.cell? ⟨N, 1, none⟩ = some (.pointer (some ⟨p, 0, none⟩)) := (unhide HX0).cell 1
  have HC0 := hide (numbers_r ((unhide HB0).drew.alloc (.cells #[.pointer (some ⟨b, 0, none⟩)] 179)) w0.heap.size 0 1 2 (ptrs1 w0.drew b 0 _) (by have := (unhide HB0).plt; omega) (by have := (unhide HB0).x.lt; omega) (by first | (simp; done) | simp [putAt_size]) (by omega))
  go_region_held3 (fun w' => w'.cell? ⟨N, 0, none⟩ = some (.pointer none) ∧ w'.cell? ⟨N, 1, none⟩ = some (.pointer (some ⟨p, 0, none⟩))) (go_keep)
    ((go_at_call 154; refine (unhide HC0).mono ?_; rintro e w1 ⟨rfl, hB1, hF1⟩; have hx1 : Fr (fun k => k = p ∨ k = b) w0 w1 := Fr.trans ((((Fr.refl (fun _ => False) w0).drew).alloc _).mono (fun _ _ t => t.elim)) hF1 (fun _ _ t => t); have k0 : w1.cell? ⟨N, 0, none⟩ = some (.pointer none) := ((unhide HX0).frame hx1 (by omega)).cell 0; have k1 : w1.cell? ⟨N, 1, none⟩ = some (.pointer (some ⟨p, 0, none⟩)) := ((unhide HX0).frame hx1 (by omega)).cell 1; have HX1 := hide ((unhide HX0).frame hx1 (by omega)); have HF1 : Hid (Fr (fun k => k = p ∨ k = b) w w1) := hide ((unhide HF0).trans hx1 (fun _ _ t => t)); have HB1 := hide hB1; clear hB1 hF1 hx1))
  clear HC0 HX0 HF0 HB0 m0 m1
  have m0 : w1.cell? ⟨N, 0, none⟩ = some (.pointer none) := (unhide HX1).cell 0
  have m1 : w1.cell? ⟨N, 1, none⟩ = some (.pointer (some ⟨p, 0, none⟩)) := (unhide HX1).cell 1
  go_wp2_with fail
  have HC1 := hide (numbers_r ((unhide HB1).drew.alloc (.cells #[.pointer (some ⟨b, 1, none⟩)] 179)) w1.heap.size 1 1 4 (ptrs1 w1.drew b 1 _) (by have := (unhide HB1).plt; omega) (by have := (unhide HB1).x.lt; omega) (by first | (simp; done) | simp [putAt_size]) (by omega))
  go_region_held3 (fun w' => w'.cell? ⟨N, 0, none⟩ = some (.pointer none) ∧ w'.cell? ⟨N, 1, none⟩ = some (.pointer (some ⟨p, 0, none⟩))) (go_keep)
    ((go_at_call 154; refine (unhide HC1).mono ?_; rintro e w2 ⟨rfl, hB2, hF2⟩; have hx2 : Fr (fun k => k = p ∨ k = b) w1 w2 := Fr.trans ((((Fr.refl (fun _ => False) w1).drew).alloc _).mono (fun _ _ t => t.elim)) hF2 (fun _ _ t => t); have k0 : w2.cell? ⟨N, 0, none⟩ = some (.pointer none) := ((unhide HX1).frame hx2 (by omega)).cell 0; have k1 : w2.cell? ⟨N, 1, none⟩ = some (.pointer (some ⟨p, 0, none⟩)) := ((unhide HX1).frame hx2 (by omega)).cell 1; have HX2 := hide ((unhide HX1).frame hx2 (by omega)); have HF2 : Hid (Fr (fun k => k = p ∨ k = b) w w2) := hide ((unhide HF1).trans hx2 (fun _ _ t => t)); have HB2 := hide hB2; clear hB2 hF2 hx2))
  clear HC1 HX1 HF1 HB1 m0 m1
  have m0 : w2.cell? ⟨N, 0, none⟩ = some (.pointer none) := (unhide HX2).cell 0
  have m1 : w2.cell? ⟨N, 1, none⟩ = some (.pointer (some ⟨p, 0, none⟩)) := (unhide HX2).cell 1
  go_wp2_with fail
  have HC2 := hide (token_r (unhide HB2).drew 2 (by first | (simp; done) | simp [putAt_size]))
  go_region_held3 (fun w' => w'.cell? ⟨N, 0, none⟩ = some (.pointer none) ∧ w'.cell? ⟨N, 1, none⟩ = some (.pointer (some ⟨p, 0, none⟩))) (go_keep)
    ((go_at_call 155; refine (unhide HC2).mono ?_; rintro e w3 ⟨rfl, hB3, hF3⟩; have hx3 : Fr (fun k => k = p ∨ k = b) w2 w3 := Fr.trans (((Fr.refl (fun _ => False) w2).drew).mono (fun _ _ t => t.elim)) hF3 (fun _ _ t => t); have k0 : w3.cell? ⟨N, 0, none⟩ = some (.pointer none) := ((unhide HX2).frame hx3 (by omega)).cell 0; have k1 : w3.cell? ⟨N, 1, none⟩ = some (.pointer (some ⟨p, 0, none⟩)) := ((unhide HX2).frame hx3 (by omega)).cell 1; have HX3 := hide ((unhide HX2).frame hx3 (by omega)); have HF3 : Hid (Fr (fun k => k = p ∨ k = b) w w3) := hide ((unhide HF2).trans hx3 (fun _ _ t => t)); have HB3 := hide hB3; clear hB3 hF3 hx3))
  clear HC2 HX2 HF2 HB2 m0 m1
  have m0 : w3.cell? ⟨N, 0, none⟩ = some (.pointer none) := (unhide HX3).cell 0
  have m1 : w3.cell? ⟨N, 1, none⟩ = some (.pointer (some ⟨p, 0, none⟩)) := (unhide HX3).cell 1
  go_wp2_with fail
  have HC3 := hide (numbers_r ((unhide HB3).drew.alloc (.cells #[.pointer (some ⟨b, 3, none⟩)] 179)) w3.heap.size 3 1 1 (ptrs1 w3.drew b 3 _) (by have := (unhide HB3).plt; omega) (by have := (unhide HB3).x.lt; omega) (by first | (simp; done) | simp [putAt_size]) (by omega))
  go_region_held3 (fun w' => w'.cell? ⟨N, 0, none⟩ = some (.pointer none) ∧ w'.cell? ⟨N, 1, none⟩ = some (.pointer (some ⟨p, 0, none⟩))) (go_keep)
    ((go_at_call 154; refine (unhide HC3).mono ?_; rintro e w4 ⟨rfl, hB4, hF4⟩; have hx4 : Fr (fun k => k = p ∨ k = b) w3 w4 := Fr.trans ((((Fr.refl (fun _ => False) w3).drew).alloc _).mono (fun _ _ t => t.elim)) hF4 (fun _ _ t => t); have k0 : w4.cell? ⟨N, 0, none⟩ = some (.pointer none) := ((unhide HX3).frame hx4 (by omega)).cell 0; have k1 : w4.cell? ⟨N, 1, none⟩ = some (.pointer (some ⟨p, 0, none⟩)) := ((unhide HX3).frame hx4 (by omega)).cell 1; have HX4 := hide ((unhide HX3).frame hx4 (by omega)); have HF4 : Hid (Fr (fun k => k = p ∨ k = b) w w4) := hide ((unhide HF3).trans hx4 (fun _ _ t => t)); have HB4 := hide hB4; clear hB4 hF4 hx4))
  clear HC3 HX3 HF3 HB3 m0 m1
  have m0 : w4.cell? ⟨N, 0, none⟩ = some (.pointer none) := (unhide HX4).cell 0
  have m1 : w4.cell? ⟨N, 1, none⟩ = some (.pointer (some ⟨p, 0, none⟩)) := (unhide HX4).cell 1
  go_wp2_with fail
  have HC4 := hide (numbers_r ((unhide HB4).drew.alloc (.cells #[.pointer (some ⟨b, 4, none⟩)] 179)) w4.heap.size 4 1 2 (ptrs1 w4.drew b 4 _) (by have := (unhide HB4).plt; omega) (by have := (unhide HB4).x.lt; omega) (by first | (simp; done) | simp [putAt_size]) (by omega))
  go_region_held3 (fun w' => w'.cell? ⟨N, 0, none⟩ = some (.pointer none) ∧ w'.cell? ⟨N, 1, none⟩ = some (.pointer (some ⟨p, 0, none⟩))) (go_keep)
    ((go_at_call 154; refine (unhide HC4).mono ?_; rintro e w5 ⟨rfl, hB5, hF5⟩; have hx5 : Fr (fun k => k = p ∨ k = b) w4 w5 := Fr.trans ((((Fr.refl (fun _ => False) w4).drew).alloc _).mono (fun _ _ t => t.elim)) hF5 (fun _ _ t => t); have k0 : w5.cell? ⟨N, 0, none⟩ = some (.pointer none) := ((unhide HX4).frame hx5 (by omega)).cell 0; have k1 : w5.cell? ⟨N, 1, none⟩ = some (.pointer (some ⟨p, 0, none⟩)) := ((unhide HX4).frame hx5 (by omega)).cell 1; have HX5 := hide ((unhide HX4).frame hx5 (by omega)); have HF5 : Hid (Fr (fun k => k = p ∨ k = b) w w5) := hide ((unhide HF4).trans hx5 (fun _ _ t => t)); have HB5 := hide hB5; clear hB5 hF5 hx5))
  clear HC4 HX4 HF4 HB4 m0 m1
  have m0 : w5.cell? ⟨N, 0, none⟩ = some (.pointer none) := (unhide HX5).cell 0
  have m1 : w5.cell? ⟨N, 1, none⟩ = some (.pointer (some ⟨p, 0, none⟩)) := (unhide HX5).cell 1
  go_wp2_with fail
  have HC5 := hide (numbers_r ((unhide HB5).drew.alloc (.cells #[.pointer (some ⟨b, 5, none⟩)] 179)) w5.heap.size 5 1 4 (ptrs1 w5.drew b 5 _) (by have := (unhide HB5).plt; omega) (by have := (unhide HB5).x.lt; omega) (by first | (simp; done) | simp [putAt_size]) (by omega))
  go_region_held3 (fun w' => w'.cell? ⟨N, 0, none⟩ = some (.pointer none) ∧ w'.cell? ⟨N, 1, none⟩ = some (.pointer (some ⟨p, 0, none⟩))) (go_keep)
    ((go_at_call 154; refine (unhide HC5).mono ?_; rintro e w6 ⟨rfl, hB6, hF6⟩; have hx6 : Fr (fun k => k = p ∨ k = b) w5 w6 := Fr.trans ((((Fr.refl (fun _ => False) w5).drew).alloc _).mono (fun _ _ t => t.elim)) hF6 (fun _ _ t => t); have k0 : w6.cell? ⟨N, 0, none⟩ = some (.pointer none) := ((unhide HX5).frame hx6 (by omega)).cell 0; have k1 : w6.cell? ⟨N, 1, none⟩ = some (.pointer (some ⟨p, 0, none⟩)) := ((unhide HX5).frame hx6 (by omega)).cell 1; have HX6 := hide ((unhide HX5).frame hx6 (by omega)); have HF6 : Hid (Fr (fun k => k = p ∨ k = b) w w6) := hide ((unhide HF5).trans hx6 (fun _ _ t => t)); have HB6 := hide hB6; clear hB6 hF6 hx6))
  clear HC5 HX5 HF5 HB5 m0 m1
  have m0 : w6.cell? ⟨N, 0, none⟩ = some (.pointer none) := (unhide HX6).cell 0
  have m1 : w6.cell? ⟨N, 1, none⟩ = some (.pointer (some ⟨p, 0, none⟩)) := (unhide HX6).cell 1
  go_wp2
  go_end0
  refine ⟨rfl, ?_, unhide HF6⟩
  have h := unhide HB6
  simpa [tapK, rdL, putAt] using h

theorem tap_w {w : World} {p g b : Nat} {st : Option (List UInt8)} {t : TypeId} (x0 : Int) (x1 : Int) (x2 : ByteArray) (x3 : Int) (x4 : Int) (x5 : Int) (h : WB w p g b st #[.int .i64 x0, .int .i64 x1, .string x2, .int .i64 x3, .int .i64 x4, .int .i64 x5] t) (h0 : x0 ≤ 9223372036854775807) (h1 : x1 ≤ 9223372036854775807) (h3 : x3 ≤ 9223372036854775807) (h4 : x4 ≤ 9223372036854775807) (h5 : x5 ≤ 9223372036854775807) (L : Nat) (hL : Most st L) (hfit : L + 66200 ≤ 140737488355328) :
    Calls Tryz.prog 131 #[walkW p, .pointer (some ⟨b, 0, none⟩)] w (WDone p g (stepW st (wrL tapK [.int .i64 x0, .int .i64 x1, .string x2, .int .i64 x3, .int .i64 x4, .int .i64 x5])) w) := by
  have H := hide h
  have hp := h.plt
  have hb := h.x.lt
  have hbp := h.np
  have hgl := h.gl
  have HL := hide hL
  have HT := hide hfit
  have J0 := hide h0
  have J1 := hide h1
  have J3 := hide h3
  have J4 := hide h4
  have J5 := hide h5
  clear h hL hfit h0 h1 h3 h4 h5
  go_enter Tryz.func131, Tryz.ntmps131
  go_wp2_with fail
  have HX0 : Hid (Bx (w.alloc (.cells #[.pointer (some ⟨p, 0, none⟩), .pointer none] 170)) w.heap.size #[.pointer (some ⟨p, 0, none⟩), .pointer none] 170) := hide (Bx.new _ _ _)
  have HB0 := hide ((unhide H).alloc (.cells #[.pointer (some ⟨p, 0, none⟩), .pointer none] 170))
  have HF0 : Hid (Fr (fun k => k = p ∨ k = g) w (w.alloc (.cells #[.pointer (some ⟨p, 0, none⟩), .pointer none] 170)) ∧ (g = g ∨ w.heap.size ≤ g)) := hide ⟨(Fr.refl _ _).alloc _, Or.inl rfl⟩
  obtain ⟨N, HN⟩ : ∃ N, Hid (w.heap.size = N) := ⟨_, rfl⟩
  have hNp : N ≠ p := by have := unhide HN; omega
  have hN0 : N ≠ g := by have := unhide HN; omega
  rw [unhide HN] at HX0 ⊢
  generalize w.alloc (.cells #[.pointer (some ⟨p, 0, none⟩), .pointer none] 170) = w0 at *
  have m0 : w0.cell? ⟨N, 0, none⟩ = some (.pointer (some ⟨p, 0, none⟩)) := (unhide HX0).cell 0
  have m1 : w0.cell? ⟨N, 1, none⟩ = some (.pointer none) := (unhide HX0).cell 1
  have HM0 := hide (unhide HL)
  have HC0 := hide (numbers_w ((unhide HB0).drew.alloc (.cells #[.pointer (some ⟨b, 0, none⟩)] 179)) w0.heap.size 0 1 2 (ptrs1 w0.drew b 0 _) (by have := (unhide HB0).plt; omega) (by have := (unhide HB0).gl; omega) [x0] rfl (fun j hj => by match j, hj with | 0, _ => rfl) (fun x hx => by simp only [List.mem_cons, List.not_mem_nil, or_false] at hx; subst hx; exact unhide J0) (L + 0) (unhide HM0) (by have := unhide HT; omega) (by omega) (by omega))
  go_region_held3 (fun w' => w'.cell? ⟨N, 0, none⟩ = some (.pointer (some ⟨p, 0, none⟩)) ∧ w'.cell? ⟨N, 1, none⟩ = some (.pointer none)) (go_keep)
    ((go_at_call 154; refine (unhide HC0).mono ?_; rintro e w1 ⟨rfl, hP⟩; obtain ⟨g1, hB, hg, hF⟩ := (unhide HB0).next (WP.later (((Fr.refl (fun _ => False) w0).drew).alloc _) hP); have hN1 : N ≠ g1 := (by have := (unhide HX0).lt; omega); have k0 : w1.cell? ⟨N, 0, none⟩ = some (.pointer (some ⟨p, 0, none⟩)) := ((unhide HX0).frame hF (by omega)).cell 0; have k1 : w1.cell? ⟨N, 1, none⟩ = some (.pointer none) := ((unhide HX0).frame hF (by omega)).cell 1; have HX1 := hide ((unhide HX0).frame hF (by omega)); have HF1 : Hid (Fr (fun k => k = p ∨ k = g) w w1 ∧ (g1 = g ∨ w.heap.size ≤ g1)) := hide (by obtain ⟨q1, q2⟩ := unhide HF0; have := q1.size; exact ⟨q1.trans hF (fun _ _ t => by omega), by omega⟩); have HB1 := hide hB; have HM1 := hide ((unhide HM0).step (Most.wr (List.replicate 1 (.num 2)) ([x0].map (Value.int .i64)))); clear hB hF hg hP))
  clear HC0 HX0 HF0 HB0 m0 m1
  have m0 : w1.cell? ⟨N, 0, none⟩ = some (.pointer (some ⟨p, 0, none⟩)) := (unhide HX1).cell 0
  have m1 : w1.cell? ⟨N, 1, none⟩ = some (.pointer none) := (unhide HX1).cell 1
  go_wp2_with fail
  have HC1 := hide (numbers_w ((unhide HB1).drew.alloc (.cells #[.pointer (some ⟨b, 1, none⟩)] 179)) w1.heap.size 1 1 4 (ptrs1 w1.drew b 1 _) (by have := (unhide HB1).plt; omega) (by have := (unhide HB1).gl; omega) [x1] rfl (fun j hj => by match j, hj with | 0, _ => rfl) (fun x hx => by simp only [List.mem_cons, List.not_mem_nil, or_false] at hx; subst hx; exact unhide J1) (L + 2) (unhide HM1) (by have := unhide HT; omega) (by omega) (by omega))
  go_region_held3 (fun w' => w'.cell? ⟨N, 0, none⟩ = some (.pointer (some ⟨p, 0, none⟩)) ∧ w'.cell? ⟨N, 1, none⟩ = some (.pointer none)) (go_keep)
    ((go_at_call 154; refine (unhide HC1).mono ?_; rintro e w2 ⟨rfl, hP⟩; obtain ⟨g2, hB, hg, hF⟩ := (unhide HB1).next (WP.later (((Fr.refl (fun _ => False) w1).drew).alloc _) hP); have hN2 : N ≠ g2 := (by have := (unhide HX1).lt; omega); have k0 : w2.cell? ⟨N, 0, none⟩ = some (.pointer (some ⟨p, 0, none⟩)) := ((unhide HX1).frame hF (by omega)).cell 0; have k1 : w2.cell? ⟨N, 1, none⟩ = some (.pointer none) := ((unhide HX1).frame hF (by omega)).cell 1; have HX2 := hide ((unhide HX1).frame hF (by omega)); have HF2 : Hid (Fr (fun k => k = p ∨ k = g) w w2 ∧ (g2 = g ∨ w.heap.size ≤ g2)) := hide (by obtain ⟨q1, q2⟩ := unhide HF1; have := q1.size; exact ⟨q1.trans hF (fun _ _ t => by omega), by omega⟩); have HB2 := hide hB; have HM2 := hide ((unhide HM1).step (Most.wr (List.replicate 1 (.num 4)) ([x1].map (Value.int .i64)))); clear hB hF hg hP))
  clear HC1 HX1 HF1 HB1 m0 m1
  have m0 : w2.cell? ⟨N, 0, none⟩ = some (.pointer (some ⟨p, 0, none⟩)) := (unhide HX2).cell 0
  have m1 : w2.cell? ⟨N, 1, none⟩ = some (.pointer none) := (unhide HX2).cell 1
  go_wp2_with fail
  have HC2 := hide (token_w (unhide HB2).drew 2 x2 rfl (L + 6) (unhide HM2) (by have := unhide HT; omega))
  go_region_held3 (fun w' => w'.cell? ⟨N, 0, none⟩ = some (.pointer (some ⟨p, 0, none⟩)) ∧ w'.cell? ⟨N, 1, none⟩ = some (.pointer none)) (go_keep)
    ((go_at_call 155; refine (unhide HC2).mono ?_; rintro e w3 ⟨rfl, hP⟩; obtain ⟨g3, hB, hg, hF⟩ := (unhide HB2).next (WP.later ((Fr.refl (fun _ => False) w2).drew) hP); have hN3 : N ≠ g3 := (by have := (unhide HX2).lt; omega); have k0 : w3.cell? ⟨N, 0, none⟩ = some (.pointer (some ⟨p, 0, none⟩)) := ((unhide HX2).frame hF (by omega)).cell 0; have k1 : w3.cell? ⟨N, 1, none⟩ = some (.pointer none) := ((unhide HX2).frame hF (by omega)).cell 1; have HX3 := hide ((unhide HX2).frame hF (by omega)); have HF3 : Hid (Fr (fun k => k = p ∨ k = g) w w3 ∧ (g3 = g ∨ w.heap.size ≤ g3)) := hide (by obtain ⟨q1, q2⟩ := unhide HF2; have := q1.size; exact ⟨q1.trans hF (fun _ _ t => by omega), by omega⟩); have HB3 := hide hB; have HM3 := hide ((unhide HM2).step (Most.kd (Kd.fix 8) (.string x2))); clear hB hF hg hP))
  clear HC2 HX2 HF2 HB2 m0 m1
  have m0 : w3.cell? ⟨N, 0, none⟩ = some (.pointer (some ⟨p, 0, none⟩)) := (unhide HX3).cell 0
  have m1 : w3.cell? ⟨N, 1, none⟩ = some (.pointer none) := (unhide HX3).cell 1
  go_wp2_with fail
  have HC3 := hide (numbers_w ((unhide HB3).drew.alloc (.cells #[.pointer (some ⟨b, 3, none⟩)] 179)) w3.heap.size 3 1 1 (ptrs1 w3.drew b 3 _) (by have := (unhide HB3).plt; omega) (by have := (unhide HB3).gl; omega) [x3] rfl (fun j hj => by match j, hj with | 0, _ => rfl) (fun x hx => by simp only [List.mem_cons, List.not_mem_nil, or_false] at hx; subst hx; exact unhide J3) (L + 14) (unhide HM3) (by have := unhide HT; omega) (by omega) (by omega))
  go_region_held3 (fun w' => w'.cell? ⟨N, 0, none⟩ = some (.pointer (some ⟨p, 0, none⟩)) ∧ w'.cell? ⟨N, 1, none⟩ = some (.pointer none)) (go_keep)
    ((go_at_call 154; refine (unhide HC3).mono ?_; rintro e w4 ⟨rfl, hP⟩; obtain ⟨g4, hB, hg, hF⟩ := (unhide HB3).next (WP.later (((Fr.refl (fun _ => False) w3).drew).alloc _) hP); have hN4 : N ≠ g4 := (by have := (unhide HX3).lt; omega); have k0 : w4.cell? ⟨N, 0, none⟩ = some (.pointer (some ⟨p, 0, none⟩)) := ((unhide HX3).frame hF (by omega)).cell 0; have k1 : w4.cell? ⟨N, 1, none⟩ = some (.pointer none) := ((unhide HX3).frame hF (by omega)).cell 1; have HX4 := hide ((unhide HX3).frame hF (by omega)); have HF4 : Hid (Fr (fun k => k = p ∨ k = g) w w4 ∧ (g4 = g ∨ w.heap.size ≤ g4)) := hide (by obtain ⟨q1, q2⟩ := unhide HF3; have := q1.size; exact ⟨q1.trans hF (fun _ _ t => by omega), by omega⟩); have HB4 := hide hB; have HM4 := hide ((unhide HM3).step (Most.wr (List.replicate 1 (.num 1)) ([x3].map (Value.int .i64)))); clear hB hF hg hP))
  clear HC3 HX3 HF3 HB3 m0 m1
  have m0 : w4.cell? ⟨N, 0, none⟩ = some (.pointer (some ⟨p, 0, none⟩)) := (unhide HX4).cell 0
  have m1 : w4.cell? ⟨N, 1, none⟩ = some (.pointer none) := (unhide HX4).cell 1
  go_wp2_with fail
  have HC4 := hide (numbers_w ((unhide HB4).drew.alloc (.cells #[.pointer (some ⟨b, 4, none⟩)] 179)) w4.heap.size 4 1 2 (ptrs1 w4.drew b 4 _) (by have := (unhide HB4).plt; omega) (by have := (unhide HB4).gl; omega) [x4] rfl (fun j hj => by match j, hj with | 0, _ => rfl) (fun x hx => by simp only [List.mem_cons, List.not_mem_nil, or_false] at hx; subst hx; exact unhide J4) (L + 15) (unhide HM4) (by have := unhide HT; omega) (by omega) (by omega))
  go_region_held3 (fun w' => w'.cell? ⟨N, 0, none⟩ = some (.pointer (some ⟨p, 0, none⟩)) ∧ w'.cell? ⟨N, 1, none⟩ = some (.pointer none)) (go_keep)
    ((go_at_call 154; refine (unhide HC4).mono ?_; rintro e w5 ⟨rfl, hP⟩; obtain ⟨g5, hB, hg, hF⟩ := (unhide HB4).next (WP.later (((Fr.refl (fun _ => False) w4).drew).alloc _) hP); have hN5 : N ≠ g5 := (by have := (unhide HX4).lt; omega); have k0 : w5.cell? ⟨N, 0, none⟩ = some (.pointer (some ⟨p, 0, none⟩)) := ((unhide HX4).frame hF (by omega)).cell 0; have k1 : w5.cell? ⟨N, 1, none⟩ = some (.pointer none) := ((unhide HX4).frame hF (by omega)).cell 1; have HX5 := hide ((unhide HX4).frame hF (by omega)); have HF5 : Hid (Fr (fun k => k = p ∨ k = g) w w5 ∧ (g5 = g ∨ w.heap.size ≤ g5)) := hide (by obtain ⟨q1, q2⟩ := unhide HF4; have := q1.size; exact ⟨q1.trans hF (fun _ _ t => by omega), by omega⟩); have HB5 := hide hB; have HM5 := hide ((unhide HM4).step (Most.wr (List.replicate 1 (.num 2)) ([x4].map (Value.int .i64)))); clear hB hF hg hP))
  clear HC4 HX4 HF4 HB4 m0 m1
  have m0 : w5.cell? ⟨N, 0, none⟩ = some (.pointer (some ⟨p, 0, none⟩)) := (unhide HX5).cell 0
  have m1 : w5.cell? ⟨N, 1, none⟩ = some (.pointer none) := (unhide HX5).cell 1
  go_wp2_with fail
  have HC5 := hide (numbers_w ((unhide HB5).drew.alloc (.cells #[.pointer (some ⟨b, 5, none⟩)] 179)) w5.heap.size 5 1 4 (ptrs1 w5.drew b 5 _) (by have := (unhide HB5).plt; omega) (by have := (unhide HB5).gl; omega) [x5] rfl (fun j hj => by match j, hj with | 0, _ => rfl) (fun x hx => by simp only [List.mem_cons, List.not_mem_nil, or_false] at hx; subst hx; exact unhide J5) (L + 17) (unhide HM5) (by have := unhide HT; omega) (by omega) (by omega))
  go_region_held3 (fun w' => w'.cell? ⟨N, 0, none⟩ = some (.pointer (some ⟨p, 0, none⟩)) ∧ w'.cell? ⟨N, 1, none⟩ = some (.pointer none)) (go_keep)
    ((go_at_call 154; refine (unhide HC5).mono ?_; rintro e w6 ⟨rfl, hP⟩; obtain ⟨g6, hB, hg, hF⟩ := (unhide HB5).next (WP.later (((Fr.refl (fun _ => False) w5).drew).alloc _) hP); have hN6 : N ≠ g6 := (by have := (unhide HX5).lt; omega); have k0 : w6.cell? ⟨N, 0, none⟩ = some (.pointer (some ⟨p, 0, none⟩)) := ((unhide HX5).frame hF (by omega)).cell 0; have k1 : w6.cell? ⟨N, 1, none⟩ = some (.pointer none) := ((unhide HX5).frame hF (by omega)).cell 1; have HX6 := hide ((unhide HX5).frame hF (by omega)); have HF6 : Hid (Fr (fun k => k = p ∨ k = g) w w6 ∧ (g6 = g ∨ w.heap.size ≤ g6)) := hide (by obtain ⟨q1, q2⟩ := unhide HF5; have := q1.size; exact ⟨q1.trans hF (fun _ _ t => by omega), by omega⟩); have HB6 := hide hB; have HM6 := hide ((unhide HM5).step (Most.wr (List.replicate 1 (.num 4)) ([x5].map (Value.int .i64)))); clear hB hF hg hP))
  clear HC5 HX5 HF5 HB5 m0 m1
  have m0 : w6.cell? ⟨N, 0, none⟩ = some (.pointer (some ⟨p, 0, none⟩)) := (unhide HX6).cell 0
  have m1 : w6.cell? ⟨N, 1, none⟩ = some (.pointer none) := (unhide HX6).cell 1
  go_wp2
  go_end0
  have hB := unhide HB6
  refine ⟨rfl, g6, ?_, hB.gl, (unhide HF6).2, (unhide HF6).1⟩
  have h := hB.s
  simpa only [tapK, wrL, List.replicate, List.map, stepW_assoc, stepW_nil] using h

/-- The pieces of entry. -/
abbrev entryK : List Kd := [.num 4, .fix 8, .int, .bool]

/-- The pieces of account. -/
abbrev accountK : List Kd := [.fix 8, .num 8, .num 8]

/-- The pieces of outage. -/
abbrev outageK : List Kd := [.num 2, .num 4, .num 4]

/-- The pieces of station. -/
abbrev stationK : List Kd := [.num 2, .num 1, .num 2]

/-- The pieces of span. -/
abbrev spanK : List Kd := [.num 1, .num 1, .num 4, .num 4, .num 4]

/-- The pieces of band. -/
abbrev bandK : List Kd := [.num 2, .num 2]

end Go.Proofs.YtjgbllfppomcmaaGreat

