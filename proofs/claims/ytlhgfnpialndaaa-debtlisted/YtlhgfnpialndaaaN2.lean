import Derived.Test.YtlhgfnpialndaaaN1
/- A walk's numbers, token, amount, truth, rate; read and written. -/
namespace Go.Proofs.Ytlhgfnpialndaaa
open Go.RowKit

/-- A row of values laid into a box, from place o on. -/
def putAt (cs : Array Value) (o : Nat) : List Value → Array Value
  | [] => cs
  | v :: vs => putAt (cs.setIfInBounds o v) (o + 1) vs

theorem putAt_snoc (vs : List Value) (v : Value) : ∀ (cs : Array Value) (o : Nat), putAt cs o (vs ++ [v]) = (putAt cs o vs).setIfInBounds (o + vs.length) v := by
  induction vs with
  | nil => intro cs o; rfl
  | cons u vs ih => intro cs o; rw [List.cons_append, putAt, ih, putAt, List.length_cons, show o + 1 + vs.length = o + (vs.length + 1) by omega]

theorem putAt_size (vs : List Value) : ∀ (cs : Array Value) (o : Nat), (putAt cs o vs).size = cs.size := by
  induction vs with
  | nil => intro cs o; rfl
  | cons u vs ih => intro cs o; rw [putAt, ih]; simp

theorem rep_snoc (n : Nat) (k : Kd) : List.replicate (n + 1) k = List.replicate n k ++ [k] := List.replicate_succ'

theorem wide_cons (k : Kd) (ks : List Kd) : wide (k :: ks) = k.n + wide ks := rfl
theorem wide_rep (n : Nat) (k : Kd) : wide (List.replicate n k) = n * k.n := by
  induction n with
  | zero => simp [wide]
  | succ n ih => rw [List.replicate_succ, wide_cons, ih, Nat.succ_mul, Nat.add_comm]

/-- A writer, and a box beside it. -/
structure WB (w : World) (p g b : Nat) (st : Option (List UInt8)) (cs : Array Value) (t : TypeId) : Prop where
  s : WSt w p g st
  x : Bx w b cs t
  np : b ≠ p
  ng : b ≠ g
  gl : g < w.heap.size

/-- Behind what is put: where the bytes lie now, what else may have turned. -/
def WP (p g : Nat) (st : Option (List UInt8)) (w w' : World) : Prop := ∃ g', WSt w' p g' st ∧ g' < w'.heap.size ∧ (g' = g ∨ w.heap.size ≤ g') ∧ Fr (fun k => k = p ∨ k = g) w w'

theorem WP.of {p g : Nat} {st : Option (List UInt8)} {w w' : World} (h : WPuts p g st w w') (hg : g < w.heap.size) : WP p g st w w' := by
  obtain ⟨g', h1, h2, h3⟩ := h
  cases st with
  | some bs => exact ⟨g', h1, WAt.glt h1, h3, h2⟩
  | none => exact ⟨g, h1, Nat.lt_of_lt_of_le hg h2.size, Or.inl rfl, h2⟩

theorem WP.after {p g g1 : Nat} {st : Option (List UInt8)} {w w1 w2 : World} (h2 : Fr (fun k => k = p ∨ k = g) w w1) (h3 : g1 = g ∨ w.heap.size ≤ g1) (k : WP p g1 st w1 w2) : WP p g st w w2 := by
  obtain ⟨g2, k1, k2, k3, k4⟩ := k
  refine ⟨g2, k1, k2, ?_, h2.trans k4 (fun i hi t => ?_)⟩
  · have := h2.size
    omega
  · omega

theorem WP.later {p g : Nat} {st : Option (List UInt8)} {w w1 w2 : World} (hf : Fr (fun _ => False) w w1) (h : WP p g st w1 w2) : WP p g st w w2 :=
  WP.after (hf.mono (fun _ _ t => t.elim)) (Or.inl rfl) h

section
variable {w w' : World} {p g b : Nat} {bs : List UInt8} {s s' : RS} {cs : Array Value} {t : TypeId} {st st' : Option (List UInt8)}

theorem WB.alloc (h : WB w p g b st cs t) (o : Obj) : WB (w.alloc o) p g b st cs t := ⟨WSt.alloc h.s o, h.x.alloc o, h.np, h.ng, by rw [heap_alloc]; have := h.gl; omega⟩
theorem WB.drew (h : WB w p g b st cs t) : WB w.drew p g b st cs t := ⟨WSt.drew h.s, h.x, h.np, h.ng, h.gl⟩
theorem WB.plt (h : WB w p g b st cs t) : p < w.heap.size := h.s.lt

/-- A call on the writer behind another one. -/
theorem WB.next (h : WB w p g b st cs t) (k : WP p g st' w w') : ∃ g', WB w' p g' b st' cs t ∧ (g' = g ∨ w.heap.size ≤ g') ∧ Fr (fun k => k = p ∨ k = g) w w' := by
  obtain ⟨g', k1, k2, k3, k4⟩ := k
  have := h.x.lt
  have := h.ng
  exact ⟨g', ⟨k1, h.x.frame k4 (by have := h.np; omega), h.np, by omega, k2⟩, k3, k4⟩

/-- What a call that writes out of a box comes to. -/
def WDone (p g : Nat) (st' : Option (List UInt8)) (w : World) (e : Ending) (w' : World) : Prop := e = .returned (.tuple #[]) ∧ WP p g st' w w'

/-- The pointers that numbers is handed: to places one behind another. -/
def Ptrs (w : World) (q b o n : Nat) : Prop := ∀ j, j < n → w.cell? ⟨q, j, none⟩ = some (.pointer (some ⟨b, o + j, none⟩))

theorem Ptrs.frame {S : Nat → Prop} {q o n : Nat} (h : Ptrs w q b o n) (hf : Fr S w w') (hS : ¬ S q) : Ptrs w' q b o n := fun j hj =>
  (hf.cell (a := ⟨q, j, none⟩) (World.block_lt_of_cell? _ _ (h j hj)) hS).trans (h j hj)

theorem numbers_r (h : RB w p g b bs s cs t) (q o n size : Nat) (hq : Ptrs w q b o n) (hqp : q ≠ p) (hqb : q ≠ b) (ho : o + n ≤ cs.size) (hn : n ≤ 100) :
    Calls Try.prog 48 #[walkR p, .int .i64 size, .slice (some ⟨q, 0, none⟩) n n] w
      (RDone p g b bs (rdL bs (List.replicate n (.num size)) s).2 (putAt cs o (rdL bs (List.replicate n (.num size)) s).1) t w) := by
  have HB := hide h
  have HQ := hide hq
  have HO := hide ho
  have hp := h.plt
  have hb := h.x.lt
  clear h hq ho
  go_enter Try.func48, Try.ntmps48
  go_wp2
  have HA := hide ((unhide HB).alloc (.cells #[.pointer none, .pointer (some ⟨p, 0, none⟩)] 82))
  have HX : Hid (Bx (w.alloc (.cells #[.pointer none, .pointer (some ⟨p, 0, none⟩)] 82)) w.heap.size #[.pointer none, .pointer (some ⟨p, 0, none⟩)] 82) := hide (Bx.new _ _ _)
  have HF0 : Hid (Fr (fun k => k = p ∨ k = b) w (w.alloc (.cells #[.pointer none, .pointer (some ⟨p, 0, none⟩)] 82))) := hide ((Fr.refl _ _).alloc _)
  obtain ⟨N, HN⟩ : ∃ N, Hid (w.heap.size = N) := ⟨_, rfl⟩
  have hNp : N ≠ p := by have := unhide HN; omega
  have hNb : N ≠ b := by have := unhide HN; omega
  rw [unhide HN] at HX ⊢
  generalize w.alloc (.cells #[.pointer none, .pointer (some ⟨p, 0, none⟩)] 82) = wA at *
  go_loopw [7, 10] (fun _ iv wr => ∃ i : Nat, i ≤ n ∧ iv = .int .i64 i ∧ Hid (RB wr p g b bs (rdL bs (List.replicate i (.num size)) s).2 (putAt cs o (rdL bs (List.replicate i (.num size)) s).1) t ∧ Bx wr N #[.pointer none, .pointer (some ⟨p, 0, none⟩)] 82 ∧ Fr (fun k => k = p ∨ k = b) w wr)) (fun _ iv _ => n - (intOf iv).toNat)
  case atStart => exact ⟨0, Nat.zero_le _, rfl, unhide HA, unhide HX, unhide HF0⟩
  case round =>
    obtain ⟨i, hi, rfl, HS⟩ := hrel
    by_cases hlt : i < n
    · have c0 : wr.cell? ⟨N, 0, none⟩ = some (.pointer none) := (unhide HS).2.1.cell 0
      have c1 : wr.cell? ⟨N, 1, none⟩ = some (.pointer (some ⟨p, 0, none⟩)) := (unhide HS).2.1.cell 1
      have cq : wr.cell? ⟨q, i, none⟩ = some (.pointer (some ⟨b, o + i, none⟩)) := ((unhide HQ).frame (unhide HS).2.2 (by omega)) i hlt
      obtain ⟨s1, Hs1⟩ : ∃ s1, Hid (rdL bs (List.replicate i (.num size)) s = s1) := ⟨_, rfl⟩
      rw [unhide Hs1] at HS
      have hsz : o + i < (putAt cs o s1.1).size := by rw [putAt_size]; have := unhide HO; omega
      go_wp2_with fail
      refine (sizedI_r (unhide HS).1 (o + i) hsz size).mono ?_
      rintro e w1 ⟨rfl, hB1, hF1⟩
      have HS1 : Hid (RB w1 p g b bs (rdL bs (List.replicate (i + 1) (.num size)) s).2 (putAt cs o (rdL bs (List.replicate (i + 1) (.num size)) s).1) t ∧ Bx w1 N #[.pointer none, .pointer (some ⟨p, 0, none⟩)] 82 ∧ Fr (fun k => k = p ∨ k = b) w w1) := hide (by
        refine ⟨?_, (unhide HS).2.1.frame hF1 (by omega), (unhide HS).2.2.trans hF1 (fun _ _ t => t)⟩
        rw [rep_snoc, rdL_append, unhide Hs1]
        have hl : s1.1.length = i := by rw [← unhide Hs1, rdL_length, List.length_replicate]
        simp only [rdL]
        rw [putAt_snoc, hl]
        exact hB1)
      clear hB1 hF1 c0 c1 cq
      go_wp2
      exact ⟨⟨i + 1, by omega, by go_num, unhide HS1⟩, by simp [intOf]; omega⟩
    · obtain rfl : i = n := by omega
      go_wp2
      go_end0
      exact ⟨rfl, (unhide HS).1, (unhide HS).2.2⟩

theorem numbers_w (h : WB w p g b st cs t) (q o n size : Nat) (hq : Ptrs w q b o n) (hqp : q ≠ p) (hqg : q ≠ g) (xs : List Int) (hxs : xs.length = n) (hx : ∀ j (hj : j < xs.length), cs[o + j]? = some (.int .i64 xs[j])) (hm : ∀ x ∈ xs, x ≤ 9223372036854775807)
    (L : Nat) (hL : Most st L) (hfit : L + 66000 ≤ 140737488355328) (hn : n ≤ 10) (hs8 : size ≤ 8) :
    Calls Try.prog 48 #[walkW p, .int .i64 size, .slice (some ⟨q, 0, none⟩) n n] w (WDone p g (stepW st (wrL (List.replicate n (.num size)) (xs.map (Value.int .i64)))) w) := by
  have HB := hide h
  have HQ := hide hq
  have HX := hide hx
  have HM := hide hm
  have HL := hide hL
  have HFT := hide hfit
  have HXS := hide hxs
  have hp := h.plt
  have hb := h.x.lt
  have hgl := h.gl
  clear h hq hx hm hL hfit hxs
  go_enter Try.func48, Try.ntmps48
  go_wp2
  have HA := hide ((unhide HB).alloc (.cells #[.pointer (some ⟨p, 0, none⟩), .pointer none] 82))
  have HY : Hid (Bx (w.alloc (.cells #[.pointer (some ⟨p, 0, none⟩), .pointer none] 82)) w.heap.size #[.pointer (some ⟨p, 0, none⟩), .pointer none] 82) := hide (Bx.new _ _ _)
  have HF0 : Hid (Fr (fun k => k = p ∨ k = g) w (w.alloc (.cells #[.pointer (some ⟨p, 0, none⟩), .pointer none] 82))) := hide ((Fr.refl _ _).alloc _)
  obtain ⟨N, HN⟩ : ∃ N, Hid (w.heap.size = N) := ⟨_, rfl⟩
  have hNp : N ≠ p := by have := unhide HN; omega
  have hNg : N ≠ g := by have := unhide HN; omega
  have hql : 0 < n → q < w.heap.size := fun h0 => World.block_lt_of_cell? _ _ (unhide HQ 0 h0)
  rw [unhide HN] at HY ⊢
  have HN2 : Hid (N < (w.alloc (.cells #[.pointer (some ⟨p, 0, none⟩), .pointer none] 82)).heap.size) := hide (by rw [heap_alloc]; have := unhide HN; omega)
  generalize w.alloc (.cells #[.pointer (some ⟨p, 0, none⟩), .pointer none] 82) = wA at *
  go_loopw [7, 10] (fun _ iv wr => ∃ i : Nat, i ≤ n ∧ iv = .int .i64 i ∧ ∃ g1, Hid (WB wr p g1 b (stepW st (wrL (List.replicate i (.num size)) ((xs.take i).map (Value.int .i64)))) cs t ∧ Bx wr N #[.pointer (some ⟨p, 0, none⟩), .pointer none] 82 ∧ Fr (fun k => k = p ∨ k = g) w wr ∧ (g1 = g ∨ w.heap.size ≤ g1) ∧ N ≠ g1)) (fun _ iv _ => n - (intOf iv).toNat)
  case atStart =>
    refine ⟨0, Nat.zero_le _, rfl, g, ?_, unhide HY, unhide HF0, Or.inl rfl, hNg⟩
    have e : stepW st (wrL (List.replicate 0 (.num size)) ((xs.take 0).map (Value.int .i64))) = st := by simp [wrL, stepW_nil]
    rw [e]
    exact unhide HA
  case round =>
    obtain ⟨i, hi, rfl, g1, HS⟩ := hrel
    by_cases hlt : i < n
    · have c0 : wr.cell? ⟨N, 0, none⟩ = some (.pointer (some ⟨p, 0, none⟩)) := (unhide HS).2.1.cell 0
      have c1 : wr.cell? ⟨N, 1, none⟩ = some (.pointer none) := (unhide HS).2.1.cell 1
      have cq : wr.cell? ⟨q, i, none⟩ = some (.pointer (some ⟨b, o + i, none⟩)) := ((unhide HQ).frame (unhide HS).2.2.1 (by omega)) i hlt
      have hix : i < xs.length := by rw [unhide HXS]; exact hlt
      obtain ⟨st1, Hst⟩ : ∃ st1, Hid (stepW st (wrL (List.replicate i (.num size)) ((xs.take i).map (Value.int .i64))) = st1) := ⟨_, rfl⟩
      have hM1 : Most st1 (L + 80) := by
        rw [← unhide Hst]
        refine ((unhide HL).step (Most.wr _ _)).mono ?_
        rw [wide_rep]
        have : i * (Kd.num size).n ≤ 10 * 8 := Nat.mul_le_mul (by omega) hs8
        omega
      rw [unhide Hst] at HS
      have hxi := unhide HX i hix
      have hmi := unhide HM _ (List.getElem_mem hix)
      have HNX : Hid (stepW st (wrL (List.replicate (i + 1) (.num size)) ((xs.take (i + 1)).map (Value.int .i64))) = stepW st1 ((Kd.num size).w (.int .i64 xs[i]))) := hide (by
        rw [rep_snoc, List.take_succ_eq_append_getElem hix, List.map_append, wrL_append _ _ _ _ (by rw [List.length_map, List.length_take, List.length_replicate]; omega), ← stepW_assoc, unhide Hst]
        simp only [List.map_cons, List.map_nil, wrL]
        rw [stepW_nil])
      generalize xs[i] = x at hxi hmi HNX
      go_wp2_with fail
      refine (sizedI_w (unhide HS).1.s (unhide HS).1.x (o + i) size x hxi (L + 80) hM1 (by have := unhide HFT; omega) hmi).mono ?_
      rintro e w1 ⟨rfl, hP⟩
      obtain ⟨g2, hB2, hg2, hF2⟩ := (unhide HS).1.next (WP.of hP (unhide HS).1.gl)
      rw [← unhide HNX] at hB2
      have HS1 : Hid (WB w1 p g2 b (stepW st (wrL (List.replicate (i + 1) (.num size)) ((xs.take (i + 1)).map (Value.int .i64)))) cs t ∧ Bx w1 N #[.pointer (some ⟨p, 0, none⟩), .pointer none] 82 ∧ Fr (fun k => k = p ∨ k = g) w w1 ∧ (g2 = g ∨ w.heap.size ≤ g2) ∧ N ≠ g2) := hide (by
        obtain ⟨k1, k2, k3, k4, k5⟩ := unhide HS
        have hNl := k2.lt
        have hsz := k3.size
        exact ⟨hB2, k2.frame hF2 (by omega), k3.trans hF2 (fun _ _ t => by omega), by omega, by omega⟩)
      clear hB2 hF2 hg2 hP c0 c1 cq
      go_wp2
      exact ⟨⟨i + 1, by omega, by go_num, g2, unhide HS1⟩, by simp [intOf]; omega⟩
    · obtain rfl : i = n := by omega
      go_wp2
      go_end0
      obtain ⟨k1, k2, k3, k4, k5⟩ := unhide HS
      rw [List.take_of_length_le (by rw [unhide HXS]; omega)] at k1
      exact ⟨rfl, g1, k1.s, k1.gl, k4, k3⟩

theorem token_r (h : RB w p g b bs s cs t) (o : Nat) (ho : o < cs.size) :
    Calls Try.prog 47 #[walkR p, .pointer (some ⟨b, o, none⟩)] w (RDone p g b bs ((Kd.fix 8).rd bs s).2 (cs.setIfInBounds o ((Kd.fix 8).rd bs s).1) t w) := by
  have HB := hide h
  have hp := h.plt
  have hb := h.x.lt
  clear h
  go_enter Try.func47, Try.ntmps47
  go_wp2_with fail
  refine (sizedS_r ((unhide HB).alloc _) o ho 8).mono ?_
  rintro e w1 ⟨rfl, hB1, hF1⟩
  have H1 := hide (And.intro hB1 (((Fr.refl (fun k => k = p ∨ k = b) w).alloc _).trans hF1 (fun _ _ t => t)))
  clear hB1 hF1
  go_wp2
  go_end0
  exact ⟨rfl, (unhide H1).1, (unhide H1).2⟩

theorem token_w (h : WB w p g b st cs t) (o : Nat) (x : ByteArray) (hx : cs[o]? = some (.string x)) (L : Nat) (hL : Most st L) (hfit : L + 65600 ≤ 140737488355328) :
    Calls Try.prog 47 #[walkW p, .pointer (some ⟨b, o, none⟩)] w (WDone p g (stepW st ((Kd.fix 8).w (.string x))) w) := by
  have HB := hide h
  have hp := h.plt
  have hb := h.x.lt
  have hgl := h.gl
  have HX := hide hx
  have HL := hide (And.intro hL hfit)
  clear h hx hL hfit
  go_enter Try.func47, Try.ntmps47
  go_wp2_with fail
  refine (sizedS_w ((unhide HB).alloc _).s ((unhide HB).alloc _).x o 8 x (unhide HX) L (unhide HL).1 (unhide HL).2).mono ?_
  rintro e w1 ⟨rfl, hP⟩
  have HP := hide (WP.later ((Fr.refl (fun _ => False) w).alloc _) (WP.of hP ((unhide HB).alloc _).gl))
  clear hP
  go_wp2
  go_end0
  exact ⟨rfl, unhide HP⟩

end
end Go.Proofs.Ytlhgfnpialndaaa

