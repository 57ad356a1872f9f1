import Derived.Test.YtjgbllfppomcmaaGreatJNX
/- A walk in memory: its box, the row of journeys; lone, putRail. -/
namespace Go.Proofs.YtjgbllfppomcmaaGreat
open Go.RowKit

def railV : Option Nat → Int
  | none => -1
  | some k => (k : Int)

/-- The walk's fields. -/
def wkC (A : Ad) (t : Tf) (s : Wk) (ao : Option Addr) (cap : Nat) : Array Value :=
  #[.slice A.aS t.st.length A.cS, .slice A.aP t.sp.length A.cP, .slice A.aB t.bd.length A.cB, .float .f64 t.off, .int .i64 t.bus, .int .i64 t.busDaily, .int .i64 t.busWeekly,
    .int .i64 t.hopper, .int .i64 t.most, .int .i64 t.longest, .int .i64 t.change, .int .i64 t.passback, .int .i64 t.delay, .int .i64 t.threshold,
    .slice ao s.made.length cap, .int .i64 (railV s.rail), .int .i64 (s.paid.getD jz).kind, .int .i64 (s.paid.getD jz).fr, .int .i64 (s.paid.getD jz).to, .int .i64 (s.paid.getD jz).st, .int .i64 (s.paid.getD jz).en, .bool (s.paid.getD jz).free,
    .int .i64 (s.opn.getD jz).kind, .int .i64 (s.opn.getD jz).fr, .int .i64 (s.opn.getD jz).to, .int .i64 (s.opn.getD jz).st, .int .i64 (s.opn.getD jz).en, .bool (s.opn.getD jz).free, .bool s.again]

/-- A walk in memory: w0 is the world ahead of it. -/
structure WM (w0 w : World) (p : Nat) (A : Ad) (t : Tf) (s : Wk) (ao : Option Addr) (cap g : Nat) : Prop where
  box : Bx w p (wkC A t s ao cap) 176
  row : KRow w ao cap g 6 (jV s.made)
  ne : 0 < cap → g ≠ p
  p0 : w0.heap.size ≤ p
  g0 : 0 < cap → w0.heap.size ≤ g
  fr : Fr (fun _ => False) w0 w

/-- What a call makes of a walk. -/
def WStep (w0 : World) (p : Nat) (A : Ad) (t : Tf) (s' : Wk) (w : World) (g cap : Nat) (w' : World) : Prop :=
  ∃ ao' cap' g', WM w0 w' p A t s' ao' cap' g' ∧ Fr (fun k => k = p ∨ (k = g ∧ 0 < cap)) w w' ∧ (0 < cap' → (g' = g ∧ 0 < cap) ∨ w.heap.size ≤ g')

theorem WM.lt {w0 w : World} {p : Nat} {A : Ad} {t : Tf} {s : Wk} {ao : Option Addr} {cap g : Nat} (h : WM w0 w p A t s ao cap g) : p < w.heap.size := h.box.lt
theorem WM.glt {w0 w : World} {p : Nat} {A : Ad} {t : Tf} {s : Wk} {ao : Option Addr} {cap g : Nat} (h : WM w0 w p A t s ao cap g) (hc : 0 < cap) : g < w.heap.size := h.row.lt (by omega) hc

theorem WM.keep {w0 w w' : World} {p : Nat} {A : Ad} {t : Tf} {s : Wk} {ao : Option Addr} {cap g : Nat} (h : WM w0 w p A t s ao cap g) (hf : Fr (fun _ => False) w w') : WM w0 w' p A t s ao cap g :=
  ⟨h.box.keep hf, h.row.keep (by omega) hf, h.ne, h.p0, h.g0, h.fr.trans hf (fun _ _ t => t)⟩

/-- Something else than the walk's own stands. -/
theorem WStep.other {w0 w w' : World} {p g cap : Nat} {A : Ad} {t : Tf} {s' : Wk} (h : WStep w0 p A t s' w g cap w') {B : Nat} {cs : Array Value} {T : TypeId} (hb : Bx w B cs T) (h1 : B ≠ p) (h2 : 0 < cap → B ≠ g) : Bx w' B cs T := by
  obtain ⟨ao', cap', g', _, hf, _⟩ := h
  exact hb.frame hf (fun t => by rcases t with t | t; (· exact h1 t); (· exact h2 t.2 t.1))

theorem WStep.of {w0 w w' w'' : World} {p g cap : Nat} {A : Ad} {t : Tf} {s' : Wk} (hf : Fr (fun _ => False) w w') (h : WStep w0 p A t s' w' g cap w'') : WStep w0 p A t s' w g cap w'' := by
  obtain ⟨ao', cap', g', h1, h2, h3⟩ := h
  exact ⟨ao', cap', g', h1, (hf.mono (fun _ _ t => t.elim)).trans h2 (fun _ _ t => t), fun hc => (h3 hc).imp id (fun t => Nat.le_trans hf.size t)⟩

theorem lone_any (w : World) (k : Int) (x : Tp) : Calls Tryz.prog 188 #[.int .i64 k, .agg (tpC x)] w fun e w' => e = .returned (.agg (jC (lone k x))) ∧ Fr (fun _ => False) w w' := by
  obtain ⟨dev, ctr, tok, kind, place, time⟩ := x
  simp only [tpC, jC, lone]
  go_enter Tryz.func188, Tryz.ntmps188
  go_wp2
  refine bodyPost_ret (v := .agg #[.int .i64 k, .int .i64 place, .int .i64 place, .int .i64 time, .int .i64 time, .bool false]) (by simp [results, Tryz.results188, go_sem]) rfl ⟨rfl, ?_⟩
  repeat (first | refine Fr.setCell ?_ (fun t => absurd t (by simp only []; omega)) _ | refine Fr.alloc ?_ _ | refine Fr.drew ?_)
  exact Fr.refl _ _

theorem jInfo : (Tryz.prog.info? 124).map (fun i => (i.zero, i.size, i.bytes)) = some (some (.agg #[.int .i64 0, .int .i64 0, .int .i64 0, .int .i64 0, .int .i64 0, .bool false]), 6, 48) := by kernel_rfl

/-- One more journey behind a row of them: what append comes to. -/
theorem append_jn {w : World} {ao : Option Addr} {cap g : Nat} {l : List Jn} (h : KRow w ao cap g 6 (jV l)) (hn : l.length ≤ 100000) (j : Jn) (ty : TypeId) :
    ∃ ao' cap' w' g', (Builtin.append_ #[74, 74] ty #[.slice ao l.length cap, .slice (some ⟨w.heap.size, 0, none⟩) 1 1]).run Tryz.prog (w.alloc (.cells (jC j) 124)) = .ok (.slice ao' (l.length + 1) cap') w' ∧
      KRow w' ao' cap' g' 6 (jV (l ++ [j])) ∧ Fr (fun k => k = g ∧ 0 < cap) w w' ∧ (0 < cap' → (g' = g ∧ 0 < cap) ∨ w.heap.size < g') := by
  obtain ⟨i, hi, hz, hs, hb⟩ : ∃ i, Tryz.prog.info? 124 = some i ∧ i.zero = some (.agg #[.int .i64 0, .int .i64 0, .int .i64 0, .int .i64 0, .int .i64 0, .bool false]) ∧ i.size = 6 ∧ i.bytes = 48 := by
    have := jInfo
    cases h : Tryz.prog.info? 124 with
    | none => rw [h] at this; simp at this
    | some i => rw [h] at this; simp at this; exact ⟨i, rfl, this.1, this.2.1, this.2.2⟩
  have hw : Fr (fun _ => False) w (w.alloc (.cells (jC j) 124)) := (Fr.refl _ _).alloc _
  have hsrc : Src Tryz.prog 6 74 (.slice (some ⟨w.heap.size, 0, none⟩) 1 1) 1 (jL j) (w.alloc (.cells (jC j) 124)) :=
    src_one (P := Tryz.prog) w (jL j) 74 124 6 Tryz.underlying74 rfl (jL_one j) (fun k => ((Bx.new w (jC j) 124).cell k).trans (by simp [jC, jL]))
  obtain ⟨ao', cap', w', g', h1, h2, h3⟩ := append_krow (P := Tryz.prog) 74 74 ty 124 i _ 6 (by omega) Tryz.underlying74 hi hz rfl hs (h.keep (by omega) hw) (jV_length l) _ (jL j) 1 hsrc (by rw [hb]; omega) (by omega)
  rw [← jV_snoc] at h2
  refine ⟨ao', cap', w', g', h1, h2, ?_, fun hc => ?_⟩
  · rcases h3 with ⟨_, _, f⟩ | ⟨_, _, f⟩
    · exact (hw.mono (fun _ _ t => t.elim)).trans f (fun _ _ t => t)
    · exact (hw.mono (fun _ _ t => t.elim)).trans (f.mono (fun _ _ t => t.elim)) (fun _ _ t => t)
  · rcases h3 with ⟨e, e2, _⟩ | ⟨e, _, _⟩
    · exact .inl ⟨e, by omega⟩
    · rw [heap_alloc] at e; exact .inr (by omega)

end Go.Proofs.YtjgbllfppomcmaaGreat

/- A walk's putRail. -/
namespace Go.Proofs.YtjgbllfppomcmaaGreat
open Go.RowKit

/-- An append whose run is known, as one step of a region that draws its order. -/
theorem step_append_runJ {ops : Array Oper} {o : Oper} {a : Act} {w : World} {K : Act → World → Prop} {Q : Exit → Act → World → Prop} {E : Prop} (hgd : o.guard = none) (s x : Operand) (t tx : TypeId)
    (ho : o.op = .call { callee := .builtin .append, args := #[s, x], argTypes := #[t, tx] }) {sv xv v : Value} {w' : World} (hv : a.eval s = sv) (hx : a.eval x = xv) (hrun : (Builtin.append_ #[t, tx] o.type #[sv, xv]).run Tryz.prog w = .ok v w') (hK : K (a.put o.dst v) w') :
    if Region.wanted o (yielded ops a.tmps) = true then Oper.wp Tryz.prog o a w K Q else E := by
  have hw : Region.wanted o (yielded ops a.tmps) = true := by simp [Region.wanted, hgd]
  rw [if_pos hw]
  unfold Oper.wp
  simp [execOp, ho, resolve, invoke, builtin, hv, hx, hrun, Result.andThen]
  exact hK

theorem wkC_put (A : Ad) (t : Tf) (s : Wk) (ao ao' : Option Addr) (cap cap' : Nat) (j : Jn) :
    ((wkC A t s ao cap).setIfInBounds 15 (.int .i64 (s.made.length : Int))).setIfInBounds 14 (.slice ao' (s.made.length + 1) cap') = wkC A t (s.put j) ao' cap' := by
  simp [wkC, Wk.put, railV]

set_option maxHeartbeats 2000000 in
theorem putRail_any (w0 w : World) (p : Nat) (A : Ad) (t : Tf) (s : Wk) (ao : Option Addr) (cap g : Nat) (h : WM w0 w p A t s ao cap g) (hn : s.made.length ≤ 100000) (j : Jn) :
    Calls Tryz.prog 167 #[.pointer (some ⟨p, 0, none⟩), .agg (jC j)] w fun e w' => e = .returned (.tuple #[]) ∧ WStep w0 p A t (s.put j) w g cap w' := by
  -- the world behind region 1
  obtain ⟨w1, hw1⟩ : ∃ w1, w1 = (w.alloc (.cells (jC j) 124)).setCell ⟨p, 15, none⟩ (.int .i64 (s.made.length : Int)) := ⟨_, rfl⟩
  have hlt := h.lt
  have hpB : p ≠ w.heap.size := by omega
  have hFa : Fr (fun _ => False) w (w.alloc (.cells (jC j) 124)) := (Fr.refl _ _).alloc _
  have hF1 : Fr (fun k => k = p) w w1 := by rw [hw1]; exact Fr.setCell (S := fun k => k = p) (hFa.mono (fun _ _ t => t.elim)) (fun _ => rfl) _
  have hs1 : w1.heap.size = w.heap.size + 1 := by rw [hw1]; simp
  have hbx1 : Bx w1 p ((wkC A t s ao cap).setIfInBounds 15 (.int .i64 (s.made.length : Int))) 176 := by rw [hw1]; exact (h.box.keep hFa).setCell 15 _
  have hjx1 : Bx w1 w.heap.size (jC j) 124 := by rw [hw1]; exact (Bx.new w _ _).setOther (by omega) _ _
  have hrow1 : KRow w1.drew ao cap g 6 (jV s.made) := by
    refine h.row.stay (fun hc => ?_)
    show w1.heap[g]? = _
    exact hF1.block g (h.glt hc) (h.ne hc)
  obtain ⟨ao', cap', w2, g', hrun, hrow2, hF2, hg2⟩ := append_jn hrow1 hn j 74
  have hsd : w1.drew.heap.size = w1.heap.size := rfl
  have hF2' : Fr (fun k => k = g ∧ 0 < cap) w1 w2 := ⟨hF2.os, hF2.tape, hF2.output, hF2.size, hF2.block⟩
  have hbx2 := hbx1.frame hF2' (fun t => h.ne t.2 t.1.symm)
  have HP : Hid (WStep w0 p A t (s.put j) w g cap (w2.setCell ⟨p, 14, none⟩ (.slice ao' (s.made.length + 1) cap'))) := by
    have hg3 : 0 < cap' → g' ≠ p := fun hc => by
      rcases hg2 hc with ⟨e, e2⟩ | e
      · rw [e]; exact h.ne e2
      · omega
    have hFs : Fr (fun k => k = p) w2 (w2.setCell ⟨p, 14, none⟩ (.slice ao' (s.made.length + 1) cap')) := (Fr.refl (fun k => k = p) _).setCell (fun _ => rfl) _
    have hFall : Fr (fun k => k = p ∨ (k = g ∧ 0 < cap)) w (w2.setCell ⟨p, 14, none⟩ (.slice ao' (s.made.length + 1) cap')) :=
      ((hF1.mono (fun _ _ t => .inl t)).trans hF2' (fun _ _ t => .inr t)).trans hFs (fun _ _ t => .inl t)
    refine hide ⟨ao', cap', g', ⟨?_, hrow2.stay (fun hc => hFs.block g' (hrow2.lt (by omega) hc) (hg3 hc)), hg3, h.p0, fun hc => ?_, ?_⟩, hFall, fun hc => ?_⟩
    · rw [← wkC_put A t s ao ao' cap cap' j]
      exact hbx2.setCell 14 _
    · rcases hg2 hc with ⟨e, e2⟩ | e
      · rw [e]; exact h.g0 e2
      · have := h.fr.size; omega
    · refine h.fr.trans hFall (fun i hi t => ?_)
      rcases t with t | ⟨t, t2⟩
      · have := h.p0; omega
      · have := h.g0 t2; omega
    · rcases hg2 hc with e | e
      · exact .inl e
      · exact .inr (by omega)
  have HRUN := hide hrun
  have hrun2 : (Builtin.append_ #[74, 74] 74 #[.slice ao s.made.length cap, .slice (some ⟨w1.heap.size, 0, none⟩) 1 1]).run Tryz.prog (w1.alloc (.cells (jC j) 124)).drew = .ok (.slice ao' (s.made.length + 1) cap') w2 := hrun
  have HRUN2 := hide hrun2
  have a1b : (w1.alloc (.cells (jC j) 124)).cell? ⟨p, 14, none⟩ = some (.slice ao s.made.length cap) := (hbx1.alloc _).cell 14
  have a0 : w1.cell? ⟨p, 14, none⟩ = some (.slice ao s.made.length cap) := hbx1.cell 14
  have a1 : (w1.drew.alloc (.cells (jC j) 124)).cell? ⟨p, 14, none⟩ = some (.slice ao s.made.length cap) := (hbx1.drew.alloc _).cell 14
  have a2 : w2.cell? ⟨p, 14, none⟩ = some (.slice ao s.made.length cap) := hbx2.cell 14
  have a3 : w2.frozen? ⟨p, 14, none⟩ = false := hbx2.frozen 14
  have b14 : (w.alloc (.cells (jC j) 124)).cell? ⟨p, 14, none⟩ = some (.slice ao s.made.length cap) := (h.box.keep hFa).cell 14
  have b15 : (w.alloc (.cells (jC j) 124)).cell? ⟨p, 15, none⟩ = some (.int .i64 (railV s.rail)) := (h.box.keep hFa).cell 15
  have f15 : (w.alloc (.cells (jC j) 124)).frozen? ⟨p, 15, none⟩ = false := (h.box.keep hFa).frozen 15
  have J0 := hide hjx1
  have HW1 := hide hw1
  clear hrun hrun2 hrow2 hF2 hg2 hF2' hbx2 hbx1 hjx1 hrow1 hF1 hs1 hsd hpB hlt h hw1
  generalize s.made.length = n at *
  generalize railV s.rail = rv at *
  obtain ⟨k, f, o, a, b, c⟩ := j
  simp only [jC] at *
  have i0 : w1.cell? ⟨w.heap.size, 0, none⟩ = some (.int .i64 k) := (unhide J0).cell 0
  have i1 : w1.cell? ⟨w.heap.size, 1, none⟩ = some (.int .i64 f) := (unhide J0).cell 1
  have i2 : w1.cell? ⟨w.heap.size, 2, none⟩ = some (.int .i64 o) := (unhide J0).cell 2
  have i3 : w1.cell? ⟨w.heap.size, 3, none⟩ = some (.int .i64 a) := (unhide J0).cell 3
  have i4 : w1.cell? ⟨w.heap.size, 4, none⟩ = some (.int .i64 b) := (unhide J0).cell 4
  have i5 : w1.cell? ⟨w.heap.size, 5, none⟩ = some (.bool c) := (unhide J0).cell 5
  go_enter Tryz.func167, Tryz.ntmps167
  go_wp2_with fail
  rw [← unhide HW1]
  go_region_law (first | refine step_append_runJ rfl (.tmp 16) (.tmp 18) 74 74 rfl rfl rfl (unhide HRUN) ?_ | refine step_append_runJ rfl (.tmp 16) (.tmp 18) 74 74 rfl rfl rfl (unhide HRUN2) ?_)
  all_goals
    clear a0 a1 a1b a2 a3 b14 b15 f15 i0 i1 i2 i3 i4 i5 HRUN HRUN2 HW1 J0
    go_wp2
    go_end0
    exact ⟨rfl, unhide HP⟩

end Go.Proofs.YtjgbllfppomcmaaGreat

/- A walk's closeOpen. -/
namespace Go.Proofs.YtjgbllfppomcmaaGreat
open Go.RowKit

section
variable {w0 w w' : World} {p : Nat} {A : Ad} {t : Tf} {s s2 : Wk} {ao : Option Addr} {cap g : Nat}

theorem WStep.refl (h : WM w0 w p A t s ao cap g) : WStep w0 p A t s w g cap w := ⟨ao, cap, g, h, Fr.refl _ _, fun hc => .inl ⟨rfl, hc⟩⟩

/-- Other fields are written. -/
theorem WM.write (h : WM w0 w p A t s ao cap g) (hb : Bx w' p (wkC A t s2 ao cap) 176) (hf : Fr (fun k => k = p) w w') (hm : s2.made = s.made) : WM w0 w' p A t s2 ao cap g :=
  ⟨hb, by rw [hm]; exact h.row.stay (fun hc => hf.block g (h.glt hc) (h.ne hc)), h.ne, h.p0, h.g0, h.fr.trans hf (fun i hi t => by have := h.p0; omega)⟩

theorem WStep.trans {g1 cap1 : Nat} {ao1 : Option Addr} {w1 w2 : World} (_h1 : WM w0 w1 p A t s ao1 cap1 g1) (hf : Fr (fun k => k = p ∨ (k = g ∧ 0 < cap)) w w1) (hg : 0 < cap1 → (g1 = g ∧ 0 < cap) ∨ w.heap.size ≤ g1) (h2 : WStep w0 p A t s2 w1 g1 cap1 w2) : WStep w0 p A t s2 w g cap w2 := by
  obtain ⟨ao', cap', g', k1, k2, k3⟩ := h2
  refine ⟨ao', cap', g', k1, hf.trans k2 (fun i hi t => ?_), fun hc => ?_⟩
  · rcases t with t | ⟨t, t2⟩
    · exact .inl t
    · rcases hg t2 with ⟨e, e2⟩ | e
      · exact .inr ⟨by omega, e2⟩
      · omega
  · rcases k3 hc with ⟨e, e2⟩ | e
    · rcases hg e2 with ⟨f, f2⟩ | f
      · exact .inl ⟨by omega, f2⟩
      · exact .inr (by omega)
    · exact .inr (Nat.le_trans hf.size e)

theorem WStep.write {w2 : World} (h : WM w0 w p A t s ao cap g) (hb : Bx w2 p (wkC A t s2 ao cap) 176) (hf : Fr (fun k => k = p) w w2) (hm : s2.made = s.made) : WStep w0 p A t s2 w g cap w2 :=
  ⟨ao, cap, g, h.write hb hf hm, hf.mono (fun _ _ t => .inl t), fun hc => .inl ⟨rfl, hc⟩⟩
end

theorem wkC_shut (A : Ad) (t : Tf) (s : Wk) (ao : Option Addr) (cap : Nat) :
    ((((((wkC A t s ao cap).setIfInBounds 22 (.int .i64 0)).setIfInBounds 23 (.int .i64 0)).setIfInBounds 24 (.int .i64 0)).setIfInBounds 25 (.int .i64 0)).setIfInBounds 26 (.int .i64 0)).setIfInBounds 27 (.bool false) = wkC A t ⟨s.made, s.rail, s.paid, none, s.again⟩ ao cap := by
  simp [wkC, jz]

set_option maxHeartbeats 2000000 in
theorem closeOpen_any (w0 w : World) (p : Nat) (A : Ad) (t : Tf) (s : Wk) (ao : Option Addr) (cap g : Nat) (h : WM w0 w p A t s ao cap g) (hn : s.made.length ≤ 100000) (ho : ∀ j : Jn, s.opn = some j → j.kind ≠ 0) :
    Calls Tryz.prog 140 #[.pointer (some ⟨p, 0, none⟩)] w fun e w' => e = .returned (.tuple #[]) ∧ WStep w0 p A t s.shut w g cap w' := by
  have R := hide (fun j => putRail_any w0 w p A t s ao cap g h hn j)
  have q1 := egJ
  have q2 := eqJ
  have c22 : w.cell? ⟨p, 22, none⟩ = some (.int .i64 (s.opn.getD jz).kind) := h.box.cell 22
  have c23 : w.cell? ⟨p, 23, none⟩ = some (.int .i64 (s.opn.getD jz).fr) := h.box.cell 23
  have c24 : w.cell? ⟨p, 24, none⟩ = some (.int .i64 (s.opn.getD jz).to) := h.box.cell 24
  have c25 : w.cell? ⟨p, 25, none⟩ = some (.int .i64 (s.opn.getD jz).st) := h.box.cell 25
  have c26 : w.cell? ⟨p, 26, none⟩ = some (.int .i64 (s.opn.getD jz).en) := h.box.cell 26
  have c27 : w.cell? ⟨p, 27, none⟩ = some (.bool (s.opn.getD jz).free) := h.box.cell 27
  cases hop : s.opn with
  | none =>
    have HP : Hid (WStep w0 p A t s.shut w g cap w) := hide (by rw [show s.shut = s by unfold Wk.shut; rw [hop]]; exact WStep.refl h)
    simp only [hop, Option.getD_none, jz] at c22 c23 c24 c25 c26 c27
    clear h R hop ho
    go_enter Tryz.func140, Tryz.ntmps140
    go_wp2
    refine bodyPost_ret (results_none rfl _ _ _) rfl ⟨rfl, unhide HP⟩
  | some j =>
    have HS : Hid (s.shut = ⟨s.made ++ [j], some s.made.length, s.paid, none, s.again⟩) := hide (by unfold Wk.shut; rw [hop])
    have HO := hide hop
    simp only [hop, Option.getD_some] at c22 c23 c24 c25 c26 c27
    have hk : (j.kind == 0) = false := by simp [ho j hop]
    have R1 := hide (unhide R j)
    clear h R hop ho
    unfold jC at R1
    go_enter Tryz.func140, Tryz.ntmps140
    go_wp2_with fail
    refine (unhide R1).mono ?_
    rintro e w1 ⟨rfl, ao1, cap1, g1, hM, hF, hG⟩
    have e22 : w1.cell? ⟨p, 22, none⟩ = some (.int .i64 (s.opn.getD jz).kind) := hM.box.cell 22
    have e23 : w1.cell? ⟨p, 23, none⟩ = some (.int .i64 (s.opn.getD jz).fr) := hM.box.cell 23
    have e24 : w1.cell? ⟨p, 24, none⟩ = some (.int .i64 (s.opn.getD jz).to) := hM.box.cell 24
    have e25 : w1.cell? ⟨p, 25, none⟩ = some (.int .i64 (s.opn.getD jz).st) := hM.box.cell 25
    have e26 : w1.cell? ⟨p, 26, none⟩ = some (.int .i64 (s.opn.getD jz).en) := hM.box.cell 26
    have e27 : w1.cell? ⟨p, 27, none⟩ = some (.bool (s.opn.getD jz).free) := hM.box.cell 27
    have f22 : ∀ k, w1.frozen? ⟨p, k, none⟩ = false := fun k => hM.box.frozen k
    have HH := hide (And.intro hM (And.intro hF hG))
    clear hM hF hG R1 c22 c23 c24 c25 c26 c27
    go_wp2
    go_end0
    refine ⟨rfl, ?_⟩
    obtain ⟨hM, hF, hG⟩ := unhide HH
    refine WStep.trans hM hF hG (WStep.write hM (s2 := s.shut) ?_ ?_ (by rw [unhide HS]; rfl))
    · rw [unhide HS]
      have := wkC_shut A t (s.put j) ao1 cap1
      rw [show (Wk.mk (s.put j).made (s.put j).rail (s.put j).paid none (s.put j).again) = ⟨s.made ++ [j], some s.made.length, s.paid, none, s.again⟩ from rfl] at this
      rw [← this]
      exact (((((hM.box.setCell 22 _).setCell 23 _).setCell 24 _).setCell 25 _).setCell 26 _).setCell 27 _
    · repeat (refine Fr.setCell (S := fun k => k = p) ?_ (fun _ => rfl) _)
      exact Fr.refl _ _

end Go.Proofs.YtjgbllfppomcmaaGreat

