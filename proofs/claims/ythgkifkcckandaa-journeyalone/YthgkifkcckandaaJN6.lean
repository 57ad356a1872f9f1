import Derived.Test.YthgkifkcckandaaJN5
/- A walk's putRail. -/
namespace Go.Proofs.Ythgkifkcckandaa
open Go.RowKit

/-- An append whose run is known, as one step of a region that draws its order. -/
theorem step_append_runJ {ops : Array Oper} {o : Oper} {a : Act} {w : World} {K : Act → World → Prop} {Q : Exit → Act → World → Prop} {E : Prop} (hgd : o.guard = none) (s x : Operand) (t tx : TypeId)
    (ho : o.op = .call { callee := .builtin .append, args := #[s, x], argTypes := #[t, tx] }) {sv xv v : Value} {w' : World} (hv : a.eval s = sv) (hx : a.eval x = xv) (hrun : (Builtin.append_ #[t, tx] o.type #[sv, xv]).run Try.prog w = .ok v w') (hK : K (a.put o.dst v) w') :
    if Region.wanted o (yielded ops a.tmps) = true then Oper.wp Try.prog o a w K Q else E := by
  have hw : Region.wanted o (yielded ops a.tmps) = true := by simp [Region.wanted, hgd]
  rw [if_pos hw]
  unfold Oper.wp
  simp [execOp, ho, resolve, invoke, builtin, hv, hx, hrun, Result.andThen]
  exact hK

theorem wkC_put (A : Ad) (t : Tf) (s : Wk) (ao ao' : Option Addr) (cap cap' : Nat) (j : Jn) :
    ((wkC A t s ao cap).setIfInBounds 15 (.int .i64 (s.made.length : Int))).setIfInBounds 14 (.slice ao' (s.made.length + 1) cap') = wkC A t (s.put j) ao' cap' := by
  simp [wkC, Wk.put, railV]

set_option maxHeartbeats 2000000 in
theorem putRail_any (w0 w : World) (p : Nat) (A : Ad) (t : Tf) (s : Wk) (ao : Option Addr) (cap g : Nat) (h : WM w0 w p A t s ao cap g) (hn : s.made.length ≤ 100000) (j : Jn) :
    Calls Try.prog 55 #[.pointer (some ⟨p, 0, none⟩), .agg (jC j)] w fun e w' => e = .returned (.tuple #[]) ∧ WStep w0 p A t (s.put j) w g cap w' := by
  -- the world behind region 1
  obtain ⟨w1, hw1⟩ : ∃ w1, w1 = (w.alloc (.cells (jC j) 42)).setCell ⟨p, 15, none⟩ (.int .i64 (s.made.length : Int)) := ⟨_, rfl⟩
  have hlt := h.lt
  have hpB : p ≠ w.heap.size := by omega
  have hFa : Fr (fun _ => False) w (w.alloc (.cells (jC j) 42)) := (Fr.refl _ _).alloc _
  have hF1 : Fr (fun k => k = p) w w1 := by rw [hw1]; exact Fr.setCell (S := fun k => k = p) (hFa.mono (fun _ _ t => t.elim)) (fun _ => rfl) _
  have hs1 : w1.heap.size = w.heap.size + 1 := by rw [hw1]; simp
  have hbx1 : Bx w1 p ((wkC A t s ao cap).setIfInBounds 15 (.int .i64 (s.made.length : Int))) 73 := by rw [hw1]; exact (h.box.keep hFa).setCell 15 _
  have hjx1 : Bx w1 w.heap.size (jC j) 42 := by rw [hw1]; exact (Bx.new w _ _).setOther (by omega) _ _
  have hrow1 : KRow w1.drew ao cap g 6 (jV s.made) := by
    refine h.row.stay (fun hc => ?_)
    show w1.heap[g]? = _
    exact hF1.block g (h.glt hc) (h.ne hc)
  obtain ⟨ao', cap', w2, g', hrun, hrow2, hF2, hg2⟩ := append_jn hrow1 hn j 30
  have hsd : w1.drew.heap.size = w1.heap.size := rfl
  have hF2' : Fr (fun k => k = g ∧ 0 < cap) w1 w2 := ⟨hF2.os, hF2.tape, hF2.output, hF2.size, hF2.block⟩
  have hbx2 := hbx1.frame hF2' (fun t => h.ne t.2 t.1.symm)
  have HP : Hid (WStep w0 p A t (s.put j) w g cap (w2.setCell ⟨p, 14, none⟩ (.slice ao' (s.made.length + 1) cap'))) := by
    have hg3 : 0 < cap' → g' ≠ p := fun hc => by
      rcases hg2 hc with ⟨e, e2⟩ | e
      · rw [e]; exact h.ne e2
      · omega
    have hFs : Fr (fun k => k = p) w2 (w2.setCell ⟨p, 14, none⟩ (.slice ao' (s.made.length + 1) cap')) := (Fr.refl (fun k => k = p) _).setCell (fun _ => rfl) _
    have hFall : Fr (fun k => k = p ∨ (k = g ∧ 0 < cap)) w (w2.setCell ⟨p, 14, none⟩ (.slice ao' (s.made.length + 1) cap')) :=
      ((hF1.mono (fun _ _ t => .inl t)).trans hF2' (fun _ _ t => .inr t)).trans hFs (fun _ _ t => .inl t)
    refine hide ⟨ao', cap', g', ⟨?_, hrow2.stay (fun hc => hFs.block g' (hrow2.lt (by omega) hc) (hg3 hc)), hg3, h.p0, fun hc => ?_, ?_⟩, hFall, fun hc => ?_⟩
    · rw [← wkC_put A t s ao ao' cap cap' j]
      exact hbx2.setCell 14 _
    · rcases hg2 hc with ⟨e, e2⟩ | e
      · rw [e]; exact h.g0 e2
      · have := h.fr.size; omega
    · refine h.fr.trans hFall (fun i hi t => ?_)
      rcases t with t | ⟨t, t2⟩
      · have := h.p0; omega
      · have := h.g0 t2; omega
    · rcases hg2 hc with e | e
      · exact .inl e
      · exact .inr (by omega)
  have HRUN := hide hrun
  have hrun2 : (Builtin.append_ #[30, 30] 30 #[.slice ao s.made.length cap, .slice (some ⟨w1.heap.size, 0, none⟩) 1 1]).run Try.prog (w1.alloc (.cells (jC j) 42)).drew = .ok (.slice ao' (s.made.length + 1) cap') w2 := hrun
  have HRUN2 := hide hrun2
  have a1b : (w1.alloc (.cells (jC j) 42)).cell? ⟨p, 14, none⟩ = some (.slice ao s.made.length cap) := (hbx1.alloc _).cell 14
  have a0 : w1.cell? ⟨p, 14, none⟩ = some (.slice ao s.made.length cap) := hbx1.cell 14
  have a1 : (w1.drew.alloc (.cells (jC j) 42)).cell? ⟨p, 14, none⟩ = some (.slice ao s.made.length cap) := (hbx1.drew.alloc _).cell 14
  have a2 : w2.cell? ⟨p, 14, none⟩ = some (.slice ao s.made.length cap) := hbx2.cell 14
  have a3 : w2.frozen? ⟨p, 14, none⟩ = false := hbx2.frozen 14
  have b14 : (w.alloc (.cells (jC j) 42)).cell? ⟨p, 14, none⟩ = some (.slice ao s.made.length cap) := (h.box.keep hFa).cell 14
  have b15 : (w.alloc (.cells (jC j) 42)).cell? ⟨p, 15, none⟩ = some (.int .i64 (railV s.rail)) := (h.box.keep hFa).cell 15
  have f15 : (w.alloc (.cells (jC j) 42)).frozen? ⟨p, 15, none⟩ = false := (h.box.keep hFa).frozen 15
  have J0 := hide hjx1
  have HW1 := hide hw1
  clear hrun hrun2 hrow2 hF2 hg2 hF2' hbx2 hbx1 hjx1 hrow1 hF1 hs1 hsd hpB hlt h hw1
  generalize s.made.length = n at *
  generalize railV s.rail = rv at *
  obtain ⟨k, f, o, a, b, c⟩ := j
  simp only [jC] at *
  have i0 : w1.cell? ⟨w.heap.size, 0, none⟩ = some (.int .i64 k) := (unhide J0).cell 0
  have i1 : w1.cell? ⟨w.heap.size, 1, none⟩ = some (.int .i64 f) := (unhide J0).cell 1
  have i2 : w1.cell? ⟨w.heap.size, 2, none⟩ = some (.int .i64 o) := (unhide J0).cell 2
  have i3 : w1.cell? ⟨w.heap.size, 3, none⟩ = some (.int .i64 a) := (unhide J0).cell 3
  have i4 : w1.cell? ⟨w.heap.size, 4, none⟩ = some (.int .i64 b) := (unhide J0).cell 4
  have i5 : w1.cell? ⟨w.heap.size, 5, none⟩ = some (.bool c) := (unhide J0).cell 5
  go_enter Try.func55, Try.ntmps55
  go_wp2_with fail
  rw [← unhide HW1]
  go_region_law (first | refine step_append_runJ rfl (.tmp 16) (.tmp 18) 30 30 rfl rfl rfl (unhide HRUN) ?_ | refine step_append_runJ rfl (.tmp 16) (.tmp 18) 30 30 rfl rfl rfl (unhide HRUN2) ?_)
  all_goals
    clear a0 a1 a1b a2 a3 b14 b15 f15 i0 i1 i2 i3 i4 i5 HRUN HRUN2 HW1 J0
    go_wp2
    go_end0
    exact ⟨rfl, unhide HP⟩

end Go.Proofs.Ythgkifkcckandaa

