import Derived.Test.YtjkghgcdkfkekaaGreatDoorLGX
import Derived.Test.YtjkghgcdkfkekaaGreatDoorYM4
import Derived.Test.YtjkghgcdkfkekaaGreatDoorYB6
import Derived.Deep.CutRange
/- Towards anew: a log's block, a stream that is being written. -/
namespace Go.Proofs.YtjkghgcdkfkekaaGreatDoor
open Go.RowKit

/-- A log's block, whatever its stream. -/
structure LogB (w : World) (R : Nat → Nat) (l : Nat) (cs : Array Value) (p num : Nat) : Prop where
  box : Bx w l cs 100
  size : cs.size = 10
  c0 : cs[0]? = some (.pointer (some ⟨p, 0, none⟩))
  c8 : cs[8]? = some (.int .i64 (num : Int))
  c9 : cs[9]? = some (.bool false)
  role : R l = 6
  nob : ∀ (i : Nat) (n : Int), cs[i]? ≠ some (Value.int .u8 n)

theorem LogAt.b {w : World} {R : Nat → Nat} {l : Nat} {cs : Array Value} {p first H G : Nat} {rs : List Bs} {num : Nat} (h : LogAt w R l cs p first H G rs num) : LogB w R l cs p num := by
  refine ⟨h.st.box, h.size, h.c0, h.c8, h.c9, h.role, fun i n e => ?_⟩
  have hlt : i < 10 := by have := (Array.getElem?_eq_some_iff.1 e).1; rw [h.size] at this; exact this
  obtain ⟨ao, cap, c7, _⟩ := h.st.c6
  have c1 := h.st.c0; have c2 := h.st.c1; have c3 := h.st.c2; have c4 := h.st.c3; have c5 := h.st.c4; have c6 := h.st.c5; have c0 := h.c0; have c8 := h.c8; have c9 := h.c9
  rcases (by omega : i = 0 ∨ i = 1 ∨ i = 2 ∨ i = 3 ∨ i = 4 ∨ i = 5 ∨ i = 6 ∨ i = 7 ∨ i = 8 ∨ i = 9) with rfl | rfl | rfl | rfl | rfl | rfl | rfl | rfl | rfl | rfl
  · rw [c0] at e; cases e
  · rw [c1] at e; cases e
  · rw [c2] at e; cases e
  · rw [c3] at e; cases e
  · rw [c4] at e; cases e
  · rw [c5] at e; cases e
  · rw [c6] at e; cases e
  · rw [c7] at e; cases e
  · rw [c8] at e; cases e
  · rw [c9] at e; cases e

/-- There is a stream's block. -/
def Rm (w : World) (g : Nat) : Prop := ∃ old, Bx w g old 98 ∧ old.size = 7
theorem run_store_stream {w : World} {g p : Nat} {first H : Int} (h : Rm w g) : (storeVar 98 ⟨g, 0, none⟩ (.agg #[.pointer (some ⟨p, 0, none⟩), .int .i64 first, .int .i64 H, .int .i64 0, .int .i64 0, .int .i64 0, .slice none 0 0])).run Tryz.prog w = .ok () (w.setRow g #[.pointer (some ⟨p, 0, none⟩), .int .i64 first, .int .i64 H, .int .i64 0, .int .i64 0, .int .i64 0, .slice none 0 0]) := by
  obtain ⟨old, hb, hs⟩ := h
  exact run_storeVar_row w g _ _ old _ hb (by kernel_rfl) (by simp [hs]) (by simp [Value.oneCell'])
theorem Rm.new (w : World) : Rm (w.alloc (.cells #[.pointer none, .int .i64 0, .int .i64 0, .int .i64 0, .int .i64 0, .int .i64 0, .slice none 0 0] 98)) w.heap.size := ⟨_, Bx.new _ _ _, rfl⟩
theorem Rm.keep {w w' : World} {g : Nat} (h : Rm w g) (hf : Fr (fun _ => False) w w') : Rm w' g := by obtain ⟨o, h1, h2⟩ := h; exact ⟨o, h1.keep hf, h2⟩

section
variable {ev : Operand → Value} {o : Oper} {w : World}
theorem exFd_log_0 {x : Operand} {B : Nat} (ho : o.op = .fieldAddr 100 x 0) (hx : ev x = .pointer (some ⟨B, 0, none⟩)) : (execOp ev o).run Tryz.prog w = .ok (.value (.pointer (some ⟨B, 0, none⟩))) w := by
  simp [execOp, ho, hx, go_sem]
theorem exFd_head_1 {x : Operand} {B : Nat} (ho : o.op = .fieldAddr 90 x 1) (hx : ev x = .pointer (some ⟨B, 0, none⟩)) : (execOp ev o).run Tryz.prog w = .ok (.value (.pointer (some ⟨B, 1, none⟩))) w := by
  simp [execOp, ho, hx, go_sem]
theorem exSub1 {x : Operand} {a : Int} (hw : IntKind.i64.wrap (1 - a) = 1 - a) (ho : o.op = .binOp .sub 3 (.const (.int .i64 1)) x 3) (hx : ev x = .int .i64 a) (hc : ev (.const (.int .i64 1)) = .int .i64 1 := by rfl) : (execOp ev o).run Tryz.prog w = .ok (.value (.int .i64 (1 - a))) w := by
  unfold execOp; rw [ho]; simp [hx, hc, go_sem, hw]
theorem exAlloc (ho : o.op = .alloc 98) : (execOp ev o).run Tryz.prog w = .ok (.value (.pointer (some ⟨w.heap.size, 0, none⟩))) (w.alloc (.cells #[.pointer none, .int .i64 0, .int .i64 0, .int .i64 0, .int .i64 0, .int .i64 0, .slice none 0 0] 98)) := by
  unfold execOp; rw [ho]; simp [go_sem]
theorem exBuildS {x : Operand} {q : Option Addr} {a b : Int} (ho : o.op = .build 98 #[(0, x)]) (hx : ev x = .agg #[.pointer q, .int .i64 a, .int .i64 b]) : (execOp ev o).run Tryz.prog w = .ok (.value (.agg #[.pointer q, .int .i64 a, .int .i64 b, .int .i64 0, .int .i64 0, .int .i64 0, .slice none 0 0])) w := by
  unfold execOp; rw [ho]; simp [hx, go_sem]
theorem exSt_stream {x y : Operand} {g p : Nat} {first H : Int} (ho : o.op = .store 98 x y) (hx : ev x = .pointer (some ⟨g, 0, none⟩)) (hy : ev y = .agg #[.pointer (some ⟨p, 0, none⟩), .int .i64 first, .int .i64 H, .int .i64 0, .int .i64 0, .int .i64 0, .slice none 0 0]) (h : Rm w g) :
    (execOp ev o).run Tryz.prog w = .ok .skip (w.setRow g #[.pointer (some ⟨p, 0, none⟩), .int .i64 first, .int .i64 H, .int .i64 0, .int .i64 0, .int .i64 0, .slice none 0 0]) := by
  unfold execOp
  simp only [ho, hx, hy, Instr.storeAt, Instr.sureAddr, Sem.run_bind, Sem.run_pure, Result.andThen_ok, run_store_stream h]
end

section
variable {P : Program} {md : Region.Mode} {ops : Array Oper} {Q : Exit → Act → World → Prop} {T : World → Prop} {k : Nat}
/-- A call that comes up, by its contract. -/
theorem AllReadyG.call {fuel : Nat} {listed : Array Bool} {a : Act} {w : World} {i : Nat} {o : Oper} {rs : List Nat} {f : FuncId} {args : Array Value} (ho : ops[i]? = some o) (hw : Region.wanted o (yielded ops a.tmps) = true) (hrun : (execOp a.eval o).run P w = .ok (.enter f args) w) {Post : Ending → World → Prop} (hc : Calls P f args w Post)
    (h : ∀ e w', Post e w' → ∃ v, e = .returned v ∧ (i ≠ k → T w') ∧ wpAnyG P md ops Q T k fuel (listed.setIfInBounds i true) (a.put o.dst v) w') (hs : AllReadyG P md ops Q T k fuel listed a w rs) : AllReadyG P md ops Q T k fuel listed a w (i :: rs) := fun j hj => by
  rcases List.mem_cons.1 hj with rfl | hj
  · refine wpOp_step ho (fun K' hK => ?_)
    rw [if_pos hw]
    unfold Oper.wp
    rw [hrun, Oper.upon_enter]
    refine hc.mono fun e w'' hh => ?_
    obtain ⟨v, rfl, h1, h2⟩ := h e w'' hh
    exact hK _ _ ⟨h1, h2⟩
  · exact hs j hj
end


theorem Bx.toRow {w : World} {g : Nat} {old : Array Value} {T : TypeId} (h : Bx w g old T) (cs : Array Value) : Bx (w.setRow g cs) g cs T := setRow_heap _ _ _ _ _ _ h

/-- The disk behind acts, seen from a world ahead. -/
def Fin' (w w' : World) (R : Nat → Nat) (b : Nat) (dk : Dk) : Prop := ∃ R', DAt w' R' b dk ∧ UpR w R R' ∧ Fr (DS R) w w'

/-- A stream that is being written in a block of its own, beside a head's block. -/
def AI (w wr : World) (R : Nat → Nat) (b g8 gh G0 h0 p first H G : Nat) (dk : Dk) (ri : List Bs) : Prop :=
  ∃ Ri csi, DAt wr Ri b dk ∧ UpR w R Ri ∧ Fr (DS R) w wr ∧ StAt wr Ri g8 0 csi 98 p first H G ri ∧ csi.size = 7 ∧ Bx wr gh #[.int .i64 (G0 : Int), .int .i64 (h0 : Int)] 90 ∧ Ri gh = 0 ∧ Ri g8 = 0

section
variable {w wr : World} {R : Nat → Nat} {b g8 gh G0 h0 p first H G : Nat} {dk : Dk} {ri : List Bs}

theorem AI.fin (h : AI w wr R b g8 gh G0 h0 p first H G dk ri) : Fin' w wr R b dk := by
  obtain ⟨Ri, csi, j1, j2, j3, _⟩ := h
  exact ⟨Ri, j1, j2, j3⟩

theorem AI.keep {w1 : World} (h : AI w wr R b g8 gh G0 h0 p first H G dk ri) (hF : Fr (fun _ => False) wr w1) : AI w w1 R b g8 gh G0 h0 p first H G dk ri := by
  obtain ⟨Ri, csi, j1, j2, j3, j4, j5, j6, j7, j8⟩ := h
  exact ⟨Ri, csi, j1.frame hF (fun _ t => t.elim), j2, j3.trans hF (fun _ _ t => t.elim), j4.frame hF (fun t => t) (fun _ _ _ t => t) (UpR.refl _ _), j5, j6.keep hF, j7, j8⟩

theorem AI.acted {r : Dk × Bool} {Ri : Nat → Nat} {csi : Array Value} (j2 : UpR w R Ri) (j3 : Fr (DS R) w wr) (j4 : StAt wr Ri g8 0 csi 98 p first H G ri) (j5 : csi.size = 7) (j6 : Bx wr gh #[.int .i64 (G0 : Int), .int .i64 (h0 : Int)] 90) (j7 : Ri gh = 0) (j8 : Ri g8 = 0)
    {e : Ending} {w' : World} (h : Acted wr Ri b r e w') : e = .returned (if r.2 then errV 5 else .nilIface) ∧ AI w w' R b g8 gh G0 h0 p first H G r.1 ri := by
  obtain ⟨h1, R', i1, i2, i3⟩ := h
  have hds : ∀ k, Ri k = 0 ∨ Ri k = 6 → ¬ DS Ri k := fun k hk t => by have := t.1; have := t.2; omega
  refine ⟨h1, R', csi, i1, j2.trans i2 j3.size, j3.trans i3 (fun k hk t => ?_), j4.frame i3 (hds g8 (.inl j8)) (fun k hk _ => hds k (.inr hk)) i2, j5, j6.frame i3 (hds gh (.inl j7)), (i2 gh j6.lt).trans j7, (i2 g8 j4.box.lt).trans j8⟩
  unfold DS at t ⊢
  rw [← j2 k hk]; exact t

theorem AI.sync (h : AI w wr R b g8 gh G0 h0 p first H G dk ri) (hk : Dsk w R p b dk.many) (hup : dk.down = false) (hcnt : dk.cnt < 576460752303423488 ∧ dk.wait.length < 2199023255552) :
    Calls Tryz.prog 64 #[.pointer (some ⟨p, 0, none⟩)] wr fun e w' => e = .returned (if (dk.act .sy).2 then errV 5 else .nilIface) ∧ AI w w' R b g8 gh G0 h0 p first H G (dk.act .sy).1 ri := by
  obtain ⟨Ri, csi, j1, j2, j3, j4, j5, j6, j7, j8⟩ := h
  exact (sync_any wr Ri p b dk (hk.frame j3 DS5 j2) j1 hup hcnt).mono fun e w' hA => AI.acted j2 j3 j4 j5 j6 j7 j8 hA

theorem AI.write (h : AI w wr R b g8 gh G0 h0 p first H G dk ri) (hk : Dsk w R p b dk.many) (hup : dk.down = false) (hcnt : dk.cnt < 576460752303423488 ∧ dk.wait.length < 2199023255552) (a : Nat) (ha : a < dk.many) (bs : Bs) (hbs : bs.length = 512) (ao : Option Addr) (cap : Nat) (hB : BAt wr ao cap bs) :
    Calls Tryz.prog 71 #[.pointer (some ⟨p, 0, none⟩), .int .i64 (a : Int), .slice ao 512 cap] wr fun e w' => e = .returned (if (dk.act (.wr a bs)).2 then errV 5 else .nilIface) ∧ AI w w' R b g8 gh G0 h0 p first H G (dk.act (.wr a bs)).1 ri := by
  obtain ⟨Ri, csi, j1, j2, j3, j4, j5, j6, j7, j8⟩ := h
  exact (write_any wr Ri p b dk (hk.frame j3 DS5 j2) j1 hup hcnt a ha bs hbs ao cap hB).mono fun e w' hA => AI.acted j2 j3 j4 j5 j6 j7 j8 hA

theorem AI.put (h : AI w wr R b g8 gh G0 h0 p first H G dk ri) (hT : TabR w R) (hk : Dsk w R p b dk.many) (hup : dk.down = false) (hcnt : dk.cnt + 524288 < 576460752303423488 ∧ dk.wait.length + 524288 < 2199023255552) (hfh : first + H ≤ dk.many) (hH : H ≤ 524287) (hG : G < 9223372036854775808) (hne : gh ≠ g8) (hg8 : w.heap.size ≤ g8)
    (xo : Option Addr) (xc : Nat) (x : Bs) (hx : BAt wr xo xc x) (hxr : ∀ b off, 0 < x.length → xo = some ⟨b, off, none⟩ → R b = 0 ∧ b < w.heap.size) (hfit : (strm (ri ++ [x])).length ≤ 504 * H) :
    Calls Tryz.prog 43 #[.pointer (some ⟨g8, 0, none⟩), .slice xo x.length xc] wr fun e w' => e = .returned (if (dk.run (putActs first G ri x)).2 then errV 5 else .nilIface) ∧ Fin' w w' R b (dk.run (putActs first G ri x)).1 ∧ ((dk.run (putActs first G ri x)).2 = false → AI w w' R b g8 gh G0 h0 p first H G (dk.run (putActs first G ri x)).1 (ri ++ [x])) := by
  obtain ⟨Ri, csi, j1, j2, j3, j4, j5, j6, j7, j8⟩ := h
  refine (put_any wr Ri g8 0 csi 98 p b dk first H G ri (hT.frame j3 (fun k hk => by have := hk.1; omega) j2) j4 (.inl j8) (hk.frame j3 DS5 j2) j1 hup hcnt hfh hH hG xo xc x hx (fun b off h0 e => by obtain ⟨q1, q2⟩ := hxr b off h0 e; rw [j2 b q2]; exact q1) hfit).mono ?_
  rintro e w' ⟨rfl, R', cs', i1, i2, i3, i4, i5, i6, i7⟩
  have hU : UpR w R R' := j2.trans i2 j3.size
  have hF : Fr (DS R) w w' := j3.trans i3 (fun k hk t => by
    rcases t with t | t
    · unfold DS at t ⊢; rw [← j2 k hk]; exact t
    · omega)
  refine ⟨rfl, ⟨R', i1, hU, hF⟩, fun hr => ⟨R', cs', i1, hU, hF, i7 hr, i5.trans j5, j6.frame i3 (fun t => by rcases t with t | t; (· have := t.1; omega); exact hne t), (i2 gh j6.lt).trans j7, (i2 g8 j4.box.lt).trans j8⟩⟩

theorem AI.nil (hD : DAt w R b dk) (hF : Fr (fun _ => False) w wr) (hgh : Bx wr gh #[.int .i64 (G0 : Int), .int .i64 (h0 : Int)] 90) (hg8 : Bx wr g8 #[.pointer (some ⟨p, 0, none⟩), .int .i64 (first : Int), .int .i64 (H : Int), .int .i64 (G : Int), .int .i64 0, .int .i64 0, .slice none 0 0] 98) (h1 : w.heap.size ≤ gh) (h2 : w.heap.size ≤ g8) : AI w wr R b g8 gh G0 h0 p first H G dk [] :=
  ⟨R, _, hD.frame hF (fun _ t => t.elim), UpR.refl _ _, hF.mono (fun _ _ t => t.elim), ⟨hg8, rfl, rfl, rfl, rfl, rfl, rfl, none, 0, rfl, ⟨fun _ => ⟨rfl, rfl⟩, fun h => (by cases h), by decide⟩, fun _ _ h => (by cases h)⟩, rfl, hgh, hD.zero _ h1, hD.zero _ h2⟩

end

end Go.Proofs.YtjkghgcdkfkekaaGreatDoor

