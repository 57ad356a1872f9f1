import Derived.Test.YtjkghgcdkfkekaaGreatDoorYOX
import Derived.Test.YtjkghgcdkfkekaaGreatDoorQXG
import Derived.LaidLaws
import Derived.LaidHandle
import Derived.Test.YtjkghgcdkfkekaaGreatDoorYWQ
import Derived.Deep.Cut
import Derived.Deep.CutBlock
/- What the listed variables give where errors' own variable is one of them. -/
namespace Go.Proofs.YtjkghgcdkfkekaaGreatDoor
open Go.ChangeShapes Go.WideShapes Go.ChangeAt Go.RowKit Go.Deep

theorem gErr : Tryz.prog.globalNamed "errors.errorType" = some 0 := by kernel_rfl
theorem rtErr : (Tryz.prog.cutTypes.find? (·.1 == "internal/reflectlite.rtype")).map (·.2) = some 181 := by kernel_rfl
theorem oneRowErr : ((List.range 269).filter fun t => Tryz.prog.rowNamed t [101, 114, 114, 111, 114]) = [34] := by kernel_rfl
theorem sizeErr : Tryz.prog.types.size = 269 := by kernel_rfl

abbrev laidET : List (String × DataW Unit) := [("errors.errorType", Rows.laid_errors_errorType), ("farebox/sum.fourTurns", Rows.laid_farebox_sum_fourTurns)]

theorem parts_of {W : World} (h : laidMetH Tryz.prog laidET W) : laidMet Tryz.prog [("farebox/sum.fourTurns", Rows.laid_farebox_sum_fourTurns)] W ∧ handlesMet Tryz.prog [("errors.errorType", Rows.laid_errors_errorType)] W := h

theorem err_of {W : World} (h : laidMetH Tryz.prog laidET W) : ErrT W := by
  obtain ⟨name, u, ty, e1, e2, e3, e4, e5⟩ := (parts_of h).2 _ (List.mem_singleton.2 rfl)
  have en : name = [101, 114, 114, 111, 114] := (Option.some.inj e1).symm
  subst en
  obtain rfl := Option.some.inj (rtErr.symm.trans e2)
  have hm : ty ∈ (List.range 269).filter fun t => Tryz.prog.rowNamed t [101, 114, 114, 111, 114] := List.mem_filter.2 ⟨List.mem_range.2 (by rw [← sizeErr]; exact e3), e4⟩
  rw [oneRowErr] at hm
  obtain rfl := List.mem_singleton.1 hm
  have hh : typeHandle Tryz.prog 34 = .pointer (some ⟨2, 34, none⟩) := by kernel_rfl
  rw [hh] at e5
  have h := World.var?_cell gErr e5 0
  unfold ErrT
  simpa using h

/-- A world in which both variables hold what they are to hold. -/
def laidOverET (w : World) : World :=
  { w with heap := (w.heap.modify 1 fun
      | .cells _ t frozen => .cells (tab.map fun n : Nat => Value.int .u32 (n : Int)).toArray t frozen
      | o => o).modify 0 fun
      | .cells _ t frozen => .cells #[.iface 181 (.agg #[.pointer (some ⟨2, 34, none⟩)])] t frozen
      | o => o }

end Go.Proofs.YtjkghgcdkfkekaaGreatDoor

/- What lies beside a queue: a row of records of one's own, boxes. -/
namespace Go.Proofs.YtjkghgcdkfkekaaGreatDoor
open Go.RowKit

theorem i64_and15 (n : Int) : bits .and .i64 n 15 = n % 16 := by
  have h15 : (BitVec.ofInt 64 15).toNat = 2 ^ 4 - 1 := by decide
  have key : (BitVec.ofInt 64 n &&& BitVec.ofInt 64 15).toNat = (n % ((2 ^ 64 : Nat) : Int)).toNat % 2 ^ 4 := by
    rw [BitVec.toNat_and, BitVec.toNat_ofInt, h15, Nat.and_two_pow_sub_one_eq_mod]
  show IntKind.i64.wrap ((BitVec.ofInt 64 n &&& BitVec.ofInt 64 15).toNat : Nat) = n % 16
  rw [key, IntKind.wrap_i64]
  omega
theorem i64_and7 (n : Int) : bits .and .i64 n 7 = n % 8 := by
  have h7 : (BitVec.ofInt 64 7).toNat = 2 ^ 3 - 1 := by decide
  have key : (BitVec.ofInt 64 n &&& BitVec.ofInt 64 7).toNat = (n % ((2 ^ 64 : Nat) : Int)).toNat % 2 ^ 3 := by
    rw [BitVec.toNat_and, BitVec.toNat_ofInt, h7, Nat.and_two_pow_sub_one_eq_mod]
  show IntKind.i64.wrap ((BitVec.ofInt 64 n &&& BitVec.ofInt 64 7).toNat : Nat) = n % 8
  rw [key, IntKind.wrap_i64]
  omega

/-- A row of records whose bytes were handed in, and boxes, in blocks of a client. -/
def OS (w0 : World) (ao : Option Addr) (cap : Nat) (P : List Bs) (bx : List (Nat × Array Value × TypeId)) : World → (Nat → Prop) → Prop := fun w F =>
  (∃ g vs, VRow w ao cap g vs ∧ Els w0 vs P ∧ (0 < cap → w0.heap.size ≤ g ∧ F g ∧ ∀ x ∈ bx, x.1 ≠ g)) ∧ ∀ x ∈ bx, Bx w x.1 x.2.1 x.2.2 ∧ F x.1

theorem OS.stable (w0 : World) (ao : Option Addr) (cap : Nat) (P : List Bs) (bx : List (Nat × Array Value × TypeId)) : Stable (OS w0 ao cap P bx) := by
  rintro w w' F F' ⟨⟨g, vs, h1, h2, h3⟩, h4⟩ hF hFF
  refine ⟨⟨g, vs, h1.stay (fun hc => hF.block g (h1.lt hc) (fun t => t (h3 hc).2.1)), h2, fun hc => ⟨(h3 hc).1, hFF g (h1.lt hc) (h3 hc).2.1, (h3 hc).2.2⟩⟩, fun x hx => ⟨(h4 x hx).1.frame hF (fun t => t (h4 x hx).2), hFF _ (h4 x hx).1.lt (h4 x hx).2⟩⟩

section
variable {w0 w : World} {hp b qb n lim : Nat} {q : Qr} {sf : Bool} {B C N : Nat} {ao : Option Addr} {cap : Nat} {P : List Bs} {bx : List (Nat × Array Value × TypeId)}

theorem QW.os (h : QW w0 w hp b qb n lim q sf B C N (fun _ _ => True)) : QW w0 w hp b qb n lim q sf B C N (OS w0 none 0 [] []) := by
  obtain ⟨R, O, p, l, d, G, k, a, rs, s, num, h1, h2, h3, h4, L, h5, h6, h7, h8⟩ := h
  exact ⟨R, O, p, l, d, G, k, a, rs, s, num, h1, h2, h3, h4, L, h5, h6, h7, ⟨⟨0, [], VRow.nil _ _, ⟨rfl, fun i h => absurd h (by simp)⟩, fun h => absurd h (by omega)⟩, fun x hx => by cases hx⟩⟩

/-- One box more. -/
theorem QW.box (h : QW w0 w hp b qb n lim q sf B C N (OS w0 ao cap P bx)) (cs : Array Value) (T : TypeId) : QW w0 (w.alloc (.cells cs T)) hp b qb n lim q sf B C N (OS w0 ao cap P ((w.heap.size, cs, T) :: bx)) := by
  obtain ⟨R, O, p, l, d, G, k, a, rs, s, num, h1, h2, h3, h4, L, h5, h6, h7, ⟨⟨g, vs, k1, k2, k3⟩, k4⟩⟩ := h
  have hF : Fr (fun _ => False) w (w.alloc (.cells cs T)) := (Fr.refl _ w).alloc _
  have hz : R w.heap.size = 0 ∧ ¬ O w.heap.size := ⟨L.ls.dn.dk.zero _ (Nat.le_refl _), fun t => by have := (L.qm.own _ t).1; omega⟩
  refine ⟨R, O, p, l, d, G, k, a, rs, s, num, h1, h2, h3, h4, L.keep hF, h5, h6.trans hF (fun _ _ t => t), h7, ⟨⟨g, vs, k1.stay (fun hc => hF.block g (k1.lt hc) (fun t => t)), k2, fun hc => ⟨(k3 hc).1, (k3 hc).2.1, fun x hx => ?_⟩⟩, fun x hx => ?_⟩⟩
  · rcases List.mem_cons.1 hx with rfl | hx
    · have := k1.lt hc; show w.heap.size ≠ g; omega
    · exact (k3 hc).2.2 x hx
  · rcases List.mem_cons.1 hx with rfl | hx
    · exact ⟨Bx.new w cs T, hz⟩
    · exact ⟨(k4 x hx).1.keep hF, (k4 x hx).2⟩

theorem QW.less (h : QW w0 w hp b qb n lim q sf B C N (OS w0 ao cap P bx)) : QW w0 w hp b qb n lim q sf B C N (OS w0 ao cap P []) := by
  obtain ⟨R, O, p, l, d, G, k, a, rs, s, num, h1, h2, h3, h4, L, h5, h6, h7, ⟨⟨g, vs, k1, k2, k3⟩, k4⟩⟩ := h
  exact ⟨R, O, p, l, d, G, k, a, rs, s, num, h1, h2, h3, h4, L, h5, h6, h7, ⟨⟨g, vs, k1, k2, fun hc => ⟨(k3 hc).1, (k3 hc).2.1, fun x hx => by cases hx⟩⟩, fun x hx => by cases hx⟩⟩

theorem QW.boxAt (h : QW w0 w hp b qb n lim q sf B C N (OS w0 ao cap P bx)) {x : Nat × Array Value × TypeId} (hx : x ∈ bx) : Bx w x.1 x.2.1 x.2.2 := by
  obtain ⟨R, O, p, l, d, G, k, a, rs, s, num, h1, h2, h3, h4, L, h5, h6, h7, ⟨⟨g, vs, k1, k2, k3⟩, k4⟩⟩ := h
  exact (k4 x hx).1

/-- The row, as rows of bytes that can be read. -/
theorem QW.row (h : QW w0 w hp b qb n lim q sf B C N (OS w0 ao cap P bx)) (i : Nat) (hi : i < P.length) : ∃ g xo xc, ao = some ⟨g, 0, none⟩ ∧ w.cell? ⟨g, i, none⟩ = some (.slice xo P[i].length xc) ∧ BAt w xo xc P[i] := by
  obtain ⟨R, O, p, l, d, G, k, a, rs, s, num, h1, h2, h3, h4, L, h5, h6, h7, ⟨⟨g, vs, k1, ⟨k2, k2'⟩, k3⟩, k4⟩⟩ := h
  obtain ⟨xo, xc, e, hb⟩ := k2' i (by omega) hi
  have := k1.le
  exact ⟨g, xo, xc, k1.ad (by omega), by rw [k1.cells i (by omega), e], hb.later h6⟩

/-- append to the row: a run. -/
theorem QW.app (hT : TabAt w0) (h : QW w0 w hp b qb n lim q sf B C N (OS w0 ao cap P bx)) (hP : P.length ≤ 1000000) (xo : Option Addr) (xc : Nat) (x : Bs) (hx : BAt w0 xo xc x) :
    ∃ ao' cap' w', (Builtin.append_ #[23, 23] 23 #[.slice ao P.length cap, .slice (some ⟨w.heap.size, 0, none⟩) 1 1]).run Tryz.prog (w.alloc (.cells #[.slice xo x.length xc] 28)) = .ok (.slice ao' (P.length + 1) cap') w' ∧ QW w0 w' hp b qb n lim q sf B C N (OS w0 ao' cap' (P ++ [x]) bx) := by
  obtain ⟨i0, hi, hzz⟩ := Option.map_eq_some_iff.1 infoS
  simp only [Prod.mk.injEq] at hzz
  obtain ⟨hz0, hz1, hz2⟩ := hzz
  have hF0 : Fr (fun _ => False) w (w.alloc (.cells #[.slice xo x.length xc] 28)) := (Fr.refl _ w).alloc _
  obtain ⟨R, O, p, l, d, G, k, a, rs, s, num, h1, h2, h3, h4, L, h5, h6, h7, ⟨⟨g, vs, k1, k2, k3⟩, k4⟩⟩ := h
  have hsrc : Src Tryz.prog 1 23 (.slice (some ⟨w.heap.size, 0, none⟩) 1 1) 1 [.slice xo x.length xc] (w.alloc (.cells #[.slice xo x.length xc] 28)) :=
    src_one (P := Tryz.prog) w [.slice xo x.length xc] 23 28 1 Tryz.underlying23 rfl (fun u hu => by simp at hu; subst hu; rfl) (fun j => ((Bx.new w #[.slice xo x.length xc] 28).cell j).trans (by simp))
  have kk := k1.stay (fun hc => hF0.block g (k1.lt hc) (fun t => t))
  obtain ⟨ao', cap', w', g', hrun, r1, r2⟩ := append_vrow (P := Tryz.prog) 23 23 23 28 i0 (.slice none 0 0) Tryz.underlying23 hi hz0 rfl hz1 kk k2.1 (.slice (some ⟨w.heap.size, 0, none⟩) 1 1) [.slice xo x.length xc] 1 rfl hsrc (by rw [hz2]; omega) (by omega)
  have hels : Els w0 [.slice xo x.length xc] [x] := ⟨rfl, fun i h1 h2 => by have e : i = 0 := by simp at h1; omega
                                                                            subst e; exact ⟨xo, xc, rfl, hx⟩⟩
  have hfr : Fr (fun k => k = g ∧ 0 < cap) w w' := by
    have f0 : Fr (fun k => k = g ∧ 0 < cap) w (w.alloc (.cells #[.slice xo x.length xc] 28)) := (Fr.refl _ w).alloc _
    rcases r2 with ⟨_, _, hf⟩ | ⟨_, _, hf⟩
    · exact f0.trans hf (fun _ _ t => t)
    · exact f0.trans hf (fun _ _ t => t.elim)
  have hp4 := hT.pos
  have hown : ∀ j, j < w.heap.size → j = g ∧ 0 < cap → R j = 0 ∧ j ≠ 1 ∧ ¬ O j := fun j _ t => by
    rw [t.1]
    exact ⟨(k3 t.2).2.1.1, by have := (k3 t.2).1; omega, (k3 t.2).2.1.2⟩
  refine ⟨ao', cap', w', hrun, R, O, p, l, d, G, k, a, rs, s, num, h1, h2, h3, h4, L.own hfr hown, h5, h6.trans hfr (fun j hj t => by have := (k3 t.2).1; omega), h7, ⟨⟨g', vs ++ [.slice xo x.length xc], r1, k2.append hels, fun hc => ?_⟩, fun y hy => ⟨(k4 y hy).1.frame hfr (fun t => (k3 t.2).2.2 y hy t.1), (k4 y hy).2⟩⟩⟩
  rcases r2 with ⟨e1, e2, _⟩ | ⟨e1, _, _⟩
  · rw [e1]; exact k3 (by omega)
  · rw [heap_alloc] at e1
    refine ⟨by have := h6.size; omega, ⟨L.ls.dn.dk.zero _ (by omega), fun t => by have := (L.qm.own _ t).1; omega⟩, fun y hy => ?_⟩
    have := (k4 y hy).1.lt
    omega

end

end Go.Proofs.YtjkghgcdkfkekaaGreatDoor

/- The walk of QueueOnce. -/
namespace Go.Proofs.YtjkghgcdkfkekaaGreatDoor
open Go.RowKit

theorem QW.whence {w00 w0 w : World} {hp b qb n lim : Nat} {q : Qr} {sf : Bool} {B C N : Nat} (hF : Fr (fun _ => False) w00 w0) (h : QW w0 w hp b qb n lim q sf B C N (fun _ _ => True)) : QW w00 w hp b qb n lim q sf B C N (fun _ _ => True) := by
  obtain ⟨R, O, p, l, d, G, k, a, rs, s, num, h1, h2, h3, h4, L, h5, h6, h7, h8⟩ := h
  exact ⟨R, O, p, l, d, G, k, a, rs, s, num, h1, h2, h3, h4, L, h5, hF.trans h6 (fun _ _ t => t), fun k hk => h7 k (Nat.lt_of_lt_of_le hk hF.size), h8⟩

theorem run_eql_errV_nil (w : World) (n : Int) : (binOp .eql 34 (errV n) .nilIface).run Tryz.prog w = .ok (.bool false) w := by kernel_rfl

theorem once_ack (P : List Bs) (out m : Nat) : (⟨out, P.drop out⟩ : Qr).ack (out + ((P.drop out).take m).length) = ⟨out + ((P.drop out).take m).length, P.drop (out + ((P.drop out).take m).length)⟩ := by
  unfold Qr.ack
  split
  · rename_i h
    simp only at h
    have e : ((P.drop out).take m).length = 0 := by omega
    rw [e, Nat.add_zero]
  · simp only [Qr.mk.injEq, true_and]
    rw [Nat.add_sub_cancel_left, List.drop_drop]

/-- What the loop of QueueOnce holds. -/
def OI (w wr : World) (hp n lim i qb : Nat) (ao : Option Addr) (cap : Nat) (P : List Bs) (out : Nat) (bx : List (Nat × Array Value × TypeId)) : Prop :=
  out ≤ P.length ∧ P.length ≤ i ∧ ∃ b, QW w wr hp b qb n lim ⟨out, P.drop out⟩ false (3000 * (i + 1)) (20 * (i + 1)) (i + 1) (OS w ao cap P bx)

theorem OI.last {P : List Bs} {out : Nat} (h : out ≤ P.length) : (⟨out, P.drop out⟩ : Qr).last = P.length := by simp [Qr.last]; omega

end Go.Proofs.YtjkghgcdkfkekaaGreatDoor

