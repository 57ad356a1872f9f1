import Derived.Test.YtmnbfhgncooodaaGreatDoorYO1
import Derived.Test.YtmnbfhgncooodaaGreatDoorYWT
import Derived.LaidLaws
import Derived.LaidHandle
import Derived.Test.YtmnbfhgncooodaaGreatDoorQXG
import Derived.Test.YtmnbfhgncooodaaGreatDoorYO3
import Derived.Test.YtmnbfhgncooodaaGreatDoorYWQ
import Derived.Deep.Cut
import Derived.Deep.CutBlock
/- What the listed variables give where errors' own variable is one of them. -/
namespace Go.Proofs.YtmnbfhgncooodaaGreatDoor
open Go.ChangeShapes Go.WideShapes Go.ChangeAt Go.RowKit Go.Deep

theorem gErr : Tryz.prog.globalNamed "errors.errorType" = some 0 := by kernel_rfl
theorem rtErr : (Tryz.prog.cutTypes.find? (·.1 == "internal/reflectlite.rtype")).map (·.2) = some 182 := by kernel_rfl
theorem oneRowErr : ((List.range 270).filter fun t => Tryz.prog.rowNamed t [101, 114, 114, 111, 114]) = [34] := by kernel_rfl
theorem sizeErr : Tryz.prog.types.size = 270 := by kernel_rfl

abbrev laidET : List (String × DataW Unit) := [("errors.errorType", Rows.laid_errors_errorType), ("farebox/sum.fourTurns", Rows.laid_farebox_sum_fourTurns)]

theorem parts_of {W : World} (h : laidMetH Tryz.prog laidET W) : laidMet Tryz.prog [("farebox/sum.fourTurns", Rows.laid_farebox_sum_fourTurns)] W ∧ handlesMet Tryz.prog [("errors.errorType", Rows.laid_errors_errorType)] W := h

theorem err_of {W : World} (h : laidMetH Tryz.prog laidET W) : ErrT W := by
  obtain ⟨name, u, ty, e1, e2, e3, e4, e5⟩ := (parts_of h).2 _ (List.mem_singleton.2 rfl)
  have en : name = [101, 114, 114, 111, 114] := (Option.some.inj e1).symm
  subst en
  obtain rfl := Option.some.inj (rtErr.symm.trans e2)
  have hm : ty ∈ (List.range 270).filter fun t => Tryz.prog.rowNamed t [101, 114, 114, 111, 114] := List.mem_filter.2 ⟨List.mem_range.2 (by rw [← sizeErr]; exact e3), e4⟩
  rw [oneRowErr] at hm
  obtain rfl := List.mem_singleton.1 hm
  have hh : typeHandle Tryz.prog 34 = .pointer (some ⟨2, 34, none⟩) := by kernel_rfl
  rw [hh] at e5
  have h := World.var?_cell gErr e5 0
  unfold ErrT
  simpa using h

/-- A world in which both variables hold what they are to hold. -/
def laidOverET (w : World) : World :=
  { w with heap := (w.heap.modify 1 fun
      | .cells _ t frozen => .cells (tab.map fun n : Nat => Value.int .u32 (n : Int)).toArray t frozen
      | o => o).modify 0 fun
      | .cells _ t frozen => .cells #[.iface 182 (.agg #[.pointer (some ⟨2, 34, none⟩)])] t frozen
      | o => o }

end Go.Proofs.YtmnbfhgncooodaaGreatDoor

/- What lies beside a queue: a row of records of one's own, boxes. -/
namespace Go.Proofs.YtmnbfhgncooodaaGreatDoor
open Go.RowKit

theorem i64_and15 (n : Int) : bits .and .i64 n 15 = n % 16 := by
  have h15 : (BitVec.ofInt 64 15).toNat = 2 ^ 4 - 1 := by decide
  have key : (BitVec.ofInt 64 n &&& BitVec.ofInt 64 15).toNat = (n % ((2 ^ 64 : Nat) : Int)).toNat % 2 ^ 4 := by
    rw [BitVec.toNat_and, BitVec.toNat_ofInt, h15, Nat.and_two_pow_sub_one_eq_mod]
  show IntKind.i64.wrap ((BitVec.ofInt 64 n &&& BitVec.ofInt 64 15).toNat : Nat) = n % 16
  rw [key, IntKind.wrap_i64]
  omega
theorem i64_and7 (n : Int) : bits .and .i64 n 7 = n % 8 := by
  have h7 : (BitVec.ofInt 64 7).toNat = 2 ^ 3 - 1 := by decide
  have key : (BitVec.ofInt 64 n &&& BitVec.ofInt 64 7).toNat = (n % ((2 ^ 64 : Nat) : Int)).toNat % 2 ^ 3 := by
    rw [BitVec.toNat_and, BitVec.toNat_ofInt, h7, Nat.and_two_pow_sub_one_eq_mod]
  show IntKind.i64.wrap ((BitVec.ofInt 64 n &&& BitVec.ofInt 64 7).toNat : Nat) = n % 8
  rw [key, IntKind.wrap_i64]
  omega

/-- A row of records whose bytes were handed in, and boxes, in blocks of a client. -/
def OS (w0 : World) (ao : Option Addr) (cap : Nat) (P : List Bs) (bx : List (Nat × Array Value × TypeId)) : World → (Nat → Prop) → Prop := fun w F =>
  (∃ g vs, VRow w ao cap g vs ∧ Els w0 vs P ∧ (0 < cap → w0.heap.size ≤ g ∧ F g ∧ ∀ x ∈ bx, x.1 ≠ g)) ∧ ∀ x ∈ bx, Bx w x.1 x.2.1 x.2.2 ∧ F x.1

theorem OS.stable (w0 : World) (ao : Option Addr) (cap : Nat) (P : List Bs) (bx : List (Nat × Array Value × TypeId)) : Stable (OS w0 ao cap P bx) := by
  rintro w w' F F' ⟨⟨g, vs, h1, h2, h3⟩, h4⟩ hF hFF
  refine ⟨⟨g, vs, h1.stay (fun hc => hF.block g (h1.lt hc) (fun t => t (h3 hc).2.1)), h2, fun hc => ⟨(h3 hc).1, hFF g (h1.lt hc) (h3 hc).2.1, (h3 hc).2.2⟩⟩, fun x hx => ⟨(h4 x hx).1.frame hF (fun t => t (h4 x hx).2), hFF _ (h4 x hx).1.lt (h4 x hx).2⟩⟩

section
variable {w0 w : World} {hp b qb n lim : Nat} {q : Qr} {sf : Bool} {B C N : Nat} {ao : Option Addr} {cap : Nat} {P : List Bs} {bx : List (Nat × Array Value × TypeId)}

theorem QW.os (h : QW w0 w hp b qb n lim q sf B C N (fun _ _ => True)) : QW w0 w hp b qb n lim q sf B C N (OS w0 none 0 [] []) := by
  obtain ⟨R, O, p, l, d, G, k, a, rs, s, num, h1, h2, h3, h4, L, h5, h6, h7, h8⟩ := h
  exact ⟨R, O, p, l, d, G, k, a, rs, s, num, h1, h2, h3, h4, L, h5, h6, h7, ⟨⟨0, [], VRow.nil _ _, ⟨rfl, fun i h => absurd h (by simp)⟩, fun h => absurd h (by omega)⟩, fun x hx => by cases hx⟩⟩

/-- One box more. -/
theorem QW.box (h : QW w0 w hp b qb n lim q sf B C N (OS w0 ao cap P bx)) (cs : Array Value) (T : TypeId) : QW w0 (w.alloc (.cells cs T)) hp b qb n lim q sf B C N (OS w0 ao cap P ((w.heap.size, cs, T) :: bx)) := by
  obtain ⟨R, O, p, l, d, G, k, a, rs, s, num, h1, h2, h3, h4, L, h5, h6, h7, ⟨⟨g, vs, k1, k2, k3⟩, k4⟩⟩ := h
  have hF : Fr (fun _ => False) w (w.alloc (.cells cs T)) := (Fr.refl _ w).alloc _
  have hz : R w.heap.size = 0 ∧ ¬ O w.heap.size := ⟨L.ls.dn.dk.zero _ (Nat.le_refl _), fun t => by have := (L.qm.own _ t).1; omega⟩
  refine ⟨R, O, p, l, d, G, k, a, rs, s, num, h1, h2, h3, h4, L.keep hF, h5, h6.trans hF (fun _ _ t => t), h7, ⟨⟨g, vs, k1.stay (fun hc => hF.block g (k1.lt hc) (fun t => t)), k2, fun hc => ⟨(k3 hc).1, (k3 hc).2.1, fun x hx => ?_⟩⟩, fun x hx => ?_⟩⟩
  · rcases List.mem_cons.1 hx with rfl | hx
    · have := k1.lt hc; show w.heap.size ≠ g; omega
    · exact (k3 hc).2.2 x hx
  · rcases List.mem_cons.1 hx with rfl | hx
    · exact ⟨Bx.new w cs T, hz⟩
    · exact ⟨(k4 x hx).1.keep hF, (k4 x hx).2⟩

theorem QW.less (h : QW w0 w hp b qb n lim q sf B C N (OS w0 ao cap P bx)) : QW w0 w hp b qb n lim q sf B C N (OS w0 ao cap P []) := by
  obtain ⟨R, O, p, l, d, G, k, a, rs, s, num, h1, h2, h3, h4, L, h5, h6, h7, ⟨⟨g, vs, k1, k2, k3⟩, k4⟩⟩ := h
  exact ⟨R, O, p, l, d, G, k, a, rs, s, num, h1, h2, h3, h4, L, h5, h6, h7, ⟨⟨g, vs, k1, k2, fun hc => ⟨(k3 hc).1, (k3 hc).2.1, fun x hx => by cases hx⟩⟩, fun x hx => by cases hx⟩⟩

theorem QW.boxAt (h : QW w0 w hp b qb n lim q sf B C N (OS w0 ao cap P bx)) {x : Nat × Array Value × TypeId} (hx : x ∈ bx) : Bx w x.1 x.2.1 x.2.2 := by
  obtain ⟨R, O, p, l, d, G, k, a, rs, s, num, h1, h2, h3, h4, L, h5, h6, h7, ⟨⟨g, vs, k1, k2, k3⟩, k4⟩⟩ := h
  exact (k4 x hx).1

/-- The row, as rows of bytes that can be read. -/
theorem QW.row (h : QW w0 w hp b qb n lim q sf B C N (OS w0 ao cap P bx)) (i : Nat) (hi : i < P.length) : ∃ g xo xc, ao = some ⟨g, 0, none⟩ ∧ w.cell? ⟨g, i, none⟩ = some (.slice xo P[i].length xc) ∧ BAt w xo xc P[i] := by
  obtain ⟨R, O, p, l, d, G, k, a, rs, s, num, h1, h2, h3, h4, L, h5, h6, h7, ⟨⟨g, vs, k1, ⟨k2, k2'⟩, k3⟩, k4⟩⟩ := h
  obtain ⟨xo, xc, e, hb⟩ := k2' i (by omega) hi
  have := k1.le
  exact ⟨g, xo, xc, k1.ad (by omega), by rw [k1.cells i (by omega), e], hb.later h6⟩

/-- append to the row: a run. -/
theorem QW.app (hT : TabAt w0) (h : QW w0 w hp b qb n lim q sf B C N (OS w0 ao cap P bx)) (hP : P.length ≤ 1000000) (xo : Option Addr) (xc : Nat) (x : Bs) (hx : BAt w0 xo xc x) :
    ∃ ao' cap' w', (Builtin.append_ #[23, 23] 23 #[.slice ao P.length cap, .slice (some ⟨w.heap.size, 0, none⟩) 1 1]).run Tryz.prog (w.alloc (.cells #[.slice xo x.length xc] 28)) = .ok (.slice ao' (P.length + 1) cap') w' ∧ QW w0 w' hp b qb n lim q sf B C N (OS w0 ao' cap' (P ++ [x]) bx) := by
  obtain ⟨i0, hi, hzz⟩ := Option.map_eq_some_iff.1 infoS
  simp only [Prod.mk.injEq] at hzz
  obtain ⟨hz0, hz1, hz2⟩ := hzz
  have hF0 : Fr (fun _ => False) w (w.alloc (.cells #[.slice xo x.length xc] 28)) := (Fr.refl _ w).alloc _
  obtain ⟨R, O, p, l, d, G, k, a, rs, s, num, h1, h2, h3, h4, L, h5, h6, h7, ⟨⟨g, vs, k1, k2, k3⟩, k4⟩⟩ := h
  have hsrc : Src Tryz.prog 1 23 (.slice (some ⟨w.heap.size, 0, none⟩) 1 1) 1 [.slice xo x.length xc] (w.alloc (.cells #[.slice xo x.length xc] 28)) :=
    src_one (P := Tryz.prog) w [.slice xo x.length xc] 23 28 1 Tryz.underlying23 rfl (fun u hu => by simp at hu; subst hu; rfl) (fun j => ((Bx.new w #[.slice xo x.length xc] 28).cell j).trans (by simp))
  have kk := k1.stay (fun hc => hF0.block g (k1.lt hc) (fun t => t))
  obtain ⟨ao', cap', w', g', hrun, r1, r2⟩ := append_vrow (P := Tryz.prog) 23 23 23 28 i0 (.slice none 0 0) Tryz.underlying23 hi hz0 rfl hz1 kk k2.1 (.slice (some ⟨w.heap.size, 0, none⟩) 1 1) [.slice xo x.length xc] 1 rfl hsrc (by rw [hz2]; omega) (by omega)
  have hels : Els w0 [.slice xo x.length xc] [x] := ⟨rfl, fun i h1 h2 => by have e : i = 0 := by simp at h1; omega
                                                                            subst e; exact ⟨xo, xc, rfl, hx⟩⟩
  have hfr : Fr (fun k => k = g ∧ 0 < cap) w w' := by
    have f0 : Fr (fun k => k = g ∧ 0 < cap) w (w.alloc (.cells #[.slice xo x.length xc] 28)) := (Fr.refl _ w).alloc _
    rcases r2 with ⟨_, _, hf⟩ | ⟨_, _, hf⟩
    · exact f0.trans hf (fun _ _ t => t)
    · exact f0.trans hf (fun _ _ t => t.elim)
  have hp4 := hT.pos
  have hown : ∀ j, j < w.heap.size → j = g ∧ 0 < cap → R j = 0 ∧ j ≠ 1 ∧ ¬ O j := fun j _ t => by
    rw [t.1]
    exact ⟨(k3 t.2).2.1.1, by have := (k3 t.2).1; omega, (k3 t.2).2.1.2⟩
  refine ⟨ao', cap', w', hrun, R, O, p, l, d, G, k, a, rs, s, num, h1, h2, h3, h4, L.own hfr hown, h5, h6.trans hfr (fun j hj t => by have := (k3 t.2).1; omega), h7, ⟨⟨g', vs ++ [.slice xo x.length xc], r1, k2.append hels, fun hc => ?_⟩, fun y hy => ⟨(k4 y hy).1.frame hfr (fun t => (k3 t.2).2.2 y hy t.1), (k4 y hy).2⟩⟩⟩
  rcases r2 with ⟨e1, e2, _⟩ | ⟨e1, _, _⟩
  · rw [e1]; exact k3 (by omega)
  · rw [heap_alloc] at e1
    refine ⟨by have := h6.size; omega, ⟨L.ls.dn.dk.zero _ (by omega), fun t => by have := (L.qm.own _ t).1; omega⟩, fun y hy => ?_⟩
    have := (k4 y hy).1.lt
    omega

end

end Go.Proofs.YtmnbfhgncooodaaGreatDoor

/- The walk of QueueOnce. -/
namespace Go.Proofs.YtmnbfhgncooodaaGreatDoor
open Go.RowKit

theorem QW.whence {w00 w0 w : World} {hp b qb n lim : Nat} {q : Qr} {sf : Bool} {B C N : Nat} (hF : Fr (fun _ => False) w00 w0) (h : QW w0 w hp b qb n lim q sf B C N (fun _ _ => True)) : QW w00 w hp b qb n lim q sf B C N (fun _ _ => True) := by
  obtain ⟨R, O, p, l, d, G, k, a, rs, s, num, h1, h2, h3, h4, L, h5, h6, h7, h8⟩ := h
  exact ⟨R, O, p, l, d, G, k, a, rs, s, num, h1, h2, h3, h4, L, h5, hF.trans h6 (fun _ _ t => t), fun k hk => h7 k (Nat.lt_of_lt_of_le hk hF.size), h8⟩

theorem run_eql_errV_nil (w : World) (n : Int) : (binOp .eql 34 (errV n) .nilIface).run Tryz.prog w = .ok (.bool false) w := by kernel_rfl

theorem once_ack (P : List Bs) (out m : Nat) : (⟨out, P.drop out⟩ : Qr).ack (out + ((P.drop out).take m).length) = ⟨out + ((P.drop out).take m).length, P.drop (out + ((P.drop out).take m).length)⟩ := by
  unfold Qr.ack
  split
  · rename_i h
    simp only at h
    have e : ((P.drop out).take m).length = 0 := by omega
    rw [e, Nat.add_zero]
  · simp only [Qr.mk.injEq, true_and]
    rw [Nat.add_sub_cancel_left, List.drop_drop]

/-- What the loop of QueueOnce holds. -/
def OI (w wr : World) (hp n lim i qb : Nat) (ao : Option Addr) (cap : Nat) (P : List Bs) (out : Nat) (bx : List (Nat × Array Value × TypeId)) : Prop :=
  out ≤ P.length ∧ P.length ≤ i ∧ ∃ b, QW w wr hp b qb n lim ⟨out, P.drop out⟩ false (3000 * (i + 1)) (20 * (i + 1)) (i + 1) (OS w ao cap P bx)

theorem OI.last {P : List Bs} {out : Nat} (h : out ≤ P.length) : (⟨out, P.drop out⟩ : Qr).last = P.length := by simp [Qr.last]; omega

set_option maxHeartbeats 2000000 in
set_option maxRecDepth 20000 in
theorem once_walk (w : World) (hT : TabAt w) (hE : ErrT w) (n0 : Int) (ao : Option Addr) (c : Nat) (ps : List OpQ) (hO : OpqAt w ao ps) :
    Calls Tryz.prog 7 #[.int .i64 n0, .slice ao ps.length c] w fun e w' => e = .returned (.bool true) ∧ Fr (fun _ => False) w w' := by
  have A := hide (awake10_any w hT hE)
  obtain ⟨k, hk⟩ : ∃ k : Nat, (k : Int) = n0 % 16 := ⟨(n0 % 16).toNat, by omega⟩
  have hk15 : k ≤ 15 := by omega
  have hand : bits .and .i64 n0 15 = (k : Int) := by rw [i64_and15, hk]
  have hkI : (k : Int) ≤ 15 := by omega
  obtain ⟨N, hN⟩ : ∃ N, N = 2 + 2 * qH (1 + k) + 1 := ⟨_, rfl⟩
  have hL : Lim (1 + k) N ∧ hlf N ≤ 15 := by rw [hN]; have h := lim_fresh (1 + k) 1 (by omega) (by omega) (by omega); exact ⟨h.1, h.2.2⟩
  have HFR : Hid (∀ u, Fr (fun _ => False) w u → Calls Tryz.prog 19 #[.int .i64 (1 + (k : Int)), .int .i64 1] u fun e w' => ∃ hp qb, e = .returned (.tuple #[.pointer (some ⟨hp, 0, none⟩), .pointer (some ⟨qb, 0, none⟩)]) ∧ Hid (OI w w' hp N (1 + k) 0 qb none 0 [] 0 [])) := by
    refine hide (fun u hu => ?_)
    have h := fresh_any u (hT.later hu) (1 + k) 1 (by omega) (by omega) (by omega)
    rw [← hN, show ((1 + k : Nat) : Int) = 1 + (k : Int) by omega] at h
    refine h.mono ?_
    rintro e w' ⟨hp, qb, he, hq⟩
    obtain ⟨b, hq⟩ := unhide hq
    exact ⟨hp, qb, he, hide ⟨Nat.le_refl _, Nat.le_refl _, b, ((QW.whence hu hq).os).mono (by omega) (by omega) (by omega)⟩⟩
  have HH := hide (And.intro hT (And.intro hE (And.intro hO (And.intro hL.1 (And.intro hL.2 hk15)))))
  have hps : (ps.length : Int) ≤ 140737488355328 := by have := hO.small; omega
  clear hT hE hO hL hN hk hk15
  go_enter Tryz.func7, Tryz.ntmps7
  go_wp2_with fail
  refine (unhide A).mono ?_
  rintro e w1 ⟨rfl, hF1⟩
  have HF1 := hide hF1
  clear A hF1
  go_wp2_with fail
  refine (unhide HFR _ (unhide HF1)).mono ?_
  rintro e w2 ⟨hp, qb, rfl, HD⟩
  clear HFR HF1 hand
  go_wp2
  go_loopw [7, 8, 9, 10] (fun v7 v8 v9 iv wr => ∃ (i qb : Nat) (bo : Option Addr) (bc : Nat) (P : List Bs) (out : Nat), i ≤ ps.length ∧ i ≤ 100 ∧ v7 = .pointer (some ⟨qb, 0, none⟩) ∧ v8 = .slice bo (List.length P) bc ∧ v9 = .int .i64 (out : Nat) ∧ iv = .int .i64 (i : Nat) ∧ Hid (OI w wr hp N (1 + k) i qb bo bc P out [])) (fun _ _ _ iv _ => 100 - (intOf iv).toNat)
  case atStart => exact ⟨0, qb, none, 0, [], 0, Nat.zero_le _, Nat.zero_le _, rfl, rfl, rfl, rfl, HD⟩
  case round =>
    obtain ⟨i, qb, bo, bc, P, out, hi, hi100, rfl, rfl, rfl, rfl, HR⟩ := hrel
    clear HD
    by_cases hlt : i < ps.length ∧ i < 100
    · obtain ⟨hl1, hl2⟩ := hlt
      have hI1 : (i : Int) < (ps.length : Int) := by omega
      have hI2 : (i : Int) < 100 := by omega
      obtain ⟨pb, po, hpa, hpc⟩ := (unhide HH).2.2.1.cells (by omega)
      subst hpa
      have hcl : ∀ j, j < 3 → wr.cell? ⟨pb, po + i * 3 + j, none⟩ = (ps[i].vals)[j]? := fun j hj => by
        have h := hpc i hl1 j hj
        have hlt : pb < w.heap.size := by
          have hs : ((ps[i].vals)[j]?).isSome = true := by
            have : j < ps[i].vals.length := by simpa [OpQ.vals] using hj
            simp [this]
          rw [← h] at hs
          obtain ⟨u, hu⟩ := Option.isSome_iff_exists.1 hs
          exact World.block_lt_of_cell? _ _ hu
        obtain ⟨_, _, b, hq⟩ := unhide HR
        exact (hq.fr.cell (a := ⟨pb, po + i * 3 + j, none⟩) hlt (fun t => t)).trans h
      obtain ⟨x, hx⟩ : ∃ x, x = ps[i] := ⟨_, rfl⟩
      rw [← hx] at hcl
      have HQ : Hid (x.ok w) := by rw [hx]; exact hide ((unhide HH).2.2.1.ok i hl1)
      clear hx hpc
      have c0 : wr.cell? ⟨pb, po + i * 3, none⟩ = some (.int .i64 x.kind) := hcl 0 (by omega)
      have c1 : wr.cell? ⟨pb, po + i * 3 + 1, none⟩ = some (.int .i64 x.num) := hcl 1 (by omega)
      have c2 : wr.cell? ⟨pb, po + i * 3 + 2, none⟩ = some (.slice x.bo x.bs.length x.bc) := hcl 2 (by omega)
      clear hcl
      go_upto_region 12 with (fail)
      have HV : Hid (OI w (wr.alloc (.cells #[.int .i64 x.kind, .int .i64 x.num, .slice x.bo x.bs.length x.bc] 56)) hp N (1 + k) i qb bo bc P out [(wr.heap.size, #[.int .i64 x.kind, .int .i64 x.num, .slice x.bo x.bs.length x.bc], 56)]) := by
        obtain ⟨h1, h2, b, hq⟩ := unhide HR
        exact hide ⟨h1, h2, b, hq.box _ _⟩
      clear HR c0 c1 c2
      generalize wr.alloc (.cells #[.int .i64 x.kind, .int .i64 x.num, .slice x.bo x.bs.length x.bc] 56) = v at *
      generalize wr.heap.size = og at *
      have d0 : v.cell? ⟨og, 0, none⟩ = some (.int .i64 x.kind) := by obtain ⟨h1, h2, b, hq⟩ := unhide HV; exact (hq.boxAt (List.mem_singleton.2 rfl)).cell 0
      have d1 : v.cell? ⟨og, 1, none⟩ = some (.int .i64 x.num) := by obtain ⟨h1, h2, b, hq⟩ := unhide HV; exact (hq.boxAt (List.mem_singleton.2 rfl)).cell 1
      have d2 : v.cell? ⟨og, 2, none⟩ = some (.slice x.bo x.bs.length x.bc) := by obtain ⟨h1, h2, b, hq⟩ := unhide HV; exact (hq.boxAt (List.mem_singleton.2 rfl)).cell 2
      have hbi : (x.bs.length : Int) ≤ 140737488355328 := by have := (unhide HQ).bytes.2.2; omega
      have hPi : (P.length : Int) ≤ 100 := by have := (unhide HV).2.1; omega
      have hoi : (out : Int) ≤ (P.length : Int) := by have := (unhide HV).1; omega
      go_upto_block 2 with (fail)
      go_cut [7, 8, 9, 12, 13, 14, 15, 16, 17, 18, 19] from 45 to 153 (fun v7 v8 v9 _ _ _ _ _ _ _ _ wc => ∃ (qb : Nat) (bo : Option Addr) (bc : Nat) (P : List Bs) (out : Nat), v7 = .pointer (some ⟨qb, 0, none⟩) ∧ v8 = .slice bo (List.length P) bc ∧ v9 = .int .i64 (out : Nat) ∧ Hid (OI w wc hp N (1 + k) (i + 1) qb bo bc P out []))
      case first =>
        by_cases hk0 : x.kind = 0
        · by_cases hpe : putE ⟨out, P.drop out⟩ (1 + k) x.bs = 0
          · have HP : Hid (Calls Tryz.prog 27 #[.pointer (some ⟨qb, 0, none⟩), .slice x.bo x.bs.length x.bc] v fun e w' => e = .returned (.tuple #[.int .i64 ((P.length : Int) + 1), .nilIface]) ∧ Hid (∃ b, QW w w' hp b qb N (1 + k) ⟨out, P.drop out ++ [x.bs]⟩ false (3000 * (i + 1 + 1)) (20 * (i + 1 + 1)) (i + 1 + 1) (OS w bo bc P [(og, #[.int .i64 x.kind, .int .i64 x.num, .slice x.bo x.bs.length x.bc], 56)]))) := by
              obtain ⟨h1, h2, b, hq⟩ := unhide HV
              obtain ⟨hT, hE, hO, hl, hh, hk15⟩ := unhide HH
              have h := hq.putOk (OS.stable _ _ _ _ _) hl (by omega) (by omega) (by omega) x.bo x.bc x.bs ((unhide HQ).bytes.later hq.fr) hpe
              rw [OI.last h1, show ((P.length + 1 : Nat) : Int) = (P.length : Int) + 1 by omega] at h
              refine hide (h.mono ?_)
              rintro e w' ⟨he, hq'⟩
              exact ⟨he, hide ⟨b, (unhide hq').mono (by omega) (by omega) (by omega)⟩⟩
            go_wp2_with fail
            refine (unhide HP).mono ?_
            rintro e v1 ⟨rfl, HW⟩
            clear HP d0 d1
            have d2' : v1.cell? ⟨og, 2, none⟩ = some (.slice x.bo x.bs.length x.bc) := by obtain ⟨b, hq⟩ := unhide HW; exact (hq.boxAt (List.mem_singleton.2 rfl)).cell 2
            obtain ⟨ao', cap', w', hrun, HX⟩ : ∃ ao' cap' w', (Builtin.append_ #[23, 23] 23 #[.slice bo P.length bc, .slice (some ⟨v1.heap.size, 0, none⟩) 1 1]).run Tryz.prog (v1.alloc (.cells #[.slice x.bo x.bs.length x.bc] 28)) = .ok (.slice ao' (P.length + 1) cap') w' ∧ Hid (∃ b, QW w w' hp b qb N (1 + k) ⟨out, P.drop out ++ [x.bs]⟩ false (3000 * (i + 1 + 1)) (20 * (i + 1 + 1)) (i + 1 + 1) (OS w ao' cap' (P ++ [x.bs]) [(og, #[.int .i64 x.kind, .int .i64 x.num, .slice x.bo x.bs.length x.bc], 56)])) := by
              obtain ⟨b, hq⟩ := unhide HW
              obtain ⟨ao', cap', w', h1, h2⟩ := hq.app (unhide HH).1 (by have := (unhide HV).2.1; omega) x.bo x.bc x.bs (unhide HQ).bytes
              exact ⟨ao', cap', w', h1, hide ⟨b, h2⟩⟩
            have HRUN := hide hrun
            clear hrun d2
            go_wp2_with (at_builtin; refine wpList_append_known' _ rfl (.tmp 62) (.tmp 65) 23 23 rfl rfl rfl (unhide HRUN) ?_)
            go_meet
            case rel =>
              obtain ⟨h1, h2, _⟩ := unhide HV
              obtain ⟨b, hq⟩ := unhide HX
              refine ⟨qb, ao', cap', P ++ [x.bs], out, rfl, by simp, rfl, hide ⟨by simp; omega, by simp; omega, b, ?_⟩⟩
              rw [List.drop_append_of_le_length h1]
              exact hq.less
          · have HP : Hid (Calls Tryz.prog 27 #[.pointer (some ⟨qb, 0, none⟩), .slice x.bo x.bs.length x.bc] v fun e w' => e = .returned (.tuple #[.int .i64 0, errV (putE ⟨out, P.drop out⟩ (1 + k) x.bs)]) ∧ Hid (∃ b, QW w w' hp b qb N (1 + k) ⟨out, P.drop out⟩ false (3000 * (i + 1)) (20 * (i + 1)) (i + 1) (OS w bo bc P [(og, #[.int .i64 x.kind, .int .i64 x.num, .slice x.bo x.bs.length x.bc], 56)]))) := by
              obtain ⟨h1, h2, b, hq⟩ := unhide HV
              refine hide ((hq.putNo (OS.stable _ _ _ _ _) x.bo x.bc x.bs ((unhide HQ).bytes.later hq.fr) hpe).mono ?_)
              rintro e w' ⟨he, hq'⟩
              exact ⟨he, hide ⟨b, unhide hq'⟩⟩
            have hpe2 : 256 < x.bs.length ∨ 1 + k ≤ P.length - out := by
              have h1 := (unhide HV).1
              have h2 := (unhide HV).2.1
              have hl : (⟨out, P.drop out⟩ : Qr).last = P.length := OI.last h1
              unfold putE at hpe
              rw [hl] at hpe
              simp only [List.length_drop] at hpe
              split at hpe
              · exact .inl ‹_›
              · split at hpe
                · exact .inr ‹_›
                · split at hpe
                  · omega
                  · exact absurd rfl hpe
            generalize putE ⟨out, P.drop out⟩ (1 + k) x.bs = pe at *
            clear hpe
            have hne := fun u => run_eql_errV_nil u pe
            go_wp2_with fail
            refine (unhide HP).mono ?_
            rintro e v1 ⟨rfl, HW⟩
            clear HP d0 d1
            have d2' : v1.cell? ⟨og, 2, none⟩ = some (.slice x.bo x.bs.length x.bc) := by obtain ⟨b, hq⟩ := unhide HW; exact (hq.boxAt (List.mem_singleton.2 rfl)).cell 2
            have HLN : Hid (Calls Tryz.prog 31 #[.pointer (some ⟨qb, 0, none⟩)] v1 fun e w' => e = .returned (.int .i64 ((P.length : Int) - (out : Int))) ∧ w' = v1) := by
              obtain ⟨b, hq⟩ := unhide HW
              have h := hq.len
              rw [show (((⟨out, P.drop out⟩ : Qr).items.length : Nat) : Int) = (P.length : Int) - (out : Int) by simp; have := (unhide HV).1; omega] at h
              exact hide h
            clear d2
            by_cases hlen : (P.length : Int) - (out : Int) < 1 + (k : Int)
            · have hb2 : decide ((x.bs.length : Int) ≤ 256) = false := by have := (unhide HV).1; simp; omega
              have hb3 : ¬ ((x.bs.length : Int) ≤ 256) := by have := (unhide HV).1; omega
              have hlend : decide ((P.length : Int) - (out : Int) < 1 + (k : Int)) = true := decide_eq_true hlen
              go_wp2_with fail
              refine (unhide HLN).mono ?_
              rintro e v1 ⟨rfl, rfl⟩
              go_wp2
              go_meet
              case rel =>
                obtain ⟨h1, h2, _⟩ := unhide HV
                obtain ⟨b, hq⟩ := unhide HW
                exact ⟨qb, bo, bc, P, out, rfl, rfl, rfl, hide ⟨h1, by omega, b, (hq.less).mono (by omega) (by omega) (by omega)⟩⟩
            · have hlend : decide ((P.length : Int) - (out : Int) < 1 + (k : Int)) = false := decide_eq_false hlen
              go_wp2_with fail
              refine (unhide HLN).mono ?_
              rintro e v1 ⟨rfl, rfl⟩
              go_wp2
              go_meet
              case rel =>
                obtain ⟨h1, h2, _⟩ := unhide HV
                obtain ⟨b, hq⟩ := unhide HW
                exact ⟨qb, bo, bc, P, out, rfl, rfl, rfl, hide ⟨h1, by omega, b, (hq.less).mono (by omega) (by omega) (by omega)⟩⟩
        · by_cases hk1 : x.kind = 1 ∨ x.kind = 5
          · have hm7 : bits .and .i64 x.num 7 = x.num % 8 := i64_and7 x.num
            obtain ⟨m, hm⟩ : ∃ m : Nat, (m : Int) = x.num % 8 := ⟨(x.num % 8).toNat, by omega⟩
            rw [← hm] at hm7
            obtain ⟨L, hL⟩ : ∃ L, L = (P.drop out).take m := ⟨_, rfl⟩
            have HP : Hid (Calls Tryz.prog 32 #[.pointer (some ⟨qb, 0, none⟩), .int .i64 (m : Int)] v fun e w' => ∃ lo lc gl, e = .returned (.slice lo L.length lc) ∧ Hid (∃ b, QW w w' hp b qb N (1 + k) ⟨out, P.drop out⟩ false (3000 * (i + 1)) (20 * (i + 1)) (i + 1) (OS w bo bc P [(og, #[.int .i64 x.kind, .int .i64 x.num, .slice x.bo x.bs.length x.bc], 56)])) ∧ Hid (∀ j (hj : j < L.length), lo = some ⟨gl, 0, none⟩ ∧ w'.cell? ⟨gl, j * 2, none⟩ = some (.int .i64 ((out + j : Nat) + 1 : Int)) ∧ ∃ yo yc, w'.cell? ⟨gl, j * 2 + 1, none⟩ = some (.slice yo L[j].length yc) ∧ BAt w' yo yc L[j])) := by
              obtain ⟨h1, h2, b, hq⟩ := unhide HV
              refine hide ((hq.peek (OS.stable _ _ _ _ _) (unhide HH).2.2.2.1 (m : Int)).mono ?_)
              rintro e w' ⟨⟨lo, lc, gl, ga, vs, he, hK, hPk, hF, _⟩, hq'⟩
              rw [Int.toNat_natCast, ← hL] at he hPk
              refine ⟨lo, lc, gl, he, hide ⟨b, unhide hq'⟩, hide (fun j hj => ?_)⟩
              have hvl := hPk.1
              have hle := hK.le
              obtain ⟨p1, yo, yc, p2, p3, _⟩ := hPk.2 j hj
              have e1 : vs[j * 2]'(by omega) = .int .i64 ((out + 1 + j : Nat) : Int) := by
                rw [List.getElem?_eq_getElem (by omega)] at p1
                injection p1
              have e2 : vs[j * 2 + 1]'(by omega) = .slice yo L[j].length yc := by
                rw [List.getElem?_eq_getElem (by omega)] at p2
                injection p2
              exact ⟨hK.ad (by omega), by rw [hK.cells (j * 2) (by omega), e1]; congr 2; omega, yo, yc, by rw [hK.cells (j * 2 + 1) (by omega), e2], p3⟩
            have HL := hide hL
            have hLb : L.length ≤ P.length - out := by rw [hL]; simp; omega
            have hLP : ∀ j (hj : j < L.length), ∃ h : out + j < P.length, P[out + j] = L[j] := fun j hj => by
              have hb : out + j < P.length := by omega
              refine ⟨hb, ?_⟩
              subst hL
              rw [List.getElem_take, List.getElem_drop]
            have HLP := hide hLP
            have HLb := hide hLb
            clear hL hLP hLb hm
            have hkk : (x.kind == 1) = true ∨ (x.kind == 1) = false ∧ (x.kind == 5) = true := by
              rcases hk1 with h | h
              · exact .inl (by rw [h]; rfl)
              · exact .inr ⟨by rw [h]; rfl, by rw [h]; rfl⟩
            have hk0d : (x.kind == 0) = false := by simpa using hk0
            have HMAIN : Hid True := hide trivial
            rcases hk1 with hk1 | hk1
            all_goals
              clear hkk hk0d HMAIN
              go_wp2_with fail
              refine (unhide HP).mono ?_
              rintro e v1 ⟨lo, lc, gl, rfl, HW, HC⟩
              clear HP
              have hLi : (L.length : Int) ≤ 100 := by have := unhide HLb; omega
              go_wp2
              go_loopw [9, 15] (fun ov kv wk => ∃ j : Nat, j ≤ L.length ∧ kv = .int .i64 (j : Nat) ∧ ov = .int .i64 ((out + j : Nat) : Nat) ∧ Hid (Fr (fun _ => False) v1 wk)) (fun _ kv _ => L.length - (intOf kv).toNat)
              case atStart => exact ⟨0, Nat.zero_le _, rfl, rfl, hide (Fr.refl _ _)⟩
              case round =>
                obtain ⟨j, hj, rfl, rfl, HFj⟩ := hrel
                by_cases hjl : j < L.length
                · obtain ⟨eh, ch0, yo, yc, ch1, hyb⟩ := unhide HC j hjl
                  obtain ⟨hPj, hPe⟩ := unhide HLP j hjl
                  obtain ⟨b, hq⟩ := unhide HW
                  obtain ⟨g, xo, xc, eb, cg, hxb⟩ := hq.row (out + j) hPj
                  rw [hPe] at cg hxb
                  obtain ⟨X, hX⟩ : ∃ X, X = L[j] := ⟨_, rfl⟩
                  rw [← hX] at ch1 hyb cg hxb
                  obtain ⟨o, ho⟩ : ∃ o, o = out + j := ⟨_, rfl⟩
                  rw [← ho] at ch0 cg hPj ⊢
                  have HS : Hid (∀ u, Fr (fun _ => False) v1 u → u.cell? ⟨gl, j * 2, none⟩ = some (.int .i64 ((o : Int) + 1)) ∧ u.cell? ⟨gl, j * 2 + 1, none⟩ = some (.slice yo X.length yc) ∧ u.cell? ⟨g, o, none⟩ = some (.slice xo X.length xc) ∧ (convert 28 9 (.slice yo X.length yc)).run Tryz.prog u = .ok (.string ⟨X.toArray⟩) u ∧ (convert 28 9 (.slice xo X.length xc)).run Tryz.prog u = .ok (.string ⟨X.toArray⟩) u) :=
                    hide (fun u hu => ⟨(hu.cell (a := ⟨gl, j * 2, none⟩) (World.block_lt_of_cell? _ _ ch0) (fun t => t)).trans ch0, (hu.cell (a := ⟨gl, j * 2 + 1, none⟩) (World.block_lt_of_cell? _ _ ch1) (fun t => t)).trans ch1, (hu.cell (a := ⟨g, o, none⟩) (World.block_lt_of_cell? _ _ cg) (fun t => t)).trans cg, conv_bat (hyb.later hu), conv_bat (hxb.later hu)⟩)
                  have hog : decide ((o : Int) ≥ (P.length : Int)) = false := by simp; omega
                  have hog2 : decide (P.length ≤ o) = false := by simp; omega
                  have hwo : IntKind.i64.wrap ((o : Int) + 1) = (o : Int) + 1 := by rw [IntKind.wrap_i64]; omega
                  have hjI : (j : Int) < (L.length : Int) := by omega
                  have hoI : (o : Int) < (P.length : Int) := by omega
                  have HO := hide (And.intro ho (And.intro hj hjl))
                  subst eh eb
                  clear ch0 ch1 cg hyb hxb hPe hX hq hPj ho
                  go_upto_region 27 with (fail)
                  go_region_held3 (fun u => u.cell? ⟨gl, j * 2, none⟩ = some (.int .i64 ((o : Int) + 1)) ∧ u.cell? ⟨gl, j * 2 + 1, none⟩ = some (.slice yo X.length yc) ∧ u.cell? ⟨g, o, none⟩ = some (.slice xo X.length xc) ∧ (convert 28 9 (.slice yo X.length yc)).run Tryz.prog u = .ok (.string ⟨X.toArray⟩) u ∧ (convert 28 9 (.slice xo X.length xc)).run Tryz.prog u = .ok (.string ⟨X.toArray⟩) u) (first | exact unhide HS _ (unhide HFj) | exact unhide HS _ ((unhide HFj).drew)) (fail)
                  go_wp2
                  obtain ⟨ho, hj, hjl⟩ := unhide HO
                  exact ⟨⟨j + 1, by omega, by go_num, by rw [ho]; go_num, hide ((unhide HFj).drew)⟩, by simp [intOf]; omega⟩
                · obtain rfl : j = L.length := by omega
                  have HA : Hid (Calls Tryz.prog 33 #[.pointer (some ⟨qb, 0, none⟩), .int .i64 ((out + L.length : Nat) : Int)] wr fun e w' => e = .returned .nilIface ∧ Hid (∃ b, QW w w' hp b qb N (1 + k) ⟨out + L.length, P.drop (out + L.length)⟩ false (3000 * (i + 1 + 1)) (20 * (i + 1 + 1)) (i + 1 + 1) (OS w bo bc P [(og, #[.int .i64 x.kind, .int .i64 x.num, .slice x.bo x.bs.length x.bc], 56)]))) := by
                    obtain ⟨h1, h2, _⟩ := unhide HV
                    obtain ⟨b, hq⟩ := unhide HW
                    obtain ⟨hT, hE, hO, hl, hh, hk15⟩ := unhide HH
                    have h := (hq.keep (OS.stable _ _ _ _ _) (unhide HFj)).ackYes (OS.stable _ _ _ _ _) hl (by omega) (by omega) (by omega) (out + L.length) (by rw [OI.last h1]; have := unhide HLb; omega)
                    rw [unhide HL, once_ack, ← unhide HL] at h
                    refine hide (h.mono ?_)
                    rintro e w' ⟨he, hq'⟩
                    exact ⟨he, hide ⟨b, (unhide hq').mono (by omega) (by omega) (by omega)⟩⟩
                  go_wp2_with fail
                  refine (unhide HA).mono ?_
                  rintro e v2 ⟨rfl, HW2⟩
                  clear HA
                  go_wp2
                  go_meet
                  case rel =>
                    obtain ⟨h1, h2, _⟩ := unhide HV
                    obtain ⟨b, hq⟩ := unhide HW2
                    exact ⟨qb, bo, bc, P, out + L.length, rfl, rfl, rfl, hide ⟨by have := unhide HLb; omega, by omega, b, hq.less⟩⟩
          · by_cases hk4 : x.kind = 4
            · have HP : Hid (Calls Tryz.prog 25 #[.pointer (some ⟨qb, 0, none⟩)] v fun e w' => e = .returned .nilIface ∧ Hid (∃ b, QW w w' hp b qb N (1 + k) ⟨out, P.drop out⟩ true (3000 * (i + 1) + 2) (20 * (i + 1)) (i + 1) (OS w bo bc P [(og, #[.int .i64 x.kind, .int .i64 x.num, .slice x.bo x.bs.length x.bc], 56)]))) := by
                obtain ⟨h1, h2, b, hq⟩ := unhide HV
                refine hide ((hq.sync (OS.stable _ _ _ _ _) (by omega)).mono ?_)
                rintro e w' ⟨he, hq'⟩
                exact ⟨he, hide ⟨b, unhide hq'⟩⟩
              go_wp2_with fail
              refine (unhide HP).mono ?_
              rintro e v1 ⟨rfl, HW⟩
              clear HP
              have HP : Hid (Calls Tryz.prog 29 #[.pointer (some ⟨hp, 0, none⟩), .slice none 0 0] v1 fun e w' => e = .returned (.tuple #[]) ∧ Hid (∃ b, QD w w' hp b N (1 + k) ⟨out, P.drop out⟩ (3000 * (i + 1) + 2) (20 * (i + 1)) (OS w bo bc P [(og, #[.int .i64 x.kind, .int .i64 x.num, .slice x.bo x.bs.length x.bc], 56)]))) := by
                obtain ⟨b, hq⟩ := unhide HW
                refine hide (((hq.qd (OS.stable _ _ _ _ _)).crash (OS.stable _ _ _ _ _) (by omega)).mono ?_)
                rintro e w' ⟨he, hq'⟩
                exact ⟨he, hide ⟨b, unhide hq'⟩⟩
              go_wp2_with fail
              refine (unhide HP).mono ?_
              rintro e v2 ⟨rfl, HW2⟩
              clear HP HW
              have HP : Hid (Calls Tryz.prog 13 #[.pointer (some ⟨hp, 0, none⟩)] v2 fun e w' => ∃ p, e = .returned (.pointer (some ⟨p, 0, none⟩)) ∧ Hid (Calls Tryz.prog 30 #[.pointer (some ⟨p, 0, none⟩), .int .i64 (1 + (k : Int))] w' fun e w'' => ∃ qb', e = .returned (.tuple #[.pointer (some ⟨qb', 0, none⟩), .nilIface]) ∧ Hid (∃ b, QW w w'' hp b qb' N (1 + k) ⟨out, P.drop out⟩ false (3000 * (i + 1 + 1)) (20 * (i + 1 + 1)) (i + 1 + 1) (OS w bo bc P [(og, #[.int .i64 x.kind, .int .i64 x.num, .slice x.bo x.bs.length x.bc], 56)])))) := by
                obtain ⟨b, hW⟩ := unhide HW2
                obtain ⟨hT, hE, hO, hl, hh, hk15⟩ := unhide HH
                refine hide ((hW.disk (OS.stable _ _ _ _ _)).mono ?_)
                rintro e w' ⟨p, he, h⟩
                obtain ⟨R, d, h1, h2, h3, h4, D, h5, h6, h7, h8, h9, hkk⟩ := unhide h
                have ho := QD.open (OS.stable _ _ _ _ _) hl h1 h2 h3 h4 D h5 h6 h7 h8 h9 hkk (by omega) (by omega)
                rw [show ((1 + k : Nat) : Int) = 1 + (k : Int) by omega] at ho
                refine ⟨p, he, hide (ho.mono ?_)⟩
                rintro e w'' ⟨qb', he, hq⟩
                exact ⟨qb', he, hide ⟨b, (unhide hq).mono (by omega) (by omega) (by omega)⟩⟩
              go_wp2_with fail
              refine (unhide HP).mono ?_
              rintro e v3 ⟨p, rfl, HO⟩
              clear HP HW2
              go_wp2_with fail
              refine (unhide HO).mono ?_
              rintro e v4 ⟨qb2, rfl, HW⟩
              clear HO
              go_wp2
              go_meet
              case rel =>
                obtain ⟨h1, h2, _⟩ := unhide HV
                obtain ⟨b, hq⟩ := unhide HW
                exact ⟨qb2, bo, bc, P, out, rfl, rfl, rfl, hide ⟨h1, by omega, b, hq.less⟩⟩
            · have hk1a : ¬ x.kind = 1 := fun h => hk1 (.inl h)
              have hk1b : ¬ x.kind = 5 := fun h => hk1 (.inr h)
              go_wp2
              go_meet
              case rel =>
                obtain ⟨h1, h2, b, hq⟩ := unhide HV
                exact ⟨qb, bo, bc, P, out, rfl, rfl, rfl, hide ⟨h1, by omega, b, (hq.less).mono (by omega) (by omega) (by omega)⟩⟩
      case rest =>
        obtain ⟨qb2, bo2, bc2, P2, out2, rfl, rfl, rfl, HC⟩ := hcut
        clear HV d0 d1 d2 hPi hoi
        have hP2 : (P2.length : Int) ≤ 101 := by have := (unhide HC).2.1; omega
        have ho2 : (out2 : Int) ≤ (P2.length : Int) := by have := (unhide HC).1; omega
        have HLN : Hid (Calls Tryz.prog 31 #[.pointer (some ⟨qb2, 0, none⟩)] wc fun e w' => e = .returned (.int .i64 ((P2.length : Int) - (out2 : Int))) ∧ w' = wc) := by
          obtain ⟨h1, h2, b, hq⟩ := unhide HC
          have h := hq.len
          rw [show (((⟨out2, P2.drop out2⟩ : Qr).items.length : Nat) : Int) = (P2.length : Int) - (out2 : Int) by simp; omega] at h
          exact hide h
        have HAK : Hid (Calls Tryz.prog 34 #[.pointer (some ⟨qb2, 0, none⟩)] wc fun e w' => e = .returned (.int .i64 (out2 : Int)) ∧ w' = wc) := by
          obtain ⟨h1, h2, b, hq⟩ := unhide HC
          exact hide hq.acked
        have HLA : Hid (Calls Tryz.prog 35 #[.pointer (some ⟨qb2, 0, none⟩)] wc fun e w' => e = .returned (.int .i64 (P2.length : Int)) ∧ Hid (OI w w' hp N (1 + k) (i + 1) qb2 bo2 bc2 P2 out2 [])) := by
          obtain ⟨h1, h2, b, hq⟩ := unhide HC
          have h := hq.last (OS.stable _ _ _ _ _)
          rw [OI.last h1] at h
          refine hide (h.mono ?_)
          rintro e w' ⟨he, hq'⟩
          exact ⟨he, hide ⟨h1, h2, b, unhide hq'⟩⟩
        have hwd : IntKind.i64.wrap ((P2.length : Int) - (out2 : Int)) = (P2.length : Int) - (out2 : Int) := by rw [IntKind.wrap_i64]; omega
        go_wp2_with fail
        refine (unhide HLN).mono ?_
        rintro e wc ⟨rfl, rfl⟩
        go_wp2_with fail
        refine (unhide HAK).mono ?_
        rintro e wc ⟨rfl, rfl⟩
        go_wp2_with fail
        refine (unhide HLA).mono ?_
        rintro e w5 ⟨rfl, HC5⟩
        clear HLN HAK HLA
        go_wp2
        exact ⟨⟨i + 1, qb2, bo2, bc2, P2, out2, by omega, by omega, rfl, rfl, rfl, by go_num, HC5⟩, by simp [intOf]; omega⟩
    · by_cases hl1 : i < ps.length
      · have hI1 : (i : Int) < (ps.length : Int) := by omega
        have hI2 : ¬ ((i : Int) < 100) := by omega
        go_wp2
        go_ret
        obtain ⟨h1, h2, b, hq⟩ := unhide HR
        exact ⟨rfl, hq.fr⟩
      · have hI1 : ¬ ((i : Int) < (ps.length : Int)) := by omega
        go_wp2
        go_ret
        obtain ⟨h1, h2, b, hq⟩ := unhide HR
        exact ⟨rfl, hq.fr⟩

end Go.Proofs.YtmnbfhgncooodaaGreatDoor

