/- The law's own Lent: a tariff in memory of its own, with marks behind its lists. -/
import Derived.Test.YthgkdpepgnoepaaG1
import Derived.Test.YthgkdpepgnoepaaT7
import Derived.Test.YthgkdpepgnoepaaU0
import Derived.Laws.MakeOwn
namespace Go.Proofs.Ythgkdpepgnoepaa
open Go.RowKit

/-- A row of one's own that was made behind w0, and nothing that was there has turned. -/
structure Fresh (w0 w : World) (ao : Option Addr) (cap g k : Nat) (vs : List Value) : Prop where
  row : KRow w ao cap g k vs
  new : w0.heap.size ≤ g
  pos : 0 < cap
  fr : Fr (fun _ => False) w0 w

theorem Fresh.alloc {w0 w : World} {ao : Option Addr} {cap g k : Nat} {vs : List Value} (h : Fresh w0 w ao cap g k vs) (hk : 0 < k) (o : Obj) : Fresh w0 (w.alloc o) ao cap g k vs :=
  ⟨h.row.keep hk ((Fr.refl _ w).alloc o), h.new, h.pos, h.fr.alloc o⟩

section
variable {P : Program}

theorem Fresh.append {w0 w : World} {ao : Option Addr} {cap g k n : Nat} {vs : List Value} (h : Fresh w0 w ao cap g k vs) (t tx ty e : TypeId) (i : TypeInfo) (z : Value) (hk : 0 < k) (ht : P.underlying t = some (.slice e)) (hi : P.info? e = some i) (hz : i.zero = some z) (hz1 : z.cells.size = k) (hs1 : i.size = k)
    (hn : vs.length = n * k) (x : Value) (news : List Value) (m : Nat) (hs : Src P k tx x m news w) (hfit : (n + m) * i.bytes ≤ 140737488355328) (hf2 : n + m ≤ 140737488355328) :
    ∃ ao' cap' w' g', (Builtin.append_ #[t, tx] ty #[.slice ao n cap, x]).run P w = .ok (.slice ao' (n + m) cap') w' ∧ Fresh w0 w' ao' cap' g' k (vs ++ news) ∧ Fr (fun q => q = g) w w' := by
  obtain ⟨ao', cap', w', g', hrun, hrow, hgr⟩ := append_krow (P := P) t tx ty e i z k hk ht hi hz hz1 hs1 h.row hn x news m hs hfit hf2
  have hnew := h.new
  refine ⟨ao', cap', w', g', hrun, ⟨hrow, ?_, ?_, ?_⟩, ?_⟩
  · rcases hgr with ⟨e1, _, _⟩ | ⟨e1, _, _⟩
    · omega
    · exact Nat.le_trans h.fr.size e1
  · rcases hgr with ⟨_, e2, _⟩ | ⟨_, e2, _⟩
    · rw [e2]; exact h.pos
    · exact e2
  · rcases hgr with ⟨_, _, hF⟩ | ⟨_, _, hF⟩
    · exact h.fr.trans hF (fun q hq hh => by omega)
    · exact h.fr.trans hF (fun _ _ t => t)
  · rcases hgr with ⟨_, _, hF⟩ | ⟨_, _, hF⟩
    · exact hF.mono (fun _ _ t => t.1)
    · exact hF.mono (fun _ _ t => t.elim)

theorem Fresh.make {w0 w : World} (hF : Fr (fun _ => False) w0 w) (t e : TypeId) (i : TypeInfo) (z : Value) (k n : Nat) (ht : P.underlying t = some (.slice e)) (hi : P.info? e = some i) (hz : i.zero = some z) (hs1 : i.size = k) (hfit : (n + 1) * i.bytes ≤ 140737488355328) (hf2 : n + 1 ≤ 140737488355328) :
    ∃ w', (Instr.makeSlice t (.int .i64 0) (.int .i64 ((n : Int) + 1))).run P w = .ok (.slice (some ⟨w.heap.size, 0, none⟩) 0 (n + 1)) w' ∧ Fresh w0 w' (some ⟨w.heap.size, 0, none⟩) (n + 1) w.heap.size k [] := by
  have hmul : i.bytes * (n + 1) ≤ 140737488355328 := by rw [Nat.mul_comm]; exact hfit
  have hmk := run_make (P := P) w t e i _ ht hi hz .i64 .i64 0 ((n : Int) + 1) (by omega) (by omega) (by rw [show (i.bytes : Int) * ((n : Int) + 1) = ((i.bytes * (n + 1) : Nat) : Int) by simp]; omega) (by omega)
  rw [hs1, show ((n : Int) + 1).toNat = n + 1 by omega, show (0 : Int).toNat = 0 from rfl] at hmk
  refine ⟨_, hmk, ⟨Nat.zero_le _, by simp only [maxLen]; omega, fun _ => rfl, fun j hj => ⟨?_, World.frozen?_alloc_new _ _ _ _⟩, fun j hj => absurd hj (by simp), fun u hu => by cases hu⟩, hF.size, by omega, hF.alloc _⟩
  rw [World.cell?_alloc_new, Array.getElem?_eq_getElem (by rw [size_madeCells]; exact hj)]
  rfl

theorem exec_make {w w' : World} {a : Act} {o : Oper} {t : TypeId} {x y : Operand} {X Y v : Value} (ho : o.op = .makeSlice t x y) (hx : a.eval x = X) (hy : a.eval y = Y) (hrun : (Instr.makeSlice t X Y).run P w = .ok v w') : (execOp a.eval o).run P w = .ok (.value v) w' := by
  unfold execOp
  simp only [ho, hx, hy, Sem.run_bind, hrun, Result.andThen_ok, Sem.run_pure]

theorem exec_append {w w' : World} {a : Act} {o : Oper} {t tx : TypeId} {s x : Operand} {V X v : Value} (ho : o.op = .call { callee := .builtin .append, args := #[s, x], argTypes := #[t, tx] }) (hv : a.eval s = V) (hx : a.eval x = X) (hrun : (Builtin.append_ #[t, tx] o.type #[V, X]).run P w = .ok v w') : (execOp a.eval o).run P w = .ok (.value v) w' := by
  simp [execOp, ho, resolve, invoke, builtin, hv, hx, hrun, Result.andThen]

end

theorem CAt.src {w : World} {ao : Option Addr} {vs : List Value} (h : CAt w ao vs) (tx e : TypeId) (k n cap : Nat) (hk : 0 < k) (ht : Try.prog.underlying tx = some (.slice e)) (hn : vs.length = n * k) (h1 : ∀ u ∈ vs, u.oneCell' = true) : Src Try.prog k tx (.slice ao n cap) n vs w := by
  by_cases hm : 0 < vs.length
  · obtain ⟨b, off, rfl, hc⟩ := h hm
    refine Src.ofSlice w ht ⟨b, off, none⟩ n cap vs hn (fun j u hj => ?_) h1
    have hjl := (List.getElem?_eq_some_iff.1 hj).1
    rw [Addr.add_lit, hc j hjl, ← hj, List.getElem?_eq_getElem hjl]
  · have e0 : vs = [] := List.eq_nil_of_length_eq_zero (by omega)
    subst e0
    obtain rfl : n = 0 := by
      rcases Nat.eq_zero_or_pos n with h0 | h0
      · exact h0
      · have := Nat.mul_pos h0 hk; simp at hn; omega
    cases ao with
    | none => exact Src.ofNil w ht cap
    | some b => exact Src.ofSlice w ht b 0 cap [] (by simp) (fun j u hj => by simp at hj) (fun u hu => by cases hu)

theorem src_new' (w : World) (cs : List Value) (tx e : TypeId) (k : Nat) (ht : Try.prog.underlying tx = some (.slice e)) (hn : cs.length = k) (h1 : ∀ u ∈ cs, u.oneCell' = true) {W : World} (hW : ∀ j, W.cell? ⟨w.heap.size, j, none⟩ = cs[j]?) : Src Try.prog k tx (.slice (some ⟨w.heap.size, 0, none⟩) 1 1) 1 cs W := by
  refine Src.ofSlice W ht ⟨w.heap.size, 0, none⟩ 1 1 cs (by rw [hn, Nat.one_mul]) (fun j u hj => ?_) h1
  rw [Addr.add_lit, Nat.zero_add, hW j, hj]

theorem info35 : (Try.prog.info? 35).map (fun i => (i.zero, i.size, i.bytes)) = some (some (.agg #[.int .i64 0, .int .i64 0, .int .i64 0]), 3, 24) := by kernel_rfl
theorem info46 : (Try.prog.info? 46).map (fun i => (i.zero, i.size, i.bytes)) = some (some (.agg #[.int .i64 0, .int .i64 0]), 2, 16) := by kernel_rfl

def markS : Stn := ⟨-7, 0, 0⟩
def markP : Spn := ⟨-7, 0, 0, 0, 0⟩
def markB : Int × Int := (-7, 0)

end Go.Proofs.Ythgkdpepgnoepaa
