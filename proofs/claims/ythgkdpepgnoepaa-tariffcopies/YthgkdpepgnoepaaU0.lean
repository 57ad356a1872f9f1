/- A tariff's box: loaded and stored as a whole. -/
import Derived.Test.YthgkdpepgnoepaaT2
import Derived.Laws.Rows
import Derived.Laws.Tables
namespace Go.Proofs.Ythgkdpepgnoepaa
open Go.RowKit

theorem Fr.setRow {S : Nat → Prop} {a w : World} (h : Fr S a w) {g : Nat} (hg : g < a.heap.size → S g) (cs : Array Value) : Fr S a (w.setRow g cs) :=
  h.trans (T := fun k => k = g) ⟨rfl, rfl, rfl, by simp, fun k _ hn => setRow_other _ _ _ _ hn⟩ (fun _ hi t => by subst t; exact hg hi)

theorem heap_new (w : World) (o : Obj) : (w.alloc o).heap[w.heap.size]? = some o := by
  show (w.heap.push o)[w.heap.size]? = some o
  simp

/-- The box of a tariff. -/
def TB (w : World) (g : Nat) (A : Ad) (t : Tf) : Prop := w.heap[g]? = some (.cells (tc A t) 27 (0, 0))

theorem TB.new (w : World) (A : Ad) (t : Tf) : TB (w.alloc (.cells (tc A t) 27)) w.heap.size A t := by
  unfold TB
  exact heap_new w _

theorem TB.lt {w : World} {g : Nat} {A : Ad} {t : Tf} (h : TB w g A t) : g < w.heap.size := (Array.getElem?_eq_some_iff.1 h).1

theorem TB.frame {S : Nat → Prop} {w w' : World} {g : Nat} {A : Ad} {t : Tf} (h : TB w g A t) (hf : Fr S w w') (hS : ¬ S g) : TB w' g A t := (hf.block g h.lt hS).trans h
theorem TB.keep {w w' : World} {g : Nat} {A : Ad} {t : Tf} (h : TB w g A t) (hf : Fr (fun _ => False) w w') : TB w' g A t := h.frame hf (fun t => t)

theorem TB.cell {w : World} {g : Nat} {A : Ad} {t : Tf} (h : TB w g A t) (k : Nat) : w.cell? ⟨g, k, none⟩ = (tc A t)[k]? := by
  have h' : w.heap[g]? = some (.cells (tc A t) 27 (0, 0)) := h
  simp [World.cell?, h']

theorem TB.frozen {w : World} {g : Nat} {A : Ad} {t : Tf} (h : TB w g A t) (k : Nat) : w.frozen? ⟨g, k, none⟩ = false := by
  have h' : w.heap[g]? = some (.cells (tc A t) 27 (0, 0)) := h
  simp [World.frozen?, h']

theorem tb_size (A : Ad) (t : Tf) : (Try.prog.info? 27).map (·.size) = some (tc A t).size := by
  have h : (Try.prog.info? 27).map (·.size) = some 14 := by kernel_rfl
  exact h

theorem tb_one (A : Ad) (t : Tf) : (tc A t).all (·.oneCell') = true := by simp [tc, Value.oneCell']

/-- A tariff loaded out of its box. -/
theorem wpList_load_tariff {ops : Array Oper} {rest : List Oper} {o : Oper} {a : Act} {w : World} {Q : Exit → Act → World → Prop} (hgd : o.guard = none) (x : Operand) (ho : o.op = .load 27 x)
    {g : Nat} {A : Ad} {t : Tf} (hx : a.eval x = .pointer (some ⟨g, 0, none⟩)) (hg : TB w g A t) (h : wpList Try.prog ops Q rest (a.put o.dst (tv A t)) w) : wpList Try.prog ops Q (o :: rest) a w :=
  wpList_load_row hgd 27 x ho g hx 27 (tc A t) (0, 0) _ hg Try.underlying27 rfl (tb_size A t) h

/-- A tariff stored into a box. -/
theorem wpList_store_tariff {ops : Array Oper} {rest : List Oper} {o : Oper} {a : Act} {w : World} {Q : Exit → Act → World → Prop} (hgd : o.guard = none) (x y : Operand) (ho : o.op = .store 27 x y)
    {g : Nat} {A : Ad} {t : Tf} (hx : a.eval x = .pointer (some ⟨g, 0, none⟩)) (hy : a.eval y = tv A t) (old : Array Value) (hg : w.heap[g]? = some (.cells old 27 (0, 0))) (hold : old.size = 14)
    (h : wpList Try.prog ops Q rest (a.put o.dst undef) (w.setRow g (tc A t))) : wpList Try.prog ops Q (o :: rest) a w :=
  wpList_store_row hgd 27 x y ho g (tc A t) hx hy 27 old hg (tb_size A t) hold (tb_one A t) h

theorem TB.set {w : World} {g : Nat} {old : Array Value} (hg : w.heap[g]? = some (.cells old 27 (0, 0))) (A : Ad) (t : Tf) : TB (w.setRow g (tc A t)) g A t := setRow_heap _ _ _ _ _ _ hg

theorem results_tariff {fn : Func} {p : Tmp} (h : fn.results = #[.cell p 27]) (tmps : Array Value) (w : World) {g : Nat} {A : Ad} {t : Tf} (hp : tmps.getD p undef = .pointer (some ⟨g, 0, none⟩)) (hg : TB w g A t) :
    (results fn tmps).run Try.prog w = .ok (tv A t) w := results_cell_row h tmps w g 27 (tc A t) (0, 0) _ hp hg Try.underlying27 rfl (tb_size A t)

end Go.Proofs.Ythgkdpepgnoepaa
