import Derived.Test.YtlhgfnpialndaaaA0
import Derived.Deep.WholeRow
/- A block of cells in memory ('Bx'). No program is named here. -/
namespace Go.Proofs.Ytlhgfnpialndaaa
open Go.RowKit

/-- A box in memory. -/
def Bx (w : World) (b : Nat) (cs : Array Value) (t : TypeId) : Prop := w.heap[b]? = some (.cells cs t (0, 0))

section
variable {w w' : World} {b : Nat} {cs : Array Value} {t : TypeId}

theorem heap_new (w : World) (o : Obj) : (w.alloc o).heap[w.heap.size]? = some o := by
  show (w.heap.push o)[w.heap.size]? = some o
  simp
theorem heap_alloc (w : World) (o : Obj) : (w.alloc o).heap.size = w.heap.size + 1 := by simp

theorem Bx.new (w : World) (cs : Array Value) (t : TypeId) : Bx (w.alloc (.cells cs t)) w.heap.size cs t := heap_new w _
theorem Bx.lt (h : Bx w b cs t) : b < w.heap.size := (Array.getElem?_eq_some_iff.1 h).1
theorem Bx.frame {S : Nat → Prop} (h : Bx w b cs t) (hf : Fr S w w') (hS : ¬ S b) : Bx w' b cs t := (hf.block b h.lt hS).trans h
theorem Bx.keep (h : Bx w b cs t) (hf : Fr (fun _ => False) w w') : Bx w' b cs t := h.frame hf (fun t => t)
theorem Bx.alloc (h : Bx w b cs t) (o : Obj) : Bx (w.alloc o) b cs t := (Below.heap_alloc _ _ _ h.lt).trans h
theorem Bx.cell (h : Bx w b cs t) (k : Nat) : w.cell? ⟨b, k, none⟩ = cs[k]? := by
  have h' : w.heap[b]? = some (.cells cs t (0, 0)) := h
  simp [World.cell?, h']
theorem Bx.frozen (h : Bx w b cs t) (k : Nat) : w.frozen? ⟨b, k, none⟩ = false := by
  have h' : w.heap[b]? = some (.cells cs t (0, 0)) := h
  simp [World.frozen?, h']
theorem Bx.setCell (h : Bx w b cs t) (k : Nat) (v : Value) : Bx (w.setCell ⟨b, k, none⟩ v) b (cs.setIfInBounds k v) t := by
  have h' : w.heap[b]? = some (.cells cs t (0, 0)) := h
  rw [setCell_eq_setRow w b k _ _ _ v h']
  exact setRow_heap _ _ _ _ _ _ h'
theorem Bx.setOther (h : Bx w b cs t) {g : Nat} (hg : b ≠ g) (k : Nat) (v : Value) : Bx (w.setCell ⟨g, k, none⟩ v) b cs t := (Below.heap_setCell _ _ _ _ hg).trans h
theorem Bx.drew (h : Bx w b cs t) : Bx w.drew b cs t := h
theorem Bx.of_drew (h : Bx w.drew b cs t) : Bx w b cs t := h
theorem Fr.setRow {S : Nat → Prop} {a w : World} (h : Fr S a w) {g : Nat} (hg : g < a.heap.size → S g) (cs : Array Value) : Fr S a (w.setRow g cs) :=
  h.trans (T := fun k => k = g) ⟨rfl, rfl, rfl, by simp, fun k _ hn => setRow_other _ _ _ _ hn⟩ (fun _ hi t => by subst t; exact hg hi)

end
theorem Bx.cellAt {w : World} {b : Nat} {cs : Array Value} {t : TypeId} (h : Bx w b cs t) {k : Nat} {v : Value} (hv : cs[k]? = some v) : w.cell? ⟨b, k, none⟩ = some v := (h.cell k).trans hv

end Go.Proofs.Ytlhgfnpialndaaa

