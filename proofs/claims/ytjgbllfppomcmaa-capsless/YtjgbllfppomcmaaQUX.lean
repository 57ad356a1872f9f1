import Derived.Test.YtjgbllfppomcmaaQST
import Derived.Test.YtjgbllfppomcmaaQY
import Derived.Test.YtjgbllfppomcmaaQSX
import Derived.Laws.Rows
import Derived.Laws.Tables
import Derived.Test.YtjgbllfppomcmaaQU2
/- A fare from a zone to another one: Single. -/
namespace Go.Proofs.Ytjgbllfppomcmaa
open Go.RowKit

/-- The fare, and the error. -/
def singleR (t : Tf) (a b : Int) (pk : Bool) : Int × Int :=
  match spanOf t a b with
  | none => (0, 1)
  | some s => if price s.single then (if pk then (s.single, 0) else (rv (scaled s.single t.off), scaleE s.single t.off)) else (0, 50)

end Go.Proofs.Ytjgbllfppomcmaa

/- A tariff's box: loaded and stored as a whole. -/
namespace Go.Proofs.Ytjgbllfppomcmaa
open Go.RowKit

/-- The box of a tariff. -/
def TB (w : World) (g : Nat) (A : Ad) (t : Tf) : Prop := w.heap[g]? = some (.cells (tc A t) 27 (0, 0))

theorem TB.new (w : World) (A : Ad) (t : Tf) : TB (w.alloc (.cells (tc A t) 27)) w.heap.size A t := by
  unfold TB
  exact heap_new w _

theorem TB.lt {w : World} {g : Nat} {A : Ad} {t : Tf} (h : TB w g A t) : g < w.heap.size := (Array.getElem?_eq_some_iff.1 h).1

theorem TB.frame {S : Nat → Prop} {w w' : World} {g : Nat} {A : Ad} {t : Tf} (h : TB w g A t) (hf : Fr S w w') (hS : ¬ S g) : TB w' g A t := (hf.block g h.lt hS).trans h
theorem TB.keep {w w' : World} {g : Nat} {A : Ad} {t : Tf} (h : TB w g A t) (hf : Fr (fun _ => False) w w') : TB w' g A t := h.frame hf (fun t => t)

theorem TB.cell {w : World} {g : Nat} {A : Ad} {t : Tf} (h : TB w g A t) (k : Nat) : w.cell? ⟨g, k, none⟩ = (tc A t)[k]? := by
  have h' : w.heap[g]? = some (.cells (tc A t) 27 (0, 0)) := h
  simp [World.cell?, h']

theorem TB.frozen {w : World} {g : Nat} {A : Ad} {t : Tf} (h : TB w g A t) (k : Nat) : w.frozen? ⟨g, k, none⟩ = false := by
  have h' : w.heap[g]? = some (.cells (tc A t) 27 (0, 0)) := h
  simp [World.frozen?, h']

theorem tb_size (A : Ad) (t : Tf) : (Try.prog.info? 27).map (·.size) = some (tc A t).size := by
  have h : (Try.prog.info? 27).map (·.size) = some 14 := by kernel_rfl
  exact h

theorem tb_one (A : Ad) (t : Tf) : (tc A t).all (·.oneCell') = true := by simp [tc, Value.oneCell']

/-- A tariff loaded out of its box. -/
theorem wpList_load_tariff {ops : Array Oper} {rest : List Oper} {o : Oper} {a : Act} {w : World} {Q : Exit → Act → World → Prop} (hgd : o.guard = none) (x : Operand) (ho : o.op = .load 27 x)
    {g : Nat} {A : Ad} {t : Tf} (hx : a.eval x = .pointer (some ⟨g, 0, none⟩)) (hg : TB w g A t) (h : wpList Try.prog ops Q rest (a.put o.dst (tv A t)) w) : wpList Try.prog ops Q (o :: rest) a w :=
  wpList_load_row hgd 27 x ho g hx 27 (tc A t) (0, 0) _ hg Try.underlying27 rfl (tb_size A t) h

/-- A tariff stored into a box. -/
theorem wpList_store_tariff {ops : Array Oper} {rest : List Oper} {o : Oper} {a : Act} {w : World} {Q : Exit → Act → World → Prop} (hgd : o.guard = none) (x y : Operand) (ho : o.op = .store 27 x y)
    {g : Nat} {A : Ad} {t : Tf} (hx : a.eval x = .pointer (some ⟨g, 0, none⟩)) (hy : a.eval y = tv A t) (old : Array Value) (hg : w.heap[g]? = some (.cells old 27 (0, 0))) (hold : old.size = 14)
    (h : wpList Try.prog ops Q rest (a.put o.dst undef) (w.setRow g (tc A t))) : wpList Try.prog ops Q (o :: rest) a w :=
  wpList_store_row hgd 27 x y ho g (tc A t) hx hy 27 old hg (tb_size A t) hold (tb_one A t) h

theorem TB.set {w : World} {g : Nat} {old : Array Value} (hg : w.heap[g]? = some (.cells old 27 (0, 0))) (A : Ad) (t : Tf) : TB (w.setRow g (tc A t)) g A t := setRow_heap _ _ _ _ _ _ hg

theorem results_tariff {fn : Func} {p : Tmp} (h : fn.results = #[.cell p 27]) (tmps : Array Value) (w : World) {g : Nat} {A : Ad} {t : Tf} (hp : tmps.getD p undef = .pointer (some ⟨g, 0, none⟩)) (hg : TB w g A t) :
    (results fn tmps).run Try.prog w = .ok (tv A t) w := results_cell_row h tmps w g 27 (tc A t) (0, 0) _ hp hg Try.underlying27 rfl (tb_size A t)

end Go.Proofs.Ytjgbllfppomcmaa

/- The document's examples: Plain, awake. -/
namespace Go.Proofs.Ytjgbllfppomcmaa
open Go.RowKit

def plainT : Tf := { st := [⟨1, 1, 0⟩, ⟨2, 2, 7⟩], sp := [⟨1, 1, 200, 500, 2000⟩, ⟨1, 2, 300, 700, 2800⟩, ⟨2, 2, 150, 500, 2000⟩], bd := [], off := 4602678819172646912, bus := 0, busDaily := 0, busWeekly := 0, hopper := 0, most := 0, longest := 120, change := 0, passback := 0, delay := 0, threshold := 0 }

theorem plain_right : rightE plainT = 0 := by decide +kernel
theorem plain_right0 : rightE { plainT with longest := 0 } = 70 := by decide +kernel
theorem plain_station : stationOf plainT 2 = some ⟨2, 2, 7⟩ := by rfl
theorem plain_single : singleR plainT 2 1 false = (150, 0) := by decide +kernel

theorem cat_new (w : World) (vs : List Value) (e : TypeId) : CAt (w.alloc (.cells vs.toArray e)) (some ⟨w.heap.size, 0, none⟩) vs := fun _ =>
  ⟨_, _, rfl, fun j hj => by rw [World.cell?_alloc_new, Nat.zero_add, List.getElem?_toArray, List.getElem?_eq_getElem hj]⟩

def plainA (N : Nat) : Ad := ⟨some ⟨N + 1, 0, none⟩, 2, some ⟨N + 1 + 1, 0, none⟩, 3, none, 0⟩

theorem plain_any (w : World) : Calls Try.prog 7 #[] w fun e w' => ∃ A, e = .returned (tv A plainT) ∧ TAt w' A plainT ∧ Fr (fun _ => False) w w' := by
  go_enter Try.func7, Try.ntmps7
  have hg : (((w.alloc (.cells #[.slice none 0 0, .slice none 0 0, .slice none 0 0, .float .f64 0, .int .i64 0, .int .i64 0, .int .i64 0, .int .i64 0, .int .i64 0, .int .i64 0, .int .i64 0, .int .i64 0, .int .i64 0, .int .i64 0] 27)).alloc (.cells (stV plainT.st).toArray 60)).alloc (.cells (spV plainT.sp).toArray 57)).heap[w.heap.size]? = some (.cells #[.slice none 0 0, .slice none 0 0, .slice none 0 0, .float .f64 0, .int .i64 0, .int .i64 0, .int .i64 0, .int .i64 0, .int .i64 0, .int .i64 0, .int .i64 0, .int .i64 0, .int .i64 0, .int .i64 0] 27 (0, 0)) := by
    rw [Below.heap_alloc _ _ _ (by simp; omega), Below.heap_alloc _ _ _ (by simp)]
    exact heap_new w _
  have HG := hide hg
  clear hg
  go_wp2_with (refine wpList_store_tariff rfl (.tmp 0) (.tmp 8) rfl (g := w.heap.size) (A := plainA w.heap.size) (t := plainT) rfl rfl _ (unhide HG) rfl ?_)
  refine bodyPost_ret (results_tariff rfl _ _ (g := w.heap.size) (A := plainA w.heap.size) (t := plainT) rfl (TB.set (unhide HG) _ _)) rfl ⟨_, rfl, ?_, ?_⟩
  · have h1 := cat_new (w.alloc (.cells #[.slice none 0 0, .slice none 0 0, .slice none 0 0, .float .f64 0, .int .i64 0, .int .i64 0, .int .i64 0, .int .i64 0, .int .i64 0, .int .i64 0, .int .i64 0, .int .i64 0, .int .i64 0, .int .i64 0] 27)) (stV plainT.st) 60
    have h2 := cat_new ((w.alloc (.cells #[.slice none 0 0, .slice none 0 0, .slice none 0 0, .float .f64 0, .int .i64 0, .int .i64 0, .int .i64 0, .int .i64 0, .int .i64 0, .int .i64 0, .int .i64 0, .int .i64 0, .int .i64 0, .int .i64 0] 27)).alloc (.cells (stV plainT.st).toArray 60)) (spV plainT.sp) 57
    rw [heap_alloc] at h1
    rw [heap_alloc, heap_alloc] at h2
    have f3 := (Fr.refl (fun k => k = w.heap.size) (((w.alloc (.cells #[.slice none 0 0, .slice none 0 0, .slice none 0 0, .float .f64 0, .int .i64 0, .int .i64 0, .int .i64 0, .int .i64 0, .int .i64 0, .int .i64 0, .int .i64 0, .int .i64 0, .int .i64 0, .int .i64 0] 27)).alloc (.cells (stV plainT.st).toArray 60)).alloc (.cells (spV plainT.sp).toArray 57))).setRow (g := w.heap.size) (fun _ => rfl) (tc (plainA w.heap.size) plainT)
    refine ⟨(h1.keep ((Fr.refl _ _).alloc _)).frame f3 (fun b off e _ t => ?_), h2.frame f3 (fun b off e _ t => ?_), CAt.nil _ _, by decide, by decide, by decide, by decide⟩
    · injection e with e
      injection e with e1 _
      omega
    · injection e with e
      injection e with e1 _
      omega
  · exact ((((Fr.refl _ w).alloc _).alloc _).alloc _).setRow (fun h => absurd h (Nat.lt_irrefl _)) _

theorem TB.setCell {w : World} {g : Nat} {A A' : Ad} {t t' : Tf} (h : TB w g A t) (k : Nat) (v : Value) (e : (tc A t).setIfInBounds k v = tc A' t') : TB (w.setCell ⟨g, k, none⟩ v) g A' t' := by
  have h' : w.heap[g]? = some (.cells (tc A t) 27 (0, 0)) := h
  rw [setCell_eq_setRow w g k _ _ _ v h', e]
  exact setRow_heap _ _ _ _ _ _ h'

end Go.Proofs.Ytjgbllfppomcmaa

