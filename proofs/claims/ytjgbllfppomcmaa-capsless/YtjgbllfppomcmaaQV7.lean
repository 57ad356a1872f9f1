import Derived.Test.YtjgbllfppomcmaaQUX
import Derived.Test.YtjgbllfppomcmaaQM3
import Derived.Test.YtjgbllfppomcmaaQRY
/- The document's own Station, Span and Single. -/
namespace Go.Proofs.Ytjgbllfppomcmaa
open Go.RowKit

theorem run_min (ts : Array TypeId) (t : TypeId) (x y : Int) (w : World) : (Builtin.min_ ts t #[.int .i64 x, .int .i64 y]).run Try.prog w = .ok (.int .i64 (imin x y)) w := run_min_int2 w ts t .i64 .i64 x y
theorem run_max (ts : Array TypeId) (t : TypeId) (x y : Int) (w : World) : (Builtin.max_ ts t #[.int .i64 x, .int .i64 y]).run Try.prog w = .ok (.int .i64 (imax x y)) w := run_max_int2 w ts t .i64 .i64 x y

theorem heap_alloc' {w : World} {o : Obj} {B : Nat} (h : Hid (B = w.heap.size)) : (w.alloc o).heap.size = B + 1 := by rw [heap_alloc, unhide h]

theorem find_step {α : Type} (l : List α) (p : α → Bool) (i : Nat) (hi : i < l.length) : (l.drop i).find? p = if p l[i] then some l[i] else (l.drop (i + 1)).find? p := by
  rw [List.drop_eq_getElem_cons hi, List.find?_cons]
  cases p l[i] <;> rfl

end Go.Proofs.Ytjgbllfppomcmaa

