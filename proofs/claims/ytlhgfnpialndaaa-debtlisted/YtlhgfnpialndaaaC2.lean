import Derived.Test.YtlhgfnpialndaaaC1
/- The law's own functions put and nothing: what becomes of the writer, of the reader. -/
namespace Go.Proofs.Ytlhgfnpialndaaa
open Go.RowKit

/-- A piece, as the law's struct has it. -/
structure Pc where
  kind : Int
  n : Int
  size : Int
  x : Nat
  is : Bool
  s : ByteArray

def Pc.vals (q : Pc) : Array Value := #[.int .i64 q.kind, .int .i64 q.n, .int .i64 q.size, .float .f64 q.x, .bool q.is, .string q.s]

/-- What a piece's bytes are, if it is one that is put. -/
def Pc.bytes (q : Pc) : Option (List UInt8) :=
  if q.kind = 0 then wNumber q.n q.size else if q.kind = 1 then wInt q.n else if q.kind = 2 then wFloat q.x else if q.kind = 3 then wBool q.is
  else if q.kind = 4 then wText q.s else if q.kind = 5 then wFixed q.s q.size else if q.kind = 6 then wCount q.n else some []

def putW (s : Option (List UInt8)) (q : Pc) : Option (List UInt8) := stepW s q.bytes

theorem stepW_nil (s : Option (List UInt8)) : stepW s (some []) = s := by cases s <;> simp [stepW]

theorem WSt.alloc {w : World} {p g : Nat} {s : Option (List UInt8)} (h : WSt w p g s) (o : Obj) : WSt (w.alloc o) p g s := by
  cases s with
  | some bs => exact WAt.alloc h o
  | none => exact (World.cell?_alloc_lt _ _ _ (World.block_lt_of_cell? _ _ h)).trans h

theorem WSt.lt {w : World} {p g : Nat} {s : Option (List UInt8)} (h : WSt w p g s) : p < w.heap.size := by
  cases s with
  | some bs => exact WAt.lt h
  | none => exact World.block_lt_of_cell? _ _ h

end Go.Proofs.Ytlhgfnpialndaaa

