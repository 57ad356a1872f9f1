import Derived.Test.YtjgbllfppomcmaaRows
import Derived.Test.YtjgbllfppomcmaaA0
import Derived.Defers
import Derived.Recover
import Derived.Deep.QuietTactic
import Derived.BigQuiet
import Derived.Laws.BytesArg
import Derived.Laws.IdiomStrings
import Derived.Laws.Externs
import Derived.Deep.RegionHeld
/- Contracts of the small functions of package wire: must, failed, At, Fault, Left, next, digits, count. -/
namespace Go.Proofs.Ytjgbllfppomcmaa
open Go.RowKit

section
variable {w : World} {p g : Nat} {bs : List UInt8} {a l : Nat} {c f : Int}

end
end Go.Proofs.Ytjgbllfppomcmaa

/- Contracts of what the reader's calls hand to take, one a kind of piece. -/
namespace Go.Proofs.Ytjgbllfppomcmaa
open Go.RowKit

/-- The panic with which a piece is given up. -/
abbrev gave (x : Int) : Ending := .panicked [{ v := .iface 38 (.int .i64 x), recovered := false }]

/-- How a piece comes out: a value and where the next one begins; or what is wrong. -/
def Took (p g : Nat) (bs : List UInt8) (l : Nat) (c f : Int) (w : World) (o : Except Int (Value × Nat)) (e : Ending) (w' : World) : Prop :=
  match o with
  | .ok (v, a') => e = .returned v ∧ RAt w' p g bs a' l c f ∧ Fr (· = p) w w'
  | .error x => e = gave x ∧ (∃ a', RAt w' p g bs a' l c f) ∧ Fr (· = p) w w'

def oNumber (bs : List UInt8) (a : Nat) (size : Int) : Except Int (Value × Nat) :=
  if size < 1 ∨ 8 < size then .error 1
  else if (bs.length : Int) - a < size then .error 10
  else if 9223372036854775807 < num ((bs.drop a).take size.toNat) then .error 11
  else .ok (.int .i64 (num ((bs.drop a).take size.toNat)), a + size.toNat)

def oInt (bs : List UInt8) (a : Nat) : Except Int (Value × Nat) :=
  if (bs.length : Int) - a < 8 then .error 10
  else .ok (.int .i64 (wrap64 (num ((bs.drop a).take 8))), a + 8)

def oBool (bs : List UInt8) (a : Nat) : Except Int (Value × Nat) :=
  if (bs.length : Int) - a < 1 then .error 10
  else if 1 < num ((bs.drop a).take 1) then .error 11
  else .ok (.bool (num ((bs.drop a).take 1) == 1), a + 1)

def oCount (bs : List UInt8) (a : Nat) (most : Int) : Except Int (Value × Nat) :=
  if most < 0 then .error 1
  else if (bs.length : Int) - a < 2 then .error 10
  else if most < num ((bs.drop a).take 2) then .error 12
  else .ok (.int .i64 (num ((bs.drop a).take 2)), a + 2)

section
variable {w : World} {p g : Nat} {bs : List UInt8} {a l : Nat} {c f : Int}

end
end Go.Proofs.Ytjgbllfppomcmaa

/- Contracts of what the reader's calls hand to take: Fixed, Float, Text. -/
namespace Go.Proofs.Ytjgbllfppomcmaa
open Go.RowKit

/-- Is it a NaN? as 'x != x' has it -/
def nanB (b : Nat) : Bool := FloatKind.f64.format.order b b != some .eq

def oFixed (bs : List UInt8) (a : Nat) (size : Int) : Except Int (Value × Nat) :=
  if size < 0 ∨ 65535 < size then .error 1
  else if (bs.length : Int) - a < size then .error 10
  else .ok (.string ⟨((bs.drop a).take size.toNat).toArray⟩, a + size.toNat)

def oFloat (bs : List UInt8) (a : Nat) : Except Int (Value × Nat) :=
  if (bs.length : Int) - a < 8 then .error 10
  else if nanB (num ((bs.drop a).take 8)) = true ∧ num ((bs.drop a).take 8) ≠ 9221120237041090560 then .error 11
  else .ok (.float .f64 (num ((bs.drop a).take 8)), a + 8)

def oText (bs : List UInt8) (a : Nat) (most : Int) : Except Int (Value × Nat) :=
  if most < 0 then .error 1
  else if (bs.length : Int) - a < 2 then .error 10
  else if most < num ((bs.drop a).take 2) then .error 12
  else if (bs.length : Int) - (a + 2 : Nat) < num ((bs.drop a).take 2) then .error 10
  else .ok (.string ⟨((bs.drop (a + 2)).take (num ((bs.drop a).take 2))).toArray⟩, a + 2 + num ((bs.drop a).take 2))

section
variable {w : World} {p g : Nat} {bs : List UInt8} {a l : Nat} {c f : Int}

theorem tobits (n : Nat) (w : World) : (callFunc 44 #[.float .f64 n]).run Try.prog w = .ok (.value (.int .u64 n)) w := by
  rw [run_callFunc_extern (e := Extern.MathFloatBits.float64bits) Try.func44 (by kernel_rfl) (by kernel_rfl) (by kernel_rfl) (by kernel_rfl)]
  rfl

theorem RAt.drew (h : RAt w p g bs a l c f) : RAt w.drew p g bs a l c f := h.stay fun _ _ _ => rfl

theorem Fr.of_drew {S : Nat → Prop} {w w1 : World} (h : Fr S w.drew w1) : Fr S w w1 := ⟨h.os, h.tape, h.output, h.size, h.block⟩

end
end Go.Proofs.Ytjgbllfppomcmaa

/- Contracts of take, at each of its four types, and of the closure that it defers. -/
namespace Go.Proofs.Ytjgbllfppomcmaa
open Go.RowKit

theorem assert_errno (x : Int) (w : World) : (Instr.typeAssert (.iface 38 (.int .i64 x)) 20 38 true).run Try.prog w = .ok (.tuple #[.int .i64 x, .bool true]) w := by kernel_rfl
theorem assert_nil (w : World) : (Instr.typeAssert .nilIface 20 38 true).run Try.prog w = .ok (.tuple #[.int .i64 0, .bool false]) w := by kernel_rfl

/-- How a call that takes a piece comes out, where there was no fault. -/
def Done (p g : Nat) (bs : List UInt8) (a l : Nat) (f : Int) (w : World) (z : Value) (o : Except Int (Value × Nat)) (e : Ending) (w' : World) : Prop :=
  match o with
  | .ok (v, a') => e = .returned v ∧ RAt w' p g bs a' a 0 f ∧ Fr (· = p) w w'
  | .error x => e = .returned z ∧ RAt w' p g bs a l x a ∧ Fr (· = p) w w'

theorem makes : ∀ (fn : Fn) (first cap : Array Value) (w : World), (Instr.makeFunc fn first cap).run Try.prog w = .ok (.func fn first cap) w := fun _ _ _ _ => rfl

section
variable {w : World} {p g : Nat} {bs : List UInt8} {a l : Nat} {c f : Int}

end

section
variable {w : World} {p g : Nat} {bs : List UInt8} {a l : Nat} {f : Int}

end

section
variable {w : World} {p g : Nat} {bs : List UInt8} {a l : Nat} {f : Int}

end

section
variable {w : World} {p g : Nat} {bs : List UInt8} {a l : Nat} {f : Int}

end

section
variable {w : World} {p g : Nat} {bs : List UInt8} {a l : Nat} {c f : Int}

end

section
variable {w : World} {p g : Nat} {bs : List UInt8} {a l : Nat} {f : Int}

end

section
variable {w : World} {p g : Nat} {bs : List UInt8} {a l : Nat} {c f : Int}

end

section
variable {w : World} {p g : Nat} {bs : List UInt8} {a l : Nat} {f : Int}

end

section
variable {w : World} {p g : Nat} {bs : List UInt8} {a l : Nat} {c f : Int}

end

section
variable {w : World} {p g : Nat} {bs : List UInt8} {a l : Nat} {f : Int}

end

section
variable {w : World} {p g : Nat} {bs : List UInt8} {a l : Nat} {f : Int}

end

end Go.Proofs.Ytjgbllfppomcmaa

/- Contracts of the reader's exported calls: what each answers, and what becomes of the reader. -/
namespace Go.Proofs.Ytjgbllfppomcmaa
open Go.RowKit

/-- A reader's state: where it is, where the last piece began, the fault's code and place. -/
structure RS where
  a : Nat
  l : Nat
  c : Int
  f : Int

abbrev RS.At (s : RS) (w : World) (p g : Nat) (bs : List UInt8) : Prop := RAt w p g bs s.a s.l s.c s.f

/-- A call that takes a piece: the answer and the state behind it. -/
def stepR (s : RS) (z : Value) (o : Except Int (Value × Nat)) : Value × RS :=
  if s.c = 0 then
    match o with
    | .ok (v, a') => (v, ⟨a', s.a, 0, s.f⟩)
    | .error x => (z, ⟨s.a, s.l, x, s.a⟩)
  else (z, s)

theorem done_step {s : RS} {w w' : World} {p g : Nat} {bs : List UInt8} {z : Value} {o : Except Int (Value × Nat)} {e : Ending} (hc : s.c = 0) (h : Done p g bs s.a s.l s.f w z o e w') :
    e = .returned (stepR s z o).1 ∧ (stepR s z o).2.At w' p g bs ∧ Fr (· = p) w w' := by
  cases o with
  | ok va => obtain ⟨v, a'⟩ := va; obtain ⟨h1, h2, h3⟩ := h; simp only [stepR, hc, if_true]; exact ⟨h1, h2, h3⟩
  | error x => obtain ⟨h1, h2, h3⟩ := h; simp only [stepR, hc, if_true]; exact ⟨h1, h2, h3⟩

theorem Done.of_fr {p g : Nat} {bs : List UInt8} {a l : Nat} {f : Int} {w w1 w' : World} {z : Value} {o : Except Int (Value × Nat)} {e : Ending} (h : Done p g bs a l f w1 z o e w') (hF : Fr (fun _ => False) w w1) : Done p g bs a l f w z o e w' := by
  cases o with
  | ok va => obtain ⟨v, a'⟩ := va; exact ⟨h.1, h.2.1, (hF.mono (T := (· = p)) (fun _ _ t => t.elim)).trans h.2.2 (fun _ _ t => t)⟩
  | error x => exact ⟨h.1, h.2.1, (hF.mono (T := (· = p)) (fun _ _ t => t.elim)).trans h.2.2 (fun _ _ t => t)⟩

end Go.Proofs.Ytjgbllfppomcmaa

