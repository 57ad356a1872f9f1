import Derived.Test.YthgkifkcckandaaN8
/- Bytes that are handed in, with their room. -/
namespace Go.Proofs.Ythgkifkcckandaa
open Go.RowKit

/-- Bytes that are handed in, with their room. -/
structure BInC (w : World) (ao : Option Addr) (cap : Nat) (bs : List UInt8) : Prop where
  b : BIn w ao cap bs
  le : bs.length ≤ cap
  max : cap ≤ 9223372036854775807

theorem BInC.keep {w w' : World} {ao : Option Addr} {cap : Nat} {bs : List UInt8} (h : BInC w ao cap bs) (hf : Fr (fun _ => False) w w') : BInC w' ao cap bs := ⟨h.b.keep hf, h.le, h.max⟩

/-- Its numbers are numbers. -/
def tapFits (t : Tp) : Prop := t.dev ≤ 9223372036854775807 ∧ t.ctr ≤ 9223372036854775807 ∧ t.kind ≤ 9223372036854775807 ∧ t.place ≤ 9223372036854775807 ∧ t.time ≤ 9223372036854775807

/-- Its numbers are numbers. -/
def entryFits (t : En) : Prop := t.run ≤ 9223372036854775807

/-- Its numbers are numbers. -/
def accountFits (t : Ac) : Prop := t.charged ≤ 9223372036854775807 ∧ t.paid ≤ 9223372036854775807

end Go.Proofs.Ythgkifkcckandaa

