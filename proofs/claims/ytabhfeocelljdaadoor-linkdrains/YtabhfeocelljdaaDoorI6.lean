import Derived.Test.YtabhfeocelljdaaDoorI1
import Derived.Test.YtabhfeocelljdaaDoorSS1
import Derived.Test.YtabhfeocelljdaaDoorWX
import Derived.Deep.OwnRows
import Derived.Laws.IdiomCopy
/- The law's own functions Lent and Back, for rows beside a queue. -/
namespace Go.Proofs.YtabhfeocelljdaaDoor
open Go.RowKit

/-- What lies in a lent row: the bytes, marks up to place i, then nothing. -/
def lentF (bs : List UInt8) (i j : Nat) : Int := if h : j < bs.length then (bs[j].toNat : Int) else if j < i then 201 else 0

theorem lentF_in (bs : List UInt8) (i j : Nat) (h : j < bs.length) : lentF bs i j = (bs[j].toNat : Int) := by simp [lentF, h]
theorem lentF_mark (bs : List UInt8) (i j : Nat) (h : bs.length ≤ j) (h2 : j < i) : lentF bs i j = 201 := by simp [lentF, h2, Nat.not_lt.2 h]

theorem Tryd.size5 : (Tryd.prog.info? 5).map (·.size) = some 1 := by kernel_rfl

def Lent (w : World) (bs : List UInt8) (g : Nat) (w' : World) : Prop :=
  Fr (fun _ => False) w w' ∧ w.heap.size ≤ g ∧ ∀ j, j < bs.length + 3 → w'.cell? ⟨g, j, none⟩ = some (.int .u8 (lentF bs (bs.length + 3) j)) ∧ w'.frozen? ⟨g, j, none⟩ = false

theorem Fr.setCells2 {S : Nat → Prop} {a : World} {b : Nat} (hb : b < a.heap.size → S b) : ∀ (vs : List Value) (o : Nat) (w : World), Fr S a w → Fr S a (w.setCells b o vs)
  | [], _, _, h => h
  | v :: r, o, _, h => Fr.setCells2 hb r (o + 1) _ (h.setCell (p := ⟨b, o, none⟩) hb v)

end Go.Proofs.YtabhfeocelljdaaDoor

