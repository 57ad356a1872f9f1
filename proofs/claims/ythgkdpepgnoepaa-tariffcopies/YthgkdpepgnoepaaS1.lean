/- Amounts: Right, total, Add, Sub, Sum. -/
import Derived.Test.YthgkdpepgnoepaaI1
import Derived.Test.YthgkdpepgnoepaaProg
namespace Go.Proofs.Ythgkdpepgnoepaa
open Go.RowKit

/-- Is it an amount? -/
def right (n : Int) : Bool := decide (-9007199254740992 ≤ n) && decide (n ≤ 9007199254740992)

theorem right_iff (n : Int) : right n = true ↔ -9007199254740992 ≤ n ∧ n ≤ 9007199254740992 := by simp [right]
theorem right_not (n : Int) : right n = false ↔ ¬ (-9007199254740992 ≤ n ∧ n ≤ 9007199254740992) := by
  rw [← right_iff]; simp

/-- The sum from the front on, if none of the sums leaves the amounts. -/
def tot : Int → List Int → Option Int
  | s, [] => some s
  | s, x :: r => if right x && right (s + x) then tot (s + x) r else none

/-- What is answered: a number, and an error's. -/
def rv (o : Option Int) : Int := o.getD 0
def re (c : Int) (o : Option Int) : Int := if o.isSome then 0 else c

/-- A slice of ints. -/
def IAt (w : World) (ao : Option Addr) (l : List Int) : Prop :=
  0 < l.length → ∃ b off, ao = some ⟨b, off, none⟩ ∧ ∀ j (hj : j < l.length), w.cell? ⟨b, off + j, none⟩ = some (.int .i64 l[j])

theorem right_any (w : World) (n : Int) : Calls Try.prog 68 #[.int .i64 n] w fun e w' => e = .returned (.bool (right n)) ∧ w' = w := by
  by_cases h1 : -9007199254740992 ≤ n
  · by_cases h2 : n ≤ 9007199254740992
    · have hr : right n = true := (right_iff n).2 ⟨h1, h2⟩
      go_enter Try.func68, Try.ntmps68
      go_wp2
      go_ret
      exact ⟨by first | rfl | (rw [hr]; rfl), rfl⟩
    · have hr : right n = false := (right_not n).2 (fun h => h2 h.2)
      go_enter Try.func68, Try.ntmps68
      go_wp2
      go_ret
      exact ⟨by first | rfl | (rw [hr]; rfl), rfl⟩
  · have hr : right n = false := (right_not n).2 (fun h => h1 h.1)
    go_enter Try.func68, Try.ntmps68
    go_wp2
    go_ret
    exact ⟨by first | rfl | (rw [hr]; rfl), rfl⟩

end Go.Proofs.Ythgkdpepgnoepaa
