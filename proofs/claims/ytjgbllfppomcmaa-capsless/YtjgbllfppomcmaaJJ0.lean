import Derived.Test.YtjgbllfppomcmaaQT1
import Derived.Laws.StructEq
/- Journeys as values; two of them compared. -/
namespace Go.Proofs.Ytjgbllfppomcmaa
open Go.RowKit

/-- A journey. -/
structure Jn where
  kind : Int
  fr : Int
  to : Int
  st : Int
  en : Int
  free : Bool

def jL (j : Jn) : List Value := [.int .i64 j.kind, .int .i64 j.fr, .int .i64 j.to, .int .i64 j.st, .int .i64 j.en, .bool j.free]
def jC (j : Jn) : Array Value := #[.int .i64 j.kind, .int .i64 j.fr, .int .i64 j.to, .int .i64 j.st, .int .i64 j.en, .bool j.free]
def jV (l : List Jn) : List Value := l.flatMap jL
def jz : Jn := ⟨0, 0, 0, 0, 0, false⟩
theorem jV_length (l : List Jn) : (jV l).length = l.length * 6 := flat_length jL 6 (fun _ => rfl) l
theorem jL_one (j : Jn) : ∀ u ∈ jL j, u.oneCell' = true := fun u hu => by simp only [jL, List.mem_cons, List.not_mem_nil, or_false] at hu; rcases hu with rfl | rfl | rfl | rfl | rfl | rfl <;> rfl
theorem jV_one (l : List Jn) : ∀ u ∈ jV l, u.oneCell' = true := flat_one _ (fun x u hu => jL_one x u hu) l
theorem jV_snoc (l : List Jn) (j : Jn) : jV (l ++ [j]) = jV l ++ jL j := by simp [jV]

def jA (j : Jn) : Value := .agg (jC j)

theorem eqJ (w : World) (a0 a1 a2 a3 a4 b0 b1 b2 b3 b4 : Int) (a5 b5 : Bool) : (Op.equalIn 10000 31 (.agg #[.int .i64 a0, .int .i64 a1, .int .i64 a2, .int .i64 a3, .int .i64 a4, .bool a5]) (.agg #[.int .i64 b0, .int .i64 b1, .int .i64 b2, .int .i64 b3, .int .i64 b4, .bool b5])).run Try.prog w = .ok (a0 == b0 && a1 == b1 && a2 == b2 && a3 == b3 && a4 == b4 && a5 == b5) w := by
  have u3 := Try.underlying3
  have u4 := Try.underlying4
  have hS : Try.prog.underlying 31 = some (.struct (Try.prog.fieldsOf 31)) := by kernel_rfl
  have hp : Try.prog.stoodInHeld 31 = false := by kernel_rfl
  rw [show (10000 : Nat) = 9999 + 1 from rfl, run_equalIn_agg w 9999 31 _ _ hS hp]
  simp only [Program.fieldsOf, Try.underlying31]
  go_simp
  by_cases h0 : a0 = b0
  case neg => simp [h0]
  by_cases h1 : a1 = b1
  case neg => simp [h0, h1]
  by_cases h2 : a2 = b2
  case neg => simp [h0, h1, h2]
  by_cases h3 : a3 = b3
  case neg => simp [h0, h1, h2, h3]
  by_cases h4 : a4 = b4
  case neg => simp [h0, h1, h2, h3, h4]
  by_cases h5 : a5 = b5
  case neg => simp [h0, h1, h2, h3, h4, h5]
  simp [h0, h1, h2, h3, h4, h5]
theorem egJ : Try.prog.eqGuardType Try.prog.depth 31 = false := by kernel_rfl


end Go.Proofs.Ytjgbllfppomcmaa

