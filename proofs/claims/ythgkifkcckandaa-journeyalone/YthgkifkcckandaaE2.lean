import Derived.Test.YthgkifkcckandaaE1
/- Which entries and accounts may be. -/
namespace Go.Proofs.Ythgkifkcckandaa
open Go.RowKit

/-- An entry of the ledger; an account. -/
structure En where
  run : Int
  tok : ByteArray
  amount : Int
  paid : Bool
structure Ac where
  tok : ByteArray
  charged : Int
  paid : Int
def enC (t : En) : Array Value := #[.int .i64 t.run, .string t.tok, .int .i64 t.amount, .bool t.paid]
def acC (t : Ac) : Array Value := #[.string t.tok, .int .i64 t.charged, .int .i64 t.paid]

def entryOk (t : En) : Bool := isIn t.run 1 2147483648 && isTok t.tok && isIn t.amount (-9007199254740992) 9007199254740992 && (t.amount != 0)
def entryE (t : En) : Int := if entryOk t then 0 else 80
def accountOk (t : Ac) : Bool := isTok t.tok && isIn t.charged 0 9007199254740992 && isIn t.paid 0 t.charged
def accountE (t : Ac) : Int := if accountOk t then 0 else 80

theorem entry_small (t : En) (h : entryOk t = true) : t.run ≤ 9223372036854775807 := by
  simp only [entryOk, Bool.and_eq_true, isIn_iff] at h
  omega
theorem account_small (t : Ac) (h : accountOk t = true) : t.charged ≤ 9223372036854775807 ∧ t.paid ≤ 9223372036854775807 := by
  simp only [accountOk, Bool.and_eq_true, isIn_iff] at h
  omega

theorem accountOk_alt (t : Ac) : accountOk t = (isTok t.tok && isIn t.charged (-9007199254740992) 9007199254740992 && isIn t.paid 0 t.charged) := by
  unfold accountOk
  rw [Bool.eq_iff_iff]
  simp only [Bool.and_eq_true, isIn_iff]
  constructor <;> (rintro ⟨⟨h1, h2⟩, h3⟩; exact ⟨⟨h1, by omega⟩, h3⟩)

end Go.Proofs.Ythgkifkcckandaa

