import Derived.Test.YtjgbllfppomcmaaQSX
import Derived.Test.YtjgbllfppomcmaaQRX
import Derived.BigQuiet
import Derived.Deep.QuietTactic
/- The mathematics of the document's long multiplication and halving. No program is named here. -/
namespace Go.Proofs.Ytjgbllfppomcmaa

/-- Digit j in base 2^32. -/
def dgt (X j : Nat) : Nat := X / 4294967296 ^ j % 4294967296

theorem dgt_lt (X j : Nat) : dgt X j < 4294967296 := Nat.mod_lt _ (by decide)

theorem dgt_half (X j : Nat) : dgt (X / 2) j = dgt X j / 2 + dgt X (j + 1) % 2 * 2147483648 := by
  unfold dgt
  rw [Nat.div_div_eq_div_mul, Nat.mul_comm, ← Nat.div_div_eq_div_mul, Nat.pow_succ, ← Nat.div_div_eq_div_mul]
  generalize X / 4294967296 ^ j = Y
  omega

theorem dgt_top (X : Nat) (h : X < 340282366920938463463374607431768211456) : dgt X 4 = 0 := by
  unfold dgt
  rw [Nat.div_eq_of_lt (Nat.lt_of_lt_of_le h (by decide))]

theorem dgt_mul (p00 pm p11 X : Nat) (hX : X = p00 + pm * 4294967296 + p11 * 18446744073709551616) (h11 : p11 < 9223372036854775808) (hm : pm < 9223372036854775808) (h0 : p00 < 18446744073709551616) :
    dgt X 0 = p00 % 4294967296 ∧ dgt X 1 = (pm + p00 / 4294967296) % 4294967296 ∧ dgt X 2 = (p11 + (pm + p00 / 4294967296) / 4294967296) % 4294967296 ∧ dgt X 3 = (p11 + (pm + p00 / 4294967296) / 4294967296) / 4294967296 := by
  subst hX
  unfold dgt
  refine ⟨?_, ?_, ?_, ?_⟩
  · simp only [Nat.pow_zero, Nat.div_one]; omega
  · simp only [Nat.pow_one]; omega
  · rw [show (4294967296 ^ 2 : Nat) = 18446744073709551616 by decide]; omega
  · rw [show (4294967296 ^ 3 : Nat) = 79228162514264337593543950336 by decide]; omega

theorem dgt_two (X : Nat) (h : X < 18446744073709551616) : dgt X 1 * 4294967296 + dgt X 0 = X := by
  unfold dgt
  simp only [Nat.pow_zero, Nat.div_one, Nat.pow_one]
  omega

theorem half_bit (X K : Nat) (h : 0 < K) : (X + 2 ^ (K - 1)) / 2 ^ K = X / 2 ^ K + X / 2 ^ (K - 1) % 2 := by
  obtain ⟨k, rfl⟩ : ∃ k, K = k + 1 := ⟨K - 1, by omega⟩
  rw [Nat.add_sub_cancel, Nat.pow_succ, ← Nat.div_div_eq_div_mul, ← Nat.div_div_eq_div_mul, Nat.add_div_right _ (Nat.two_pow_pos k)]
  generalize X / 2 ^ k = Y
  omega

end Go.Proofs.Ytjgbllfppomcmaa

/- The document's Scale. -/
namespace Go.Proofs.Ytjgbllfppomcmaa
open Go.RowKit

end Go.Proofs.Ytjgbllfppomcmaa

/- The document's Scale is the program's. -/
namespace Go.Proofs.Ytjgbllfppomcmaa
open Go.RowKit

end Go.Proofs.Ytjgbllfppomcmaa

