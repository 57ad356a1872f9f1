import Derived.Test.YtlhgfnpialndaaaA0
/- Numbers as bytes, the highest first: there and back. No program is named here. -/
namespace Go.Proofs.Ytlhgfnpialndaaa

/-- One byte of a number. -/
def byteAt (n left : Nat) : UInt8 := UInt8.ofNat (n / 256 ^ left % 256)

/-- A number's lowest bytes, the highest first. -/
def digs (n : Nat) : Nat → List UInt8
  | 0 => []
  | k + 1 => byteAt n k :: digs n k

theorem digs_length (n k : Nat) : (digs n k).length = k := by
  induction k with
  | zero => rfl
  | succ k ih => simp [digs, ih]

theorem digs_num' (n k : Nat) : num (digs n k) = n % 256 ^ k := by
  have key : ∀ k a, (digs n k).foldl (fun m b => m * 256 + b.toNat) a = a * 256 ^ k + n % 256 ^ k := by
    intro k
    induction k with
    | zero => intro a; simp [digs, Nat.mod_one]
    | succ k ih =>
      intro a
      have hp : 0 < 256 ^ k := Nat.pow_pos (by omega)
      have e1 : (byteAt n k).toNat = n / 256 ^ k % 256 := by simp [byteAt]
      rw [digs, List.foldl_cons, ih, e1, Nat.pow_succ, Nat.mod_mul, Nat.add_mul, Nat.mul_assoc, Nat.mul_comm 256 (256 ^ k), Nat.mul_comm (n / 256 ^ k % 256)]
      omega
  have := key k 0
  simpa [num] using this

theorem digs_num_lt {n k : Nat} (h : n < 256 ^ k) : num (digs n k) = n := by rw [digs_num', Nat.mod_eq_of_lt h]

theorem digs_inj {n m k : Nat} (hn : n < 256 ^ k) (hm : m < 256 ^ k) (h : digs n k = digs m k) : n = m := by
  rw [← digs_num_lt hn, h, digs_num_lt hm]

theorem num_zero (k : Nat) : num (List.replicate k 0) = 0 := by
  induction k with
  | zero => rfl
  | succ k ih =>
    rw [List.replicate_succ', num_snoc, ih]; rfl

end Go.Proofs.Ytlhgfnpialndaaa

