import Derived.Test.YtabhfeocelljdaaGreatDoorRows
import Derived.Test.YtabhfeocelljdaaGreatDoorSS0
import Derived.Test.YtabhfeocelljdaaGreatDoorI1
import Derived.Deep.OwnRows
import Derived.BigQuiet
/- Contracts: turned4, turned8, more, Sum, isSum, More. -/
namespace Go.Proofs.YtabhfeocelljdaaGreatDoor
open Go.RowKit

theorem and15 (n : Nat) (hn : n < 4294967296) : bits .and .u32 (n : Int) 15 = ((n % 16 : Nat) : Int) := by
  have := u32_and_nat n 15 hn (by omega)
  rw [show ((15 : Nat) : Int) = 15 from rfl] at this
  rw [this, show (15 : Nat) = 2 ^ 4 - 1 from rfl, Nat.and_two_pow_sub_one_eq_mod]

theorem xor4 (n : Nat) (hn : n < 4294967296) : bits .xor .u32 ((n : Int) / 16) ((trn 4 (n % 16) : Nat) : Int) = ((trn 4 n : Nat) : Int) := by
  have := u32_xor_nat (n / 16) (trn 4 (n % 16)) (by omega) (trn_lt 4 (by omega))
  rw [four_turns] at this
  rw [show (n : Int) / 16 = ((n / 16 : Nat) : Int) by omega]
  exact this

/-- Bytes that can be read: in a slice of any kind. -/
def BAt (w : World) (ao : Option Addr) (cap : Nat) (bs : List UInt8) : Prop :=
  (ao = none → bs.length = 0 ∧ cap = 0) ∧ (0 < bs.length → ∃ b off, ao = some ⟨b, off, none⟩ ∧ ∀ j (hj : j < bs.length), w.cell? ⟨b, off + j, none⟩ = some (.int .u8 (bs[j].toNat))) ∧ bs.length ≤ 140737488355328

theorem BAt.stay {w w' : World} {ao : Option Addr} {cap : Nat} {bs : List UInt8} (h : BAt w ao cap bs) (hb : ∀ b off, ao = some ⟨b, off, none⟩ → 0 < bs.length → b < w.heap.size → w'.heap[b]? = w.heap[b]?) : BAt w' ao cap bs := by
  refine ⟨h.1, fun h0 => ?_, h.2.2⟩
  obtain ⟨b, off, rfl, hc⟩ := h.2.1 h0
  refine ⟨b, off, rfl, fun j hj => ?_⟩
  rw [World.cell?_of_block (a := ⟨b, off + j, none⟩) (hb b off rfl h0 (World.block_lt_of_cell? _ _ (hc j hj)))]
  exact hc j hj

theorem BAt.later {w w' : World} {ao : Option Addr} {cap : Nat} {bs : List UInt8} (h : BAt w ao cap bs) (hF : Fr (fun _ => False) w w') : BAt w' ao cap bs := h.stay fun b _ _ _ hlt => hF.block b hlt (fun t => t)

/-- Is it a sum? -/
def isS (s : Int) : Bool := decide (0 ≤ s ∧ s ≤ 4294967295)

theorem isS_nat {s : Int} (h : isS s = true) : ∃ n : Nat, s = n ∧ n < 4294967296 := by
  have h2 : 0 ≤ s ∧ s ≤ 4294967295 := by simpa [isS] using h
  exact ⟨s.toNat, by omega, by omega⟩
theorem isS_of {n : Nat} (h : n < 4294967296) : isS (n : Int) = true := by simp [isS]; omega

/-- What More answers. -/
def moreV (s : Int) (bs : List UInt8) : Value := if isS s then .tuple #[.int .i64 (moreF s.toNat bs), .int .i64 0] else .tuple #[.int .i64 0, .int .i64 1]

end Go.Proofs.YtabhfeocelljdaaGreatDoor

