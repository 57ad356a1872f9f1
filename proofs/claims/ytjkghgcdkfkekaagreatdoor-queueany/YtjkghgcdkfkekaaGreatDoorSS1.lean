import Derived.Test.YtjkghgcdkfkekaaGreatDoorRows
import Derived.Test.YtjkghgcdkfkekaaGreatDoorSS0
import Derived.Test.YtjkghgcdkfkekaaGreatDoorI1
import Derived.Deep.OwnRows
import Derived.BigQuiet
/- Contracts: turned4, turned8, more, Sum, isSum, More. -/
namespace Go.Proofs.YtjkghgcdkfkekaaGreatDoor
open Go.RowKit

/-- The table lies where the program's text lays it. -/
def TabAt (w : World) : Prop := ∀ i, i < 16 → w.cell? ⟨1, i, none⟩ = some (.int .u32 (trn 4 i))

theorem TabAt.frame {S : Nat → Prop} {w w' : World} (h : TabAt w) (hF : Fr S w w') (h0 : ¬ S 1) : TabAt w' := fun i hi => (hF.cell (a := ⟨1, i, none⟩) (World.block_lt_of_cell? _ _ (h i hi)) h0).trans (h i hi)
theorem TabAt.later {w w' : World} (h : TabAt w) (hF : Fr (fun _ => False) w w') : TabAt w' := h.frame hF (fun t => t)
theorem TabAt.pos {w : World} (h : TabAt w) : 1 < w.heap.size := World.block_lt_of_cell? _ _ (h 0 (by omega))

theorem and15 (n : Nat) (hn : n < 4294967296) : bits .and .u32 (n : Int) 15 = ((n % 16 : Nat) : Int) := by
  have := u32_and_nat n 15 hn (by omega)
  rw [show ((15 : Nat) : Int) = 15 from rfl] at this
  rw [this, show (15 : Nat) = 2 ^ 4 - 1 from rfl, Nat.and_two_pow_sub_one_eq_mod]

theorem xor4 (n : Nat) (hn : n < 4294967296) : bits .xor .u32 ((n : Int) / 16) ((trn 4 (n % 16) : Nat) : Int) = ((trn 4 n : Nat) : Int) := by
  have := u32_xor_nat (n / 16) (trn 4 (n % 16)) (by omega) (trn_lt 4 (by omega))
  rw [four_turns] at this
  rw [show (n : Int) / 16 = ((n / 16 : Nat) : Int) by omega]
  exact this

theorem turned4_any (w : World) (hT : TabAt w) (n : Nat) (hn : n < 4294967296) : Calls Tryz.prog 150 #[.int .u32 n] w fun e w' => e = .returned (.int .u32 (trn 4 n)) ∧ w' = w := by
  have hc := hT (n % 16) (by omega)
  have ha := and15 n hn
  have hx := xor4 n hn
  have hl : n % 16 < 16 := by omega
  clear hT
  generalize trn 4 n = r at *
  generalize trn 4 (n % 16) = q at *
  generalize n % 16 = k at *
  go_enter Tryz.func150, Tryz.ntmps150
  go_wp2
  go_ret
  exact ⟨rfl, rfl⟩

theorem turned8_any (w : World) (hT : TabAt w) (n : Nat) (hn : n < 4294967296) : Calls Tryz.prog 137 #[.int .u32 n] w fun e w' => e = .returned (.int .u32 (trn 8 n)) ∧ w' = w := by
  have HT := hide hT
  clear hT
  go_enter Tryz.func137, Tryz.ntmps137
  go_wp2_with fail
  refine (turned4_any _ (unhide HT) n hn).mono ?_
  rintro e w1 ⟨rfl, rfl⟩
  go_wp2_with fail
  refine (turned4_any _ (unhide HT) (trn 4 n) (trn_lt 4 hn)).mono ?_
  rintro e w2 ⟨rfl, rfl⟩
  go_wp2
  go_ret
  exact ⟨by rw [show trn 8 n = trn 4 (trn 4 n) from trn_add 4 4 n]; rfl, rfl⟩

/-- Bytes that can be read: in a slice of any kind. -/
def BAt (w : World) (ao : Option Addr) (cap : Nat) (bs : List UInt8) : Prop :=
  (ao = none → bs.length = 0 ∧ cap = 0) ∧ (0 < bs.length → ∃ b off, ao = some ⟨b, off, none⟩ ∧ ∀ j (hj : j < bs.length), w.cell? ⟨b, off + j, none⟩ = some (.int .u8 (bs[j].toNat))) ∧ bs.length ≤ 140737488355328

theorem BAt.stay {w w' : World} {ao : Option Addr} {cap : Nat} {bs : List UInt8} (h : BAt w ao cap bs) (hb : ∀ b off, ao = some ⟨b, off, none⟩ → 0 < bs.length → b < w.heap.size → w'.heap[b]? = w.heap[b]?) : BAt w' ao cap bs := by
  refine ⟨h.1, fun h0 => ?_, h.2.2⟩
  obtain ⟨b, off, rfl, hc⟩ := h.2.1 h0
  refine ⟨b, off, rfl, fun j hj => ?_⟩
  rw [World.cell?_of_block (a := ⟨b, off + j, none⟩) (hb b off rfl h0 (World.block_lt_of_cell? _ _ (hc j hj)))]
  exact hc j hj

theorem BAt.later {w w' : World} {ao : Option Addr} {cap : Nat} {bs : List UInt8} (h : BAt w ao cap bs) (hF : Fr (fun _ => False) w w') : BAt w' ao cap bs := h.stay fun b _ _ _ hlt => hF.block b hlt (fun t => t)

theorem more_any (w : World) (hT : TabAt w) (s : Nat) (hs : s < 4294967296) (ao : Option Addr) (cap : Nat) (bs : List UInt8) (hB : BAt w ao cap bs) :
    Calls Tryz.prog 124 #[.int .u32 s, .slice ao bs.length cap] w fun e w' => e = .returned (.int .u32 (moreF s bs)) ∧ w' = w := by
  have HT := hide hT
  have HB := hide hB
  have hsm := hB.2.2
  have hx0 : bits .xor .u32 (s : Int) 4294967295 = ((s ^^^ 4294967295 : Nat) : Int) := u32_xor_nat s 4294967295 hs (by omega)
  have hx1 : bits .xor .u32 ((run (s ^^^ 4294967295) bs : Nat) : Int) 4294967295 = ((moreF s bs : Nat) : Int) := u32_xor_nat _ 4294967295 (run_lt bs (xor32 hs (by omega))) (by omega)
  clear hT hB
  go_enter Tryz.func124, Tryz.ntmps124
  go_wp2
  go_loopw [5, 12] (fun nv iv wr => ∃ i : Nat, i ≤ bs.length ∧ iv = .int .i64 i ∧ nv = .int .u32 (run (s ^^^ 4294967295) (bs.take i)) ∧ wr = w) (fun _ iv _ => bs.length - (intOf iv).toNat)
  case atStart => exact ⟨0, Nat.zero_le _, rfl, rfl, rfl⟩
  case round =>
    obtain ⟨i, hi, rfl, rfl, rfl⟩ := hrel
    by_cases hlt : i < bs.length
    · obtain ⟨b, off, rfl, hc⟩ := (unhide HB).2.1 (by omega)
      have ci := hc i hlt
      clear hc
      have hr := run_lt (bs.take i) (xor32 hs (show 4294967295 < 4294967296 by omega))
      have hxr := u32_xor_nat (run (s ^^^ 4294967295) (bs.take i)) bs[i].toNat hr (byte32 _)
      have hnx : run (s ^^^ 4294967295) (bs.take (i + 1)) = trn 8 (run (s ^^^ 4294967295) (bs.take i) ^^^ bs[i].toNat) := by
        rw [List.take_succ_eq_append_getElem hlt, run_append]; rfl
      have hrx := xor32 hr (byte32 bs[i])
      have hby := bs[i].toNat_lt
      generalize run (s ^^^ 4294967295) (bs.take i) = r at *
      generalize bs[i].toNat = c at *
      go_wp2_with fail
      refine (turned8_any _ (unhide HT) (r ^^^ c) hrx).mono ?_
      rintro e w1 ⟨rfl, rfl⟩
      go_wp2
      exact ⟨⟨i + 1, by omega, by go_num, by rw [hnx], trivial⟩, by simp [intOf]; omega⟩
    · obtain rfl : i = bs.length := by omega
      rw [List.take_length] at *
      go_wp2
      go_ret
      exact ⟨rfl, rfl⟩

theorem sum_any (w : World) (hT : TabAt w) (ao : Option Addr) (cap : Nat) (bs : List UInt8) (hB : BAt w ao cap bs) :
    Calls Tryz.prog 102 #[.slice ao bs.length cap] w fun e w' => e = .returned (.int .i64 (sumF bs)) ∧ w' = w := by
  have HT := hide hT
  have HB := hide hB
  have hl := sumF_lt bs
  have hw : IntKind.i64.wrap (sumF bs : Int) = (sumF bs : Int) := by rw [IntKind.wrap_i64]; omega
  clear hT hB
  go_enter Tryz.func102, Tryz.ntmps102
  go_wp2_with fail
  refine (more_any _ (unhide HT) 0 (by omega) ao cap bs (unhide HB)).mono ?_
  rintro e w1 ⟨rfl, rfl⟩
  rw [show moreF 0 bs = sumF bs from rfl]
  go_wp2
  go_ret
  exact ⟨rfl, rfl⟩

/-- Is it a sum? -/
def isS (s : Int) : Bool := decide (0 ≤ s ∧ s ≤ 4294967295)

theorem issum_any (w : World) (s : Int) : Calls Tryz.prog 123 #[.int .i64 s] w fun e w' => e = .returned (.bool (isS s)) ∧ w' = w := by
  go_enter Tryz.func123, Tryz.ntmps123
  go_wp2
  all_goals go_ret
  all_goals exact ⟨by first | (simp [isS, *]; done) | (simp [isS, *]; omega), rfl⟩

theorem isS_nat {s : Int} (h : isS s = true) : ∃ n : Nat, s = n ∧ n < 4294967296 := by
  have h2 : 0 ≤ s ∧ s ≤ 4294967295 := by simpa [isS] using h
  exact ⟨s.toNat, by omega, by omega⟩
theorem isS_of {n : Nat} (h : n < 4294967296) : isS (n : Int) = true := by simp [isS]; omega

/-- What More answers. -/
def moreV (s : Int) (bs : List UInt8) : Value := if isS s then .tuple #[.int .i64 (moreF s.toNat bs), .int .i64 0] else .tuple #[.int .i64 0, .int .i64 1]

theorem More_any (w : World) (hT : TabAt w) (s : Int) (ao : Option Addr) (cap : Nat) (bs : List UInt8) (hB : BAt w ao cap bs) :
    Calls Tryz.prog 101 #[.int .i64 s, .slice ao bs.length cap] w fun e w' => e = .returned (moreV s bs) ∧ w' = w := by
  have HT := hide hT
  have HB := hide hB
  clear hT hB
  by_cases hi : isS s = true
  · obtain ⟨n, rfl, hn⟩ := isS_nat hi
    rw [moreV, if_pos hi, Int.toNat_natCast]
    have hw : IntKind.u32.wrap (n : Int) = (n : Int) := by rw [IntKind.wrap_u32']; omega
    have hl := moreF_lt bs hn
    have hw2 : IntKind.i64.wrap (moreF n bs : Int) = (moreF n bs : Int) := by rw [IntKind.wrap_i64]; omega
    go_enter Tryz.func101, Tryz.ntmps101
    go_wp2_with fail
    refine (issum_any _ _).mono ?_
    rintro e w1 ⟨rfl, rfl⟩
    rw [hi]
    go_wp2_with fail
    refine (more_any _ (unhide HT) n hn ao cap bs (unhide HB)).mono ?_
    rintro e w1 ⟨rfl, rfl⟩
    go_wp2
    go_ret2
    exact ⟨rfl, rfl⟩
  · rw [moreV, if_neg hi]
    have hi2 : isS s = false := by simpa using hi
    clear hi
    go_enter Tryz.func101, Tryz.ntmps101
    go_wp2_with fail
    refine (issum_any _ _).mono ?_
    rintro e w1 ⟨rfl, rfl⟩
    rw [hi2]
    go_wp2
    go_ret2
    exact ⟨rfl, rfl⟩

end Go.Proofs.YtjkghgcdkfkekaaGreatDoor

