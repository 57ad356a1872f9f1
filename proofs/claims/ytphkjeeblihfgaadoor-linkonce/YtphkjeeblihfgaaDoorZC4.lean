import Derived.Test.YtphkjeeblihfgaaDoorZC2
import Derived.Test.YtphkjeeblihfgaaDoorZC3
import Derived.Test.YtphkjeeblihfgaaDoorZGB
import Derived.Deep.Cut
import Derived.Deep.CutBlock
/- LinkOnce: its state, and its walk. -/
namespace Go.Proofs.YtphkjeeblihfgaaDoor
open Go.RowKit Go.Maps

theorem i64_and31 (n : Int) : bits .and .i64 n 31 = n % 32 := by
  have h7 : (BitVec.ofInt 64 31).toNat = 2 ^ 5 - 1 := by decide
  have key : (BitVec.ofInt 64 n &&& BitVec.ofInt 64 31).toNat = (n % ((2 ^ 64 : Nat) : Int)).toNat % 2 ^ 5 := by
    rw [BitVec.toNat_and, BitVec.toNat_ofInt, h7, Nat.and_two_pow_sub_one_eq_mod]
  show IntKind.i64.wrap ((BitVec.ofInt 64 n &&& BitVec.ofInt 64 31).toNat : Nat) = n % 32
  rw [key, IntKind.wrap_i64]
  omega
theorem i64_and7Z (n : Int) : bits .and .i64 n 7 = n % 8 := by
  have h7 : (BitVec.ofInt 64 7).toNat = 2 ^ 3 - 1 := by decide
  have key : (BitVec.ofInt 64 n &&& BitVec.ofInt 64 7).toNat = (n % ((2 ^ 64 : Nat) : Int)).toNat % 2 ^ 3 := by
    rw [BitVec.toNat_and, BitVec.toNat_ofInt, h7, Nat.and_two_pow_sub_one_eq_mod]
  show IntKind.i64.wrap ((BitVec.ofInt 64 n &&& BitVec.ofInt 64 7).toNat : Nat) = n % 8
  rw [key, IntKind.wrap_i64]
  omega
theorem i64_and65535 (n : Int) : bits .and .i64 n 65535 = n % 65536 := by
  have h7 : (BitVec.ofInt 64 65535).toNat = 2 ^ 16 - 1 := by decide
  have key : (BitVec.ofInt 64 n &&& BitVec.ofInt 64 65535).toNat = (n % ((2 ^ 64 : Nat) : Int)).toNat % 2 ^ 16 := by
    rw [BitVec.toNat_and, BitVec.toNat_ofInt, h7, Nat.and_two_pow_sub_one_eq_mod]
  show IntKind.i64.wrap ((BitVec.ofInt 64 n &&& BitVec.ofInt 64 65535).toNat : Nat) = n % 65536
  rw [key, IntKind.wrap_i64]
  omega

/-- A step of the script. -/
structure StA where
  dk : Int
  num : Int
  bo : Option Addr
  bc : Nat
  bs : List UInt8
def StA.vals (x : StA) : List Value := [.int .i64 x.dk, .int .i64 x.num, .slice x.bo x.bs.length x.bc]
structure StsAt (w : World) (so : Option Addr) (xs : List StA) : Prop where
  cells : 0 < xs.length → ∃ b off, so = some ⟨b, off, none⟩ ∧ ∀ i (h : i < xs.length), ∀ j, j < 3 → w.cell? ⟨b, off + (i * 3 + j), none⟩ = xs[i].vals[j]?
  bat : ∀ x ∈ xs, BAt w x.bo x.bc x.bs
  small : xs.length ≤ 140737488355328

/-- LinkOnce's state. -/
structure OV where
  R : Nat → Nat
  q : Nat
  s : Snd
  n : Int
  io : Option Addr
  ic : Nat
  ib : Nat
  es : List (Option Addr × Nat)
  its : List (List UInt8)
  fo : Option Addr
  fc : Nat
  fb : Nat
  hs : List (Option Addr × Nat)
  fs : List Fm
  ao : Option Addr
  ac : Nat
  ab : Nat
  aks : List Int
  tko : Option Addr
  tc : Nat
  tb : Nat
  tk : List Bool
  g : Nat
  l : Nat
abbrev OV.Os (x : OV) (w : World) (p m : Nat) (wr : World) : Prop := OS w x.R p m x.q x.s x.n x.io x.ic x.ib x.es x.its x.fo x.fc x.fb x.hs x.fs x.ao x.ac x.ab x.aks x.tko x.tc x.tb x.tk wr
abbrev OV.Li (x : OV) : Prop := LI x.its x.fs x.aks x.tk x.g x.l x.n
structure OV.Ok (x : OV) (w : World) (p m i : Nat) (wr : World) : Prop where
  os : x.Os w p m wr
  li : x.Li
  b1 : x.its.length ≤ i
  b2 : x.fs.length ≤ 64 * i
  b3 : x.aks.length ≤ i
  b4 : x.s.clk ≤ (i : Int)
  b5 : x.s.sent.length ≤ 64 * i
  sb : x.s.bat ≤ 8 ∧ x.s.win ≤ 64
def OV.v12 (x : OV) : Value := .pointer (some ⟨x.q, 0, none⟩)
def OV.v13 (x : OV) : Value := .slice x.io x.its.length x.ic
def OV.v14 (x : OV) : Value := .slice x.fo x.fs.length x.fc
def OV.v15 (x : OV) : Value := .slice x.ao x.aks.length x.ac
def OV.v16 (x : OV) : Value := .slice x.tko x.tk.length x.tc

theorem tick_sent (s : Snd) (its : List Itm) : (tickF s its).1.clk = s.clk + 1 ∧ (tickF s its).1.bat = s.bat ∧ (tickF s its).1.win = s.win ∧ (tickF s its).1.evy = s.evy ∧ (s.win ≤ 64 → (tickF s its).1.sent.length ≤ s.sent.length + 64) := by
  unfold tickF
  split
  · refine ⟨rfl, rfl, rfl, rfl, fun hw => ?_⟩
    have key : ∀ (l : List Itm) (st : List (Int × Int) × List Fm), (l.foldl (stepT { s with clk := s.clk + 1 } (baseOf its)) st).1.length ≤ st.1.length + l.length := by
      intro l
      induction l with
      | nil => intro st; simp
      | cons x r ih =>
        intro st
        rw [List.foldl_cons]
        have h1 := ih (stepT { s with clk := s.clk + 1 } (baseOf its) st x)
        have h2 : (stepT { s with clk := s.clk + 1 } (baseOf its) st x).1.length ≤ st.1.length + 1 := by
          unfold stepT
          split
          · omega
          · simp
        simp only [List.length_cons]
        omega
    have h3 := key (its.take s.win.toNat) (s.sent.filter (keepS its (s.clk + 1) s.evy), [])
    have h4 := List.length_filter_le (keepS its (s.clk + 1) s.evy) s.sent
    rw [List.length_take] at h3
    simp only at h3 ⊢
    omega
  · exact ⟨rfl, rfl, rfl, rfl, fun _ => by simp⟩

end Go.Proofs.YtphkjeeblihfgaaDoor

