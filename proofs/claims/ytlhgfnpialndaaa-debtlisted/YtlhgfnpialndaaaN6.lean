import Derived.Test.YtlhgfnpialndaaaN5
/- Records that hold lists: deltas, outages, tariffs; read and written. -/
namespace Go.Proofs.Ytlhgfnpialndaaa
open Go.RowKit

/-- A list that was made behind w0. -/
structure KL (w0 w : World) (ao : Option Addr) (cap gl k : Nat) (vs : List Value) : Prop where
  row : KRow w ao cap gl k vs
  new : 0 < cap → w0.heap.size ≤ gl

theorem KL.frame {w0 w w' : World} {ao : Option Addr} {cap gl k p b : Nat} {vs : List Value} (h : KL w0 w ao cap gl k vs) (hk : 0 < k) (hf : Fr (fun q => q = p ∨ q = b) w w') (hp : p < w0.heap.size) (hb : b < w0.heap.size) : KL w0 w' ao cap gl k vs :=
  ⟨h.row.stay (fun hc => hf.block gl (h.row.lt hk hc) (by have := h.new hc; omega)), h.new⟩

theorem KL.later {w0 w1 w : World} {ao : Option Addr} {cap gl k : Nat} {vs : List Value} (h : KL w1 w ao cap gl k vs) (hs : w0.heap.size ≤ w1.heap.size) : KL w0 w ao cap gl k vs := ⟨h.row, fun hc => Nat.le_trans hs (h.new hc)⟩

theorem Most.list (ks : List Kd) (rs : List (List Value)) : Most (wrM ks rs) (2 + rs.length * wide ks) := (Most.count _).step (Most.wrN ks rs)

def deltaQ0 (bs : List UInt8) (s : RS) : List Value × RS := rdL bs (List.replicate 1 (.num 8)) s
def deltaS1 (bs : List UInt8) (s : RS) : RS := (deltaQ0 bs s).2
def deltaQ1 (bs : List UInt8) (s : RS) : List (List Value) × RS := rdM bs 1000 tokenK (deltaS1 bs s)
def deltaS2 (bs : List UInt8) (s : RS) : RS := (deltaQ1 bs s).2
def deltaQ2 (bs : List UInt8) (s : RS) : List (List Value) × RS := rdM bs 1000 tokenK (deltaS2 bs s)
def deltaS3 (bs : List UInt8) (s : RS) : RS := (deltaQ2 bs s).2

def tariffQ0 (bs : List UInt8) (s : RS) : List (List Value) × RS := rdM bs 200 stationK s
def tariffS1 (bs : List UInt8) (s : RS) : RS := (tariffQ0 bs s).2
def tariffQ1 (bs : List UInt8) (s : RS) : List (List Value) × RS := rdM bs 45 spanK (tariffS1 bs s)
def tariffS2 (bs : List UInt8) (s : RS) : RS := (tariffQ1 bs s).2
def tariffQ2 (bs : List UInt8) (s : RS) : List (List Value) × RS := rdM bs 8 bandK (tariffS2 bs s)
def tariffS3 (bs : List UInt8) (s : RS) : RS := (tariffQ2 bs s).2
def tariffQ3 (bs : List UInt8) (s : RS) : Value × RS := Kd.rd bs (.float) (tariffS3 bs s)
def tariffS4 (bs : List UInt8) (s : RS) : RS := (tariffQ3 bs s).2
def tariffQ4 (bs : List UInt8) (s : RS) : List Value × RS := rdL bs (List.replicate 3 (.num 4)) (tariffS4 bs s)
def tariffS5 (bs : List UInt8) (s : RS) : RS := (tariffQ4 bs s).2
def tariffQ5 (bs : List UInt8) (s : RS) : List Value × RS := rdL bs (List.replicate 1 (.num 2)) (tariffS5 bs s)
def tariffS6 (bs : List UInt8) (s : RS) : RS := (tariffQ5 bs s).2
def tariffQ6 (bs : List UInt8) (s : RS) : List Value × RS := rdL bs (List.replicate 1 (.num 4)) (tariffS6 bs s)
def tariffS7 (bs : List UInt8) (s : RS) : RS := (tariffQ6 bs s).2
def tariffQ7 (bs : List UInt8) (s : RS) : List Value × RS := rdL bs (List.replicate 4 (.num 2)) (tariffS7 bs s)
def tariffS8 (bs : List UInt8) (s : RS) : RS := (tariffQ7 bs s).2
def tariffQ8 (bs : List UInt8) (s : RS) : List Value × RS := rdL bs (List.replicate 1 (.num 4)) (tariffS8 bs s)
def tariffS9 (bs : List UInt8) (s : RS) : RS := (tariffQ8 bs s).2

end Go.Proofs.Ytlhgfnpialndaaa

