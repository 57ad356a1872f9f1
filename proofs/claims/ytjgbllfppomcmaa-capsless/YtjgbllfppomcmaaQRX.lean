import Derived.Test.YtjgbllfppomcmaaQSX
/- The document's sums: Right, Add, Sub, Sum. -/
namespace Go.Proofs.Ytjgbllfppomcmaa
open Go.RowKit

end Go.Proofs.Ytjgbllfppomcmaa

/- The document's rates: parts, Rate. -/
namespace Go.Proofs.Ytjgbllfppomcmaa
open Go.RowKit

theorem results_tmp4 {fn : Func} {t u v x : Tmp} (h : fn.results = #[.tmp t, .tmp u, .tmp v, .tmp x]) (tmps : Array Value) (P : Program) (w : World) :
    (results fn tmps).run P w = .ok (.tuple #[tmps.getD t undef, tmps.getD u undef, tmps.getD v undef, tmps.getD x undef]) w := by
  simp [results, h]

/-- A float's parts: sign, whole number, power, whether it is one. -/
def pSign (b : Nat) : Bool := decide (9223372036854775808 ≤ b)
def pExp (b : Nat) : Nat := b / 4503599627370496 % 2048
def pWhole (b : Nat) : Nat := if pExp b = 2047 then b % 4503599627370496 else if pExp b = 0 then b % 4503599627370496 else b % 4503599627370496 + 4503599627370496
def pPower (b : Nat) : Int := if pExp b = 2047 then 0 else if pExp b = 0 then -1074 else (pExp b : Int) - 1075
def pOk (b : Nat) : Bool := decide (pExp b ≠ 2047)

theorem rate_parts (b : Nat) (hb : b < 18446744073709551616) : rate b = (pOk b && !pSign b && (decide (pPower b < -52) || (decide (pPower b = -52) && decide (pWhole b = 4503599627370496)) || decide (pWhole b = 0))) := by
  unfold rate pOk pSign pPower pWhole
  have he : pExp b = b / 4503599627370496 % 2048 := rfl
  rw [Bool.eq_iff_iff]
  by_cases h1 : pExp b = 2047
  · simp [h1]; omega
  · by_cases h0 : pExp b = 0
    · simp [h0]; omega
    · simp [h1, h0]; omega

end Go.Proofs.Ytjgbllfppomcmaa

/- The document's order of all floats: rank, Order. -/
namespace Go.Proofs.Ytjgbllfppomcmaa
open Go.RowKit

def rk (s : Bool) (q : Nat) (o : Bool) : Int :=
  if !o && decide (0 < q) then 6 else if !o && s then 0 else if !o then 5 else if decide (q = 0) && s then 2 else if decide (q = 0) then 3 else if s then 1 else 4

theorem kind_parts (b : Nat) (hb : b < 18446744073709551616) : kindN b = rk (pSign b) (pWhole b) (pOk b) := by
  have he : pExp b = b / 4503599627370496 % 2048 := rfl
  unfold rk pSign pWhole pOk kindN
  by_cases h1 : pExp b = 2047
  · simp only [h1, if_true, ne_eq, not_true_eq_false, decide_false, Bool.not_false, Bool.true_and, decide_eq_true_eq]
    repeat' split
    all_goals first | rfl | omega
  · by_cases h0 : pExp b = 0
    · have h2 : ¬ (0 = 2047) := by omega
      simp only [h0, h2, if_true, if_false, ne_eq, not_false_eq_true, decide_true, Bool.not_true, Bool.false_and, Bool.false_eq_true, Bool.and_eq_true, decide_eq_true_eq]
      repeat' split
      all_goals first | rfl | omega
    · simp only [h1, h0, if_false, ne_eq, not_false_eq_true, decide_true, Bool.not_true, Bool.false_and, Bool.false_eq_true, Bool.and_eq_true, decide_eq_true_eq]
      repeat' split
      all_goals first | rfl | omega

theorem lss_order (a b : Nat) (c : Ordering) (h : Ieee.double.order a b = some c) (t : TypeId) : binOp .lss t (.float .f64 a) (.float .f64 b) = pure (.bool (c == .lt)) := by
  rw [binOp_float_cmp_lss]
  refine congrArg (fun z => pure (Value.bool z)) ?_
  show (Ieee.double.order a b == some .lt) = (c == .lt)
  rw [h]
  cases c <;> rfl
theorem gtr_order (a b : Nat) (c : Ordering) (h : Ieee.double.order a b = some c) (t : TypeId) : binOp .gtr t (.float .f64 a) (.float .f64 b) = pure (.bool (c == .gt)) := by
  rw [binOp_float_cmp_gtr]
  refine congrArg (fun z => pure (Value.bool z)) ?_
  show (Ieee.double.order a b == some .gt) = (c == .gt)
  rw [h]
  cases c <;> rfl

theorem cmp_cases (a b : Nat) : (compare a b = .lt ∧ cmpN a b = -1) ∨ (compare a b = .eq ∧ cmpN a b = 0) ∨ (compare a b = .gt ∧ cmpN a b = 1) := by
  have hc : compare a b = compareOfLessAndEq a b := rfl
  unfold cmpN
  rw [hc]
  unfold compareOfLessAndEq
  rcases Nat.lt_trichotomy a b with h | h | h
  · exact .inl ⟨by rw [if_pos h], by rw [if_pos h]⟩
  · exact .inr (.inl ⟨by rw [if_neg (by omega), if_pos h], by rw [if_neg (by omega), if_neg (by omega)]⟩)
  · exact .inr (.inr ⟨by rw [if_neg (by omega), if_neg (by omega)], by rw [if_neg (by omega), if_pos h]⟩)

end Go.Proofs.Ytjgbllfppomcmaa

