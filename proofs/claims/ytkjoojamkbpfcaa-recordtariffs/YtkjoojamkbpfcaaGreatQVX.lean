import Derived.Test.YtkjoojamkbpfcaaGreatQT2
import Derived.Laws.Rows
import Derived.Laws.Tables
import Derived.Test.YtkjoojamkbpfcaaGreatQSX
import Derived.Test.YtkjoojamkbpfcaaGreatQY
import Derived.Test.YtkjoojamkbpfcaaGreatQK1
import Derived.Deep.RegionHeld3
import Derived.Test.YtkjoojamkbpfcaaGreatQU2
import Derived.Test.YtkjoojamkbpfcaaGreatQE1
import Derived.Deep.QuietTactic
import Derived.BigQuiet
/- A tariff's box: loaded and stored as a whole. -/
namespace Go.Proofs.YtkjoojamkbpfcaaGreat
open Go.RowKit

/-- The box of a tariff. -/
def TB (w : World) (g : Nat) (A : Ad) (t : Tf) : Prop := w.heap[g]? = some (.cells (tc A t) 27 (0, 0))

theorem TB.new (w : World) (A : Ad) (t : Tf) : TB (w.alloc (.cells (tc A t) 27)) w.heap.size A t := by
  unfold TB
  exact heap_new w _

theorem TB.lt {w : World} {g : Nat} {A : Ad} {t : Tf} (h : TB w g A t) : g < w.heap.size := (Array.getElem?_eq_some_iff.1 h).1

theorem TB.frame {S : Nat → Prop} {w w' : World} {g : Nat} {A : Ad} {t : Tf} (h : TB w g A t) (hf : Fr S w w') (hS : ¬ S g) : TB w' g A t := (hf.block g h.lt hS).trans h
theorem TB.keep {w w' : World} {g : Nat} {A : Ad} {t : Tf} (h : TB w g A t) (hf : Fr (fun _ => False) w w') : TB w' g A t := h.frame hf (fun t => t)

theorem TB.cell {w : World} {g : Nat} {A : Ad} {t : Tf} (h : TB w g A t) (k : Nat) : w.cell? ⟨g, k, none⟩ = (tc A t)[k]? := by
  have h' : w.heap[g]? = some (.cells (tc A t) 27 (0, 0)) := h
  simp [World.cell?, h']

theorem TB.frozen {w : World} {g : Nat} {A : Ad} {t : Tf} (h : TB w g A t) (k : Nat) : w.frozen? ⟨g, k, none⟩ = false := by
  have h' : w.heap[g]? = some (.cells (tc A t) 27 (0, 0)) := h
  simp [World.frozen?, h']

theorem tb_size (A : Ad) (t : Tf) : (Tryz.prog.info? 27).map (·.size) = some (tc A t).size := by
  have h : (Tryz.prog.info? 27).map (·.size) = some 14 := by kernel_rfl
  exact h

theorem tb_one (A : Ad) (t : Tf) : (tc A t).all (·.oneCell') = true := by simp [tc, Value.oneCell']

/-- A tariff loaded out of its box. -/
theorem wpList_load_tariff {ops : Array Oper} {rest : List Oper} {o : Oper} {a : Act} {w : World} {Q : Exit → Act → World → Prop} (hgd : o.guard = none) (x : Operand) (ho : o.op = .load 27 x)
    {g : Nat} {A : Ad} {t : Tf} (hx : a.eval x = .pointer (some ⟨g, 0, none⟩)) (hg : TB w g A t) (h : wpList Tryz.prog ops Q rest (a.put o.dst (tv A t)) w) : wpList Tryz.prog ops Q (o :: rest) a w :=
  wpList_load_row hgd 27 x ho g hx 27 (tc A t) (0, 0) _ hg Tryz.underlying27 rfl (tb_size A t) h

/-- A tariff stored into a box. -/
theorem wpList_store_tariff {ops : Array Oper} {rest : List Oper} {o : Oper} {a : Act} {w : World} {Q : Exit → Act → World → Prop} (hgd : o.guard = none) (x y : Operand) (ho : o.op = .store 27 x y)
    {g : Nat} {A : Ad} {t : Tf} (hx : a.eval x = .pointer (some ⟨g, 0, none⟩)) (hy : a.eval y = tv A t) (old : Array Value) (hg : w.heap[g]? = some (.cells old 27 (0, 0))) (hold : old.size = 14)
    (h : wpList Tryz.prog ops Q rest (a.put o.dst undef) (w.setRow g (tc A t))) : wpList Tryz.prog ops Q (o :: rest) a w :=
  wpList_store_row hgd 27 x y ho g (tc A t) hx hy 27 old hg (tb_size A t) hold (tb_one A t) h

theorem TB.set {w : World} {g : Nat} {old : Array Value} (hg : w.heap[g]? = some (.cells old 27 (0, 0))) (A : Ad) (t : Tf) : TB (w.setRow g (tc A t)) g A t := setRow_heap _ _ _ _ _ _ hg

theorem results_tariff {fn : Func} {p : Tmp} (h : fn.results = #[.cell p 27]) (tmps : Array Value) (w : World) {g : Nat} {A : Ad} {t : Tf} (hp : tmps.getD p undef = .pointer (some ⟨g, 0, none⟩)) (hg : TB w g A t) :
    (results fn tmps).run Tryz.prog w = .ok (tv A t) w := results_cell_row h tmps w g 27 (tc A t) (0, 0) _ hp hg Tryz.underlying27 rfl (tb_size A t)

end Go.Proofs.YtkjoojamkbpfcaaGreat

/- The document's sums: Right, Add, Sub, Sum. -/
namespace Go.Proofs.YtkjoojamkbpfcaaGreat
open Go.RowKit

end Go.Proofs.YtkjoojamkbpfcaaGreat

/- The document's rates: parts, Rate. -/
namespace Go.Proofs.YtkjoojamkbpfcaaGreat
open Go.RowKit

theorem results_tmp4 {fn : Func} {t u v x : Tmp} (h : fn.results = #[.tmp t, .tmp u, .tmp v, .tmp x]) (tmps : Array Value) (P : Program) (w : World) :
    (results fn tmps).run P w = .ok (.tuple #[tmps.getD t undef, tmps.getD u undef, tmps.getD v undef, tmps.getD x undef]) w := by
  simp [results, h]

/-- A float's parts: sign, whole number, power, whether it is one. -/
def pSign (b : Nat) : Bool := decide (9223372036854775808 ≤ b)
def pExp (b : Nat) : Nat := b / 4503599627370496 % 2048
def pWhole (b : Nat) : Nat := if pExp b = 2047 then b % 4503599627370496 else if pExp b = 0 then b % 4503599627370496 else b % 4503599627370496 + 4503599627370496
def pPower (b : Nat) : Int := if pExp b = 2047 then 0 else if pExp b = 0 then -1074 else (pExp b : Int) - 1075
def pOk (b : Nat) : Bool := decide (pExp b ≠ 2047)

theorem parts_any (w : World) (b : Nat) (hb : b < 18446744073709551616) :
    Calls Tryz.prog 99 #[.float .f64 b] w fun e w' => e = .returned (.tuple #[.bool (pSign b), .int .u64 ((pWhole b : Nat) : Int), .int .i64 (pPower b), .bool (pOk b)]) ∧ w' = w := by
  have c1 := fun w => call31 b w
  have HS : Hid (((b : Int) / 9223372036854775808 == 1) = pSign b) := by
    unfold Hid pSign
    rw [Bool.eq_iff_iff]
    simp
    omega
  have he : ((b : Int) / 4503599627370496 % 2048) = ((pExp b : Nat) : Int) := by simp [pExp]
  by_cases h1 : pExp b = 2047
  · have hx : ((b : Int) / 4503599627370496 % 2048) = 2047 := by omega
    have HV : Hid (pWhole b = b % 4503599627370496 ∧ pPower b = 0 ∧ pOk b = false) := by simp [Hid, pWhole, pPower, pOk, h1]
    clear h1 he
    go_enter Tryz.func99, Tryz.ntmps99
    go_wp2
    refine bodyPost_ret (results_tmp4 rfl _ _ _) rfl ?_
    refine ⟨?_, rfl⟩
    rw [(unhide HV).1, (unhide HV).2.1, (unhide HV).2.2, ← unhide HS]
    rfl
  · by_cases h0 : pExp b = 0
    · have hx : ((b : Int) / 4503599627370496 % 2048) = 0 := by omega
      have HV : Hid (pWhole b = b % 4503599627370496 ∧ pPower b = -1074 ∧ pOk b = true) := by simp [Hid, pWhole, pPower, pOk, h0]
      clear h1 h0 he
      go_enter Tryz.func99, Tryz.ntmps99
      go_wp2
      refine bodyPost_ret (results_tmp4 rfl _ _ _) rfl ?_
      refine ⟨?_, rfl⟩
      rw [(unhide HV).1, (unhide HV).2.1, (unhide HV).2.2, ← unhide HS]
      rfl
    · have hx : ((b : Int) / 4503599627370496 % 2048 == 0) = false := by rw [he]; simp; exact h0
      have hy : ((b : Int) / 4503599627370496 % 2048 == 2047) = false := by
        rw [he]
        have : ¬ ((pExp b : Nat) : Int) = 2047 := by omega
        simpa using this
      have HV : Hid (((pWhole b : Nat) : Int) = (b : Int) % 4503599627370496 + 4503599627370496 ∧ pPower b = (b : Int) / 4503599627370496 % 2048 - 1075 ∧ pOk b = true) := by
        rw [he]
        simp [Hid, pWhole, pPower, pOk, h0, h1]
      clear h1 h0 he
      go_enter Tryz.func99, Tryz.ntmps99
      go_wp2
      refine bodyPost_ret (results_tmp4 rfl _ _ _) rfl ?_
      refine ⟨?_, rfl⟩
      rw [(unhide HV).1, (unhide HV).2.1, (unhide HV).2.2, ← unhide HS]
      rfl

theorem rate_parts (b : Nat) (hb : b < 18446744073709551616) : rate b = (pOk b && !pSign b && (decide (pPower b < -52) || (decide (pPower b = -52) && decide (pWhole b = 4503599627370496)) || decide (pWhole b = 0))) := by
  unfold rate pOk pSign pPower pWhole
  have he : pExp b = b / 4503599627370496 % 2048 := rfl
  rw [Bool.eq_iff_iff]
  by_cases h1 : pExp b = 2047
  · simp [h1]; omega
  · by_cases h0 : pExp b = 0
    · simp [h0]; omega
    · simp [h1, h0]; omega

theorem rrate_any (w : World) (b : Nat) (hb : b < 18446744073709551616) : Calls Tryz.prog 59 #[.float .f64 b] w fun e w' => e = .returned (.bool (rate b)) ∧ w' = w := by
  have R := parts_any w b hb
  have HP := hide (rate_parts b hb)
  have hw : pWhole b < 9007199254740992 := by unfold pWhole; split; omega; split <;> omega
  generalize pSign b = s at R HP
  generalize pOk b = o at R HP
  generalize pWhole b = q at R HP hw
  generalize pPower b = p at R HP
  generalize rate b = r at HP ⊢
  go_enter Tryz.func59, Tryz.ntmps59
  go_wp2_with fail
  refine R.mono ?_
  rintro e w1 ⟨rfl, rfl⟩
  cases o with
  | false =>
    go_wp2
    go_ret
    exact ⟨by rw [unhide HP]; rfl, rfl⟩
  | true =>
    cases s with
    | true =>
      go_wp2
      go_ret
      exact ⟨by rw [unhide HP]; rfl, rfl⟩
    | false =>
      go_wp2
      all_goals
        go_ret
        refine ⟨?_, rfl⟩
        rw [unhide HP]
        first
          | (simp_all; done)
          | (simp_all; omega)
          | (simp_all; rw [Bool.eq_iff_iff]; simp; done)
          | (simp_all; rw [Bool.eq_iff_iff]; simp; omega)

end Go.Proofs.YtkjoojamkbpfcaaGreat

/- The document's order of all floats: rank, Order. -/
namespace Go.Proofs.YtkjoojamkbpfcaaGreat
open Go.RowKit

def rk (s : Bool) (q : Nat) (o : Bool) : Int :=
  if !o && decide (0 < q) then 6 else if !o && s then 0 else if !o then 5 else if decide (q = 0) && s then 2 else if decide (q = 0) then 3 else if s then 1 else 4

theorem kind_parts (b : Nat) (hb : b < 18446744073709551616) : kindN b = rk (pSign b) (pWhole b) (pOk b) := by
  have he : pExp b = b / 4503599627370496 % 2048 := rfl
  unfold rk pSign pWhole pOk kindN
  by_cases h1 : pExp b = 2047
  · simp only [h1, if_true, ne_eq, not_true_eq_false, decide_false, Bool.not_false, Bool.true_and, decide_eq_true_eq]
    repeat' split
    all_goals first | rfl | omega
  · by_cases h0 : pExp b = 0
    · have h2 : ¬ (0 = 2047) := by omega
      simp only [h0, h2, if_true, if_false, ne_eq, not_false_eq_true, decide_true, Bool.not_true, Bool.false_and, Bool.false_eq_true, Bool.and_eq_true, decide_eq_true_eq]
      repeat' split
      all_goals first | rfl | omega
    · simp only [h1, h0, if_false, ne_eq, not_false_eq_true, decide_true, Bool.not_true, Bool.false_and, Bool.false_eq_true, Bool.and_eq_true, decide_eq_true_eq]
      repeat' split
      all_goals first | rfl | omega

theorem rrank_any (w : World) (b : Nat) (hb : b < 18446744073709551616) : Calls Tryz.prog 72 #[.float .f64 b] w fun e w' => e = .returned (.int .i64 (kindN b)) ∧ w' = w := by
  have R := parts_any w b hb
  have HK := hide (kind_parts b hb)
  have hq : pWhole b = 0 ∨ 0 < pWhole b := by omega
  generalize kindN b = k at *
  generalize pSign b = s at *
  generalize pWhole b = q at *
  generalize pPower b = p at *
  generalize pOk b = o at *
  go_enter Tryz.func72, Tryz.ntmps72
  go_wp2_with fail
  refine R.mono ?_
  rintro e w1 ⟨rfl, rfl⟩
  clear R
  cases o with
  | false =>
    cases s with
    | false =>
      rcases hq with rfl | hq
      · go_wp2
        go_ret
        exact ⟨by rw [unhide HK]; rfl, rfl⟩
      · go_wp2
        go_ret
        exact ⟨by rw [unhide HK]; simp [rk, hq], rfl⟩
    | true =>
      rcases hq with rfl | hq
      · go_wp2
        go_ret
        exact ⟨by rw [unhide HK]; rfl, rfl⟩
      · go_wp2
        go_ret
        exact ⟨by rw [unhide HK]; simp [rk, hq], rfl⟩
  | true =>
    cases s with
    | false =>
      rcases hq with rfl | hq
      · go_wp2
        go_ret
        exact ⟨by rw [unhide HK]; rfl, rfl⟩
      · have h0 : ((q : Int) == 0) = false := by simp; omega
        go_wp2
        go_ret
        exact ⟨by rw [unhide HK]; simp [rk, show ¬ q = 0 by omega], rfl⟩
    | true =>
      rcases hq with rfl | hq
      · go_wp2
        go_ret
        exact ⟨by rw [unhide HK]; rfl, rfl⟩
      · have h0 : ((q : Int) == 0) = false := by simp; omega
        go_wp2
        go_ret
        exact ⟨by rw [unhide HK]; simp [rk, show ¬ q = 0 by omega], rfl⟩

theorem lss_order (a b : Nat) (c : Ordering) (h : Ieee.double.order a b = some c) (t : TypeId) : binOp .lss t (.float .f64 a) (.float .f64 b) = pure (.bool (c == .lt)) := by
  rw [binOp_float_cmp_lss]
  refine congrArg (fun z => pure (Value.bool z)) ?_
  show (Ieee.double.order a b == some .lt) = (c == .lt)
  rw [h]
  cases c <;> rfl
theorem gtr_order (a b : Nat) (c : Ordering) (h : Ieee.double.order a b = some c) (t : TypeId) : binOp .gtr t (.float .f64 a) (.float .f64 b) = pure (.bool (c == .gt)) := by
  rw [binOp_float_cmp_gtr]
  refine congrArg (fun z => pure (Value.bool z)) ?_
  show (Ieee.double.order a b == some .gt) = (c == .gt)
  rw [h]
  cases c <;> rfl

theorem cmp_cases (a b : Nat) : (compare a b = .lt ∧ cmpN a b = -1) ∨ (compare a b = .eq ∧ cmpN a b = 0) ∨ (compare a b = .gt ∧ cmpN a b = 1) := by
  have hc : compare a b = compareOfLessAndEq a b := rfl
  unfold cmpN
  rw [hc]
  unfold compareOfLessAndEq
  rcases Nat.lt_trichotomy a b with h | h | h
  · exact .inl ⟨by rw [if_pos h], by rw [if_pos h]⟩
  · exact .inr (.inl ⟨by rw [if_neg (by omega), if_pos h], by rw [if_neg (by omega), if_neg (by omega)]⟩)
  · exact .inr (.inr ⟨by rw [if_neg (by omega), if_neg (by omega)], by rw [if_neg (by omega), if_pos h]⟩)

theorem rorder_any (w : World) (a b : Nat) (ha : a < 18446744073709551616) (hb : b < 18446744073709551616) : Calls Tryz.prog 30 #[.float .f64 a, .float .f64 b] w fun e w' => e = .returned (.int .i64 (ordN a b)) ∧ w' = w := by
  have R1 := rrank_any w a ha
  have R2 := rrank_any w b hb
  by_cases hk : kindN a = kindN b
  · have hab : ((kindN a = 1 ∨ kindN a = 4) ∧ ∃ c : Ordering, Ieee.double.order a b = some c ∧ ((c = .lt ∧ ordN a b = -1) ∨ (c = .eq ∧ ordN a b = 0) ∨ (c = .gt ∧ ordN a b = 1))) ∨ (kindN a ≠ 1 ∧ kindN a ≠ 4 ∧ ordN a b = 0) := by
      by_cases h4 : kindN a = 4
      · obtain ⟨l1, l2, e⟩ := ord_four ha hb h4 (by omega)
        refine .inl ⟨.inr h4, _, order_pos l1 l2, ?_⟩
        rw [e]
        exact cmp_cases a b
      · by_cases h1 : kindN a = 1
        · obtain ⟨r, s, l1, l2, e1, e2, e⟩ := ord_one ha hb h1 (by omega)
          refine .inl ⟨.inl h1, _, by rw [e1, e2]; exact order_neg l1 l2, ?_⟩
          rw [e]
          exact cmp_cases s r
        · exact .inr ⟨h1, h4, ord_plain ha hb hk h1 h4⟩
    rw [← hk] at R2
    rcases hab with ⟨hkk, c, ho, hc⟩ | ⟨h1, h4, e⟩
    · have o1 := lss_order a b c ho
      have o2 := gtr_order a b c ho
      clear ho hk
      generalize kindN a = k at *
      generalize ordN a b = z at *
      rcases hc with ⟨rfl, rfl⟩ | ⟨rfl, rfl⟩ | ⟨rfl, rfl⟩ <;> rcases hkk with rfl | rfl
      all_goals
        go_enter Tryz.func30, Tryz.ntmps30
        go_wp2_with fail
        refine R1.mono ?_
        rintro e w1 ⟨rfl, rfl⟩
        go_wp2_with fail
        refine R2.mono ?_
        rintro e w1 ⟨rfl, rfl⟩
        go_wp2
        go_ret
        exact ⟨rfl, rfl⟩
    · rw [e]
      generalize kindN a = k at *
      have n1 : (k != 1) = true := by simpa using h1
      have n4 : (k != 4) = true := by simpa using h4
      clear hk e
      go_enter Tryz.func30, Tryz.ntmps30
      go_wp2_with fail
      refine R1.mono ?_
      rintro e w1 ⟨rfl, rfl⟩
      go_wp2_with fail
      refine R2.mono ?_
      rintro e w1 ⟨rfl, rfl⟩
      go_wp2
      go_ret
      exact ⟨rfl, rfl⟩
  · have e := ord_kind ha hb hk
    rw [e]
    generalize kindN a = x at *
    generalize kindN b = y at *
    clear e
    by_cases hlt : x < y
    · rw [if_pos hlt]
      go_enter Tryz.func30, Tryz.ntmps30
      go_wp2_with fail
      refine R1.mono ?_
      rintro e w1 ⟨rfl, rfl⟩
      go_wp2_with fail
      refine R2.mono ?_
      rintro e w1 ⟨rfl, rfl⟩
      go_wp2
      go_ret
      exact ⟨rfl, rfl⟩
    · rw [if_neg hlt]
      have hgt : y < x := by omega
      go_enter Tryz.func30, Tryz.ntmps30
      go_wp2_with fail
      refine R1.mono ?_
      rintro e w1 ⟨rfl, rfl⟩
      go_wp2_with fail
      refine R2.mono ?_
      rintro e w1 ⟨rfl, rfl⟩
      go_wp2
      go_ret
      exact ⟨rfl, rfl⟩

end Go.Proofs.YtkjoojamkbpfcaaGreat

/- The document's own looks: minutes, bands, stations. -/
namespace Go.Proofs.YtkjoojamkbpfcaaGreat
open Go.RowKit

theorem rminutes_any (w : World) (n l : Int) : Calls Tryz.prog 60 #[.int .i64 n, .int .i64 l] w fun e w' => e = .returned (.bool (decide (l ≤ n) && decide (n ≤ 1440))) ∧ w' = w := by
  by_cases h1 : l ≤ n
  · by_cases h2 : n ≤ 1440
    all_goals
      go_enter Tryz.func60, Tryz.ntmps60
      go_wp2
      go_ret
      exact ⟨by first | (simp; done) | (simp; omega) | simp_all, rfl⟩
  · go_enter Tryz.func60, Tryz.ntmps60
    go_wp2
    go_ret
    exact ⟨by first | (simp; done) | (simp; omega) | simp_all, rfl⟩

set_option maxHeartbeats 4000000 in
theorem rbands_any (w : World) (ao : Option Addr) (cap : Nat) (l : List (Int × Int)) (h : CAt w ao (bdV l)) (hl : (l.length + 1) * 16 ≤ 140737488355328) :
    Calls Tryz.prog 58 #[.slice ao l.length cap] w fun e w' => e = .returned (.bool (bandsOk l)) ∧ Fr (fun _ => False) w w' := by
  by_cases h200 : l.length ≤ 8
  · have HE : Hid (bandsOk l = bdOk 0 l) := hide (by simp [bandsOk, h200])
    have H := hide h
    clear h
    go_enter Tryz.func58, Tryz.ntmps58
    go_wp2
    go_loopw [3, 4] (fun av iv wr => ∃ (i : Nat) (a : Int), i ≤ l.length ∧ iv = .int .i64 i ∧ av = .int .i64 a ∧ Hid (Fr (fun _ => False) w wr ∧ bdOk a (l.drop i) = bdOk 0 l)) (fun _ iv _ => l.length - (intOf iv).toNat)
    case atStart => exact ⟨0, 0, Nat.zero_le _, rfl, rfl, Fr.refl _ _, by simp⟩
    case round =>
      obtain ⟨i, a, hi, rfl, rfl, HI⟩ := hrel
      by_cases hil : i < l.length
      · obtain ⟨b, off, rfl, c0, c1⟩ := ((unhide H).keep (unhide HI).1).bd hil
        have ht := (unhide HI).2
        rw [List.drop_eq_getElem_cons hil] at ht
        have HF := hide (unhide HI).1
        generalize l[i] = s at *
        obtain ⟨x0, x1⟩ := s
        have HT : Hid (bdOk 0 l = (bdGood a ⟨x0, x1⟩ && bdOk x1 (l.drop (i + 1)))) := hide ht.symm
        clear ht HI
        rcases bdGood_cases a ⟨x0, x1⟩ with ⟨hg, k1, k2, k3⟩ | ⟨hg, k⟩
        · have HT' : Hid (bdOk x1 (l.drop (i + 1)) = bdOk 0 l) := hide (by rw [unhide HT, hg]; rfl)
          clear HT hg
          simp only at k1 k2 k3
          go_wp2
          go_quiet (fail)
          go_wp2
          exact ⟨⟨i + 1, x1, by omega, by go_num, rfl, (unhide HF).drewN _, unhide HT'⟩, by simp [intOf]; omega⟩
        · have HT' : Hid (bandsOk l = false) := hide (by rw [unhide HE, unhide HT, hg]; rfl)
          clear HT hg HE
          simp only at k
          rcases k with k | ⟨k1, k⟩ | ⟨k1, k2, k⟩
          all_goals
            go_wp2
            go_quiet (fail)
            go_wp2
            go_ret
            exact ⟨by rw [unhide HT']; rfl, (unhide HF).drewN _⟩
      · obtain rfl : i = l.length := by omega
        have HT : Hid (bandsOk l = true) := hide (by rw [unhide HE, ← (unhide HI).2, List.drop_length]; rfl)
        have HF := hide (unhide HI).1
        clear HI HE H
        go_wp2
        go_ret
        exact ⟨by rw [unhide HT]; rfl, unhide HF⟩
  · have HT' : Hid (bandsOk l = false) := hide (by simp [bandsOk, h200])
    clear h
    go_enter Tryz.func58, Tryz.ntmps58
    go_wp2
    go_ret
    exact ⟨by rw [unhide HT']; rfl, Fr.refl _ _⟩

end Go.Proofs.YtkjoojamkbpfcaaGreat

/- The document's own look at stations. -/
namespace Go.Proofs.YtkjoojamkbpfcaaGreat
open Go.RowKit

def Prev (l : List Stn) (i : Nat) (p : Int) : Prop := (i = 0 ∧ p = 0) ∨ ∃ j, ∃ hj : j < l.length, i = j + 1 ∧ p = l[j].id

theorem stGood_iff (a : Int) (s : Stn) : stGood a s = true ↔ (a < s.id ∧ s.id ≤ 65535 ∧ 1 ≤ s.zone ∧ s.zone ≤ 9 ∧ 0 ≤ s.group ∧ s.group ≤ 65535) := by
  rcases stGood_cases a s with ⟨h, k⟩ | ⟨h, k⟩
  · rw [h]; exact ⟨fun _ => k, fun _ => rfl⟩
  · rw [h]; exact ⟨fun h => (by cases h), fun h => by omega⟩

set_option maxHeartbeats 8000000 in
theorem rstations_any (w : World) (ao : Option Addr) (cap : Nat) (l : List Stn) (h : CAt w ao (stV l)) (hl : (l.length + 1) * 24 ≤ 140737488355328) :
    Calls Tryz.prog 54 #[.slice ao l.length cap] w fun e w' => e = .returned (.tuple #[.int .i64 (if stationsOk l then zmax 1 l else 0), .bool (stationsOk l)]) ∧ Fr (fun _ => False) w w' := by
  obtain ⟨Y, HYE⟩ : ∃ Y, Hid ((if stationsOk l = true then zmax 1 l else 0) = Y) := ⟨_, rfl⟩
  obtain ⟨S, HSE⟩ : ∃ S, Hid (stationsOk l = S) := ⟨_, rfl⟩
  rw [unhide HYE, unhide HSE]
  by_cases h200 : l.length ≤ 200
  · have HE : Hid (stationsOk l = stOk 0 l) := hide (by simp [stationsOk, h200])
    have H := hide h
    clear h
    go_enter Tryz.func54, Tryz.ntmps54
    go_wp2
    go_loopw [4, 5, 6] (fun mv iv _ wr => ∃ (i : Nat) (z p : Int), i ≤ l.length ∧ iv = .int .i64 i ∧ mv = .int .i64 z ∧ Hid (Fr (fun _ => False) w wr ∧ stOk p (l.drop i) = stOk 0 l ∧ zmax z (l.drop i) = zmax 1 l ∧ 0 ≤ p ∧ Prev l i p)) (fun _ iv _ _ => l.length - (intOf iv).toNat)
    case atStart => exact ⟨0, 1, 0, Nat.zero_le _, rfl, rfl, Fr.refl _ _, by simp, by simp, by omega, .inl ⟨rfl, rfl⟩⟩
    case round =>
      obtain ⟨i, z, p, hi, rfl, rfl, HI⟩ := hrel
      by_cases hil : i < l.length
      · obtain ⟨b, off, rfl, c0, c1, c2⟩ := ((unhide H).keep (unhide HI).1).st hil
        obtain ⟨hF, ht, hz, hp, hpr⟩ := unhide HI
        have HPN : Hid (Prev l (i + 1) l[i].id) := hide (.inr ⟨i, hil, rfl, rfl⟩)
        rw [List.drop_eq_getElem_cons hil] at ht hz
        have HF := hide hF
        have HCP : Hid (∀ j (hj : j < l.length), i = j + 1 → wr.cell? ⟨b, off + j * 3, none⟩ = some (.int .i64 l[j].id)) := hide (fun j hj _ => by
          obtain ⟨b', off', e, d0, _⟩ := ((unhide H).keep hF).st hj
          injection e with e
          injection e with e1 e2
          subst e1 e2
          exact d0)
        generalize l[i] = s at *
        obtain ⟨x0, x1, x2⟩ := s
        have HT : Hid (stOk 0 l = (stGood p ⟨x0, x1, x2⟩ && stOk x0 (l.drop (i + 1)))) := hide ht.symm
        have HZ : Hid (zmax (max z x1) (l.drop (i + 1)) = zmax 1 l) := hide hz
        have HY : Hid (stGood p ⟨x0, x1, x2⟩ = true → stOk x0 (l.drop (i + 1)) = stOk 0 l ∧ 0 ≤ x0) := hide (fun hg => ⟨by rw [unhide HT, hg]; rfl, by have := (stGood_iff _ _).1 hg; simp only at this; omega⟩)
        have HN : Hid (¬ stGood p ⟨x0, x1, x2⟩ = true → stationsOk l = false) := hide (fun hg => by rw [unhide HE, unhide HT]; simp [hg])
        rw [stGood_iff] at HY HN
        simp only at HY HN
        have HF2 := hide ((unhide HF).alloc (.cells #[.int .i64 x0, .int .i64 x1, .int .i64 x2] 42))
        have b0 : (wr.alloc (.cells #[.int .i64 x0, .int .i64 x1, .int .i64 x2] 42)).cell? ⟨wr.heap.size, 0, none⟩ = some (.int .i64 x0) := by rw [World.cell?_alloc_new]; rfl
        have b1 : (wr.alloc (.cells #[.int .i64 x0, .int .i64 x1, .int .i64 x2] 42)).cell? ⟨wr.heap.size, 1, none⟩ = some (.int .i64 x1) := by rw [World.cell?_alloc_new]; rfl
        have b2 : (wr.alloc (.cells #[.int .i64 x0, .int .i64 x1, .int .i64 x2] 42)).cell? ⟨wr.heap.size, 2, none⟩ = some (.int .i64 x2) := by rw [World.cell?_alloc_new]; rfl
        have HCP2 : Hid (∀ j (hj : j < l.length), i = j + 1 → (wr.alloc (.cells #[.int .i64 x0, .int .i64 x1, .int .i64 x2] 42)).cell? ⟨b, off + j * 3, none⟩ = some (.int .i64 l[j].id)) := hide (fun j hj e => by
          rw [World.cell?_alloc_lt _ _ _ (World.block_lt_of_cell? _ _ (unhide HCP j hj e))]
          exact unhide HCP j hj e)
        clear ht HI hF hz HT HCP HE
        go_wp2
        generalize wr.alloc (.cells #[.int .i64 x0, .int .i64 x1, .int .i64 x2] 42) = wx at *
        generalize wr.heap.size = B at *
        clear c0 c1 c2
        have HP0 := hide hp
        clear hp
        rcases hpr with ⟨rfl, rfl⟩ | ⟨j, hj, rfl, rfl⟩
        · clear HCP2 HP0
          refine wp_region_quiet_lit (by kernel_rfl) (by kernel_rfl) ?_
          repeat (go_big_quiet_step (fail))
          cases hd0 : decide (x0 < 1) with
          | true =>
            have e0 : x0 < 1 := of_decide_eq_true hd0
            clear hd0
            repeat (go_big_quiet_step (fail))
            refine wpQuiet_nil ?_
            intro _ hw'
            obtain ⟨nq, hw''⟩ := hw'
            subst hw''
            have HT' := hide (unhide HN (by omega))
            clear HN HY HZ HPN
            go_wp2
            go_ret2
            exact ⟨by rw [← unhide HYE, ← unhide HSE, unhide HT']; rfl, (unhide HF2).drewN _⟩
          | false =>
            have e0 : ¬ x0 < 1 := of_decide_eq_false hd0
            clear hd0
            repeat (go_big_quiet_step (fail))
            cases hd1 : decide (65535 < x0) with
            | true =>
              have e1 : 65535 < x0 := of_decide_eq_true hd1
              clear hd1
              repeat (go_big_quiet_step (fail))
              refine wpQuiet_nil ?_
              intro _ hw'
              obtain ⟨nq, hw''⟩ := hw'
              subst hw''
              have HT' := hide (unhide HN (by omega))
              clear HN HY HZ HPN
              go_wp2
              go_ret2
              exact ⟨by rw [← unhide HYE, ← unhide HSE, unhide HT']; rfl, (unhide HF2).drewN _⟩
            | false =>
              have e1 : ¬ 65535 < x0 := of_decide_eq_false hd1
              clear hd1
              repeat (go_big_quiet_step (fail))
              cases hd2 : decide (x1 < 1) with
              | true =>
                have e2 : x1 < 1 := of_decide_eq_true hd2
                clear hd2
                repeat (go_big_quiet_step (fail))
                refine wpQuiet_nil ?_
                intro _ hw'
                obtain ⟨nq, hw''⟩ := hw'
                subst hw''
                have HT' := hide (unhide HN (by omega))
                clear HN HY HZ HPN
                go_wp2
                go_ret2
                exact ⟨by rw [← unhide HYE, ← unhide HSE, unhide HT']; rfl, (unhide HF2).drewN _⟩
              | false =>
                have e2 : ¬ x1 < 1 := of_decide_eq_false hd2
                clear hd2
                repeat (go_big_quiet_step (fail))
                cases hd3 : decide (9 < x1) with
                | true =>
                  have e3 : 9 < x1 := of_decide_eq_true hd3
                  clear hd3
                  repeat (go_big_quiet_step (fail))
                  refine wpQuiet_nil ?_
                  intro _ hw'
                  obtain ⟨nq, hw''⟩ := hw'
                  subst hw''
                  have HT' := hide (unhide HN (by omega))
                  clear HN HY HZ HPN
                  go_wp2
                  go_ret2
                  exact ⟨by rw [← unhide HYE, ← unhide HSE, unhide HT']; rfl, (unhide HF2).drewN _⟩
                | false =>
                  have e3 : ¬ 9 < x1 := of_decide_eq_false hd3
                  clear hd3
                  repeat (go_big_quiet_step (fail))
                  cases hd4 : decide (x2 < 0) with
                  | true =>
                    have e4 : x2 < 0 := of_decide_eq_true hd4
                    clear hd4
                    repeat (go_big_quiet_step (fail))
                    refine wpQuiet_nil ?_
                    intro _ hw'
                    obtain ⟨nq, hw''⟩ := hw'
                    subst hw''
                    have HT' := hide (unhide HN (by omega))
                    clear HN HY HZ HPN
                    go_wp2
                    go_ret2
                    exact ⟨by rw [← unhide HYE, ← unhide HSE, unhide HT']; rfl, (unhide HF2).drewN _⟩
                  | false =>
                    have e4 : ¬ x2 < 0 := of_decide_eq_false hd4
                    clear hd4
                    repeat (go_big_quiet_step (fail))
                    cases hd5 : decide (65535 < x2) with
                    | true =>
                      have e5 : 65535 < x2 := of_decide_eq_true hd5
                      clear hd5
                      repeat (go_big_quiet_step (fail))
                      refine wpQuiet_nil ?_
                      intro _ hw'
                      obtain ⟨nq, hw''⟩ := hw'
                      subst hw''
                      have HT' := hide (unhide HN (by omega))
                      clear HN HY HZ HPN
                      go_wp2
                      go_ret2
                      exact ⟨by rw [← unhide HYE, ← unhide HSE, unhide HT']; rfl, (unhide HF2).drewN _⟩
                    | false =>
                      have e5 : ¬ 65535 < x2 := of_decide_eq_false hd5
                      clear hd5
                      repeat (go_big_quiet_step (fail))
                      refine wpQuiet_nil ?_
                      intro _ hw'
                      obtain ⟨nq, hw''⟩ := hw'
                      subst hw''
                      have HT' := hide (unhide HY (by omega))
                      have b1' : (wx.drewN nq).cell? ⟨B, 1, none⟩ = some (.int .i64 x1) := b1
                      clear HN HY b0 b2
                      rcases Int.lt_trichotomy z x1 with hz | hz | hz
                      · rw [Int.max_eq_right (by omega)] at HZ
                        go_wp2
                        exact ⟨⟨0 + 1, x1, x0, by omega, by go_num, rfl, (unhide HF2).drewN _, (unhide HT').1, unhide HZ, (unhide HT').2, unhide HPN⟩, by simp [intOf]; omega⟩
                      · subst hz
                        rw [Int.max_self] at HZ
                        go_wp2
                        exact ⟨⟨0 + 1, z, x0, by omega, by go_num, rfl, (unhide HF2).drewN _, (unhide HT').1, unhide HZ, (unhide HT').2, unhide HPN⟩, by simp [intOf]; omega⟩
                      · rw [Int.max_eq_left (by omega)] at HZ
                        go_wp2
                        exact ⟨⟨0 + 1, z, x0, by omega, by go_num, rfl, (unhide HF2).drewN _, (unhide HT').1, unhide HZ, (unhide HT').2, unhide HPN⟩, by simp [intOf]; omega⟩
        · have cj := unhide HCP2 j hj rfl
          have hp := unhide HP0
          have pj : decide ((0 : Int) < (j : Int) + 1) = true := decide_eq_true (by omega)
          generalize l[j].id = p at *
          clear HCP2 HP0
          refine wp_region_quiet_lit (by kernel_rfl) (by kernel_rfl) ?_
          repeat (go_big_quiet_step (fail))
          cases hd0 : decide (x0 < 1) with
          | true =>
            have e0 : x0 < 1 := of_decide_eq_true hd0
            clear hd0
            repeat (go_big_quiet_step (fail))
            refine wpQuiet_nil ?_
            intro _ hw'
            obtain ⟨nq, hw''⟩ := hw'
            subst hw''
            have HT' := hide (unhide HN (by omega))
            clear HN HY HZ HPN
            go_wp2
            go_ret2
            exact ⟨by rw [← unhide HYE, ← unhide HSE, unhide HT']; rfl, (unhide HF2).drewN _⟩
          | false =>
            have e0 : ¬ x0 < 1 := of_decide_eq_false hd0
            clear hd0
            repeat (go_big_quiet_step (fail))
            cases hd1 : decide (65535 < x0) with
            | true =>
              have e1 : 65535 < x0 := of_decide_eq_true hd1
              clear hd1
              repeat (go_big_quiet_step (fail))
              refine wpQuiet_nil ?_
              intro _ hw'
              obtain ⟨nq, hw''⟩ := hw'
              subst hw''
              have HT' := hide (unhide HN (by omega))
              clear HN HY HZ HPN
              go_wp2
              go_ret2
              exact ⟨by rw [← unhide HYE, ← unhide HSE, unhide HT']; rfl, (unhide HF2).drewN _⟩
            | false =>
              have e1 : ¬ 65535 < x0 := of_decide_eq_false hd1
              clear hd1
              repeat (go_big_quiet_step (fail))
              cases hd2 : decide (x0 ≤ p) with
              | true =>
                have e2 : x0 ≤ p := of_decide_eq_true hd2
                clear hd2
                repeat (go_big_quiet_step (fail))
                refine wpQuiet_nil ?_
                intro _ hw'
                obtain ⟨nq, hw''⟩ := hw'
                subst hw''
                have HT' := hide (unhide HN (by omega))
                clear HN HY HZ HPN
                go_wp2
                go_ret2
                exact ⟨by rw [← unhide HYE, ← unhide HSE, unhide HT']; rfl, (unhide HF2).drewN _⟩
              | false =>
                have e2 : ¬ x0 ≤ p := of_decide_eq_false hd2
                clear hd2
                repeat (go_big_quiet_step (fail))
                cases hd3 : decide (x1 < 1) with
                | true =>
                  have e3 : x1 < 1 := of_decide_eq_true hd3
                  clear hd3
                  repeat (go_big_quiet_step (fail))
                  refine wpQuiet_nil ?_
                  intro _ hw'
                  obtain ⟨nq, hw''⟩ := hw'
                  subst hw''
                  have HT' := hide (unhide HN (by omega))
                  clear HN HY HZ HPN
                  go_wp2
                  go_ret2
                  exact ⟨by rw [← unhide HYE, ← unhide HSE, unhide HT']; rfl, (unhide HF2).drewN _⟩
                | false =>
                  have e3 : ¬ x1 < 1 := of_decide_eq_false hd3
                  clear hd3
                  repeat (go_big_quiet_step (fail))
                  cases hd4 : decide (9 < x1) with
                  | true =>
                    have e4 : 9 < x1 := of_decide_eq_true hd4
                    clear hd4
                    repeat (go_big_quiet_step (fail))
                    refine wpQuiet_nil ?_
                    intro _ hw'
                    obtain ⟨nq, hw''⟩ := hw'
                    subst hw''
                    have HT' := hide (unhide HN (by omega))
                    clear HN HY HZ HPN
                    go_wp2
                    go_ret2
                    exact ⟨by rw [← unhide HYE, ← unhide HSE, unhide HT']; rfl, (unhide HF2).drewN _⟩
                  | false =>
                    have e4 : ¬ 9 < x1 := of_decide_eq_false hd4
                    clear hd4
                    repeat (go_big_quiet_step (fail))
                    cases hd5 : decide (x2 < 0) with
                    | true =>
                      have e5 : x2 < 0 := of_decide_eq_true hd5
                      clear hd5
                      repeat (go_big_quiet_step (fail))
                      refine wpQuiet_nil ?_
                      intro _ hw'
                      obtain ⟨nq, hw''⟩ := hw'
                      subst hw''
                      have HT' := hide (unhide HN (by omega))
                      clear HN HY HZ HPN
                      go_wp2
                      go_ret2
                      exact ⟨by rw [← unhide HYE, ← unhide HSE, unhide HT']; rfl, (unhide HF2).drewN _⟩
                    | false =>
                      have e5 : ¬ x2 < 0 := of_decide_eq_false hd5
                      clear hd5
                      repeat (go_big_quiet_step (fail))
                      cases hd6 : decide (65535 < x2) with
                      | true =>
                        have e6 : 65535 < x2 := of_decide_eq_true hd6
                        clear hd6
                        repeat (go_big_quiet_step (fail))
                        refine wpQuiet_nil ?_
                        intro _ hw'
                        obtain ⟨nq, hw''⟩ := hw'
                        subst hw''
                        have HT' := hide (unhide HN (by omega))
                        clear HN HY HZ HPN
                        go_wp2
                        go_ret2
                        exact ⟨by rw [← unhide HYE, ← unhide HSE, unhide HT']; rfl, (unhide HF2).drewN _⟩
                      | false =>
                        have e6 : ¬ 65535 < x2 := of_decide_eq_false hd6
                        clear hd6
                        repeat (go_big_quiet_step (fail))
                        refine wpQuiet_nil ?_
                        intro _ hw'
                        obtain ⟨nq, hw''⟩ := hw'
                        subst hw''
                        have HT' := hide (unhide HY (by omega))
                        have b1' : (wx.drewN nq).cell? ⟨B, 1, none⟩ = some (.int .i64 x1) := b1
                        clear HN HY b0 b2
                        rcases Int.lt_trichotomy z x1 with hz | hz | hz
                        · rw [Int.max_eq_right (by omega)] at HZ
                          go_wp2
                          exact ⟨⟨j + 1 + 1, x1, x0, by omega, by go_num, rfl, (unhide HF2).drewN _, (unhide HT').1, unhide HZ, (unhide HT').2, unhide HPN⟩, by simp [intOf]; omega⟩
                        · subst hz
                          rw [Int.max_self] at HZ
                          go_wp2
                          exact ⟨⟨j + 1 + 1, z, x0, by omega, by go_num, rfl, (unhide HF2).drewN _, (unhide HT').1, unhide HZ, (unhide HT').2, unhide HPN⟩, by simp [intOf]; omega⟩
                        · rw [Int.max_eq_left (by omega)] at HZ
                          go_wp2
                          exact ⟨⟨j + 1 + 1, z, x0, by omega, by go_num, rfl, (unhide HF2).drewN _, (unhide HT').1, unhide HZ, (unhide HT').2, unhide HPN⟩, by simp [intOf]; omega⟩
      · obtain rfl : i = l.length := by omega
        have HT : Hid (stationsOk l = true) := hide (by rw [unhide HE, ← (unhide HI).2.1, List.drop_length]; rfl)
        have HZ : Hid (zmax 1 l = z) := hide (by rw [← (unhide HI).2.2.1, List.drop_length]; rfl)
        have HF := hide (unhide HI).1
        clear HI HE H
        go_wp2
        go_ret2
        exact ⟨by rw [← unhide HYE, ← unhide HSE, unhide HT, unhide HZ]; rfl, unhide HF⟩
  · have HT' : Hid (stationsOk l = false) := hide (by simp [stationsOk, h200])
    clear h
    go_enter Tryz.func54, Tryz.ntmps54
    go_wp2
    go_ret2
    exact ⟨by rw [← unhide HYE, ← unhide HSE, unhide HT']; rfl, Fr.refl _ _⟩

end Go.Proofs.YtkjoojamkbpfcaaGreat

/- The document's own look at spans: all that there are up to a zone, in order. -/
namespace Go.Proofs.YtkjoojamkbpfcaaGreat
open Go.RowKit

theorem sameAll_cons (l : List Spn) (n : Nat) (f t : Int) (q : List (Int × Int)) : (n < l.length ∧ ∃ s, l[n]? = some s ∧ sameAll (l.drop n) ((f, t) :: q) = ((s.fr == f && s.to == t) && sameAll (l.drop (n + 1)) q)) ∨ (¬ n < l.length ∧ sameAll (l.drop n) ((f, t) :: q) = false) := by
  by_cases h : n < l.length
  · exact .inl ⟨h, l[n], List.getElem?_eq_getElem h, by rw [List.drop_eq_getElem_cons h]; rfl⟩
  · exact .inr ⟨h, by rw [List.drop_of_length_le (by omega)]; rfl⟩

theorem sameAll_end (l : List Spn) (n : Nat) (h : n ≤ l.length) : sameAll (l.drop n) [] = decide (n = l.length) := by
  by_cases h2 : n < l.length
  · rw [List.drop_eq_getElem_cons h2]
    have : ¬ n = l.length := by omega
    simp [sameAll, this]
  · obtain rfl : n = l.length := by omega
    rw [List.drop_length]
    simp [sameAll]

theorem rspans_any (w : World) (ao : Option Addr) (cap : Nat) (l : List Spn) (h : CAt w ao (spV l)) (hl : (l.length + 1) * 40 ≤ 140737488355328) (Z : Nat) (hZ : Z ≤ 9) :
    Calls Tryz.prog 55 #[.slice ao l.length cap, .int .i64 (Z : Int)] w fun e w' => e = .returned (.bool (sameAll l (prs 1 Z))) ∧ w' = w := by
  obtain ⟨y, HY⟩ : ∃ y, Hid (sameAll l (prs 1 Z) = y) := ⟨_, rfl⟩
  rw [unhide HY]
  have H := hide h
  clear h
  go_enter Tryz.func55, Tryz.ntmps55
  go_wp2
  go_loopw [5, 6, 7] (fun nv fv _ wr => ∃ (n m : Nat) (f : Int), n ≤ l.length ∧ m ≤ 9 ∧ f + m = (Z : Int) + 1 ∧ 1 ≤ f ∧ nv = .int .i64 n ∧ fv = .int .i64 f ∧ wr = w ∧ Hid (sameAll (l.drop n) (prs f m) = y)) (fun _ fv _ _ => Z + 1 - (intOf fv).toNat)
  case atStart => exact ⟨0, Z, 1, Nat.zero_le _, hZ, by omega, by omega, rfl, rfl, rfl, hide (by simpa using unhide HY)⟩
  case round =>
    obtain ⟨n, m, f, hn, hm, hf, hf1, rfl, rfl, rfl, HI⟩ := hrel
    by_cases hlt : f ≤ (Z : Int)
    · obtain ⟨m, rfl⟩ : ∃ q, m = q + 1 := ⟨m - 1, by omega⟩
      go_wp2
      go_loopw [5, 7] (fun nv tv wq => ∃ (n k : Nat) (t : Int), n ≤ l.length ∧ k ≤ 9 ∧ t + k = (Z : Int) + 1 ∧ f ≤ t ∧ nv = .int .i64 n ∧ tv = .int .i64 t ∧ wq = wr ∧ Hid (sameAll (l.drop n) (toL f t k ++ prs (f + 1) m) = y)) (fun _ tv _ => Z + 1 - (intOf tv).toNat)
      case atStart => exact ⟨n, m + 1, f, hn, hm, by omega, by omega, rfl, rfl, rfl, unhide HI⟩
      case round =>
        obtain ⟨n, k, t, hn, hk, ht, ht1, rfl, rfl, rfl, HJ⟩ := hrel
        by_cases hlt2 : t ≤ (Z : Int)
        · obtain ⟨k, rfl⟩ : ∃ q, k = q + 1 := ⟨k - 1, by omega⟩
          have hs : sameAll (l.drop n) ((f, t) :: (toL f (t + 1) k ++ prs (f + 1) m)) = y := unhide HJ
          rcases sameAll_cons l n f t (toL f (t + 1) k ++ prs (f + 1) m) with ⟨hnl, s, hsn, he⟩ | ⟨hnl, he⟩
          · obtain ⟨b, off, rfl, c0, c1, c2, c3, c4⟩ := (unhide H).sp hnl
            have hsl : l[n] = s := by
              have := List.getElem?_eq_getElem hnl
              rw [this] at hsn
              exact Option.some.inj hsn
            rw [hsl] at c0 c1
            have HV : Hid (((s.fr == f && s.to == t) && sameAll (l.drop (n + 1)) (toL f (t + 1) k ++ prs (f + 1) m)) = y) := hide (he.symm.trans hs)
            clear he hs hsn hsl c2 c3 c4 HJ
            obtain ⟨x0, x1, x2, x3, x4⟩ := s
            by_cases g0 : x0 = f
            · by_cases g1 : x1 = t
              · have HV' : Hid (sameAll (l.drop (n + 1)) (toL f (t + 1) k ++ prs (f + 1) m) = y) := hide (by rw [← unhide HV]; simp [g0, g1])
                clear HV
                have q0 : (x0 != f) = false := by simp [g0]
                have q1 : (x1 != t) = false := by simp [g1]
                clear g0 g1
                go_wp2
                exact ⟨⟨n + 1, k, t + 1, by omega, by omega, by omega, by omega, by go_num, by go_num, (by first | rfl | trivial), unhide HV'⟩, by simp [intOf]; omega⟩
              · have HV' : Hid (y = false) := hide (by rw [← unhide HV]; simp [g1])
                clear HV
                have q0 : (x0 != f) = false := by simp [g0]
                have q1 : (x1 != t) = true := by simp [g1]
                clear g0 g1
                go_wp2
                go_ret
                exact ⟨by rw [unhide HV']; rfl, rfl⟩
            · have HV' : Hid (y = false) := hide (by rw [← unhide HV]; simp [g0])
              clear HV
              have q0 : (x0 != f) = true := by simp [g0]
              clear g0
              go_wp2
              go_ret
              exact ⟨by rw [unhide HV']; rfl, rfl⟩
          · have HV' : Hid (y = false) := hide (hs.symm.trans he)
            clear he hs HJ
            go_wp2
            go_ret
            exact ⟨by rw [unhide HV']; rfl, rfl⟩
        · obtain rfl : k = 0 := by omega
          have HV : Hid (sameAll (l.drop n) (prs (f + 1) m) = y) := hide (unhide HJ)
          clear HJ
          go_wp2
          exact ⟨⟨n, m, f + 1, hn, by omega, by omega, by omega, rfl, by go_num, (by first | rfl | trivial), unhide HV⟩, by simp [intOf]; omega⟩
    · obtain rfl : m = 0 := by omega
      have HV : Hid (y = ((n : Int) == (l.length : Int))) := hide (by
        rw [← unhide HI, prs, sameAll_end l n hn]
        by_cases e : n = l.length
        · simp [e]
        · have : ¬ (n : Int) = (l.length : Int) := by omega
          simp [e, this])
      clear HI
      go_wp2
      go_ret
      exact ⟨by rw [unhide HV]; rfl, rfl⟩

end Go.Proofs.YtkjoojamkbpfcaaGreat

/- The document's own look at prices. -/
namespace Go.Proofs.YtkjoojamkbpfcaaGreat
open Go.RowKit

theorem info3 : (Tryz.prog.info? 3).map (fun i => (i.zero, i.size, i.bytes)) = some (some (.int .i64 0), 1, 8) := by kernel_rfl

theorem step_append_vrow {P : Program} {ops : Array Oper} {o : Oper} {a : Act} {w : World} {K : Act → World → Prop} {Q : Exit → Act → World → Prop} {E : Prop} (hgd : o.guard = none) (s x : Operand) (t tx : TypeId)
    (ho : o.op = .call { callee := .builtin .append, args := #[s, x], argTypes := #[t, tx] }) (e : TypeId) (i : TypeInfo) (z : Value) (ht : P.underlying t = some (.slice e)) (hi : P.info? e = some i) (hz : i.zero = some z) (hz1 : z.cells = #[z]) (hs1 : i.size = 1)
    {ao : Option Addr} {cap g n : Nat} {vs : List Value} (hv : a.eval s = .slice ao n cap) (h : VRow w ao cap g vs) (hn : vs.length = n) (xv : Value) (news : List Value) (m : Nat) (hm : news.length = m) (hx : a.eval x = xv) (hs : Src P 1 tx xv m news w) (hfit : (n + m) * i.bytes ≤ 140737488355328) (hf2 : n + m ≤ 140737488355328)
    (hK : ∀ ao' cap' w' g', VRow w' ao' cap' g' (vs ++ news) → Grew w g cap w' g' cap' → K (a.put o.dst (.slice ao' (n + m) cap')) w') : if Region.wanted o (yielded ops a.tmps) = true then Oper.wp P o a w K Q else E := by
  have hw : Region.wanted o (yielded ops a.tmps) = true := by simp [Region.wanted, hgd]
  rw [if_pos hw]
  obtain ⟨ao', cap', w', g', hrun, r1, r2⟩ := append_vrow (P := P) t tx o.type e i z ht hi hz hz1 hs1 h hn xv news m hm hs hfit hf2
  unfold Oper.wp
  simp [execOp, ho, resolve, invoke, builtin, hv, hx, hrun, Result.andThen]
  exact hK ao' cap' w' g' r1 r2

theorem Grew.cell {w w' : World} {g cap g' cap' : Nat} (h : Grew w g cap w' g' cap') {a : Addr} {v : Value} (hc : w.cell? a = some v) (hne : a.block ≠ g) : w'.cell? a = some v := by
  have hlt := World.block_lt_of_cell? _ _ hc
  rcases h with ⟨_, _, hF⟩ | ⟨_, _, hF⟩
  · exact (hF.cell hlt (fun t => hne t.1)).trans hc
  · exact (hF.cell hlt (fun t => t)).trans hc

def three (s : Spn) : List Int := [s.single, s.daily, s.weekly]
def allPrices (t : Tf) : List Int := [t.bus, t.busDaily, t.busWeekly, t.most, t.threshold] ++ t.sp.flatMap three

theorem allPrices_ok (t : Tf) : (allPrices t).all price = pricesOk t := by
  unfold allPrices pricesOk
  rw [List.all_append, List.all_flatMap]
  rfl

theorem three_length (l : List Spn) : (l.flatMap three).length = l.length * 3 := by
  induction l with
  | nil => rfl
  | cons b r ih => rw [List.flatMap_cons, List.length_append, ih, List.length_cons]; simp [three]; omega

theorem src_three (w : World) (a b c : Int) : Src Tryz.prog 1 147 (.slice (some ⟨w.heap.size, 0, none⟩) 3 3) 3 ([a, b, c].map (Value.int .i64)) (w.alloc (.cells #[.int .i64 a, .int .i64 b, .int .i64 c] 3)) := by
  refine Src.ofSlice _ Tryz.underlying147 ⟨w.heap.size, 0, none⟩ 3 3 _ rfl (fun j u hj => ?_) (fun u hu => ?_)
  · rw [Addr.add_lit, Nat.zero_add, World.cell?_alloc_new]
    match j, hj with
    | 0, hj => exact hj
    | 1, hj => exact hj
    | 2, hj => exact hj
    | j + 3, hj => simp at hj
  · simp only [List.map_cons, List.map_nil, List.mem_cons, List.not_mem_nil, or_false] at hu
    rcases hu with rfl | rfl | rfl <;> rfl

/-- What the first loop of prices holds. -/
structure PI (w : World) (A : Ad) (t : Tf) (i : Nat) (acc : List Int) (ao : Option Addr) (cap g : Nat) (wr : World) : Prop where
  ae : acc = [t.bus, t.busDaily, t.busWeekly, t.most, t.threshold] ++ (t.sp.take i).flatMap three
  row : VRow wr ao cap g (acc.map (Value.int .i64))
  fr : Fr (fun _ => False) w wr
  tb : TB wr w.heap.size A t
  g0 : w.heap.size < g
  c0 : 0 < cap

theorem PI.next {w : World} {A : Ad} {t : Tf} {i : Nat} {acc : List Int} {ao : Option Addr} {cap g : Nat} {wr wa w' : World} (h : PI w A t i acc ao cap g wr) (hi : i < t.sp.length) (hF : Fr (fun _ => False) wr wa) {ao' : Option Addr} {cap' g' : Nat}
    (hrow : VRow w' ao' cap' g' (acc.map (Value.int .i64) ++ (three t.sp[i]).map (Value.int .i64))) (hgr : Grew wa g cap w' g' cap') : PI w A t (i + 1) (acc ++ three t.sp[i]) ao' cap' g' w' := by
  have h1 := h.fr.trans hF (fun _ _ t => t)
  have hg := h.g0
  have hS : Fr (fun k => k = g) wa w' := by
    rcases hgr with ⟨_, _, hF⟩ | ⟨_, _, hF⟩
    · exact hF.mono (fun _ _ t => t.1)
    · exact hF.mono (fun _ _ t => t.elim)
  refine ⟨?_, by rw [List.map_append]; exact hrow, h1.trans hS (fun k hk e => by omega), (h.tb.keep hF).frame hS (by omega), ?_, ?_⟩
  · rw [h.ae, List.take_succ_eq_append_getElem hi, List.flatMap_append, List.append_assoc]
    simp
  · rcases hgr with ⟨e, _, _⟩ | ⟨e, _, _⟩
    · omega
    · have := (h.tb.keep hF).lt; omega
  · rcases hgr with ⟨_, e, _⟩ | ⟨_, e, _⟩
    · have := h.c0; omega
    · exact e

set_option maxHeartbeats 8000000 in
set_option maxRecDepth 100000 in
theorem rprices_any (w : World) (A : Ad) (t : Tf) (h : TAt w A t) : Calls Tryz.prog 56 #[tv A t] w fun e w' => e = .returned (.bool (pricesOk t)) ∧ Fr (fun _ => False) w w' := by
  obtain ⟨y, HY⟩ : ∃ y, Hid (pricesOk t = y) := ⟨_, rfl⟩
  rw [unhide HY]
  obtain ⟨info, hi, hzz⟩ := Option.map_eq_some_iff.1 info3
  simp only [Prod.mk.injEq] at hzz
  obtain ⟨hz0, hz1, hz2⟩ := hzz
  have HI0 := hide hi
  have H := hide h.sp
  have hl := h.lP
  have HP0 : Hid (PI w A t 0 [t.bus, t.busDaily, t.busWeekly, t.most, t.threshold] (some ⟨w.heap.size + 1, 0, none⟩) 5 (w.heap.size + 1) ((w.alloc (.cells (tc A t) 27)).alloc (.cells #[.int .i64 t.bus, .int .i64 t.busDaily, .int .i64 t.busWeekly, .int .i64 t.most, .int .i64 t.threshold] 3))) := by
    have e := heap_alloc w (.cells (tc A t) 27)
    refine hide ⟨by simp, ⟨by simp, by simp only [maxLen]; omega, fun _ => rfl, fun j hj => ?_, fun j hj => ?_, fun u hu => ?_⟩, ((Fr.refl _ w).alloc _).alloc _, (TB.new w A t).keep ((Fr.refl _ _).alloc _), by omega, by omega⟩
    · rw [← e, World.cell?_alloc_new]
      refine ⟨?_, World.frozen?_alloc_new _ _ _ _⟩
      match j, hj with
      | 0, _ => rfl
      | 1, _ => rfl
      | 2, _ => rfl
      | 3, _ => rfl
      | 4, _ => rfl
      | j + 5, hj => omega
    · rw [← e, World.cell?_alloc_new]
      match j, hj with
      | 0, _ => rfl
      | 1, _ => rfl
      | 2, _ => rfl
      | 3, _ => rfl
      | 4, _ => rfl
      | j + 5, hj => simp at hj; omega
    · obtain ⟨b, _, rfl⟩ := List.mem_map.1 hu
      rfl
  clear h hi
  unfold tv
  unfold tc at HP0
  unfold tc
  go_enter Tryz.func56, Tryz.ntmps56
  go_wp2
  generalize (w.alloc (.cells #[.slice A.aS t.st.length A.cS, .slice A.aP t.sp.length A.cP, .slice A.aB t.bd.length A.cB, .float .f64 t.off, .int .i64 t.bus, .int .i64 t.busDaily, .int .i64 t.busWeekly, .int .i64 t.hopper, .int .i64 t.most, .int .i64 t.longest, .int .i64 t.change, .int .i64 t.passback, .int .i64 t.delay, .int .i64 t.threshold] 27)).alloc (.cells #[.int .i64 t.bus, .int .i64 t.busDaily, .int .i64 t.busWeekly, .int .i64 t.most, .int .i64 t.threshold] 3) = wm at *
  obtain ⟨B, HBE⟩ : ∃ B, Hid (B = w.heap.size) := ⟨_, rfl⟩
  rw [← unhide HBE] at HP0
  rw [← unhide HBE]
  go_loopw [3, 4] (fun lv iv wr => ∃ (i : Nat) (acc : List Int) (ao : Option Addr) (cap g : Nat), i ≤ t.sp.length ∧ acc.length = 5 + 3 * i ∧ iv = .int .i64 i ∧ lv = .slice ao acc.length cap ∧ Hid (PI w A t i acc ao cap g wr)) (fun _ iv _ => t.sp.length - (intOf iv).toNat)
  case atStart => exact ⟨0, [t.bus, t.busDaily, t.busWeekly, t.most, t.threshold], some ⟨w.heap.size + 1, 0, none⟩, 5, w.heap.size + 1, Nat.zero_le _, rfl, rfl, by rw [unhide HBE]; rfl, hide (by have := unhide HP0; rw [unhide HBE] at this; exact this)⟩
  case round =>
    obtain ⟨i, acc, ao, cap, g, hin, hac, rfl, rfl, HI⟩ := hrel
    have cB : wr.cell? ⟨B, 1, none⟩ = some (.slice A.aP t.sp.length A.cP) := by rw [unhide HBE]; exact (unhide HI).tb.cell 1
    by_cases hil : i < t.sp.length
    · obtain ⟨b, off, eA, c0, c1, c2, c3, c4⟩ := ((unhide H).keep (unhide HI).fr).sp hil
      have hbg : b ≠ g := by
        have h1 := World.block_lt_of_cell? _ _ c2
        have h2 : b < w.heap.size := by
          obtain ⟨b', off', e', d0, _⟩ := (unhide H).sp hil
          rw [eA] at e'
          injection e' with e'
          injection e' with e1 _
          rw [e1]
          exact World.block_lt_of_cell? _ _ d0
        have := (unhide HI).g0
        omega
      have hBg : B ≠ g := by
        have := (unhide HI).g0
        rw [unhide HBE]
        omega
      have HNX := hide (fun (w' : World) (ao' : Option Addr) (cap' g' : Nat) => (unhide HI).next (w' := w') (ao' := ao') (cap' := cap') (g' := g') hil (((Fr.refl (fun _ => False) wr).drew).alloc (.cells #[.int .i64 t.sp[i].single, .int .i64 t.sp[i].daily, .int .i64 t.sp[i].weekly] 3)))
      have hth : three t.sp[i] = [t.sp[i].single, t.sp[i].daily, t.sp[i].weekly] := rfl
      rw [hth] at HNX
      generalize t.sp[i] = s at *
      obtain ⟨x0, x1, x2, x3, x4⟩ := s
      simp only at c2 c3 c4 HNX
      have hROW : VRow (wr.drew.alloc (.cells #[.int .i64 x2, .int .i64 x3, .int .i64 x4] 3)) ao cap g (acc.map (Value.int .i64)) := (unhide HI).row.stay (fun hc => by
        have hlt := (unhide HI).row.lt hc
        exact Below.heap_alloc wr.drew (.cells #[.int .i64 x2, .int .i64 x3, .int .i64 x4] 3) _ hlt)
      have hSRC := src_three wr.drew x2 x3 x4
      have HRS := hide (And.intro hROW hSRC)
      have hml : (acc.map (Value.int .i64)).length = acc.length := List.length_map _
      rw [eA] at cB
      rw [eA]
      have i0 : (0 : Int) ≤ (i : Int) := by omega
      have i1 : (i : Int) < (t.sp.length : Int) := by omega
      have hb1 : (acc.length + 3) * 8 ≤ 140737488355328 := by omega
      have HAC := hide hac
      clear hROW hSRC c0 c1 HI hth eA hac
      go_wp2_with fail
      go_region_held3 (fun w' => w'.cell? ⟨B, 1, none⟩ = some (.slice (some ⟨b, off, none⟩) t.sp.length A.cP) ∧ w'.cell? ⟨b, off + i * 5 + 2, none⟩ = some (.int .i64 x2) ∧ w'.cell? ⟨b, off + i * 5 + 3, none⟩ = some (.int .i64 x3) ∧ w'.cell? ⟨b, off + i * 5 + 4, none⟩ = some (.int .i64 x4))
        (first | go_keep | (go_split_ands; refine ⟨?_, ?_, ?_, ?_⟩ <;> exact hgr.cell (by assumption) (by assumption)))
        ((refine step_append_vrow (by rfl) (.tmp 25) (.tmp 44) 147 147 (by rfl) 3 info (.int .i64 0) Tryz.underlying147 (unhide HI0) hz0 rfl hz1 (ao := ao) (cap := cap) (g := g) (n := acc.length) (vs := acc.map (Value.int .i64)) (by rfl) (unhide HRS).1 hml _ ([x2, x3, x4].map (Value.int .i64)) 3 rfl (by rfl) (unhide HRS).2 (by rw [hz2]; exact hb1) (by omega) ?_; intro ao' cap' w3 g' hrow hgr))
      have HN := hide (unhide HNX w3 ao' cap' g' hrow hgr)
      clear HNX hrow hgr HRS cB c2 c3 c4
      go_wp2
      exact ⟨⟨i + 1, acc ++ [x2, x3, x4], ao', cap', g', by omega, by rw [List.length_append, unhide HAC]; simp; omega, by go_num, by rw [List.length_append]; rfl, hide (unhide HN)⟩, by simp [intOf]; omega⟩
    · obtain rfl : i = t.sp.length := by omega
      have HL : Hid (acc.all price = y) := hide (by rw [(unhide HI).ae, List.take_length, ← unhide HY, ← allPrices_ok]; rfl)
      have HR := hide (unhide HI).row
      have HF := hide (unhide HI).fr
      have HA := hide (And.intro ((unhide HI).row.ad (unhide HI).c0) hac)
      have hsm : acc.length ≤ 140737488355328 := by omega
      obtain ⟨n, hn⟩ : ∃ n, acc.length = n := ⟨_, rfl⟩
      have HNN := hide hn
      have hsm' : n ≤ 140737488355328 := by omega
      rw [hn]
      clear HI hac hn hsm
      go_wp2
      go_loopw [5, 6] (fun kv _ wq => ∃ (k : Nat), k ≤ n ∧ kv = .int .i64 k ∧ wq = wr ∧ Hid ((acc.drop k).all price = y)) (fun kv _ _ => n - (intOf kv).toNat)
      case atStart => exact ⟨0, Nat.zero_le _, rfl, rfl, hide (by simpa using unhide HL)⟩
      case round =>
        obtain ⟨k, hk, rfl, rfl, HK⟩ := hrel
        by_cases hkl : k < n
        · have hka : k < acc.length := by have := unhide HNN; omega
          have ck : wr.cell? ⟨g, k, none⟩ = some (.int .i64 acc[k]) := by
            have h1 := (unhide HR).cells k (by rw [List.length_map]; exact hka)
            rw [h1]
            simp
          have ht := unhide HK
          rw [List.drop_eq_getElem_cons hka, List.all_cons] at ht
          have HT := hide ht
          have eA := (unhide HA).1
          subst eA
          clear ht HK
          generalize acc[k] = x at *
          have R := rprice_any wr x
          cases hp : price x with
          | true =>
            have HT' : Hid ((acc.drop (k + 1)).all price = y) := hide (by rw [← unhide HT, hp]; rfl)
            rw [hp] at R
            clear hp HT
            go_wp2_with fail
            refine R.mono ?_
            rintro e w2 ⟨rfl, rfl⟩
            go_wp2
            exact ⟨⟨k + 1, by omega, by go_num, (by first | rfl | trivial), unhide HT'⟩, by simp [intOf]; omega⟩
          | false =>
            have HT' : Hid (y = false) := hide (by rw [← unhide HT, hp]; rfl)
            rw [hp] at R
            clear hp HT HY HL
            go_wp2_with fail
            refine R.mono ?_
            rintro e w2 ⟨rfl, rfl⟩
            go_wp2
            go_ret
            exact ⟨by rw [unhide HT']; rfl, unhide HF⟩
        · obtain rfl : k = n := by omega
          have HT' : Hid (y = true) := hide (by
            have h1 := unhide HK
            rw [List.drop_of_length_le (by have := unhide HNN; omega)] at h1
            rw [← h1]; rfl)
          clear HK HY HL HR
          go_wp2
          go_ret
          exact ⟨by rw [unhide HT']; rfl, unhide HF⟩

end Go.Proofs.YtkjoojamkbpfcaaGreat

/- The document's own look at what is wider. -/
namespace Go.Proofs.YtkjoojamkbpfcaaGreat
open Go.RowKit

theorem all_swap {α : Type} (l : List α) (f : α → α → Bool) : (l.all fun o => l.all fun s => f o s) = (l.all fun s => l.all fun o => f o s) := by
  rw [Bool.eq_iff_iff, List.all_eq_true, List.all_eq_true]
  constructor
  · intro h s hs
    rw [List.all_eq_true]
    exact fun o ho => List.all_eq_true.1 (h o ho) s hs
  · intro h o ho
    rw [List.all_eq_true]
    exact fun s hs => List.all_eq_true.1 (h s hs) o ho

theorem fits_cases (o s : Spn) : fits o s = (!(withinB s o && (decide (o.single < s.single) || decide (o.daily < s.daily) || decide (o.weekly < s.weekly)))) := by
  unfold fits noDearer
  cases withinB s o
  · rfl
  · by_cases h1 : s.single ≤ o.single <;> by_cases h2 : s.daily ≤ o.daily <;> by_cases h3 : s.weekly ≤ o.weekly <;> simp [h1, h2, h3] <;> omega

set_option maxHeartbeats 8000000 in
theorem rwider_any (w : World) (ao : Option Addr) (cap : Nat) (l : List Spn) (h : CAt w ao (spV l)) (hl : (l.length + 1) * 40 ≤ 140737488355328) :
    Calls Tryz.prog 57 #[.slice ao l.length cap] w fun e w' => e = .returned (.bool (withinOk l)) ∧ Fr (fun _ => False) w w' := by
  have H := hide h
  have HE : Hid (withinOk l = l.all fun s => l.all fun o => fits o s) := hide (all_swap l fits)
  generalize withinOk l = y at *
  clear h
  go_enter Tryz.func57, Tryz.ntmps57
  go_wp2
  go_loopw [3, 4, 5] (fun iv _ _ wr => ∃ (i : Nat), i ≤ l.length ∧ iv = .int .i64 i ∧ Hid (Fr (fun _ => False) w wr ∧ ((l.drop i).all fun s => l.all fun o => fits o s) = y)) (fun iv _ _ _ => l.length - (intOf iv).toNat)
  case atStart => exact ⟨0, Nat.zero_le _, rfl, Fr.refl _ _, by rw [unhide HE]; simp⟩
  case round =>
    obtain ⟨i, hi, rfl, HI⟩ := hrel
    by_cases hil : i < l.length
    · have ht := (unhide HI).2
      rw [List.drop_eq_getElem_cons hil, List.all_cons] at ht
      have HT := hide ht
      have HF := hide (unhide HI).1
      clear ht HI
      go_wp2
      go_loopw [4, 5] (fun kv _ wq => ∃ (k : Nat), k ≤ l.length ∧ kv = .int .i64 k ∧ Hid (Fr (fun _ => False) w wq ∧ ((l.drop k).all fun o => fits o l[i]) = (l.all fun o => fits o l[i]))) (fun kv _ _ => l.length - (intOf kv).toNat)
      case atStart => exact ⟨0, Nat.zero_le _, rfl, unhide HF, by simp⟩
      case round =>
        obtain ⟨k, hk, rfl, HK⟩ := hrel
        by_cases hkl : k < l.length
        · obtain ⟨b, off, rfl, c0, c1, c2, c3, c4⟩ := ((unhide H).keep (unhide HK).1).sp hil
          obtain ⟨b', off', eA, d0, d1, d2, d3, d4⟩ := ((unhide H).keep (unhide HK).1).sp hkl
          injection eA with eA
          injection eA with eA1 eA2
          subst eA1 eA2
          have hu := (unhide HK).2
          rw [List.drop_eq_getElem_cons hkl, List.all_cons] at hu
          have HU := hide hu
          have HF1 := hide (unhide HK).1
          clear hu HK HF
          generalize l[i] = s at *
          generalize l[k] = o at *
          have HS := hide (fits_cases o s)
          have RW := fun w => rWithin_any w s o
          generalize withinB s o = p at *
          obtain ⟨x0, x1, x2, x3, x4⟩ := s
          obtain ⟨y0, y1, y2, y3, y4⟩ := o
          simp only at HS c0 c1 c2 c3 c4 d0 d1 d2 d3 d4 RW
          go_wp2_with fail
          have X0 := fun d os => cell_regrown c0 d os
          have X1 := fun d os => cell_regrown c1 d os
          have X2 := fun d os => cell_regrown c2 d os
          have X3 := fun d os => cell_regrown c3 d os
          have X4 := fun d os => cell_regrown c4 d os
          have Y0 := fun d os => cell_regrown d0 d os
          have Y1 := fun d os => cell_regrown d1 d os
          have Y2 := fun d os => cell_regrown d2 d os
          have Y3 := fun d os => cell_regrown d3 d os
          have Y4 := fun d os => cell_regrown d4 d os
          have HC := hide (And.intro c2 (And.intro c3 (And.intro c4 (And.intro d2 (And.intro d3 d4)))))
          clear c0 c1 c2 c3 c4 d0 d1 d2 d3 d4
          refine wp_region_quiet_below (by kernel_rfl) (by kernel_rfl) ?_
          repeat (first | go_big_quiet_skip | (go_big_quiet_want; go_big_quiet_op; go_big_quiet_on))
          (go_big_quiet_want; go_big_quiet_op; go_big_quiet_call (exact Calls.regrown_of ((RW _).mono fun _ _ h => ⟨h.1, fr_below h.2⟩)))
          repeat (first | go_big_quiet_skip | (go_big_quiet_want; go_big_quiet_op; go_big_quiet_on))
          refine wpQuiet_nil ?_
          intro _ hw'
          obtain ⟨⟨dq, osq⟩, hw''⟩ := hw'
          subst hw''
          have hFq := below_fr (below_regrown wr dq osq)
          have HF2 := hide ((unhide HF1).trans hFq (fun _ _ t => t))
          obtain ⟨c2, c3, c4, d2, d3, d4⟩ := unhide HC
          have c2 := (hFq.cell (World.block_lt_of_cell? _ _ c2) (fun t => t)).trans c2
          have c3 := (hFq.cell (World.block_lt_of_cell? _ _ c3) (fun t => t)).trans c3
          have c4 := (hFq.cell (World.block_lt_of_cell? _ _ c4) (fun t => t)).trans c4
          have d2 := (hFq.cell (World.block_lt_of_cell? _ _ d2) (fun t => t)).trans d2
          have d3 := (hFq.cell (World.block_lt_of_cell? _ _ d3) (fun t => t)).trans d3
          have d4 := (hFq.cell (World.block_lt_of_cell? _ _ d4) (fun t => t)).trans d4
          simp only
          generalize Go.Sort.grow (redrawn wr dq) osq = wz at *
          clear hFq HC X0 X1 X2 X3 X4 Y0 Y1 Y2 Y3 Y4 RW HF1
          have HN : Hid ((y0 = y0 → fits ⟨y0, y1, y2, y3, y4⟩ ⟨x0, x1, x2, x3, x4⟩ = true) → ((l.drop (k + 1)).all fun o => fits o ⟨x0, x1, x2, x3, x4⟩) = (l.all fun o => fits o ⟨x0, x1, x2, x3, x4⟩)) := hide (fun hg => by have := unhide HU; rw [hg rfl] at this; simpa using this)
          have HB : Hid (fits ⟨y0, y1, y2, y3, y4⟩ ⟨x0, x1, x2, x3, x4⟩ = false → y = false) := hide (fun hg => by rw [← unhide HT, ← unhide HU, hg]; rfl)
          clear HU
          go_wp2_with fail
          refine wp_region_quiet_lit (by kernel_rfl) (by kernel_rfl) ?_
          cases p with
          | false =>
            repeat (go_big_quiet_step (fail))
            refine wpQuiet_nil ?_
            intro _ hw'
            obtain ⟨nq, hw''⟩ := hw'
            subst hw''
            have HV := hide (unhide HN (fun _ => by rw [unhide HS]; rfl))
            clear HN HB c2 c3 c4 d2 d3 d4
            go_wp2
            exact ⟨⟨k + 1, by omega, by go_num, (unhide HF2).drewN _, unhide HV⟩, by simp [intOf]; omega⟩
          | true =>
            repeat (go_big_quiet_step (fail))
            cases hd0 : decide (y2 < x2) with
            | true =>
              have e0 : y2 < x2 := of_decide_eq_true hd0
              clear hd0
              repeat (go_big_quiet_step (fail))
              refine wpQuiet_nil ?_
              intro _ hw'
              obtain ⟨nq, hw''⟩ := hw'
              subst hw''
              have HV := hide (unhide HB (by rw [unhide HS]; simp; omega))
              clear HN HB c2 c3 c4 d2 d3 d4
              go_wp2
              go_ret
              exact ⟨by rw [unhide HV]; rfl, (unhide HF2).drewN _⟩
            | false =>
              have e0 : ¬ y2 < x2 := of_decide_eq_false hd0
              clear hd0
              repeat (go_big_quiet_step (fail))
              cases hd1 : decide (y3 < x3) with
              | true =>
                have e1 : y3 < x3 := of_decide_eq_true hd1
                clear hd1
                repeat (go_big_quiet_step (fail))
                refine wpQuiet_nil ?_
                intro _ hw'
                obtain ⟨nq, hw''⟩ := hw'
                subst hw''
                have HV := hide (unhide HB (by rw [unhide HS]; simp; omega))
                clear HN HB c2 c3 c4 d2 d3 d4
                go_wp2
                go_ret
                exact ⟨by rw [unhide HV]; rfl, (unhide HF2).drewN _⟩
              | false =>
                have e1 : ¬ y3 < x3 := of_decide_eq_false hd1
                clear hd1
                repeat (go_big_quiet_step (fail))
                cases hd2 : decide (y4 < x4) with
                | true =>
                  have e2 : y4 < x4 := of_decide_eq_true hd2
                  clear hd2
                  repeat (go_big_quiet_step (fail))
                  refine wpQuiet_nil ?_
                  intro _ hw'
                  obtain ⟨nq, hw''⟩ := hw'
                  subst hw''
                  have HV := hide (unhide HB (by rw [unhide HS]; simp; omega))
                  clear HN HB c2 c3 c4 d2 d3 d4
                  go_wp2
                  go_ret
                  exact ⟨by rw [unhide HV]; rfl, (unhide HF2).drewN _⟩
                | false =>
                  have e2 : ¬ y4 < x4 := of_decide_eq_false hd2
                  clear hd2
                  repeat (go_big_quiet_step (fail))
                  refine wpQuiet_nil ?_
                  intro _ hw'
                  obtain ⟨nq, hw''⟩ := hw'
                  subst hw''
                  have HV := hide (unhide HN (fun _ => by rw [unhide HS]; simp; omega))
                  clear HN HB c2 c3 c4 d2 d3 d4
                  go_wp2
                  exact ⟨⟨k + 1, by omega, by go_num, (unhide HF2).drewN _, unhide HV⟩, by simp [intOf]; omega⟩
        · obtain rfl : k = l.length := by omega
          have HV : Hid (((l.drop (i + 1)).all fun s => l.all fun o => fits o s) = y) := hide (by
            have h2 := unhide HT
            have h3 := (unhide HK).2
            rw [List.drop_length] at h3
            rw [← h3] at h2
            simpa using h2)
          have HF2 := hide (unhide HK).1
          clear HK HT HF
          go_wp2
          exact ⟨⟨i + 1, by omega, by go_num, unhide HF2, unhide HV⟩, by simp [intOf]; omega⟩
    · obtain rfl : i = l.length := by omega
      have HT' : Hid (y = true) := hide (by rw [← (unhide HI).2, List.drop_length]; rfl)
      have HF := hide (unhide HI).1
      clear HI H HE
      go_wp2
      go_ret
      exact ⟨by rw [unhide HT']; rfl, unhide HF⟩

end Go.Proofs.YtkjoojamkbpfcaaGreat

/- The document's own Right. -/
namespace Go.Proofs.YtkjoojamkbpfcaaGreat
open Go.RowKit

theorem minutes_parts (t : Tf) : minutesOk t = ((decide (1 ≤ t.longest) && decide (t.longest ≤ 1440)) && (decide (0 ≤ t.hopper) && decide (t.hopper ≤ 1440)) && (decide (0 ≤ t.change) && decide (t.change ≤ 1440)) && (decide (0 ≤ t.passback) && decide (t.passback ≤ 1440)) && (decide (0 ≤ t.delay) && decide (t.delay ≤ 1440))) := by
  rw [Bool.eq_iff_iff]
  simp [minutesOk, minOk]
  omega

set_option maxHeartbeats 8000000 in
set_option maxRecDepth 100000 in
theorem rright_walk (w : World) (A : Ad) (t : Tf) (h : TAt w A t) : Calls Tryz.prog 20 #[tv A t] w fun e w' => e = .returned (.int .i64 (rightE t)) ∧ Fr (fun _ => False) w w' := by
  obtain ⟨Y, HY⟩ : ∃ Y, Hid (rightE t = Y) := ⟨_, rfl⟩
  rw [unhide HY]
  obtain ⟨B, hB⟩ : ∃ B, w.heap.size = B := ⟨_, rfl⟩
  have HB0 : Hid (TB (w.alloc (.cells (tc A t) 27)) B A t) := hide (by rw [← hB]; exact TB.new w A t)
  have HF0 := hide ((Fr.refl (fun _ => False) w).alloc (.cells (tc A t) 27))
  have H := hide h
  have hoff := h.off
  obtain ⟨w0, hw0⟩ : ∃ w0, w0 = w.alloc (.cells (tc A t) 27) := ⟨_, rfl⟩
  rw [← hw0] at HB0 HF0
  clear h
  unfold tv
  cases hb1 : stationsOk t.st with
  | false =>
    have R := rstations_any w0 A.aS A.cS t.st ((unhide H).st.keep (unhide HF0)) (unhide H).lS
    rw [hb1] at R
    have c0 : w0.cell? ⟨B, 0, none⟩ = some (.slice A.aS t.st.length A.cS) := (unhide HB0).cell 0
    go_enter Tryz.func20, Tryz.ntmps20
    rw [hw0] at c0
    go_wp2_with fail
    rw [← hw0]
    refine R.mono ?_
    rintro e w1 ⟨rfl, hF⟩
    have HB1 := hide ((unhide HB0).keep hF)
    have HF1 := hide ((unhide HF0).trans hF (fun _ _ t => t))
    clear R hF HB0 HF0 c0
    clear hw0
    clear HB1
    have HR : Hid (Y = 70) := hide (by rw [← unhide HY]; simp [rightE, hb1])
    clear HY H hb1
    go_wp2
    go_ret
    exact ⟨by rw [unhide HR]; rfl, unhide HF1⟩
  | true =>
    have R := rstations_any w0 A.aS A.cS t.st ((unhide H).st.keep (unhide HF0)) (unhide H).lS
    rw [hb1] at R
    obtain ⟨Z, hZ⟩ : ∃ Z : Nat, zmax 1 t.st = (Z : Int) := ⟨(zmax 1 t.st).toNat, by have := zmax_bound t.st 0 1 (by have h1 := hb1; rw [stationsOk, Bool.and_eq_true] at h1; exact h1.2) (by omega) (by omega); omega⟩
    have hZ9 : Z ≤ 9 := by have := zmax_bound t.st 0 1 (by have h1 := hb1; rw [stationsOk, Bool.and_eq_true] at h1; exact h1.2) (by omega) (by omega); omega
    rw [hZ] at R
    have c0 : w0.cell? ⟨B, 0, none⟩ = some (.slice A.aS t.st.length A.cS) := (unhide HB0).cell 0
    go_enter Tryz.func20, Tryz.ntmps20
    rw [hw0] at c0
    go_wp2_with fail
    rw [← hw0]
    refine R.mono ?_
    rintro e w1 ⟨rfl, hF⟩
    have HB1 := hide ((unhide HB0).keep hF)
    have HF1 := hide ((unhide HF0).trans hF (fun _ _ t => t))
    clear R hF HB0 HF0 c0
    clear hw0
    cases hb2 : zonesOk t with
    | false =>
      have R := rspans_any w1 A.aP A.cP t.sp ((unhide H).sp.keep (unhide HF1)) (unhide H).lP Z hZ9
      rw [show sameAll t.sp (prs 1 Z) = false by rw [← hb2, zonesOk, hZ]; rfl] at R
      have c1 : w1.cell? ⟨B, 1, none⟩ = some (.slice A.aP t.sp.length A.cP) := (unhide HB1).cell 1
      go_wp2_with fail
      refine R.mono ?_
      rintro e w2 ⟨rfl, rfl⟩
      have HB2 := HB1
      have HF2 := HF1
      clear R HB1 HF1 c1
      clear HB2
      have HR : Hid (Y = 70) := hide (by rw [← unhide HY]; simp [rightE, hb1, hb2])
      clear HY H hb1 hb2
      go_wp2
      go_ret
      exact ⟨by rw [unhide HR]; rfl, unhide HF2⟩
    | true =>
      have R := rspans_any w1 A.aP A.cP t.sp ((unhide H).sp.keep (unhide HF1)) (unhide H).lP Z hZ9
      rw [show sameAll t.sp (prs 1 Z) = true by rw [← hb2, zonesOk, hZ]; rfl] at R
      have c1 : w1.cell? ⟨B, 1, none⟩ = some (.slice A.aP t.sp.length A.cP) := (unhide HB1).cell 1
      go_wp2_with fail
      refine R.mono ?_
      rintro e w2 ⟨rfl, rfl⟩
      have HB2 := HB1
      have HF2 := HF1
      clear R HB1 HF1 c1
      cases hb3 : pricesOk t with
      | false =>
        have R := rprices_any w2 A t ((unhide H).keep (unhide HF2))
        rw [hb3] at R
        go_wp2_with (refine wpList_load_tariff rfl (.tmp 1) rfl (g := B) (A := A) (t := t) rfl (unhide HB2) ?_)
        refine R.mono ?_
        rintro e w3 ⟨rfl, hF⟩
        have HB3 := hide ((unhide HB2).keep hF)
        have HF3 := hide ((unhide HF2).trans hF (fun _ _ t => t))
        clear R hF HB2 HF2
        clear HB3
        have HR : Hid (Y = 50) := hide (by rw [← unhide HY]; simp [rightE, hb1, hb2, hb3])
        clear HY H hb1 hb2 hb3
        go_wp2
        go_ret
        exact ⟨by rw [unhide HR]; rfl, unhide HF3⟩
      | true =>
        have R := rprices_any w2 A t ((unhide H).keep (unhide HF2))
        rw [hb3] at R
        go_wp2_with (refine wpList_load_tariff rfl (.tmp 1) rfl (g := B) (A := A) (t := t) rfl (unhide HB2) ?_)
        refine R.mono ?_
        rintro e w3 ⟨rfl, hF⟩
        have HB3 := hide ((unhide HB2).keep hF)
        have HF3 := hide ((unhide HF2).trans hF (fun _ _ t => t))
        clear R hF HB2 HF2
        cases hb4 : withinOk t.sp with
        | false =>
          have R := rwider_any w3 A.aP A.cP t.sp ((unhide H).sp.keep (unhide HF3)) (unhide H).lP
          rw [hb4] at R
          have c1 : w3.cell? ⟨B, 1, none⟩ = some (.slice A.aP t.sp.length A.cP) := (unhide HB3).cell 1
          go_wp2_with fail
          refine R.mono ?_
          rintro e w4 ⟨rfl, hF⟩
          have HB4 := hide ((unhide HB3).keep hF)
          have HF4 := hide ((unhide HF3).trans hF (fun _ _ t => t))
          clear R hF HB3 HF3 c1
          have R := rbands_any w4 A.aB A.cB t.bd ((unhide H).bd.keep (unhide HF4)) (unhide H).lB
          generalize bandsOk t.bd = q at R
          have c2 : w4.cell? ⟨B, 2, none⟩ = some (.slice A.aB t.bd.length A.cB) := (unhide HB4).cell 2
          go_wp2_with fail
          refine R.mono ?_
          rintro e w5 ⟨rfl, hF⟩
          have HF5 := hide ((unhide HF4).trans hF (fun _ _ t => t))
          clear R hF HB4 HF4 c2
          have HR : Hid (Y = 70) := hide (by rw [← unhide HY]; simp [rightE, hb1, hb2, hb3, hb4])
          clear HY H hb1 hb2 hb3 hb4
          go_wp2
          go_ret
          exact ⟨by rw [unhide HR]; rfl, unhide HF5⟩
        | true =>
          have R := rwider_any w3 A.aP A.cP t.sp ((unhide H).sp.keep (unhide HF3)) (unhide H).lP
          rw [hb4] at R
          have c1 : w3.cell? ⟨B, 1, none⟩ = some (.slice A.aP t.sp.length A.cP) := (unhide HB3).cell 1
          go_wp2_with fail
          refine R.mono ?_
          rintro e w4 ⟨rfl, hF⟩
          have HB4 := hide ((unhide HB3).keep hF)
          have HF4 := hide ((unhide HF3).trans hF (fun _ _ t => t))
          clear R hF HB3 HF3 c1
          cases hb5 : bandsOk t.bd with
          | false =>
            have R := rbands_any w4 A.aB A.cB t.bd ((unhide H).bd.keep (unhide HF4)) (unhide H).lB
            rw [hb5] at R
            have c2 : w4.cell? ⟨B, 2, none⟩ = some (.slice A.aB t.bd.length A.cB) := (unhide HB4).cell 2
            go_wp2_with fail
            refine R.mono ?_
            rintro e w5 ⟨rfl, hF⟩
            have HB5 := hide ((unhide HB4).keep hF)
            have HF5 := hide ((unhide HF4).trans hF (fun _ _ t => t))
            clear R hF HB4 HF4 c2
            clear HB5
            have HR : Hid (Y = 70) := hide (by rw [← unhide HY]; simp [rightE, hb1, hb2, hb3, hb4, hb5])
            clear HY H hb1 hb2 hb3 hb4 hb5
            go_wp2
            go_ret
            exact ⟨by rw [unhide HR]; rfl, unhide HF5⟩
          | true =>
            have R := rbands_any w4 A.aB A.cB t.bd ((unhide H).bd.keep (unhide HF4)) (unhide H).lB
            rw [hb5] at R
            have c2 : w4.cell? ⟨B, 2, none⟩ = some (.slice A.aB t.bd.length A.cB) := (unhide HB4).cell 2
            go_wp2_with fail
            refine R.mono ?_
            rintro e w5 ⟨rfl, hF⟩
            have HB5 := hide ((unhide HB4).keep hF)
            have HF5 := hide ((unhide HF4).trans hF (fun _ _ t => t))
            clear R hF HB4 HF4 c2
            cases hb6 : rate t.off with
            | false =>
              have R := rrate_any w5 t.off hoff
              rw [hb6] at R
              have c3 : w5.cell? ⟨B, 3, none⟩ = some (.float .f64 t.off) := (unhide HB5).cell 3
              go_wp2_with fail
              refine R.mono ?_
              rintro e w6 ⟨rfl, rfl⟩
              have HB6 := HB5
              have HF6 := HF5
              clear R HB5 HF5 c3
              clear HB6
              have HR : Hid (Y = 51) := hide (by rw [← unhide HY]; simp [rightE, hb1, hb2, hb3, hb4, hb5, hb6])
              clear HY H hb1 hb2 hb3 hb4 hb5 hb6
              go_wp2
              go_ret
              exact ⟨by rw [unhide HR]; rfl, unhide HF6⟩
            | true =>
              have R := rrate_any w5 t.off hoff
              rw [hb6] at R
              have c3 : w5.cell? ⟨B, 3, none⟩ = some (.float .f64 t.off) := (unhide HB5).cell 3
              go_wp2_with fail
              refine R.mono ?_
              rintro e w6 ⟨rfl, rfl⟩
              have HB6 := HB5
              have HF6 := HF5
              clear R HB5 HF5 c3
              have HM := hide (minutes_parts t)
              have c9 : w6.cell? ⟨B, 9, none⟩ = some (.int .i64 t.longest) := (unhide HB6).cell 9
              have c7 : w6.cell? ⟨B, 7, none⟩ = some (.int .i64 t.hopper) := (unhide HB6).cell 7
              have c10 : w6.cell? ⟨B, 10, none⟩ = some (.int .i64 t.change) := (unhide HB6).cell 10
              have c11 : w6.cell? ⟨B, 11, none⟩ = some (.int .i64 t.passback) := (unhide HB6).cell 11
              have c12 : w6.cell? ⟨B, 12, none⟩ = some (.int .i64 t.delay) := (unhide HB6).cell 12
              have HFz := HF6
              clear HB6 HF6 H hoff
              have R0 := fun w => rminutes_any w t.longest 1
              generalize (decide (1 ≤ t.longest) && decide (t.longest ≤ 1440)) = m0 at R0 HM
              have R1 := fun w => rminutes_any w t.hopper 0
              generalize (decide (0 ≤ t.hopper) && decide (t.hopper ≤ 1440)) = m1 at R1 HM
              have R2 := fun w => rminutes_any w t.change 0
              generalize (decide (0 ≤ t.change) && decide (t.change ≤ 1440)) = m2 at R2 HM
              have R3 := fun w => rminutes_any w t.passback 0
              generalize (decide (0 ≤ t.passback) && decide (t.passback ≤ 1440)) = m3 at R3 HM
              have R4 := fun w => rminutes_any w t.delay 0
              generalize (decide (0 ≤ t.delay) && decide (t.delay ≤ 1440)) = m4 at R4 HM
              have HRT : Hid (Y = if minutesOk t = true then 0 else 70) := hide (by rw [← unhide HY]; simp [rightE, hb1, hb2, hb3, hb4, hb5, hb6])
              rw [unhide HM] at HRT
              clear HY HM hb1 hb2 hb3 hb4 hb5 hb6 hZ hZ9
              cases m0 with
              | false =>
                have HR : Hid (Y = 70) := hide (by rw [unhide HRT]; simp)
                clear HRT
                go_wp2_with fail
                refine (R0 _).mono ?_
                rintro e w7 ⟨rfl, rfl⟩
                go_wp2
                go_ret
                exact ⟨by rw [unhide HR]; rfl, unhide HFz⟩
              | true =>
                cases m1 with
                | false =>
                  have HR : Hid (Y = 70) := hide (by rw [unhide HRT]; simp)
                  clear HRT
                  go_wp2_with fail
                  refine (R0 _).mono ?_
                  rintro e w7 ⟨rfl, rfl⟩
                  go_wp2_with fail
                  refine (R1 _).mono ?_
                  rintro e w8 ⟨rfl, rfl⟩
                  go_wp2
                  go_ret
                  exact ⟨by rw [unhide HR]; rfl, unhide HFz⟩
                | true =>
                  cases m2 with
                  | false =>
                    have HR : Hid (Y = 70) := hide (by rw [unhide HRT]; simp)
                    clear HRT
                    go_wp2_with fail
                    refine (R0 _).mono ?_
                    rintro e w7 ⟨rfl, rfl⟩
                    go_wp2_with fail
                    refine (R1 _).mono ?_
                    rintro e w8 ⟨rfl, rfl⟩
                    go_wp2_with fail
                    refine (R2 _).mono ?_
                    rintro e w9 ⟨rfl, rfl⟩
                    go_wp2
                    go_ret
                    exact ⟨by rw [unhide HR]; rfl, unhide HFz⟩
                  | true =>
                    cases m3 with
                    | false =>
                      have HR : Hid (Y = 70) := hide (by rw [unhide HRT]; simp)
                      clear HRT
                      go_wp2_with fail
                      refine (R0 _).mono ?_
                      rintro e w7 ⟨rfl, rfl⟩
                      go_wp2_with fail
                      refine (R1 _).mono ?_
                      rintro e w8 ⟨rfl, rfl⟩
                      go_wp2_with fail
                      refine (R2 _).mono ?_
                      rintro e w9 ⟨rfl, rfl⟩
                      go_wp2_with fail
                      refine (R3 _).mono ?_
                      rintro e w10 ⟨rfl, rfl⟩
                      go_wp2
                      go_ret
                      exact ⟨by rw [unhide HR]; rfl, unhide HFz⟩
                    | true =>
                      cases m4 with
                      | false =>
                        have HR : Hid (Y = 70) := hide (by rw [unhide HRT]; simp)
                        clear HRT
                        go_wp2_with fail
                        refine (R0 _).mono ?_
                        rintro e w7 ⟨rfl, rfl⟩
                        go_wp2_with fail
                        refine (R1 _).mono ?_
                        rintro e w8 ⟨rfl, rfl⟩
                        go_wp2_with fail
                        refine (R2 _).mono ?_
                        rintro e w9 ⟨rfl, rfl⟩
                        go_wp2_with fail
                        refine (R3 _).mono ?_
                        rintro e w10 ⟨rfl, rfl⟩
                        go_wp2_with fail
                        refine (R4 _).mono ?_
                        rintro e w11 ⟨rfl, rfl⟩
                        go_wp2
                        go_ret
                        exact ⟨by rw [unhide HR]; rfl, unhide HFz⟩
                      | true =>
                        have HR : Hid (Y = 0) := hide (by rw [unhide HRT]; simp)
                        clear HRT
                        go_wp2_with fail
                        refine (R0 _).mono ?_
                        rintro e w7 ⟨rfl, rfl⟩
                        go_wp2_with fail
                        refine (R1 _).mono ?_
                        rintro e w8 ⟨rfl, rfl⟩
                        go_wp2_with fail
                        refine (R2 _).mono ?_
                        rintro e w9 ⟨rfl, rfl⟩
                        go_wp2_with fail
                        refine (R3 _).mono ?_
                        rintro e w10 ⟨rfl, rfl⟩
                        go_wp2_with fail
                        refine (R4 _).mono ?_
                        rintro e w11 ⟨rfl, rfl⟩
                        go_wp2
                        go_ret
                        exact ⟨by rw [unhide HR]; rfl, unhide HFz⟩

end Go.Proofs.YtkjoojamkbpfcaaGreat

/- The document's own Same: the same tariff in two places is the same. -/
namespace Go.Proofs.YtkjoojamkbpfcaaGreat
open Go.RowKit

theorem ordN_self (a : Nat) : ordN a a = 0 := by simp [ordN, cmpN]

theorem neq35 (w : World) (a b c : Int) : (binOp .neq 42 (.agg #[.int .i64 a, .int .i64 b, .int .i64 c]) (.agg #[.int .i64 a, .int .i64 b, .int .i64 c])).run Tryz.prog w = .ok (.bool false) w := by
  rw [run_neq_struct, eq35]
  simp [Result.andThen]
theorem neq39 (w : World) (a b c d e : Int) : (binOp .neq 44 (.agg #[.int .i64 a, .int .i64 b, .int .i64 c, .int .i64 d, .int .i64 e]) (.agg #[.int .i64 a, .int .i64 b, .int .i64 c, .int .i64 d, .int .i64 e])).run Tryz.prog w = .ok (.bool false) w := by
  rw [run_neq_struct, eq39]
  simp [Result.andThen]
theorem neq46 (w : World) (a b : Int) : (binOp .neq 52 (.agg #[.int .i64 a, .int .i64 b]) (.agg #[.int .i64 a, .int .i64 b])).run Tryz.prog w = .ok (.bool false) w := by
  rw [run_neq_struct, eq46]
  simp [Result.andThen]

set_option maxHeartbeats 4000000 in
set_option maxRecDepth 100000 in
theorem same_anyT (w : World) (A A2 : Ad) (t : Tf) (h : TAt w A t) (h2 : TAt w A2 t) : Calls Tryz.prog 13 #[tv A t, tv A2 t] w fun e w' => e = .returned (.bool true) ∧ Fr (fun _ => False) w w' := by
  obtain ⟨B, HBE⟩ : ∃ B, Hid (B = w.heap.size) := ⟨_, rfl⟩
  obtain ⟨W0, hW0⟩ : ∃ W0, W0 = (w.alloc (.cells (tc A t) 27)).alloc (.cells (tc A2 t) 27) := ⟨_, rfl⟩
  have HF0 : Hid (Fr (fun _ => False) w W0) := hide (by rw [hW0]; exact ((Fr.refl _ w).alloc _).alloc _)
  have hb : TB W0 B A t := by rw [hW0, unhide HBE]; exact (TB.new w A t).keep ((Fr.refl _ _).alloc _)
  have hb2 : TB W0 (B + 1) A2 t := by rw [hW0, unhide HBE, ← heap_alloc w (.cells (tc A t) 27)]; exact TB.new _ A2 t
  have HB := hide (And.intro hb hb2)
  have H := hide (And.intro (h.keep (unhide HF0)) (h2.keep (unhide HF0)))
  have RO := rorder_any W0 t.off t.off h.off h.off
  rw [ordN_self] at RO
  have lS := h.lS
  have lP := h.lP
  have lB := h.lB
  clear h h2
  have c0 : W0.cell? ⟨B, 0, none⟩ = some (.slice A.aS t.st.length A.cS) := hb.cell 0
  have d0 : W0.cell? ⟨B + 1, 0, none⟩ = some (.slice A2.aS t.st.length A2.cS) := hb2.cell 0
  have c1 : W0.cell? ⟨B, 1, none⟩ = some (.slice A.aP t.sp.length A.cP) := hb.cell 1
  have d1 : W0.cell? ⟨B + 1, 1, none⟩ = some (.slice A2.aP t.sp.length A2.cP) := hb2.cell 1
  have c2 : W0.cell? ⟨B, 2, none⟩ = some (.slice A.aB t.bd.length A.cB) := hb.cell 2
  have d2 : W0.cell? ⟨B + 1, 2, none⟩ = some (.slice A2.aB t.bd.length A2.cB) := hb2.cell 2
  have c3 : W0.cell? ⟨B, 3, none⟩ = some (.float .f64 t.off) := hb.cell 3
  have d3 : W0.cell? ⟨B + 1, 3, none⟩ = some (.float .f64 t.off) := hb2.cell 3
  clear hb hb2
  unfold tc at hW0
  unfold tv tc
  go_enter Tryz.func13, Tryz.ntmps13
  go_wp2_with fail
  rw [← hW0, ← unhide HBE]
  clear hW0
  refine RO.mono ?_
  rintro e w1 ⟨rfl, rfl⟩
  clear RO c0 c1 c2 c3 d0 d1 d2 d3
  go_wp2
  go_loopw [5] (fun iv wq => ∃ (i : Nat), i ≤ t.st.length ∧ iv = .int .i64 i ∧ Hid (Fr (fun _ => False) w1 wq)) (fun iv _ => t.st.length - (intOf iv).toNat)
  case atStart => exact ⟨0, Nat.zero_le _, rfl, (hide (Fr.refl (fun _ => False) w1))⟩
  case round =>
    obtain ⟨i, hi, rfl, HI0⟩ := hrel
    have HBwr := hide (And.intro ((unhide HB).1.keep (unhide HI0)) ((unhide HB).2.keep (unhide HI0)))
    have cA : wr.cell? ⟨B, 0, none⟩ = some (.slice A.aS t.st.length A.cS) := (unhide HBwr).1.cell 0
    have dA : wr.cell? ⟨B + 1, 0, none⟩ = some (.slice A2.aS t.st.length A2.cS) := (unhide HBwr).2.cell 0
    by_cases hil : i < t.st.length
    · obtain ⟨b, off, eA, x0, x1, x2⟩ := ((unhide H).1.st.keep (unhide HI0)).st hil
      obtain ⟨b', off', eA', y0, y1, y2⟩ := ((unhide H).2.st.keep (unhide HI0)).st hil
      rw [eA] at cA
      rw [eA'] at dA
      generalize t.st[i] = s at *
      have e1 := eg35
      have e2 := neq35
      clear eA eA' HBwr
      go_wp2_with fail
      go_big_quiet (fail)
      go_wp2
      exact ⟨⟨i + 1, by omega, by go_num, (unhide HI0).drewN _⟩, by simp [intOf]; omega⟩
    · obtain rfl : i = t.st.length := by omega
      have HJ0 := HI0
      clear HI0 HBwr dA
      go_wp2
      clear cA
      go_loopw [6] (fun iv wq => ∃ (i : Nat), i ≤ t.sp.length ∧ iv = .int .i64 i ∧ Hid (Fr (fun _ => False) w1 wq)) (fun iv _ => t.sp.length - (intOf iv).toNat)
      case atStart => exact ⟨0, Nat.zero_le _, rfl, (unhide HJ0)⟩
      case round =>
        obtain ⟨i, hi, rfl, HI1⟩ := hrel
        have HBwr := hide (And.intro ((unhide HB).1.keep (unhide HI1)) ((unhide HB).2.keep (unhide HI1)))
        have cA : wr.cell? ⟨B, 1, none⟩ = some (.slice A.aP t.sp.length A.cP) := (unhide HBwr).1.cell 1
        have dA : wr.cell? ⟨B + 1, 1, none⟩ = some (.slice A2.aP t.sp.length A2.cP) := (unhide HBwr).2.cell 1
        by_cases hil : i < t.sp.length
        · obtain ⟨b, off, eA, x0, x1, x2, x3, x4⟩ := ((unhide H).1.sp.keep (unhide HI1)).sp hil
          obtain ⟨b', off', eA', y0, y1, y2, y3, y4⟩ := ((unhide H).2.sp.keep (unhide HI1)).sp hil
          rw [eA] at cA
          rw [eA'] at dA
          generalize t.sp[i] = s at *
          have e1 := eg39
          have e2 := neq39
          clear eA eA' HBwr
          go_wp2_with fail
          go_big_quiet (fail)
          go_wp2
          exact ⟨⟨i + 1, by omega, by go_num, (unhide HI1).drewN _⟩, by simp [intOf]; omega⟩
        · obtain rfl : i = t.sp.length := by omega
          have HJ1 := HI1
          clear HI1 HBwr dA
          go_wp2
          clear cA
          go_loopw [7] (fun iv wq => ∃ (i : Nat), i ≤ t.bd.length ∧ iv = .int .i64 i ∧ Hid (Fr (fun _ => False) w1 wq)) (fun iv _ => t.bd.length - (intOf iv).toNat)
          case atStart => exact ⟨0, Nat.zero_le _, rfl, (unhide HJ1)⟩
          case round =>
            obtain ⟨i, hi, rfl, HI2⟩ := hrel
            have HBwr := hide (And.intro ((unhide HB).1.keep (unhide HI2)) ((unhide HB).2.keep (unhide HI2)))
            have cA : wr.cell? ⟨B, 2, none⟩ = some (.slice A.aB t.bd.length A.cB) := (unhide HBwr).1.cell 2
            have dA : wr.cell? ⟨B + 1, 2, none⟩ = some (.slice A2.aB t.bd.length A2.cB) := (unhide HBwr).2.cell 2
            by_cases hil : i < t.bd.length
            · obtain ⟨b, off, eA, x0, x1⟩ := ((unhide H).1.bd.keep (unhide HI2)).bd hil
              obtain ⟨b', off', eA', y0, y1⟩ := ((unhide H).2.bd.keep (unhide HI2)).bd hil
              rw [eA] at cA
              rw [eA'] at dA
              generalize t.bd[i] = s at *
              have e1 := eg46
              have e2 := neq46
              clear eA eA' HBwr
              go_wp2_with fail
              go_big_quiet (fail)
              go_wp2
              exact ⟨⟨i + 1, by omega, by go_num, (unhide HI2).drewN _⟩, by simp [intOf]; omega⟩
            · obtain rfl : i = t.bd.length := by omega
              have HJ2 := HI2
              have HBz := HBwr
              have c4 : wr.cell? ⟨B, 4, none⟩ = some (.int .i64 t.bus) := (unhide HBz).1.cell 4
              have d4 : wr.cell? ⟨B + 1, 4, none⟩ = some (.int .i64 t.bus) := (unhide HBz).2.cell 4
              have c5 : wr.cell? ⟨B, 5, none⟩ = some (.int .i64 t.busDaily) := (unhide HBz).1.cell 5
              have d5 : wr.cell? ⟨B + 1, 5, none⟩ = some (.int .i64 t.busDaily) := (unhide HBz).2.cell 5
              have c6 : wr.cell? ⟨B, 6, none⟩ = some (.int .i64 t.busWeekly) := (unhide HBz).1.cell 6
              have d6 : wr.cell? ⟨B + 1, 6, none⟩ = some (.int .i64 t.busWeekly) := (unhide HBz).2.cell 6
              have c7 : wr.cell? ⟨B, 7, none⟩ = some (.int .i64 t.hopper) := (unhide HBz).1.cell 7
              have d7 : wr.cell? ⟨B + 1, 7, none⟩ = some (.int .i64 t.hopper) := (unhide HBz).2.cell 7
              have c8 : wr.cell? ⟨B, 8, none⟩ = some (.int .i64 t.most) := (unhide HBz).1.cell 8
              have d8 : wr.cell? ⟨B + 1, 8, none⟩ = some (.int .i64 t.most) := (unhide HBz).2.cell 8
              have c9 : wr.cell? ⟨B, 9, none⟩ = some (.int .i64 t.longest) := (unhide HBz).1.cell 9
              have d9 : wr.cell? ⟨B + 1, 9, none⟩ = some (.int .i64 t.longest) := (unhide HBz).2.cell 9
              have c10 : wr.cell? ⟨B, 10, none⟩ = some (.int .i64 t.change) := (unhide HBz).1.cell 10
              have d10 : wr.cell? ⟨B + 1, 10, none⟩ = some (.int .i64 t.change) := (unhide HBz).2.cell 10
              have c11 : wr.cell? ⟨B, 11, none⟩ = some (.int .i64 t.passback) := (unhide HBz).1.cell 11
              have d11 : wr.cell? ⟨B + 1, 11, none⟩ = some (.int .i64 t.passback) := (unhide HBz).2.cell 11
              have c12 : wr.cell? ⟨B, 12, none⟩ = some (.int .i64 t.delay) := (unhide HBz).1.cell 12
              have d12 : wr.cell? ⟨B + 1, 12, none⟩ = some (.int .i64 t.delay) := (unhide HBz).2.cell 12
              have c13 : wr.cell? ⟨B, 13, none⟩ = some (.int .i64 t.threshold) := (unhide HBz).1.cell 13
              have d13 : wr.cell? ⟨B + 1, 13, none⟩ = some (.int .i64 t.threshold) := (unhide HBz).2.cell 13
              clear HI2 HBwr HBz dA H HB
              go_wp2
              go_ret
              exact ⟨by first | rfl | simp, (unhide HF0).trans (unhide HJ2) (fun _ _ t => t)⟩

end Go.Proofs.YtkjoojamkbpfcaaGreat

