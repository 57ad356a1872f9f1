import Derived.Test.YtkjoojamkbpfcabGreatQT2
import Derived.Laws.Rows
import Derived.Laws.Tables
import Derived.Test.YtkjoojamkbpfcabGreatQSX
import Derived.Test.YtkjoojamkbpfcabGreatQE1
import Derived.Deep.QuietTactic
import Derived.BigQuiet
/- A tariff's box: loaded and stored as a whole. -/
namespace Go.Proofs.YtkjoojamkbpfcabGreat
open Go.RowKit

/-- The box of a tariff. -/
def TB (w : World) (g : Nat) (A : Ad) (t : Tf) : Prop := w.heap[g]? = some (.cells (tc A t) 37 (0, 0))

theorem TB.new (w : World) (A : Ad) (t : Tf) : TB (w.alloc (.cells (tc A t) 37)) w.heap.size A t := by
  unfold TB
  exact heap_new w _

theorem TB.lt {w : World} {g : Nat} {A : Ad} {t : Tf} (h : TB w g A t) : g < w.heap.size := (Array.getElem?_eq_some_iff.1 h).1

theorem TB.frame {S : Nat → Prop} {w w' : World} {g : Nat} {A : Ad} {t : Tf} (h : TB w g A t) (hf : Fr S w w') (hS : ¬ S g) : TB w' g A t := (hf.block g h.lt hS).trans h
theorem TB.keep {w w' : World} {g : Nat} {A : Ad} {t : Tf} (h : TB w g A t) (hf : Fr (fun _ => False) w w') : TB w' g A t := h.frame hf (fun t => t)

theorem TB.cell {w : World} {g : Nat} {A : Ad} {t : Tf} (h : TB w g A t) (k : Nat) : w.cell? ⟨g, k, none⟩ = (tc A t)[k]? := by
  have h' : w.heap[g]? = some (.cells (tc A t) 37 (0, 0)) := h
  simp [World.cell?, h']

theorem TB.frozen {w : World} {g : Nat} {A : Ad} {t : Tf} (h : TB w g A t) (k : Nat) : w.frozen? ⟨g, k, none⟩ = false := by
  have h' : w.heap[g]? = some (.cells (tc A t) 37 (0, 0)) := h
  simp [World.frozen?, h']

theorem tb_size (A : Ad) (t : Tf) : (Tryz.prog.info? 37).map (·.size) = some (tc A t).size := by
  have h : (Tryz.prog.info? 37).map (·.size) = some 14 := by kernel_rfl
  exact h

theorem tb_one (A : Ad) (t : Tf) : (tc A t).all (·.oneCell') = true := by simp [tc, Value.oneCell']

/-- A tariff loaded out of its box. -/
theorem wpList_load_tariff {ops : Array Oper} {rest : List Oper} {o : Oper} {a : Act} {w : World} {Q : Exit → Act → World → Prop} (hgd : o.guard = none) (x : Operand) (ho : o.op = .load 37 x)
    {g : Nat} {A : Ad} {t : Tf} (hx : a.eval x = .pointer (some ⟨g, 0, none⟩)) (hg : TB w g A t) (h : wpList Tryz.prog ops Q rest (a.put o.dst (tv A t)) w) : wpList Tryz.prog ops Q (o :: rest) a w :=
  wpList_load_row hgd 37 x ho g hx 37 (tc A t) (0, 0) _ hg Tryz.underlying37 rfl (tb_size A t) h

/-- A tariff stored into a box. -/
theorem wpList_store_tariff {ops : Array Oper} {rest : List Oper} {o : Oper} {a : Act} {w : World} {Q : Exit → Act → World → Prop} (hgd : o.guard = none) (x y : Operand) (ho : o.op = .store 37 x y)
    {g : Nat} {A : Ad} {t : Tf} (hx : a.eval x = .pointer (some ⟨g, 0, none⟩)) (hy : a.eval y = tv A t) (old : Array Value) (hg : w.heap[g]? = some (.cells old 37 (0, 0))) (hold : old.size = 14)
    (h : wpList Tryz.prog ops Q rest (a.put o.dst undef) (w.setRow g (tc A t))) : wpList Tryz.prog ops Q (o :: rest) a w :=
  wpList_store_row hgd 37 x y ho g (tc A t) hx hy 37 old hg (tb_size A t) hold (tb_one A t) h

theorem TB.set {w : World} {g : Nat} {old : Array Value} (hg : w.heap[g]? = some (.cells old 37 (0, 0))) (A : Ad) (t : Tf) : TB (w.setRow g (tc A t)) g A t := setRow_heap _ _ _ _ _ _ hg

theorem results_tariff {fn : Func} {p : Tmp} (h : fn.results = #[.cell p 37]) (tmps : Array Value) (w : World) {g : Nat} {A : Ad} {t : Tf} (hp : tmps.getD p undef = .pointer (some ⟨g, 0, none⟩)) (hg : TB w g A t) :
    (results fn tmps).run Tryz.prog w = .ok (tv A t) w := results_cell_row h tmps w g 37 (tc A t) (0, 0) _ hp hg Tryz.underlying37 rfl (tb_size A t)

end Go.Proofs.YtkjoojamkbpfcabGreat

/- The document's sums: Right, Add, Sub, Sum. -/
namespace Go.Proofs.YtkjoojamkbpfcabGreat
open Go.RowKit

end Go.Proofs.YtkjoojamkbpfcabGreat

/- The document's rates: parts, Rate. -/
namespace Go.Proofs.YtkjoojamkbpfcabGreat
open Go.RowKit

theorem results_tmp4 {fn : Func} {t u v x : Tmp} (h : fn.results = #[.tmp t, .tmp u, .tmp v, .tmp x]) (tmps : Array Value) (P : Program) (w : World) :
    (results fn tmps).run P w = .ok (.tuple #[tmps.getD t undef, tmps.getD u undef, tmps.getD v undef, tmps.getD x undef]) w := by
  simp [results, h]

/-- A float's parts: sign, whole number, power, whether it is one. -/
def pSign (b : Nat) : Bool := decide (9223372036854775808 ≤ b)
def pExp (b : Nat) : Nat := b / 4503599627370496 % 2048
def pWhole (b : Nat) : Nat := if pExp b = 2047 then b % 4503599627370496 else if pExp b = 0 then b % 4503599627370496 else b % 4503599627370496 + 4503599627370496
def pPower (b : Nat) : Int := if pExp b = 2047 then 0 else if pExp b = 0 then -1074 else (pExp b : Int) - 1075
def pOk (b : Nat) : Bool := decide (pExp b ≠ 2047)

theorem parts_any (w : World) (b : Nat) (hb : b < 18446744073709551616) :
    Calls Tryz.prog 120 #[.float .f64 b] w fun e w' => e = .returned (.tuple #[.bool (pSign b), .int .u64 ((pWhole b : Nat) : Int), .int .i64 (pPower b), .bool (pOk b)]) ∧ w' = w := by
  have c1 := fun w => call31 b w
  have HS : Hid (((b : Int) / 9223372036854775808 == 1) = pSign b) := by
    unfold Hid pSign
    rw [Bool.eq_iff_iff]
    simp
    omega
  have he : ((b : Int) / 4503599627370496 % 2048) = ((pExp b : Nat) : Int) := by simp [pExp]
  by_cases h1 : pExp b = 2047
  · have hx : ((b : Int) / 4503599627370496 % 2048) = 2047 := by omega
    have HV : Hid (pWhole b = b % 4503599627370496 ∧ pPower b = 0 ∧ pOk b = false) := by simp [Hid, pWhole, pPower, pOk, h1]
    clear h1 he
    go_enter Tryz.func120, Tryz.ntmps120
    go_wp2
    refine bodyPost_ret (results_tmp4 rfl _ _ _) rfl ?_
    refine ⟨?_, rfl⟩
    rw [(unhide HV).1, (unhide HV).2.1, (unhide HV).2.2, ← unhide HS]
    rfl
  · by_cases h0 : pExp b = 0
    · have hx : ((b : Int) / 4503599627370496 % 2048) = 0 := by omega
      have HV : Hid (pWhole b = b % 4503599627370496 ∧ pPower b = -1074 ∧ pOk b = true) := by simp [Hid, pWhole, pPower, pOk, h0]
      clear h1 h0 he
      go_enter Tryz.func120, Tryz.ntmps120
      go_wp2
      refine bodyPost_ret (results_tmp4 rfl _ _ _) rfl ?_
      refine ⟨?_, rfl⟩
      rw [(unhide HV).1, (unhide HV).2.1, (unhide HV).2.2, ← unhide HS]
      rfl
    · have hx : ((b : Int) / 4503599627370496 % 2048 == 0) = false := by rw [he]; simp; exact h0
      have hy : ((b : Int) / 4503599627370496 % 2048 == 2047) = false := by
        rw [he]
        have : ¬ ((pExp b : Nat) : Int) = 2047 := by omega
        simpa using this
      have HV : Hid (((pWhole b : Nat) : Int) = (b : Int) % 4503599627370496 + 4503599627370496 ∧ pPower b = (b : Int) / 4503599627370496 % 2048 - 1075 ∧ pOk b = true) := by
        rw [he]
        simp [Hid, pWhole, pPower, pOk, h0, h1]
      clear h1 h0 he
      go_enter Tryz.func120, Tryz.ntmps120
      go_wp2
      refine bodyPost_ret (results_tmp4 rfl _ _ _) rfl ?_
      refine ⟨?_, rfl⟩
      rw [(unhide HV).1, (unhide HV).2.1, (unhide HV).2.2, ← unhide HS]
      rfl

theorem rate_parts (b : Nat) (hb : b < 18446744073709551616) : rate b = (pOk b && !pSign b && (decide (pPower b < -52) || (decide (pPower b = -52) && decide (pWhole b = 4503599627370496)) || decide (pWhole b = 0))) := by
  unfold rate pOk pSign pPower pWhole
  have he : pExp b = b / 4503599627370496 % 2048 := rfl
  rw [Bool.eq_iff_iff]
  by_cases h1 : pExp b = 2047
  · simp [h1]; omega
  · by_cases h0 : pExp b = 0
    · simp [h0]; omega
    · simp [h1, h0]; omega

end Go.Proofs.YtkjoojamkbpfcabGreat

/- The document's order of all floats: rank, Order. -/
namespace Go.Proofs.YtkjoojamkbpfcabGreat
open Go.RowKit

def rk (s : Bool) (q : Nat) (o : Bool) : Int :=
  if !o && decide (0 < q) then 6 else if !o && s then 0 else if !o then 5 else if decide (q = 0) && s then 2 else if decide (q = 0) then 3 else if s then 1 else 4

theorem kind_parts (b : Nat) (hb : b < 18446744073709551616) : kindN b = rk (pSign b) (pWhole b) (pOk b) := by
  have he : pExp b = b / 4503599627370496 % 2048 := rfl
  unfold rk pSign pWhole pOk kindN
  by_cases h1 : pExp b = 2047
  · simp only [h1, if_true, ne_eq, not_true_eq_false, decide_false, Bool.not_false, Bool.true_and, decide_eq_true_eq]
    repeat' split
    all_goals first | rfl | omega
  · by_cases h0 : pExp b = 0
    · have h2 : ¬ (0 = 2047) := by omega
      simp only [h0, h2, if_true, if_false, ne_eq, not_false_eq_true, decide_true, Bool.not_true, Bool.false_and, Bool.false_eq_true, Bool.and_eq_true, decide_eq_true_eq]
      repeat' split
      all_goals first | rfl | omega
    · simp only [h1, h0, if_false, ne_eq, not_false_eq_true, decide_true, Bool.not_true, Bool.false_and, Bool.false_eq_true, Bool.and_eq_true, decide_eq_true_eq]
      repeat' split
      all_goals first | rfl | omega

theorem rrank_any (w : World) (b : Nat) (hb : b < 18446744073709551616) : Calls Tryz.prog 86 #[.float .f64 b] w fun e w' => e = .returned (.int .i64 (kindN b)) ∧ w' = w := by
  have R := parts_any w b hb
  have HK := hide (kind_parts b hb)
  have hq : pWhole b = 0 ∨ 0 < pWhole b := by omega
  generalize kindN b = k at *
  generalize pSign b = s at *
  generalize pWhole b = q at *
  generalize pPower b = p at *
  generalize pOk b = o at *
  go_enter Tryz.func86, Tryz.ntmps86
  go_wp2_with fail
  refine R.mono ?_
  rintro e w1 ⟨rfl, rfl⟩
  clear R
  cases o with
  | false =>
    cases s with
    | false =>
      rcases hq with rfl | hq
      · go_wp2
        go_ret
        exact ⟨by rw [unhide HK]; rfl, rfl⟩
      · go_wp2
        go_ret
        exact ⟨by rw [unhide HK]; simp [rk, hq], rfl⟩
    | true =>
      rcases hq with rfl | hq
      · go_wp2
        go_ret
        exact ⟨by rw [unhide HK]; rfl, rfl⟩
      · go_wp2
        go_ret
        exact ⟨by rw [unhide HK]; simp [rk, hq], rfl⟩
  | true =>
    cases s with
    | false =>
      rcases hq with rfl | hq
      · go_wp2
        go_ret
        exact ⟨by rw [unhide HK]; rfl, rfl⟩
      · have h0 : ((q : Int) == 0) = false := by simp; omega
        go_wp2
        go_ret
        exact ⟨by rw [unhide HK]; simp [rk, show ¬ q = 0 by omega], rfl⟩
    | true =>
      rcases hq with rfl | hq
      · go_wp2
        go_ret
        exact ⟨by rw [unhide HK]; rfl, rfl⟩
      · have h0 : ((q : Int) == 0) = false := by simp; omega
        go_wp2
        go_ret
        exact ⟨by rw [unhide HK]; simp [rk, show ¬ q = 0 by omega], rfl⟩

theorem lss_order (a b : Nat) (c : Ordering) (h : Ieee.double.order a b = some c) (t : TypeId) : binOp .lss t (.float .f64 a) (.float .f64 b) = pure (.bool (c == .lt)) := by
  rw [binOp_float_cmp_lss]
  refine congrArg (fun z => pure (Value.bool z)) ?_
  show (Ieee.double.order a b == some .lt) = (c == .lt)
  rw [h]
  cases c <;> rfl
theorem gtr_order (a b : Nat) (c : Ordering) (h : Ieee.double.order a b = some c) (t : TypeId) : binOp .gtr t (.float .f64 a) (.float .f64 b) = pure (.bool (c == .gt)) := by
  rw [binOp_float_cmp_gtr]
  refine congrArg (fun z => pure (Value.bool z)) ?_
  show (Ieee.double.order a b == some .gt) = (c == .gt)
  rw [h]
  cases c <;> rfl

theorem cmp_cases (a b : Nat) : (compare a b = .lt ∧ cmpN a b = -1) ∨ (compare a b = .eq ∧ cmpN a b = 0) ∨ (compare a b = .gt ∧ cmpN a b = 1) := by
  have hc : compare a b = compareOfLessAndEq a b := rfl
  unfold cmpN
  rw [hc]
  unfold compareOfLessAndEq
  rcases Nat.lt_trichotomy a b with h | h | h
  · exact .inl ⟨by rw [if_pos h], by rw [if_pos h]⟩
  · exact .inr (.inl ⟨by rw [if_neg (by omega), if_pos h], by rw [if_neg (by omega), if_neg (by omega)]⟩)
  · exact .inr (.inr ⟨by rw [if_neg (by omega), if_neg (by omega)], by rw [if_neg (by omega), if_pos h]⟩)

theorem rorder_any (w : World) (a b : Nat) (ha : a < 18446744073709551616) (hb : b < 18446744073709551616) : Calls Tryz.prog 48 #[.float .f64 a, .float .f64 b] w fun e w' => e = .returned (.int .i64 (ordN a b)) ∧ w' = w := by
  have R1 := rrank_any w a ha
  have R2 := rrank_any w b hb
  by_cases hk : kindN a = kindN b
  · have hab : ((kindN a = 1 ∨ kindN a = 4) ∧ ∃ c : Ordering, Ieee.double.order a b = some c ∧ ((c = .lt ∧ ordN a b = -1) ∨ (c = .eq ∧ ordN a b = 0) ∨ (c = .gt ∧ ordN a b = 1))) ∨ (kindN a ≠ 1 ∧ kindN a ≠ 4 ∧ ordN a b = 0) := by
      by_cases h4 : kindN a = 4
      · obtain ⟨l1, l2, e⟩ := ord_four ha hb h4 (by omega)
        refine .inl ⟨.inr h4, _, order_pos l1 l2, ?_⟩
        rw [e]
        exact cmp_cases a b
      · by_cases h1 : kindN a = 1
        · obtain ⟨r, s, l1, l2, e1, e2, e⟩ := ord_one ha hb h1 (by omega)
          refine .inl ⟨.inl h1, _, by rw [e1, e2]; exact order_neg l1 l2, ?_⟩
          rw [e]
          exact cmp_cases s r
        · exact .inr ⟨h1, h4, ord_plain ha hb hk h1 h4⟩
    rw [← hk] at R2
    rcases hab with ⟨hkk, c, ho, hc⟩ | ⟨h1, h4, e⟩
    · have o1 := lss_order a b c ho
      have o2 := gtr_order a b c ho
      clear ho hk
      generalize kindN a = k at *
      generalize ordN a b = z at *
      rcases hc with ⟨rfl, rfl⟩ | ⟨rfl, rfl⟩ | ⟨rfl, rfl⟩ <;> rcases hkk with rfl | rfl
      all_goals
        go_enter Tryz.func48, Tryz.ntmps48
        go_wp2_with fail
        refine R1.mono ?_
        rintro e w1 ⟨rfl, rfl⟩
        go_wp2_with fail
        refine R2.mono ?_
        rintro e w1 ⟨rfl, rfl⟩
        go_wp2
        go_ret
        exact ⟨rfl, rfl⟩
    · rw [e]
      generalize kindN a = k at *
      have n1 : (k != 1) = true := by simpa using h1
      have n4 : (k != 4) = true := by simpa using h4
      clear hk e
      go_enter Tryz.func48, Tryz.ntmps48
      go_wp2_with fail
      refine R1.mono ?_
      rintro e w1 ⟨rfl, rfl⟩
      go_wp2_with fail
      refine R2.mono ?_
      rintro e w1 ⟨rfl, rfl⟩
      go_wp2
      go_ret
      exact ⟨rfl, rfl⟩
  · have e := ord_kind ha hb hk
    rw [e]
    generalize kindN a = x at *
    generalize kindN b = y at *
    clear e
    by_cases hlt : x < y
    · rw [if_pos hlt]
      go_enter Tryz.func48, Tryz.ntmps48
      go_wp2_with fail
      refine R1.mono ?_
      rintro e w1 ⟨rfl, rfl⟩
      go_wp2_with fail
      refine R2.mono ?_
      rintro e w1 ⟨rfl, rfl⟩
      go_wp2
      go_ret
      exact ⟨rfl, rfl⟩
    · rw [if_neg hlt]
      have hgt : y < x := by omega
      go_enter Tryz.func48, Tryz.ntmps48
      go_wp2_with fail
      refine R1.mono ?_
      rintro e w1 ⟨rfl, rfl⟩
      go_wp2_with fail
      refine R2.mono ?_
      rintro e w1 ⟨rfl, rfl⟩
      go_wp2
      go_ret
      exact ⟨rfl, rfl⟩

end Go.Proofs.YtkjoojamkbpfcabGreat

/- The document's own Same: the same tariff in two places is the same. -/
namespace Go.Proofs.YtkjoojamkbpfcabGreat
open Go.RowKit

theorem ordN_self (a : Nat) : ordN a a = 0 := by simp [ordN, cmpN]

theorem neq35 (w : World) (a b c : Int) : (binOp .neq 108 (.agg #[.int .i64 a, .int .i64 b, .int .i64 c]) (.agg #[.int .i64 a, .int .i64 b, .int .i64 c])).run Tryz.prog w = .ok (.bool false) w := by
  rw [run_neq_struct, eq35]
  simp [Result.andThen]
theorem neq39 (w : World) (a b c d e : Int) : (binOp .neq 110 (.agg #[.int .i64 a, .int .i64 b, .int .i64 c, .int .i64 d, .int .i64 e]) (.agg #[.int .i64 a, .int .i64 b, .int .i64 c, .int .i64 d, .int .i64 e])).run Tryz.prog w = .ok (.bool false) w := by
  rw [run_neq_struct, eq39]
  simp [Result.andThen]
theorem neq46 (w : World) (a b : Int) : (binOp .neq 112 (.agg #[.int .i64 a, .int .i64 b]) (.agg #[.int .i64 a, .int .i64 b])).run Tryz.prog w = .ok (.bool false) w := by
  rw [run_neq_struct, eq46]
  simp [Result.andThen]

set_option maxHeartbeats 4000000 in
set_option maxRecDepth 100000 in
theorem same_anyT (w : World) (A A2 : Ad) (t : Tf) (h : TAt w A t) (h2 : TAt w A2 t) : Calls Tryz.prog 21 #[tv A t, tv A2 t] w fun e w' => e = .returned (.bool true) ∧ Fr (fun _ => False) w w' := by
  obtain ⟨B, HBE⟩ : ∃ B, Hid (B = w.heap.size) := ⟨_, rfl⟩
  obtain ⟨W0, hW0⟩ : ∃ W0, W0 = (w.alloc (.cells (tc A t) 37)).alloc (.cells (tc A2 t) 37) := ⟨_, rfl⟩
  have HF0 : Hid (Fr (fun _ => False) w W0) := hide (by rw [hW0]; exact ((Fr.refl _ w).alloc _).alloc _)
  have hb : TB W0 B A t := by rw [hW0, unhide HBE]; exact (TB.new w A t).keep ((Fr.refl _ _).alloc _)
  have hb2 : TB W0 (B + 1) A2 t := by rw [hW0, unhide HBE, ← heap_alloc w (.cells (tc A t) 37)]; exact TB.new _ A2 t
  have HB := hide (And.intro hb hb2)
  have H := hide (And.intro (h.keep (unhide HF0)) (h2.keep (unhide HF0)))
  have RO := rorder_any W0 t.off t.off h.off h.off
  rw [ordN_self] at RO
  have lS := h.lS
  have lP := h.lP
  have lB := h.lB
  clear h h2
  have c0 : W0.cell? ⟨B, 0, none⟩ = some (.slice A.aS t.st.length A.cS) := hb.cell 0
  have d0 : W0.cell? ⟨B + 1, 0, none⟩ = some (.slice A2.aS t.st.length A2.cS) := hb2.cell 0
  have c1 : W0.cell? ⟨B, 1, none⟩ = some (.slice A.aP t.sp.length A.cP) := hb.cell 1
  have d1 : W0.cell? ⟨B + 1, 1, none⟩ = some (.slice A2.aP t.sp.length A2.cP) := hb2.cell 1
  have c2 : W0.cell? ⟨B, 2, none⟩ = some (.slice A.aB t.bd.length A.cB) := hb.cell 2
  have d2 : W0.cell? ⟨B + 1, 2, none⟩ = some (.slice A2.aB t.bd.length A2.cB) := hb2.cell 2
  have c3 : W0.cell? ⟨B, 3, none⟩ = some (.float .f64 t.off) := hb.cell 3
  have d3 : W0.cell? ⟨B + 1, 3, none⟩ = some (.float .f64 t.off) := hb2.cell 3
  clear hb hb2
  unfold tc at hW0
  unfold tv tc
  go_enter Tryz.func21, Tryz.ntmps21
  go_wp2_with fail
  rw [← hW0, ← unhide HBE]
  clear hW0
  refine RO.mono ?_
  rintro e w1 ⟨rfl, rfl⟩
  clear RO c0 c1 c2 c3 d0 d1 d2 d3
  go_wp2
  go_loopw [5] (fun iv wq => ∃ (i : Nat), i ≤ t.st.length ∧ iv = .int .i64 i ∧ Hid (Fr (fun _ => False) w1 wq)) (fun iv _ => t.st.length - (intOf iv).toNat)
  case atStart => exact ⟨0, Nat.zero_le _, rfl, (hide (Fr.refl (fun _ => False) w1))⟩
  case round =>
    obtain ⟨i, hi, rfl, HI0⟩ := hrel
    have HBwr := hide (And.intro ((unhide HB).1.keep (unhide HI0)) ((unhide HB).2.keep (unhide HI0)))
    have cA : wr.cell? ⟨B, 0, none⟩ = some (.slice A.aS t.st.length A.cS) := (unhide HBwr).1.cell 0
    have dA : wr.cell? ⟨B + 1, 0, none⟩ = some (.slice A2.aS t.st.length A2.cS) := (unhide HBwr).2.cell 0
    by_cases hil : i < t.st.length
    · obtain ⟨b, off, eA, x0, x1, x2⟩ := ((unhide H).1.st.keep (unhide HI0)).st hil
      obtain ⟨b', off', eA', y0, y1, y2⟩ := ((unhide H).2.st.keep (unhide HI0)).st hil
      rw [eA] at cA
      rw [eA'] at dA
      generalize t.st[i] = s at *
      have e1 := eg35
      have e2 := neq35
      clear eA eA' HBwr
      go_wp2_with fail
      go_big_quiet (fail)
      go_wp2
      exact ⟨⟨i + 1, by omega, by go_num, (unhide HI0).drewN _⟩, by simp [intOf]; omega⟩
    · obtain rfl : i = t.st.length := by omega
      have HJ0 := HI0
      clear HI0 HBwr dA
      go_wp2
      clear cA
      go_loopw [6] (fun iv wq => ∃ (i : Nat), i ≤ t.sp.length ∧ iv = .int .i64 i ∧ Hid (Fr (fun _ => False) w1 wq)) (fun iv _ => t.sp.length - (intOf iv).toNat)
      case atStart => exact ⟨0, Nat.zero_le _, rfl, (unhide HJ0)⟩
      case round =>
        obtain ⟨i, hi, rfl, HI1⟩ := hrel
        have HBwr := hide (And.intro ((unhide HB).1.keep (unhide HI1)) ((unhide HB).2.keep (unhide HI1)))
        have cA : wr.cell? ⟨B, 1, none⟩ = some (.slice A.aP t.sp.length A.cP) := (unhide HBwr).1.cell 1
        have dA : wr.cell? ⟨B + 1, 1, none⟩ = some (.slice A2.aP t.sp.length A2.cP) := (unhide HBwr).2.cell 1
        by_cases hil : i < t.sp.length
        · obtain ⟨b, off, eA, x0, x1, x2, x3, x4⟩ := ((unhide H).1.sp.keep (unhide HI1)).sp hil
          obtain ⟨b', off', eA', y0, y1, y2, y3, y4⟩ := ((unhide H).2.sp.keep (unhide HI1)).sp hil
          rw [eA] at cA
          rw [eA'] at dA
          generalize t.sp[i] = s at *
          have e1 := eg39
          have e2 := neq39
          clear eA eA' HBwr
          go_wp2_with fail
          go_big_quiet (fail)
          go_wp2
          exact ⟨⟨i + 1, by omega, by go_num, (unhide HI1).drewN _⟩, by simp [intOf]; omega⟩
        · obtain rfl : i = t.sp.length := by omega
          have HJ1 := HI1
          clear HI1 HBwr dA
          go_wp2
          clear cA
          go_loopw [7] (fun iv wq => ∃ (i : Nat), i ≤ t.bd.length ∧ iv = .int .i64 i ∧ Hid (Fr (fun _ => False) w1 wq)) (fun iv _ => t.bd.length - (intOf iv).toNat)
          case atStart => exact ⟨0, Nat.zero_le _, rfl, (unhide HJ1)⟩
          case round =>
            obtain ⟨i, hi, rfl, HI2⟩ := hrel
            have HBwr := hide (And.intro ((unhide HB).1.keep (unhide HI2)) ((unhide HB).2.keep (unhide HI2)))
            have cA : wr.cell? ⟨B, 2, none⟩ = some (.slice A.aB t.bd.length A.cB) := (unhide HBwr).1.cell 2
            have dA : wr.cell? ⟨B + 1, 2, none⟩ = some (.slice A2.aB t.bd.length A2.cB) := (unhide HBwr).2.cell 2
            by_cases hil : i < t.bd.length
            · obtain ⟨b, off, eA, x0, x1⟩ := ((unhide H).1.bd.keep (unhide HI2)).bd hil
              obtain ⟨b', off', eA', y0, y1⟩ := ((unhide H).2.bd.keep (unhide HI2)).bd hil
              rw [eA] at cA
              rw [eA'] at dA
              generalize t.bd[i] = s at *
              have e1 := eg46
              have e2 := neq46
              clear eA eA' HBwr
              go_wp2_with fail
              go_big_quiet (fail)
              go_wp2
              exact ⟨⟨i + 1, by omega, by go_num, (unhide HI2).drewN _⟩, by simp [intOf]; omega⟩
            · obtain rfl : i = t.bd.length := by omega
              have HJ2 := HI2
              have HBz := HBwr
              have c4 : wr.cell? ⟨B, 4, none⟩ = some (.int .i64 t.bus) := (unhide HBz).1.cell 4
              have d4 : wr.cell? ⟨B + 1, 4, none⟩ = some (.int .i64 t.bus) := (unhide HBz).2.cell 4
              have c5 : wr.cell? ⟨B, 5, none⟩ = some (.int .i64 t.busDaily) := (unhide HBz).1.cell 5
              have d5 : wr.cell? ⟨B + 1, 5, none⟩ = some (.int .i64 t.busDaily) := (unhide HBz).2.cell 5
              have c6 : wr.cell? ⟨B, 6, none⟩ = some (.int .i64 t.busWeekly) := (unhide HBz).1.cell 6
              have d6 : wr.cell? ⟨B + 1, 6, none⟩ = some (.int .i64 t.busWeekly) := (unhide HBz).2.cell 6
              have c7 : wr.cell? ⟨B, 7, none⟩ = some (.int .i64 t.hopper) := (unhide HBz).1.cell 7
              have d7 : wr.cell? ⟨B + 1, 7, none⟩ = some (.int .i64 t.hopper) := (unhide HBz).2.cell 7
              have c8 : wr.cell? ⟨B, 8, none⟩ = some (.int .i64 t.most) := (unhide HBz).1.cell 8
              have d8 : wr.cell? ⟨B + 1, 8, none⟩ = some (.int .i64 t.most) := (unhide HBz).2.cell 8
              have c9 : wr.cell? ⟨B, 9, none⟩ = some (.int .i64 t.longest) := (unhide HBz).1.cell 9
              have d9 : wr.cell? ⟨B + 1, 9, none⟩ = some (.int .i64 t.longest) := (unhide HBz).2.cell 9
              have c10 : wr.cell? ⟨B, 10, none⟩ = some (.int .i64 t.change) := (unhide HBz).1.cell 10
              have d10 : wr.cell? ⟨B + 1, 10, none⟩ = some (.int .i64 t.change) := (unhide HBz).2.cell 10
              have c11 : wr.cell? ⟨B, 11, none⟩ = some (.int .i64 t.passback) := (unhide HBz).1.cell 11
              have d11 : wr.cell? ⟨B + 1, 11, none⟩ = some (.int .i64 t.passback) := (unhide HBz).2.cell 11
              have c12 : wr.cell? ⟨B, 12, none⟩ = some (.int .i64 t.delay) := (unhide HBz).1.cell 12
              have d12 : wr.cell? ⟨B + 1, 12, none⟩ = some (.int .i64 t.delay) := (unhide HBz).2.cell 12
              have c13 : wr.cell? ⟨B, 13, none⟩ = some (.int .i64 t.threshold) := (unhide HBz).1.cell 13
              have d13 : wr.cell? ⟨B + 1, 13, none⟩ = some (.int .i64 t.threshold) := (unhide HBz).2.cell 13
              clear HI2 HBwr HBz dA H HB
              go_wp2
              go_ret
              exact ⟨by first | rfl | simp, (unhide HF0).trans (unhide HJ2) (fun _ _ t => t)⟩

end Go.Proofs.YtkjoojamkbpfcabGreat

