import Derived.Test.YtjgbllfppomcmaaQY
import Derived.Test.YtjgbllfppomcmaaQUX
import Derived.Test.YtjgbllfppomcmaaQK1
import Derived.Deep.RegionHeld3
import Derived.Test.YtjgbllfppomcmaaQU2
import Derived.Test.YtjgbllfppomcmaaQVX
import Derived.Test.YtjgbllfppomcmaaQRX
/- The document's own look at prices. -/
namespace Go.Proofs.Ytjgbllfppomcmaa
open Go.RowKit

theorem info3 : (Try.prog.info? 3).map (fun i => (i.zero, i.size, i.bytes)) = some (some (.int .i64 0), 1, 8) := by kernel_rfl

theorem step_append_vrow {P : Program} {ops : Array Oper} {o : Oper} {a : Act} {w : World} {K : Act → World → Prop} {Q : Exit → Act → World → Prop} {E : Prop} (hgd : o.guard = none) (s x : Operand) (t tx : TypeId)
    (ho : o.op = .call { callee := .builtin .append, args := #[s, x], argTypes := #[t, tx] }) (e : TypeId) (i : TypeInfo) (z : Value) (ht : P.underlying t = some (.slice e)) (hi : P.info? e = some i) (hz : i.zero = some z) (hz1 : z.cells = #[z]) (hs1 : i.size = 1)
    {ao : Option Addr} {cap g n : Nat} {vs : List Value} (hv : a.eval s = .slice ao n cap) (h : VRow w ao cap g vs) (hn : vs.length = n) (xv : Value) (news : List Value) (m : Nat) (hm : news.length = m) (hx : a.eval x = xv) (hs : Src P 1 tx xv m news w) (hfit : (n + m) * i.bytes ≤ 140737488355328) (hf2 : n + m ≤ 140737488355328)
    (hK : ∀ ao' cap' w' g', VRow w' ao' cap' g' (vs ++ news) → Grew w g cap w' g' cap' → K (a.put o.dst (.slice ao' (n + m) cap')) w') : if Region.wanted o (yielded ops a.tmps) = true then Oper.wp P o a w K Q else E := by
  have hw : Region.wanted o (yielded ops a.tmps) = true := by simp [Region.wanted, hgd]
  rw [if_pos hw]
  obtain ⟨ao', cap', w', g', hrun, r1, r2⟩ := append_vrow (P := P) t tx o.type e i z ht hi hz hz1 hs1 h hn xv news m hm hs hfit hf2
  unfold Oper.wp
  simp [execOp, ho, resolve, invoke, builtin, hv, hx, hrun, Result.andThen]
  exact hK ao' cap' w' g' r1 r2

theorem Grew.cell {w w' : World} {g cap g' cap' : Nat} (h : Grew w g cap w' g' cap') {a : Addr} {v : Value} (hc : w.cell? a = some v) (hne : a.block ≠ g) : w'.cell? a = some v := by
  have hlt := World.block_lt_of_cell? _ _ hc
  rcases h with ⟨_, _, hF⟩ | ⟨_, _, hF⟩
  · exact (hF.cell hlt (fun t => hne t.1)).trans hc
  · exact (hF.cell hlt (fun t => t)).trans hc

def three (s : Spn) : List Int := [s.single, s.daily, s.weekly]
def allPrices (t : Tf) : List Int := [t.bus, t.busDaily, t.busWeekly, t.most, t.threshold] ++ t.sp.flatMap three

theorem allPrices_ok (t : Tf) : (allPrices t).all price = pricesOk t := by
  unfold allPrices pricesOk
  rw [List.all_append, List.all_flatMap]
  rfl

theorem three_length (l : List Spn) : (l.flatMap three).length = l.length * 3 := by
  induction l with
  | nil => rfl
  | cons b r ih => rw [List.flatMap_cons, List.length_append, ih, List.length_cons]; simp [three]; omega

theorem src_three (w : World) (a b c : Int) : Src Try.prog 1 29 (.slice (some ⟨w.heap.size, 0, none⟩) 3 3) 3 ([a, b, c].map (Value.int .i64)) (w.alloc (.cells #[.int .i64 a, .int .i64 b, .int .i64 c] 3)) := by
  refine Src.ofSlice _ Try.underlying29 ⟨w.heap.size, 0, none⟩ 3 3 _ rfl (fun j u hj => ?_) (fun u hu => ?_)
  · rw [Addr.add_lit, Nat.zero_add, World.cell?_alloc_new]
    match j, hj with
    | 0, hj => exact hj
    | 1, hj => exact hj
    | 2, hj => exact hj
    | j + 3, hj => simp at hj
  · simp only [List.map_cons, List.map_nil, List.mem_cons, List.not_mem_nil, or_false] at hu
    rcases hu with rfl | rfl | rfl <;> rfl

/-- What the first loop of prices holds. -/
structure PI (w : World) (A : Ad) (t : Tf) (i : Nat) (acc : List Int) (ao : Option Addr) (cap g : Nat) (wr : World) : Prop where
  ae : acc = [t.bus, t.busDaily, t.busWeekly, t.most, t.threshold] ++ (t.sp.take i).flatMap three
  row : VRow wr ao cap g (acc.map (Value.int .i64))
  fr : Fr (fun _ => False) w wr
  tb : TB wr w.heap.size A t
  g0 : w.heap.size < g
  c0 : 0 < cap

theorem PI.next {w : World} {A : Ad} {t : Tf} {i : Nat} {acc : List Int} {ao : Option Addr} {cap g : Nat} {wr wa w' : World} (h : PI w A t i acc ao cap g wr) (hi : i < t.sp.length) (hF : Fr (fun _ => False) wr wa) {ao' : Option Addr} {cap' g' : Nat}
    (hrow : VRow w' ao' cap' g' (acc.map (Value.int .i64) ++ (three t.sp[i]).map (Value.int .i64))) (hgr : Grew wa g cap w' g' cap') : PI w A t (i + 1) (acc ++ three t.sp[i]) ao' cap' g' w' := by
  have h1 := h.fr.trans hF (fun _ _ t => t)
  have hg := h.g0
  have hS : Fr (fun k => k = g) wa w' := by
    rcases hgr with ⟨_, _, hF⟩ | ⟨_, _, hF⟩
    · exact hF.mono (fun _ _ t => t.1)
    · exact hF.mono (fun _ _ t => t.elim)
  refine ⟨?_, by rw [List.map_append]; exact hrow, h1.trans hS (fun k hk e => by omega), (h.tb.keep hF).frame hS (by omega), ?_, ?_⟩
  · rw [h.ae, List.take_succ_eq_append_getElem hi, List.flatMap_append, List.append_assoc]
    simp
  · rcases hgr with ⟨e, _, _⟩ | ⟨e, _, _⟩
    · omega
    · have := (h.tb.keep hF).lt; omega
  · rcases hgr with ⟨_, e, _⟩ | ⟨_, e, _⟩
    · have := h.c0; omega
    · exact e

end Go.Proofs.Ytjgbllfppomcmaa

/- The document's own look at what is wider. -/
namespace Go.Proofs.Ytjgbllfppomcmaa
open Go.RowKit

theorem all_swap {α : Type} (l : List α) (f : α → α → Bool) : (l.all fun o => l.all fun s => f o s) = (l.all fun s => l.all fun o => f o s) := by
  rw [Bool.eq_iff_iff, List.all_eq_true, List.all_eq_true]
  constructor
  · intro h s hs
    rw [List.all_eq_true]
    exact fun o ho => List.all_eq_true.1 (h o ho) s hs
  · intro h o ho
    rw [List.all_eq_true]
    exact fun s hs => List.all_eq_true.1 (h s hs) o ho

theorem fits_cases (o s : Spn) : fits o s = (!(withinB s o && (decide (o.single < s.single) || decide (o.daily < s.daily) || decide (o.weekly < s.weekly)))) := by
  unfold fits noDearer
  cases withinB s o
  · rfl
  · by_cases h1 : s.single ≤ o.single <;> by_cases h2 : s.daily ≤ o.daily <;> by_cases h3 : s.weekly ≤ o.weekly <;> simp [h1, h2, h3] <;> omega

end Go.Proofs.Ytjgbllfppomcmaa

/- The document's own Right. -/
namespace Go.Proofs.Ytjgbllfppomcmaa
open Go.RowKit

theorem minutes_parts (t : Tf) : minutesOk t = ((decide (1 ≤ t.longest) && decide (t.longest ≤ 1440)) && (decide (0 ≤ t.hopper) && decide (t.hopper ≤ 1440)) && (decide (0 ≤ t.change) && decide (t.change ≤ 1440)) && (decide (0 ≤ t.passback) && decide (t.passback ≤ 1440)) && (decide (0 ≤ t.delay) && decide (t.delay ≤ 1440))) := by
  rw [Bool.eq_iff_iff]
  simp [minutesOk, minOk]
  omega

end Go.Proofs.Ytjgbllfppomcmaa

