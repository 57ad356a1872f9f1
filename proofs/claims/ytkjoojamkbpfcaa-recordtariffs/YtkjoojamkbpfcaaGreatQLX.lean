import Derived.Test.YtkjoojamkbpfcaaGreatQK1
import Derived.OrdersHeld
import Derived.Deep.RegionHeld
import Derived.Test.YtkjoojamkbpfcaaGreatQY
import Derived.Test.YtkjoojamkbpfcaaGreatQVX
import Derived.Laws.MakeOwn
/- A region that draws its order, whose last operation overwrites what others read: a condition that every world meets up to that operation. No program is named here. -/
namespace Go.Proofs.YtkjoojamkbpfcaaGreat
open Go.RowKit

section
variable {P : Program} {ops : Array Oper} {Q : Exit → Act → World → Prop} {md : Region.Mode} {T : World → Prop} {k : Nat}

/-- Whatever order is picked from here on; T holds behind every operation but number k. -/
def wpAnyG (P : Program) (md : Region.Mode) (ops : Array Oper) (Q : Exit → Act → World → Prop) (T : World → Prop) (k : Nat) : Nat → Array Bool → Act → World → Prop
  | 0, listed, a, w => Region.ready md ops listed = [] ∧ Q .normal a w
  | fuel + 1, listed, a, w => (Region.ready md ops listed = [] → Q .normal a w) ∧
    ∀ i ∈ Region.ready md ops listed, wpOp P ops Q i (fun a' w' => (i ≠ k → T w') ∧ wpAnyG P md ops Q T k fuel (listed.setIfInBounds i true) a' w') a w

theorem wpAnyG_any : ∀ (fuel : Nat) (listed : Array Bool) (a : Act) (w : World), wpAnyG P md ops Q T k fuel listed a w → wpAny P md ops Q fuel listed a w
  | 0, _, _, _, h => h
  | fuel + 1, _, _, _, h => ⟨h.1, fun i hi => wpOp_mono (fun a' w' h' => wpAnyG_any fuel _ a' w' h'.2) (h.2 i hi)⟩

theorem wp_region_G {id : Nat} {a : Act} {w : World} (hm : P.follows .mixedOrders = true) (h : wpAnyG P .any ops Q T k ops.size (Array.replicate ops.size false) a w.drew) : (Code.region id ops true).wp P Q a w :=
  wp_region_any hm (wpAnyG_any _ _ _ _ h)

/-- What reads alone may be taken first, if operation k waits for it. -/
theorem wpAnyG_first {i : Nat} {oi : Oper} {v : Value} (hi : ops[i]? = some oi) (hsel : ∀ (j : Nat) (o : Oper) cs b, ops[j]? = some o → o.op ≠ .select cs b) (hQ : ∀ c a w, Q (.panic c) (a.put oi.dst v) w → Q (.panic c) a w)
    (hwait : ∀ ok, ops[k]? = some ok → ∃ e ∈ ok.after, Region.binds md e = true ∧ e.on = i) : ∀ (fuel : Nat) (listed : Array Bool) (a : Act) (w : World),
      (∀ j oj, ops[j]? = some oj → j ≠ i → listed.getD j true = false → (∀ e ∈ oj.after, Region.binds md e = true → e.on ≠ i) → oi.apart ops oj = true) →
      i ∈ Region.ready md ops listed → YieldsIf P ops T oi v a → T w → wpAnyG P md ops Q T k fuel (listed.setIfInBounds i true) (a.put oi.dst v) w → wpAnyG P md ops Q T k (fuel + 1) listed a w := by
  intro fuel
  induction fuel with
  | zero =>
    intro listed a w _ hr hy hS H
    refine ⟨fun h => (by rw [h] at hr; cases hr), fun j hj => ?_⟩
    by_cases hji : j = i
    · subst hji; exact hy.wpOp hi hS ⟨fun _ => hS, H⟩
    · have := ready_mono hj hji
      rw [H.1] at this
      cases this
  | succ fuel ih =>
    intro listed a w hfree hr hy hS H
    refine ⟨fun h => (by rw [h] at hr; cases hr), fun j hj => ?_⟩
    by_cases hji : j = i
    · subst hji; exact hy.wpOp hi hS ⟨fun _ => hS, H⟩
    · have h1 := H.2 j (ready_mono hj hji)
      obtain ⟨hjun, oj, hoj, hall⟩ := mem_ready.1 hj
      have hnot : ∀ e ∈ oj.after, Region.binds md e = true → e.on ≠ i := fun e he hb heq => by
        have h1 := hall e he hb
        have h0 := (mem_ready.1 hr).1
        rw [heq] at h1
        rcases Nat.lt_or_ge i listed.size with h' | h'
        · simp [h'] at h0 h1; rw [h0] at h1; cases h1
        · simp [Array.getElem?_eq_none h'] at h1
      have hjk : j ≠ k := fun e => by
        subst e
        obtain ⟨e, he, hb, heq⟩ := hwait oj hoj
        exact hnot e he hb heq
      have h2 := wpOp_putIf hoj (hfree j oj hoj hji hjun hnot) (fun cs b => hsel i oi cs b hi) (fun cs b => hsel j oj cs b hoj) hQ hy h1
      have hfree' : ∀ m om, ops[m]? = some om → m ≠ i → (listed.setIfInBounds j true).getD m true = false → (∀ e ∈ om.after, Region.binds md e = true → e.on ≠ i) → oi.apart ops om = true := fun m om hm hmi hun hno => by
        refine hfree m om hm hmi ?_ hno
        by_cases hjm : j = m
        · subst hjm; exact hjun
        · rw [getD_set_ne true hjm] at hun; exact hun
      refine wpOp_mono (fun a' w' h3 => ⟨h3.2.1, ih (listed.setIfInBounds j true) a' w' hfree' (ready_mono hr (Ne.symm hji)) h3.1 (h3.2.1 hjk) ?_⟩) h2
      rw [Array.setIfInBounds_comm _ _ hji]
      exact h3.2.2

/-- Does operation k wait for i? -/
def waits (md : Region.Mode) (ops : Array Oper) (k i : Nat) : Bool := match ops[k]? with
  | some ok => ok.after.any fun e => Region.binds md e && e.on == i
  | none => true

theorem waits_spec {i : Nat} (h : waits md ops k i = true) : ∀ ok, ops[k]? = some ok → ∃ e ∈ ok.after, Region.binds md e = true ∧ e.on = i := by
  intro ok hok
  unfold waits at h
  rw [hok] at h
  simp only [Array.any_eq_true, Bool.and_eq_true, beq_iff_eq] at h
  obtain ⟨j, hj, h1, h2⟩ := h
  exact ⟨_, Array.getElem_mem hj, h1, h2⟩

theorem wpAnyG_take {i : Nat} {oi : Oper} {v : Value} {fuel : Nat} {listed : Array Bool} {a : Act} {w : World} (hi : ops[i]? = some oi) (hs : Region.noSelect ops = true) (hf : Region.free md ops listed i = true) (hr : (Region.ready md ops listed).contains i = true) (hk : waits md ops k i = true)
    (hQ : ∀ c a w, Q (.panic c) (a.put oi.dst v) w → Q (.panic c) a w) (hy : YieldsIf P ops T oi v a) (hS : T w)
    (h : wpAnyG P md ops Q T k fuel (listed.setIfInBounds i true) (a.put oi.dst v) w) : wpAnyG P md ops Q T k (fuel + 1) listed a w :=
  wpAnyG_first hi (Region.noSelect_spec hs) hQ (waits_spec hk) fuel listed a w (Region.free_spec hi hf) (by simpa using hr) hy hS h

def AllReadyG (P : Program) (md : Region.Mode) (ops : Array Oper) (Q : Exit → Act → World → Prop) (T : World → Prop) (k : Nat) (fuel : Nat) (listed : Array Bool) (a : Act) (w : World) (rs : List Nat) : Prop :=
  ∀ i ∈ rs, wpOp P ops Q i (fun a' w' => (i ≠ k → T w') ∧ wpAnyG P md ops Q T k fuel (listed.setIfInBounds i true) a' w') a w

theorem AllReadyG.nil {fuel : Nat} {listed : Array Bool} {a : Act} {w : World} : AllReadyG P md ops Q T k fuel listed a w [] := fun _ h => by cases h

/-- An operation that comes up, whose run is known: it leaves a value. -/
theorem AllReadyG.value {fuel : Nat} {listed : Array Bool} {a : Act} {w w' : World} {i : Nat} {o : Oper} {rs : List Nat} {v : Value} (ho : ops[i]? = some o) (hw : Region.wanted o (yielded ops a.tmps) = true) (hrun : (execOp a.eval o).run P w = .ok (.value v) w') (hT : i ≠ k → T w')
    (h : wpAnyG P md ops Q T k fuel (listed.setIfInBounds i true) (a.put o.dst v) w') (hs : AllReadyG P md ops Q T k fuel listed a w rs) : AllReadyG P md ops Q T k fuel listed a w (i :: rs) := fun j hj => by
  rcases List.mem_cons.1 hj with rfl | hj
  · refine wpOp_step ho (fun K' hK => ?_)
    rw [if_pos hw]
    unfold Oper.wp
    rw [hrun]
    exact hK _ _ ⟨hT, h⟩
  · exact hs j hj

/-- The same of one that leaves nothing. -/
theorem AllReadyG.skip {fuel : Nat} {listed : Array Bool} {a : Act} {w w' : World} {i : Nat} {o : Oper} {rs : List Nat} (ho : ops[i]? = some o) (hw : Region.wanted o (yielded ops a.tmps) = true) (hrun : (execOp a.eval o).run P w = .ok .skip w') (hT : i ≠ k → T w')
    (h : wpAnyG P md ops Q T k fuel (listed.setIfInBounds i true) (a.put o.dst undef) w') (hs : AllReadyG P md ops Q T k fuel listed a w rs) : AllReadyG P md ops Q T k fuel listed a w (i :: rs) := fun j hj => by
  rcases List.mem_cons.1 hj with rfl | hj
  · refine wpOp_step ho (fun K' hK => ?_)
    rw [if_pos hw]
    unfold Oper.wp
    rw [hrun]
    exact hK _ _ ⟨hT, h⟩
  · exact hs j hj

theorem wpAnyG_ready {rs : List Nat} {fuel : Nat} {listed : Array Bool} {a : Act} {w : World} (hr : Region.ready md ops listed = rs) (hne : rs ≠ []) (h : AllReadyG P md ops Q T k fuel listed a w rs) : wpAnyG P md ops Q T k (fuel + 1) listed a w :=
  ⟨fun h0 => absurd (hr ▸ h0) hne, hr ▸ h⟩

theorem wpAnyG_done {listed : Array Bool} {a : Act} {w : World} (hr : Region.ready md ops listed = []) (h : Q .normal a w) : ∀ fuel, wpAnyG P md ops Q T k fuel listed a w
  | 0 => ⟨hr, h⟩
  | _ + 1 => ⟨fun _ => h, by rw [hr]; simp⟩

end
end Go.Proofs.YtkjoojamkbpfcaaGreat

/- The law's own Lent: a tariff in memory of its own, with marks behind its lists. -/
namespace Go.Proofs.YtkjoojamkbpfcaaGreat
open Go.RowKit

/-- A row of one's own that was made behind w0, and nothing that was there has turned. -/
structure Fresh (w0 w : World) (ao : Option Addr) (cap g k : Nat) (vs : List Value) : Prop where
  row : KRow w ao cap g k vs
  new : w0.heap.size ≤ g
  pos : 0 < cap
  fr : Fr (fun _ => False) w0 w

theorem Fresh.alloc {w0 w : World} {ao : Option Addr} {cap g k : Nat} {vs : List Value} (h : Fresh w0 w ao cap g k vs) (hk : 0 < k) (o : Obj) : Fresh w0 (w.alloc o) ao cap g k vs :=
  ⟨h.row.keep hk ((Fr.refl _ w).alloc o), h.new, h.pos, h.fr.alloc o⟩

section
variable {P : Program}

theorem Fresh.append {w0 w : World} {ao : Option Addr} {cap g k n : Nat} {vs : List Value} (h : Fresh w0 w ao cap g k vs) (t tx ty e : TypeId) (i : TypeInfo) (z : Value) (hk : 0 < k) (ht : P.underlying t = some (.slice e)) (hi : P.info? e = some i) (hz : i.zero = some z) (hz1 : z.cells.size = k) (hs1 : i.size = k)
    (hn : vs.length = n * k) (x : Value) (news : List Value) (m : Nat) (hs : Src P k tx x m news w) (hfit : (n + m) * i.bytes ≤ 140737488355328) (hf2 : n + m ≤ 140737488355328) :
    ∃ ao' cap' w' g', (Builtin.append_ #[t, tx] ty #[.slice ao n cap, x]).run P w = .ok (.slice ao' (n + m) cap') w' ∧ Fresh w0 w' ao' cap' g' k (vs ++ news) ∧ Fr (fun q => q = g) w w' := by
  obtain ⟨ao', cap', w', g', hrun, hrow, hgr⟩ := append_krow (P := P) t tx ty e i z k hk ht hi hz hz1 hs1 h.row hn x news m hs hfit hf2
  have hnew := h.new
  refine ⟨ao', cap', w', g', hrun, ⟨hrow, ?_, ?_, ?_⟩, ?_⟩
  · rcases hgr with ⟨e1, _, _⟩ | ⟨e1, _, _⟩
    · omega
    · exact Nat.le_trans h.fr.size e1
  · rcases hgr with ⟨_, e2, _⟩ | ⟨_, e2, _⟩
    · rw [e2]; exact h.pos
    · exact e2
  · rcases hgr with ⟨_, _, hF⟩ | ⟨_, _, hF⟩
    · exact h.fr.trans hF (fun q hq hh => by omega)
    · exact h.fr.trans hF (fun _ _ t => t)
  · rcases hgr with ⟨_, _, hF⟩ | ⟨_, _, hF⟩
    · exact hF.mono (fun _ _ t => t.1)
    · exact hF.mono (fun _ _ t => t.elim)

theorem Fresh.make {w0 w : World} (hF : Fr (fun _ => False) w0 w) (t e : TypeId) (i : TypeInfo) (z : Value) (k n : Nat) (ht : P.underlying t = some (.slice e)) (hi : P.info? e = some i) (hz : i.zero = some z) (hs1 : i.size = k) (hfit : (n + 1) * i.bytes ≤ 140737488355328) (hf2 : n + 1 ≤ 140737488355328) :
    ∃ w', (Instr.makeSlice t (.int .i64 0) (.int .i64 ((n : Int) + 1))).run P w = .ok (.slice (some ⟨w.heap.size, 0, none⟩) 0 (n + 1)) w' ∧ Fresh w0 w' (some ⟨w.heap.size, 0, none⟩) (n + 1) w.heap.size k [] := by
  have hmul : i.bytes * (n + 1) ≤ 140737488355328 := by rw [Nat.mul_comm]; exact hfit
  have hmk := run_make (P := P) w t e i _ ht hi hz .i64 .i64 0 ((n : Int) + 1) (by omega) (by omega) (by rw [show (i.bytes : Int) * ((n : Int) + 1) = ((i.bytes * (n + 1) : Nat) : Int) by simp]; omega) (by omega)
  rw [hs1, show ((n : Int) + 1).toNat = n + 1 by omega, show (0 : Int).toNat = 0 from rfl] at hmk
  refine ⟨_, hmk, ⟨Nat.zero_le _, by simp only [maxLen]; omega, fun _ => rfl, fun j hj => ⟨?_, World.frozen?_alloc_new _ _ _ _⟩, fun j hj => absurd hj (by simp), fun u hu => by cases hu⟩, hF.size, by omega, hF.alloc _⟩
  rw [World.cell?_alloc_new, Array.getElem?_eq_getElem (by rw [size_madeCells]; exact hj)]
  rfl

theorem exec_make {w w' : World} {a : Act} {o : Oper} {t : TypeId} {x y : Operand} {X Y v : Value} (ho : o.op = .makeSlice t x y) (hx : a.eval x = X) (hy : a.eval y = Y) (hrun : (Instr.makeSlice t X Y).run P w = .ok v w') : (execOp a.eval o).run P w = .ok (.value v) w' := by
  unfold execOp
  simp only [ho, hx, hy, Sem.run_bind, hrun, Result.andThen_ok, Sem.run_pure]

theorem exec_append {w w' : World} {a : Act} {o : Oper} {t tx : TypeId} {s x : Operand} {V X v : Value} (ho : o.op = .call { callee := .builtin .append, args := #[s, x], argTypes := #[t, tx] }) (hv : a.eval s = V) (hx : a.eval x = X) (hrun : (Builtin.append_ #[t, tx] o.type #[V, X]).run P w = .ok v w') : (execOp a.eval o).run P w = .ok (.value v) w' := by
  simp [execOp, ho, resolve, invoke, builtin, hv, hx, hrun, Result.andThen]

end

theorem CAt.src {w : World} {ao : Option Addr} {vs : List Value} (h : CAt w ao vs) (tx e : TypeId) (k n cap : Nat) (hk : 0 < k) (ht : Tryz.prog.underlying tx = some (.slice e)) (hn : vs.length = n * k) (h1 : ∀ u ∈ vs, u.oneCell' = true) : Src Tryz.prog k tx (.slice ao n cap) n vs w := by
  by_cases hm : 0 < vs.length
  · obtain ⟨b, off, rfl, hc⟩ := h hm
    refine Src.ofSlice w ht ⟨b, off, none⟩ n cap vs hn (fun j u hj => ?_) h1
    have hjl := (List.getElem?_eq_some_iff.1 hj).1
    rw [Addr.add_lit, hc j hjl, ← hj, List.getElem?_eq_getElem hjl]
  · have e0 : vs = [] := List.eq_nil_of_length_eq_zero (by omega)
    subst e0
    obtain rfl : n = 0 := by
      rcases Nat.eq_zero_or_pos n with h0 | h0
      · exact h0
      · have := Nat.mul_pos h0 hk; simp at hn; omega
    cases ao with
    | none => exact Src.ofNil w ht cap
    | some b => exact Src.ofSlice w ht b 0 cap [] (by simp) (fun j u hj => by simp at hj) (fun u hu => by cases hu)

theorem src_new' (w : World) (cs : List Value) (tx e : TypeId) (k : Nat) (ht : Tryz.prog.underlying tx = some (.slice e)) (hn : cs.length = k) (h1 : ∀ u ∈ cs, u.oneCell' = true) {W : World} (hW : ∀ j, W.cell? ⟨w.heap.size, j, none⟩ = cs[j]?) : Src Tryz.prog k tx (.slice (some ⟨w.heap.size, 0, none⟩) 1 1) 1 cs W := by
  refine Src.ofSlice W ht ⟨w.heap.size, 0, none⟩ 1 1 cs (by rw [hn, Nat.one_mul]) (fun j u hj => ?_) h1
  rw [Addr.add_lit, Nat.zero_add, hW j, hj]

theorem info35 : (Tryz.prog.info? 42).map (fun i => (i.zero, i.size, i.bytes)) = some (some (.agg #[.int .i64 0, .int .i64 0, .int .i64 0]), 3, 24) := by kernel_rfl
theorem info46 : (Tryz.prog.info? 52).map (fun i => (i.zero, i.size, i.bytes)) = some (some (.agg #[.int .i64 0, .int .i64 0]), 2, 16) := by kernel_rfl

def markS : Stn := ⟨-7, 0, 0⟩
def markP : Spn := ⟨-7, 0, 0, 0, 0⟩
def markB : Int × Int := (-7, 0)

end Go.Proofs.YtkjoojamkbpfcaaGreat

/- Steps of the regions of Lent. -/
namespace Go.Proofs.YtkjoojamkbpfcaaGreat
open Go.RowKit

section
variable {ev : Operand → Value} {o : Oper} {w : World}

theorem exec_add1 {x : Operand} {n : Nat} (hn : n + 1 ≤ 140737488355328) (hc : ev (.const (.int .i64 1)) = .int .i64 1) (ho : o.op = .binOp .add 3 x (.const (.int .i64 1)) 3) (hx : ev x = .int .i64 (n : Int)) : (execOp ev o).run Tryz.prog w = .ok (.value (.int .i64 ((n : Int) + 1))) w := by
  have h1 : IntKind.i64.wrap ((n : Int) + 1) = (n : Int) + 1 := by rw [IntKind.wrap_i64]; omega
  simp [execOp, ho, hx, hc, go_sem, h1]

theorem exec_len0 {x : Operand} {ao : Option Addr} {n cap : Nat} (ho : o.op = .call { callee := .builtin .len, args := #[x], argTypes := #[22] }) (hx : ev x = .slice ao n cap) : (execOp ev o).run Tryz.prog w = .ok (.value (.int .i64 (n : Int))) w := by
  simp [execOp, ho, hx, resolve, invoke, builtin, go_sem]

theorem exec_field0 {x : Operand} {B : Nat} (ho : o.op = .fieldAddr 27 x 0) (hx : ev x = .pointer (some ⟨B, 0, none⟩)) : (execOp ev o).run Tryz.prog w = .ok (.value (.pointer (some ⟨B, 0, none⟩))) w := by
  simp [execOp, ho, hx, go_sem]

theorem exec_load0 {x : Operand} {B : Nat} {ao : Option Addr} {n cap : Nat} (ho : o.op = .load 22 x) (hx : ev x = .pointer (some ⟨B, 0, none⟩)) (hc : w.cell? ⟨B, 0, none⟩ = some (.slice ao n cap)) : (execOp ev o).run Tryz.prog w = .ok (.value (.slice ao n cap)) w := by
  simp [execOp, ho, hx, go_sem, hc]

theorem exec_build0 (hc : ev (.const (.int .i64 (-7))) = .int .i64 (-7)) (ho : o.op = .build 42 #[(0, .const (.int .i64 (-7)))]) : (execOp ev o).run Tryz.prog w = .ok (.value (.agg #[.int .i64 (-7), .int .i64 0, .int .i64 0])) w := by
  simp [execOp, ho, hc, go_sem]

theorem exec_slice10 {x : Operand} (ho : o.op = .buildSlice 22 1 #[(0, x)]) (hx : ev x = .agg #[.int .i64 (-7), .int .i64 0, .int .i64 0]) : (execOp ev o).run Tryz.prog w = .ok (.value (.slice (some ⟨w.heap.size, 0, none⟩) 1 1)) (w.alloc (.cells #[.int .i64 (-7), .int .i64 0, .int .i64 0] 42)) := by
  simp [execOp, ho, hx, go_sem]

theorem exec_cut0 {x y : Operand} {ao : Option Addr} {n m cap g : Nat} (hnm : n ≤ m) (hm : m ≤ cap) (hao : ao = some ⟨g, 0, none⟩) (ho : o.op = .slice 22 x none (some y) none) (hx : ev x = .slice ao m cap) (hy : ev y = .int .i64 (n : Int)) : (execOp ev o).run Tryz.prog w = .ok (.value (.slice ao n cap)) w := by
  subst hao
  have h0 : (0 : Int) ≤ (n : Int) := by omega
  have h1 : (n : Int) ≤ (cap : Int) := by omega
  simp [execOp, ho, hx, hy, go_sem]
  intro h
  omega

theorem exec_store0 {x y : Operand} {B : Nat} {v : Value} {ao : Option Addr} {n cap : Nat} (ho : o.op = .store 22 x y) (hx : ev x = .pointer (some ⟨B, 0, none⟩)) (hy : ev y = .slice ao n cap) (hc : w.cell? ⟨B, 0, none⟩ = some v) (hf : w.frozen? ⟨B, 0, none⟩ = false) : (execOp ev o).run Tryz.prog w = .ok .skip (w.setCell ⟨B, 0, none⟩ (.slice ao n cap)) := by
  simp [execOp, ho, hx, hy, go_sem, hc, hf]

theorem exec_len1 {x : Operand} {ao : Option Addr} {n cap : Nat} (ho : o.op = .call { callee := .builtin .len, args := #[x], argTypes := #[23] }) (hx : ev x = .slice ao n cap) : (execOp ev o).run Tryz.prog w = .ok (.value (.int .i64 (n : Int))) w := by
  simp [execOp, ho, hx, resolve, invoke, builtin, go_sem]

theorem exec_field1 {x : Operand} {B : Nat} (ho : o.op = .fieldAddr 27 x 1) (hx : ev x = .pointer (some ⟨B, 0, none⟩)) : (execOp ev o).run Tryz.prog w = .ok (.value (.pointer (some ⟨B, 1, none⟩))) w := by
  simp [execOp, ho, hx, go_sem]

theorem exec_load1 {x : Operand} {B : Nat} {ao : Option Addr} {n cap : Nat} (ho : o.op = .load 23 x) (hx : ev x = .pointer (some ⟨B, 1, none⟩)) (hc : w.cell? ⟨B, 1, none⟩ = some (.slice ao n cap)) : (execOp ev o).run Tryz.prog w = .ok (.value (.slice ao n cap)) w := by
  simp [execOp, ho, hx, go_sem, hc]

theorem exec_build1 (hc : ev (.const (.int .i64 (-7))) = .int .i64 (-7)) (ho : o.op = .build 44 #[(0, .const (.int .i64 (-7)))]) : (execOp ev o).run Tryz.prog w = .ok (.value (.agg #[.int .i64 (-7), .int .i64 0, .int .i64 0, .int .i64 0, .int .i64 0])) w := by
  simp [execOp, ho, hc, go_sem]

theorem exec_slice11 {x : Operand} (ho : o.op = .buildSlice 23 1 #[(0, x)]) (hx : ev x = .agg #[.int .i64 (-7), .int .i64 0, .int .i64 0, .int .i64 0, .int .i64 0]) : (execOp ev o).run Tryz.prog w = .ok (.value (.slice (some ⟨w.heap.size, 0, none⟩) 1 1)) (w.alloc (.cells #[.int .i64 (-7), .int .i64 0, .int .i64 0, .int .i64 0, .int .i64 0] 44)) := by
  simp [execOp, ho, hx, go_sem]

theorem exec_cut1 {x y : Operand} {ao : Option Addr} {n m cap g : Nat} (hnm : n ≤ m) (hm : m ≤ cap) (hao : ao = some ⟨g, 0, none⟩) (ho : o.op = .slice 23 x none (some y) none) (hx : ev x = .slice ao m cap) (hy : ev y = .int .i64 (n : Int)) : (execOp ev o).run Tryz.prog w = .ok (.value (.slice ao n cap)) w := by
  subst hao
  have h0 : (0 : Int) ≤ (n : Int) := by omega
  have h1 : (n : Int) ≤ (cap : Int) := by omega
  simp [execOp, ho, hx, hy, go_sem]
  intro h
  omega

theorem exec_store1 {x y : Operand} {B : Nat} {v : Value} {ao : Option Addr} {n cap : Nat} (ho : o.op = .store 23 x y) (hx : ev x = .pointer (some ⟨B, 1, none⟩)) (hy : ev y = .slice ao n cap) (hc : w.cell? ⟨B, 1, none⟩ = some v) (hf : w.frozen? ⟨B, 1, none⟩ = false) : (execOp ev o).run Tryz.prog w = .ok .skip (w.setCell ⟨B, 1, none⟩ (.slice ao n cap)) := by
  simp [execOp, ho, hx, hy, go_sem, hc, hf]

theorem exec_len2 {x : Operand} {ao : Option Addr} {n cap : Nat} (ho : o.op = .call { callee := .builtin .len, args := #[x], argTypes := #[24] }) (hx : ev x = .slice ao n cap) : (execOp ev o).run Tryz.prog w = .ok (.value (.int .i64 (n : Int))) w := by
  simp [execOp, ho, hx, resolve, invoke, builtin, go_sem]

theorem exec_field2 {x : Operand} {B : Nat} (ho : o.op = .fieldAddr 27 x 2) (hx : ev x = .pointer (some ⟨B, 0, none⟩)) : (execOp ev o).run Tryz.prog w = .ok (.value (.pointer (some ⟨B, 2, none⟩))) w := by
  simp [execOp, ho, hx, go_sem]

theorem exec_load2 {x : Operand} {B : Nat} {ao : Option Addr} {n cap : Nat} (ho : o.op = .load 24 x) (hx : ev x = .pointer (some ⟨B, 2, none⟩)) (hc : w.cell? ⟨B, 2, none⟩ = some (.slice ao n cap)) : (execOp ev o).run Tryz.prog w = .ok (.value (.slice ao n cap)) w := by
  simp [execOp, ho, hx, go_sem, hc]

theorem exec_build2 (hc : ev (.const (.int .i64 (-7))) = .int .i64 (-7)) (ho : o.op = .build 52 #[(0, .const (.int .i64 (-7)))]) : (execOp ev o).run Tryz.prog w = .ok (.value (.agg #[.int .i64 (-7), .int .i64 0])) w := by
  simp [execOp, ho, hc, go_sem]

theorem exec_slice12 {x : Operand} (ho : o.op = .buildSlice 24 1 #[(0, x)]) (hx : ev x = .agg #[.int .i64 (-7), .int .i64 0]) : (execOp ev o).run Tryz.prog w = .ok (.value (.slice (some ⟨w.heap.size, 0, none⟩) 1 1)) (w.alloc (.cells #[.int .i64 (-7), .int .i64 0] 52)) := by
  simp [execOp, ho, hx, go_sem]

theorem exec_cut2 {x y : Operand} {ao : Option Addr} {n m cap g : Nat} (hnm : n ≤ m) (hm : m ≤ cap) (hao : ao = some ⟨g, 0, none⟩) (ho : o.op = .slice 24 x none (some y) none) (hx : ev x = .slice ao m cap) (hy : ev y = .int .i64 (n : Int)) : (execOp ev o).run Tryz.prog w = .ok (.value (.slice ao n cap)) w := by
  subst hao
  have h0 : (0 : Int) ≤ (n : Int) := by omega
  have h1 : (n : Int) ≤ (cap : Int) := by omega
  simp [execOp, ho, hx, hy, go_sem]
  intro h
  omega

theorem exec_store2 {x y : Operand} {B : Nat} {v : Value} {ao : Option Addr} {n cap : Nat} (ho : o.op = .store 24 x y) (hx : ev x = .pointer (some ⟨B, 2, none⟩)) (hy : ev y = .slice ao n cap) (hc : w.cell? ⟨B, 2, none⟩ = some v) (hf : w.frozen? ⟨B, 2, none⟩ = false) : (execOp ev o).run Tryz.prog w = .ok .skip (w.setCell ⟨B, 2, none⟩ (.slice ao n cap)) := by
  simp [execOp, ho, hx, hy, go_sem, hc, hf]

end
end Go.Proofs.YtkjoojamkbpfcaaGreat

/- What a region of Lent leaves behind. -/
namespace Go.Proofs.YtkjoojamkbpfcaaGreat
open Go.RowKit

theorem TB.put {w : World} {g : Nat} {A A' : Ad} {t t' : Tf} (h : TB w g A t) (k : Nat) (v : Value) (e : (tc A t).setIfInBounds k v = tc A' t') : TB (w.setCell ⟨g, k, none⟩ v) g A' t' := by
  have h' : w.heap[g]? = some (.cells (tc A t) 27 (0, 0)) := h
  rw [setCell_eq_setRow w g k _ _ _ v h', e]
  exact setRow_heap _ _ _ _ _ _ h'

/-- A list in memory of its own, with its mark behind it. -/
structure OwnT (w0 w' : World) (ao : Option Addr) (cap g k : Nat) (vs : List Value) : Prop where
  row : KRow w' ao cap g k vs
  new : w0.heap.size ≤ g
  pos : 0 < cap

theorem OwnT.frame {S : Nat → Prop} {w0 w w' : World} {ao : Option Addr} {cap g k : Nat} {vs : List Value} (h : OwnT w0 w ao cap g k vs) (hk : 0 < k) (hf : Fr S w w') (hS : ¬ S g) : OwnT w0 w' ao cap g k vs :=
  ⟨h.row.stay fun hc => hf.block g (h.row.lt hk hc) hS, h.new, h.pos⟩

set_option maxHeartbeats 1500000 in
set_option maxRecDepth 100000 in
theorem lent_region0 (W : World) (B : Nat) (A : Ad) (t : Tf) (hb : TB W B A t) (hc0 : CAt W A.aS (stV t.st)) (hl : (t.st.length + 1) * 24 ≤ 140737488355328) {Q : Exit → Act → World → Prop} (X0 X2 X19 X20 X21 X22 X23 X24 X25 X26 X27 X28 X29 X30 X31 X32 X33 X34 X35 X36 X37 X38 X39 X40 X41 X42 X43 X44 X45 X46 X47 X48 X49 X50 X51 Y3 Y4 Y5 Y6 Y7 Y8 Y9 Y10 Y11 Y12 Y13 Y14 Y15 Y16 Y17 Y18 : Value)
    (hQ : ∀ (u3 u4 u5 u6 u7 u8 u9 u10 u11 u12 u13 u14 u15 u16 u17 u18 : Value) (ao' : Option Addr) (cap' g' : Nat) (w' : World), TB w' B { A with aS := ao', cS := cap' } t → OwnT W w' ao' cap' g' 3 (stV (t.st ++ [markS])) → Fr (fun q => q = B) W w' → Q .normal { tmps := #[X0, .pointer (some ⟨B, 0, none⟩), X2, u3, u4, u5, u6, u7, u8, u9, u10, u11, u12, u13, u14, u15, u16, u17, u18, X19, X20, X21, X22, X23, X24, X25, X26, X27, X28, X29, X30, X31, X32, X33, X34, X35, X36, X37, X38, X39, X40, X41, X42, X43, X44, X45, X46, X47, X48, X49, X50, X51], defers := [] } w') :
    (Code.region 1 #[{ dst := some 3, op := Go.Op.fieldAddr 27 (Go.Operand.tmp 1) 0, type := 0, pos := "law.go:28", after := #[], guard := none }, { dst := some 4, op := Go.Op.load 22 (Go.Operand.tmp 3), type := 22, pos := "law.go:28", after := #[{ on := 0, ground := Go.Ground.data }], guard := none }, { dst := some 5, op := Go.Op.call { callee := Go.Callee.builtin Go.Builtin.len, args := #[Go.Operand.tmp 4], argTypes := #[22] }, type := 3, pos := "law.go:28", after := #[{ on := 1, ground := Go.Ground.data }], guard := none }, { dst := some 6, op := Go.Op.binOp Go.BinOp.add 3 (Go.Operand.tmp 5) (Go.Operand.const (Go.Value.int Go.IntKind.i64 1)) 3, type := 3, pos := "law.go:28", after := #[{ on := 2, ground := Go.Ground.data }], guard := none }, { dst := some 7, op := Go.Op.makeSlice 22 (Go.Operand.const (Go.Value.int Go.IntKind.i64 0)) (Go.Operand.tmp 6), type := 22, pos := "law.go:28", after := #[{ on := 3, ground := Go.Ground.data }], guard := none }, { dst := some 8, op := Go.Op.fieldAddr 27 (Go.Operand.tmp 1) 0, type := 0, pos := "law.go:28", after := #[], guard := none }, { dst := some 9, op := Go.Op.load 22 (Go.Operand.tmp 8), type := 22, pos := "law.go:28", after := #[{ on := 5, ground := Go.Ground.data }], guard := none }, { dst := some 10, op := Go.Op.call { callee := Go.Callee.builtin Go.Builtin.append, args := #[Go.Operand.tmp 7, Go.Operand.tmp 9], argTypes := #[22, 22] }, type := 22, pos := "law.go:28", after := #[{ on := 4, ground := Go.Ground.data }, { on := 6, ground := Go.Ground.data }], guard := none }, { dst := some 11, op := Go.Op.build 42 #[(0, Go.Operand.const (Go.Value.int Go.IntKind.i64 (-7)))], type := 42, pos := "law.go:28", after := #[], guard := none }, { dst := some 12, op := Go.Op.buildSlice 22 1 #[(0, Go.Operand.tmp 11)], type := 22, pos := "law.go:28", after := #[{ on := 8, ground := Go.Ground.data }], guard := none }, { dst := some 13, op := Go.Op.call { callee := Go.Callee.builtin Go.Builtin.append, args := #[Go.Operand.tmp 10, Go.Operand.tmp 12], argTypes := #[22, 22] }, type := 22, pos := "law.go:28", after := #[{ on := 7, ground := Go.Ground.data }, { on := 9, ground := Go.Ground.data }, { on := 7, ground := Go.Ground.chain }], guard := none }, { dst := some 14, op := Go.Op.fieldAddr 27 (Go.Operand.tmp 1) 0, type := 0, pos := "law.go:28", after := #[], guard := none }, { dst := some 15, op := Go.Op.load 22 (Go.Operand.tmp 14), type := 22, pos := "law.go:28", after := #[{ on := 11, ground := Go.Ground.data }], guard := none }, { dst := some 16, op := Go.Op.call { callee := Go.Callee.builtin Go.Builtin.len, args := #[Go.Operand.tmp 15], argTypes := #[22] }, type := 3, pos := "law.go:28", after := #[{ on := 12, ground := Go.Ground.data }], guard := none }, { dst := some 17, op := Go.Op.slice 22 (Go.Operand.tmp 13) none (some (Go.Operand.tmp 16)) none, type := 22, pos := "law.go:28", after := #[{ on := 10, ground := Go.Ground.data }, { on := 13, ground := Go.Ground.data }], guard := none }, { dst := some 18, op := Go.Op.fieldAddr 27 (Go.Operand.tmp 1) 0, type := 0, pos := "law.go:28", after := #[{ on := 0, ground := Go.Ground.phase }, { on := 1, ground := Go.Ground.phase }, { on := 2, ground := Go.Ground.phase }, { on := 3, ground := Go.Ground.phase }, { on := 4, ground := Go.Ground.phase }, { on := 5, ground := Go.Ground.phase }, { on := 6, ground := Go.Ground.phase }, { on := 7, ground := Go.Ground.phase }, { on := 8, ground := Go.Ground.phase }, { on := 9, ground := Go.Ground.phase }, { on := 10, ground := Go.Ground.phase }, { on := 11, ground := Go.Ground.phase }, { on := 12, ground := Go.Ground.phase }, { on := 13, ground := Go.Ground.phase }, { on := 14, ground := Go.Ground.phase }], guard := none }, { dst := none, op := Go.Op.store 22 (Go.Operand.tmp 18) (Go.Operand.tmp 17), type := 0, pos := "law.go:28", after := #[{ on := 15, ground := Go.Ground.data }, { on := 14, ground := Go.Ground.data }, { on := 10, ground := Go.Ground.chain }, { on := 0, ground := Go.Ground.phase }, { on := 1, ground := Go.Ground.phase }, { on := 2, ground := Go.Ground.phase }, { on := 3, ground := Go.Ground.phase }, { on := 4, ground := Go.Ground.phase }, { on := 5, ground := Go.Ground.phase }, { on := 6, ground := Go.Ground.phase }, { on := 7, ground := Go.Ground.phase }, { on := 8, ground := Go.Ground.phase }, { on := 9, ground := Go.Ground.phase }, { on := 10, ground := Go.Ground.phase }, { on := 11, ground := Go.Ground.phase }, { on := 12, ground := Go.Ground.phase }, { on := 13, ground := Go.Ground.phase }, { on := 14, ground := Go.Ground.phase }], guard := none }] true).wp Tryz.prog Q { tmps := #[X0, .pointer (some ⟨B, 0, none⟩), X2, Y3, Y4, Y5, Y6, Y7, Y8, Y9, Y10, Y11, Y12, Y13, Y14, Y15, Y16, Y17, Y18, X19, X20, X21, X22, X23, X24, X25, X26, X27, X28, X29, X30, X31, X32, X33, X34, X35, X36, X37, X38, X39, X40, X41, X42, X43, X44, X45, X46, X47, X48, X49, X50, X51], defers := [] } W := by
  obtain ⟨info, hi, hzz⟩ := Option.map_eq_some_iff.1 info35
  simp only [Prod.mk.injEq] at hzz
  obtain ⟨hz, hs, hy⟩ := hzz
  refine Code.wp_mono (Q := fun e a' w' => e = .normal ∧ Q .normal a' w') (fun e a' w' h => by obtain ⟨rfl, h⟩ := h; exact h) ?_
  have hT0 : Fr (fun _ => False) W W.drew := (Fr.refl _ _).drew
  have hlt := hb.lt
  have hcl : W.cell? ⟨B, 0, none⟩ = some (.slice A.aS t.st.length A.cS) := hb.cell 0
  have hld : ∀ w', Fr (fun _ => False) W w' → w'.cell? ⟨B, 0, none⟩ = some (.slice A.aS t.st.length A.cS) := fun w' hf => (hf.cell hlt (fun t => t)).trans hcl
  have hfz : ∀ w', Fr (fun _ => False) W w' → w'.frozen? ⟨B, 0, none⟩ = false := fun w' hf => (hf.frozen (a := ⟨B, 0, none⟩) hlt (fun t => t)).trans (hb.frozen 0)
  have hlen : t.st.length + 1 ≤ 140737488355328 := by omega
  have hfit : (t.st.length + 1) * info.bytes ≤ 140737488355328 := by rw [hy]; exact hl
  have hsrc : ∀ w', Fr (fun _ => False) W w' → Src Tryz.prog 3 22 (.slice A.aS t.st.length A.cS) t.st.length (stV t.st) w' := fun w' hf => CAt.src (hc0.keep hf) 22 42 3 _ _ (by omega) Tryz.underlying22 (stV_length _) (stV_one _)
  have hVm : stV (t.st ++ [markS]) = [] ++ stV t.st ++ stC markS := by simp [stV]
  have hVl : ([] ++ stV t.st).length = t.st.length * 3 := by rw [List.nil_append]; exact stV_length _
  have hone : ∀ u ∈ stC markS, u.oneCell' = true := fun u hu => stV_one [markS] u (by simpa [stV] using hu)
  refine wp_region_G (k := 16) (T := Fr (fun _ => False) W) (by kernel_rfl) ?_
  refine wpAnyG_take (i := 0) (v := .pointer (some ⟨B, 0, none⟩)) rfl (by kernel_rfl) (by kernel_rfl) (by kernel_rfl) (by kernel_rfl) (fun _ _ _ h => by cases h.1) (.inl ⟨by rfl, fun w' hT => exec_field0 (by rfl) (by rfl)⟩) hT0 ?_
  change wpAnyG _ _ _ _ _ _ _ _ { tmps := #[X0, .pointer (some ⟨B, 0, none⟩), X2, .pointer (some ⟨B, 0, none⟩), Y4, Y5, Y6, Y7, Y8, Y9, Y10, Y11, Y12, Y13, Y14, Y15, Y16, Y17, Y18, X19, X20, X21, X22, X23, X24, X25, X26, X27, X28, X29, X30, X31, X32, X33, X34, X35, X36, X37, X38, X39, X40, X41, X42, X43, X44, X45, X46, X47, X48, X49, X50, X51], defers := [] } _
  refine wpAnyG_take (i := 1) (v := .slice A.aS t.st.length A.cS) rfl (by kernel_rfl) (by kernel_rfl) (by kernel_rfl) (by kernel_rfl) (fun _ _ _ h => by cases h.1) (.inl ⟨by rfl, fun w' hT => exec_load0 (by rfl) (by rfl) (hld w' hT)⟩) hT0 ?_
  change wpAnyG _ _ _ _ _ _ _ _ { tmps := #[X0, .pointer (some ⟨B, 0, none⟩), X2, .pointer (some ⟨B, 0, none⟩), .slice A.aS t.st.length A.cS, Y5, Y6, Y7, Y8, Y9, Y10, Y11, Y12, Y13, Y14, Y15, Y16, Y17, Y18, X19, X20, X21, X22, X23, X24, X25, X26, X27, X28, X29, X30, X31, X32, X33, X34, X35, X36, X37, X38, X39, X40, X41, X42, X43, X44, X45, X46, X47, X48, X49, X50, X51], defers := [] } _
  refine wpAnyG_take (i := 2) (v := .int .i64 (t.st.length : Int)) rfl (by kernel_rfl) (by kernel_rfl) (by kernel_rfl) (by kernel_rfl) (fun _ _ _ h => by cases h.1) (.inl ⟨by rfl, fun w' hT => exec_len0 (by rfl) (by rfl)⟩) hT0 ?_
  change wpAnyG _ _ _ _ _ _ _ _ { tmps := #[X0, .pointer (some ⟨B, 0, none⟩), X2, .pointer (some ⟨B, 0, none⟩), .slice A.aS t.st.length A.cS, .int .i64 (t.st.length : Int), Y6, Y7, Y8, Y9, Y10, Y11, Y12, Y13, Y14, Y15, Y16, Y17, Y18, X19, X20, X21, X22, X23, X24, X25, X26, X27, X28, X29, X30, X31, X32, X33, X34, X35, X36, X37, X38, X39, X40, X41, X42, X43, X44, X45, X46, X47, X48, X49, X50, X51], defers := [] } _
  refine wpAnyG_take (i := 3) (v := .int .i64 ((t.st.length : Int) + 1)) rfl (by kernel_rfl) (by kernel_rfl) (by kernel_rfl) (by kernel_rfl) (fun _ _ _ h => by cases h.1) (.inl ⟨by rfl, fun w' hT => exec_add1 hlen (by rfl) (by rfl) (by rfl)⟩) hT0 ?_
  change wpAnyG _ _ _ _ _ _ _ _ { tmps := #[X0, .pointer (some ⟨B, 0, none⟩), X2, .pointer (some ⟨B, 0, none⟩), .slice A.aS t.st.length A.cS, .int .i64 (t.st.length : Int), .int .i64 ((t.st.length : Int) + 1), Y7, Y8, Y9, Y10, Y11, Y12, Y13, Y14, Y15, Y16, Y17, Y18, X19, X20, X21, X22, X23, X24, X25, X26, X27, X28, X29, X30, X31, X32, X33, X34, X35, X36, X37, X38, X39, X40, X41, X42, X43, X44, X45, X46, X47, X48, X49, X50, X51], defers := [] } _
  refine wpAnyG_take (i := 5) (v := .pointer (some ⟨B, 0, none⟩)) rfl (by kernel_rfl) (by kernel_rfl) (by kernel_rfl) (by kernel_rfl) (fun _ _ _ h => by cases h.1) (.inl ⟨by rfl, fun w' hT => exec_field0 (by rfl) (by rfl)⟩) hT0 ?_
  change wpAnyG _ _ _ _ _ _ _ _ { tmps := #[X0, .pointer (some ⟨B, 0, none⟩), X2, .pointer (some ⟨B, 0, none⟩), .slice A.aS t.st.length A.cS, .int .i64 (t.st.length : Int), .int .i64 ((t.st.length : Int) + 1), Y7, .pointer (some ⟨B, 0, none⟩), Y9, Y10, Y11, Y12, Y13, Y14, Y15, Y16, Y17, Y18, X19, X20, X21, X22, X23, X24, X25, X26, X27, X28, X29, X30, X31, X32, X33, X34, X35, X36, X37, X38, X39, X40, X41, X42, X43, X44, X45, X46, X47, X48, X49, X50, X51], defers := [] } _
  refine wpAnyG_take (i := 6) (v := .slice A.aS t.st.length A.cS) rfl (by kernel_rfl) (by kernel_rfl) (by kernel_rfl) (by kernel_rfl) (fun _ _ _ h => by cases h.1) (.inl ⟨by rfl, fun w' hT => exec_load0 (by rfl) (by rfl) (hld w' hT)⟩) hT0 ?_
  change wpAnyG _ _ _ _ _ _ _ _ { tmps := #[X0, .pointer (some ⟨B, 0, none⟩), X2, .pointer (some ⟨B, 0, none⟩), .slice A.aS t.st.length A.cS, .int .i64 (t.st.length : Int), .int .i64 ((t.st.length : Int) + 1), Y7, .pointer (some ⟨B, 0, none⟩), .slice A.aS t.st.length A.cS, Y10, Y11, Y12, Y13, Y14, Y15, Y16, Y17, Y18, X19, X20, X21, X22, X23, X24, X25, X26, X27, X28, X29, X30, X31, X32, X33, X34, X35, X36, X37, X38, X39, X40, X41, X42, X43, X44, X45, X46, X47, X48, X49, X50, X51], defers := [] } _
  refine wpAnyG_take (i := 8) (v := .agg #[.int .i64 (-7), .int .i64 0, .int .i64 0]) rfl (by kernel_rfl) (by kernel_rfl) (by kernel_rfl) (by kernel_rfl) (fun _ _ _ h => by cases h.1) (.inl ⟨by rfl, fun w' hT => exec_build0 (by rfl) (by rfl)⟩) hT0 ?_
  change wpAnyG _ _ _ _ _ _ _ _ { tmps := #[X0, .pointer (some ⟨B, 0, none⟩), X2, .pointer (some ⟨B, 0, none⟩), .slice A.aS t.st.length A.cS, .int .i64 (t.st.length : Int), .int .i64 ((t.st.length : Int) + 1), Y7, .pointer (some ⟨B, 0, none⟩), .slice A.aS t.st.length A.cS, Y10, .agg #[.int .i64 (-7), .int .i64 0, .int .i64 0], Y12, Y13, Y14, Y15, Y16, Y17, Y18, X19, X20, X21, X22, X23, X24, X25, X26, X27, X28, X29, X30, X31, X32, X33, X34, X35, X36, X37, X38, X39, X40, X41, X42, X43, X44, X45, X46, X47, X48, X49, X50, X51], defers := [] } _
  refine wpAnyG_take (i := 11) (v := .pointer (some ⟨B, 0, none⟩)) rfl (by kernel_rfl) (by kernel_rfl) (by kernel_rfl) (by kernel_rfl) (fun _ _ _ h => by cases h.1) (.inl ⟨by rfl, fun w' hT => exec_field0 (by rfl) (by rfl)⟩) hT0 ?_
  change wpAnyG _ _ _ _ _ _ _ _ { tmps := #[X0, .pointer (some ⟨B, 0, none⟩), X2, .pointer (some ⟨B, 0, none⟩), .slice A.aS t.st.length A.cS, .int .i64 (t.st.length : Int), .int .i64 ((t.st.length : Int) + 1), Y7, .pointer (some ⟨B, 0, none⟩), .slice A.aS t.st.length A.cS, Y10, .agg #[.int .i64 (-7), .int .i64 0, .int .i64 0], Y12, Y13, .pointer (some ⟨B, 0, none⟩), Y15, Y16, Y17, Y18, X19, X20, X21, X22, X23, X24, X25, X26, X27, X28, X29, X30, X31, X32, X33, X34, X35, X36, X37, X38, X39, X40, X41, X42, X43, X44, X45, X46, X47, X48, X49, X50, X51], defers := [] } _
  refine wpAnyG_take (i := 12) (v := .slice A.aS t.st.length A.cS) rfl (by kernel_rfl) (by kernel_rfl) (by kernel_rfl) (by kernel_rfl) (fun _ _ _ h => by cases h.1) (.inl ⟨by rfl, fun w' hT => exec_load0 (by rfl) (by rfl) (hld w' hT)⟩) hT0 ?_
  change wpAnyG _ _ _ _ _ _ _ _ { tmps := #[X0, .pointer (some ⟨B, 0, none⟩), X2, .pointer (some ⟨B, 0, none⟩), .slice A.aS t.st.length A.cS, .int .i64 (t.st.length : Int), .int .i64 ((t.st.length : Int) + 1), Y7, .pointer (some ⟨B, 0, none⟩), .slice A.aS t.st.length A.cS, Y10, .agg #[.int .i64 (-7), .int .i64 0, .int .i64 0], Y12, Y13, .pointer (some ⟨B, 0, none⟩), .slice A.aS t.st.length A.cS, Y16, Y17, Y18, X19, X20, X21, X22, X23, X24, X25, X26, X27, X28, X29, X30, X31, X32, X33, X34, X35, X36, X37, X38, X39, X40, X41, X42, X43, X44, X45, X46, X47, X48, X49, X50, X51], defers := [] } _
  refine wpAnyG_take (i := 13) (v := .int .i64 (t.st.length : Int)) rfl (by kernel_rfl) (by kernel_rfl) (by kernel_rfl) (by kernel_rfl) (fun _ _ _ h => by cases h.1) (.inl ⟨by rfl, fun w' hT => exec_len0 (by rfl) (by rfl)⟩) hT0 ?_
  change wpAnyG _ _ _ _ _ _ _ _ { tmps := #[X0, .pointer (some ⟨B, 0, none⟩), X2, .pointer (some ⟨B, 0, none⟩), .slice A.aS t.st.length A.cS, .int .i64 (t.st.length : Int), .int .i64 ((t.st.length : Int) + 1), Y7, .pointer (some ⟨B, 0, none⟩), .slice A.aS t.st.length A.cS, Y10, .agg #[.int .i64 (-7), .int .i64 0, .int .i64 0], Y12, Y13, .pointer (some ⟨B, 0, none⟩), .slice A.aS t.st.length A.cS, .int .i64 (t.st.length : Int), Y17, Y18, X19, X20, X21, X22, X23, X24, X25, X26, X27, X28, X29, X30, X31, X32, X33, X34, X35, X36, X37, X38, X39, X40, X41, X42, X43, X44, X45, X46, X47, X48, X49, X50, X51], defers := [] } _
  obtain ⟨w1, hm, f1⟩ := Fresh.make (P := Tryz.prog) hT0 22 42 info _ 3 t.st.length Tryz.underlying22 hi hz hs hfit hlen
  refine wpAnyG_ready (rs := [4, 9]) (by kernel_rfl) (by simp) (AllReadyG.value rfl (by rfl) (exec_make (by rfl) (by rfl) (by rfl) hm) (fun _ => f1.fr) ?_ (AllReadyG.value rfl (by rfl) (exec_slice10 (by rfl) (by rfl)) (fun _ => hT0.alloc _) ?_ AllReadyG.nil))
  · change wpAnyG _ _ _ _ _ _ _ _ { tmps := #[X0, .pointer (some ⟨B, 0, none⟩), X2, .pointer (some ⟨B, 0, none⟩), .slice A.aS t.st.length A.cS, .int .i64 (t.st.length : Int), .int .i64 ((t.st.length : Int) + 1), .slice (some ⟨W.drew.heap.size, 0, none⟩) 0 (t.st.length + 1), .pointer (some ⟨B, 0, none⟩), .slice A.aS t.st.length A.cS, Y10, .agg #[.int .i64 (-7), .int .i64 0, .int .i64 0], Y12, Y13, .pointer (some ⟨B, 0, none⟩), .slice A.aS t.st.length A.cS, .int .i64 (t.st.length : Int), Y17, Y18, X19, X20, X21, X22, X23, X24, X25, X26, X27, X28, X29, X30, X31, X32, X33, X34, X35, X36, X37, X38, X39, X40, X41, X42, X43, X44, X45, X46, X47, X48, X49, X50, X51], defers := [] } _
    obtain ⟨ao1, c1, w2, g1, ha, f2, r1⟩ := f1.append (P := Tryz.prog) (n := 0) 22 22 22 42 info _ (by omega) Tryz.underlying22 hi hz rfl hs rfl _ _ t.st.length (hsrc _ f1.fr) (by rw [hy]; omega) (by omega)
    rw [Nat.zero_add] at ha
    have f1a := f1.alloc (by omega) (.cells #[.int .i64 (-7), .int .i64 0, .int .i64 0] 42)
    refine wpAnyG_ready (rs := [7, 9]) (by kernel_rfl) (by simp) (AllReadyG.value rfl (by rfl) (exec_append (by rfl) (by rfl) (by rfl) ha) (fun _ => f2.fr) ?_ (AllReadyG.value rfl (by rfl) (exec_slice10 (by rfl) (by rfl)) (fun _ => f1a.fr) ?_ AllReadyG.nil))
    · change wpAnyG _ _ _ _ _ _ _ _ { tmps := #[X0, .pointer (some ⟨B, 0, none⟩), X2, .pointer (some ⟨B, 0, none⟩), .slice A.aS t.st.length A.cS, .int .i64 (t.st.length : Int), .int .i64 ((t.st.length : Int) + 1), .slice (some ⟨W.drew.heap.size, 0, none⟩) 0 (t.st.length + 1), .pointer (some ⟨B, 0, none⟩), .slice A.aS t.st.length A.cS, .slice ao1 t.st.length c1, .agg #[.int .i64 (-7), .int .i64 0, .int .i64 0], Y12, Y13, .pointer (some ⟨B, 0, none⟩), .slice A.aS t.st.length A.cS, .int .i64 (t.st.length : Int), Y17, Y18, X19, X20, X21, X22, X23, X24, X25, X26, X27, X28, X29, X30, X31, X32, X33, X34, X35, X36, X37, X38, X39, X40, X41, X42, X43, X44, X45, X46, X47, X48, X49, X50, X51], defers := [] } _
      have f3 := f2.alloc (by omega) (.cells #[.int .i64 (-7), .int .i64 0, .int .i64 0] 42)
      have hsm := src_new' w2 (stC markS) 22 42 3 Tryz.underlying22 rfl hone (W := w2.alloc (.cells #[.int .i64 (-7), .int .i64 0, .int .i64 0] 42)) (fun j => by rw [World.cell?_alloc_new]; simp [stC, markS])
      obtain ⟨ao2, c2, w4, g2, hb2, f4, _⟩ := f3.append (P := Tryz.prog) (n := t.st.length) 22 22 22 42 info _ (by omega) Tryz.underlying22 hi hz rfl hs hVl _ _ 1 hsm (by rw [hy]; exact hl) (by omega)
      refine wpAnyG_ready (rs := [9]) (by kernel_rfl) (by simp) (AllReadyG.value rfl (by rfl) (exec_slice10 (by rfl) (by rfl)) (fun _ => f3.fr) ?_ AllReadyG.nil)
      change wpAnyG _ _ _ _ _ _ _ _ { tmps := #[X0, .pointer (some ⟨B, 0, none⟩), X2, .pointer (some ⟨B, 0, none⟩), .slice A.aS t.st.length A.cS, .int .i64 (t.st.length : Int), .int .i64 ((t.st.length : Int) + 1), .slice (some ⟨W.drew.heap.size, 0, none⟩) 0 (t.st.length + 1), .pointer (some ⟨B, 0, none⟩), .slice A.aS t.st.length A.cS, .slice ao1 t.st.length c1, .agg #[.int .i64 (-7), .int .i64 0, .int .i64 0], .slice (some ⟨w2.heap.size, 0, none⟩) 1 1, Y13, .pointer (some ⟨B, 0, none⟩), .slice A.aS t.st.length A.cS, .int .i64 (t.st.length : Int), Y17, Y18, X19, X20, X21, X22, X23, X24, X25, X26, X27, X28, X29, X30, X31, X32, X33, X34, X35, X36, X37, X38, X39, X40, X41, X42, X43, X44, X45, X46, X47, X48, X49, X50, X51], defers := [] } _
      refine wpAnyG_ready (rs := [10]) (by kernel_rfl) (by simp) (AllReadyG.value rfl (by rfl) (exec_append (by rfl) (by rfl) (by rfl) hb2) (fun _ => f4.fr) ?_ AllReadyG.nil)
      change wpAnyG _ _ _ _ _ _ _ _ { tmps := #[X0, .pointer (some ⟨B, 0, none⟩), X2, .pointer (some ⟨B, 0, none⟩), .slice A.aS t.st.length A.cS, .int .i64 (t.st.length : Int), .int .i64 ((t.st.length : Int) + 1), .slice (some ⟨W.drew.heap.size, 0, none⟩) 0 (t.st.length + 1), .pointer (some ⟨B, 0, none⟩), .slice A.aS t.st.length A.cS, .slice ao1 t.st.length c1, .agg #[.int .i64 (-7), .int .i64 0, .int .i64 0], .slice (some ⟨w2.heap.size, 0, none⟩) 1 1, .slice ao2 (t.st.length + 1) c2, .pointer (some ⟨B, 0, none⟩), .slice A.aS t.st.length A.cS, .int .i64 (t.st.length : Int), Y17, Y18, X19, X20, X21, X22, X23, X24, X25, X26, X27, X28, X29, X30, X31, X32, X33, X34, X35, X36, X37, X38, X39, X40, X41, X42, X43, X44, X45, X46, X47, X48, X49, X50, X51], defers := [] } _
      have hc2 : t.st.length + 1 ≤ c2 := by
        have h1 := f4.row.le
        rw [List.length_append, hVl] at h1
        have h2 : (stC markS).length = 3 := rfl
        omega
      refine wpAnyG_take (i := 14) (v := .slice ao2 t.st.length c2) rfl (by kernel_rfl) (by kernel_rfl) (by kernel_rfl) (by kernel_rfl) (fun _ _ _ h => by cases h.1) (.inl ⟨by rfl, fun w' hT => exec_cut0 (Nat.le_succ _) hc2 (f4.row.ad f4.pos) (by rfl) (by rfl) (by rfl)⟩) f4.fr ?_
      change wpAnyG _ _ _ _ _ _ _ _ { tmps := #[X0, .pointer (some ⟨B, 0, none⟩), X2, .pointer (some ⟨B, 0, none⟩), .slice A.aS t.st.length A.cS, .int .i64 (t.st.length : Int), .int .i64 ((t.st.length : Int) + 1), .slice (some ⟨W.drew.heap.size, 0, none⟩) 0 (t.st.length + 1), .pointer (some ⟨B, 0, none⟩), .slice A.aS t.st.length A.cS, .slice ao1 t.st.length c1, .agg #[.int .i64 (-7), .int .i64 0, .int .i64 0], .slice (some ⟨w2.heap.size, 0, none⟩) 1 1, .slice ao2 (t.st.length + 1) c2, .pointer (some ⟨B, 0, none⟩), .slice A.aS t.st.length A.cS, .int .i64 (t.st.length : Int), .slice ao2 t.st.length c2, Y18, X19, X20, X21, X22, X23, X24, X25, X26, X27, X28, X29, X30, X31, X32, X33, X34, X35, X36, X37, X38, X39, X40, X41, X42, X43, X44, X45, X46, X47, X48, X49, X50, X51], defers := [] } _
      refine wpAnyG_take (i := 15) (v := .pointer (some ⟨B, 0, none⟩)) rfl (by kernel_rfl) (by kernel_rfl) (by kernel_rfl) (by kernel_rfl) (fun _ _ _ h => by cases h.1) (.inl ⟨by rfl, fun w' hT => exec_field0 (by rfl) (by rfl)⟩) f4.fr ?_
      change wpAnyG _ _ _ _ _ _ _ _ { tmps := #[X0, .pointer (some ⟨B, 0, none⟩), X2, .pointer (some ⟨B, 0, none⟩), .slice A.aS t.st.length A.cS, .int .i64 (t.st.length : Int), .int .i64 ((t.st.length : Int) + 1), .slice (some ⟨W.drew.heap.size, 0, none⟩) 0 (t.st.length + 1), .pointer (some ⟨B, 0, none⟩), .slice A.aS t.st.length A.cS, .slice ao1 t.st.length c1, .agg #[.int .i64 (-7), .int .i64 0, .int .i64 0], .slice (some ⟨w2.heap.size, 0, none⟩) 1 1, .slice ao2 (t.st.length + 1) c2, .pointer (some ⟨B, 0, none⟩), .slice A.aS t.st.length A.cS, .int .i64 (t.st.length : Int), .slice ao2 t.st.length c2, .pointer (some ⟨B, 0, none⟩), X19, X20, X21, X22, X23, X24, X25, X26, X27, X28, X29, X30, X31, X32, X33, X34, X35, X36, X37, X38, X39, X40, X41, X42, X43, X44, X45, X46, X47, X48, X49, X50, X51], defers := [] } _
      refine wpAnyG_ready (rs := [16]) (by kernel_rfl) (by simp) (AllReadyG.skip rfl (by rfl) (exec_store0 (by rfl) (by rfl) (by rfl) (hld _ f4.fr) (hfz _ f4.fr)) (fun h => absurd rfl h) ?_ AllReadyG.nil)
      change wpAnyG _ _ _ _ _ _ _ _ { tmps := #[X0, .pointer (some ⟨B, 0, none⟩), X2, .pointer (some ⟨B, 0, none⟩), .slice A.aS t.st.length A.cS, .int .i64 (t.st.length : Int), .int .i64 ((t.st.length : Int) + 1), .slice (some ⟨W.drew.heap.size, 0, none⟩) 0 (t.st.length + 1), .pointer (some ⟨B, 0, none⟩), .slice A.aS t.st.length A.cS, .slice ao1 t.st.length c1, .agg #[.int .i64 (-7), .int .i64 0, .int .i64 0], .slice (some ⟨w2.heap.size, 0, none⟩) 1 1, .slice ao2 (t.st.length + 1) c2, .pointer (some ⟨B, 0, none⟩), .slice A.aS t.st.length A.cS, .int .i64 (t.st.length : Int), .slice ao2 t.st.length c2, .pointer (some ⟨B, 0, none⟩), X19, X20, X21, X22, X23, X24, X25, X26, X27, X28, X29, X30, X31, X32, X33, X34, X35, X36, X37, X38, X39, X40, X41, X42, X43, X44, X45, X46, X47, X48, X49, X50, X51], defers := [] } _
      refine wpAnyG_done (by kernel_rfl) ⟨rfl, hQ _ _ _ _ _ _ _ _ _ _ _ _ _ _ _ _ ao2 c2 g2 _ (TB.put (hb.keep f4.fr) 0 _ rfl) ?_ (Fr.setCell (S := fun q => q = B) (f4.fr.mono (fun _ _ t => t.elim)) (p := ⟨B, 0, none⟩) (fun _ => rfl) _)⟩ _
      rw [hVm]
      exact ⟨f4.row.stay (fun hc => Below.heap_setCell _ _ _ _ (by have h1 := f4.new; show g2 ≠ B; omega)), f4.new, f4.pos⟩
    · change wpAnyG _ _ _ _ _ _ _ _ { tmps := #[X0, .pointer (some ⟨B, 0, none⟩), X2, .pointer (some ⟨B, 0, none⟩), .slice A.aS t.st.length A.cS, .int .i64 (t.st.length : Int), .int .i64 ((t.st.length : Int) + 1), .slice (some ⟨W.drew.heap.size, 0, none⟩) 0 (t.st.length + 1), .pointer (some ⟨B, 0, none⟩), .slice A.aS t.st.length A.cS, Y10, .agg #[.int .i64 (-7), .int .i64 0, .int .i64 0], .slice (some ⟨w1.heap.size, 0, none⟩) 1 1, Y13, .pointer (some ⟨B, 0, none⟩), .slice A.aS t.st.length A.cS, .int .i64 (t.st.length : Int), Y17, Y18, X19, X20, X21, X22, X23, X24, X25, X26, X27, X28, X29, X30, X31, X32, X33, X34, X35, X36, X37, X38, X39, X40, X41, X42, X43, X44, X45, X46, X47, X48, X49, X50, X51], defers := [] } _
      clear ha f2 r1 ao1 c1 w2 g1
      obtain ⟨ao1, c1, w2, g1, ha, f2, r1⟩ := f1a.append (P := Tryz.prog) (n := 0) 22 22 22 42 info _ (by omega) Tryz.underlying22 hi hz rfl hs rfl _ _ t.st.length (hsrc _ f1a.fr) (by rw [hy]; omega) (by omega)
      rw [Nat.zero_add] at ha
      have hsm := src_new' w1 (stC markS) 22 42 3 Tryz.underlying22 rfl hone (W := w2) (fun j => by rw [r1.cell (a := ⟨w1.heap.size, j, none⟩) (by rw [heap_alloc]; exact Nat.lt_succ_self _) (by have h1 := f1.row.lt (by omega) f1.pos; show ¬ w1.heap.size = W.drew.heap.size; omega), World.cell?_alloc_new]; simp [stC, markS])
      obtain ⟨ao2, c2, w4, g2, hb2, f4, _⟩ := f2.append (P := Tryz.prog) (n := t.st.length) 22 22 22 42 info _ (by omega) Tryz.underlying22 hi hz rfl hs hVl _ _ 1 hsm (by rw [hy]; exact hl) (by omega)
      refine wpAnyG_ready (rs := [7]) (by kernel_rfl) (by simp) (AllReadyG.value rfl (by rfl) (exec_append (by rfl) (by rfl) (by rfl) ha) (fun _ => f2.fr) ?_ AllReadyG.nil)
      change wpAnyG _ _ _ _ _ _ _ _ { tmps := #[X0, .pointer (some ⟨B, 0, none⟩), X2, .pointer (some ⟨B, 0, none⟩), .slice A.aS t.st.length A.cS, .int .i64 (t.st.length : Int), .int .i64 ((t.st.length : Int) + 1), .slice (some ⟨W.drew.heap.size, 0, none⟩) 0 (t.st.length + 1), .pointer (some ⟨B, 0, none⟩), .slice A.aS t.st.length A.cS, .slice ao1 t.st.length c1, .agg #[.int .i64 (-7), .int .i64 0, .int .i64 0], .slice (some ⟨w1.heap.size, 0, none⟩) 1 1, Y13, .pointer (some ⟨B, 0, none⟩), .slice A.aS t.st.length A.cS, .int .i64 (t.st.length : Int), Y17, Y18, X19, X20, X21, X22, X23, X24, X25, X26, X27, X28, X29, X30, X31, X32, X33, X34, X35, X36, X37, X38, X39, X40, X41, X42, X43, X44, X45, X46, X47, X48, X49, X50, X51], defers := [] } _
      refine wpAnyG_ready (rs := [10]) (by kernel_rfl) (by simp) (AllReadyG.value rfl (by rfl) (exec_append (by rfl) (by rfl) (by rfl) hb2) (fun _ => f4.fr) ?_ AllReadyG.nil)
      change wpAnyG _ _ _ _ _ _ _ _ { tmps := #[X0, .pointer (some ⟨B, 0, none⟩), X2, .pointer (some ⟨B, 0, none⟩), .slice A.aS t.st.length A.cS, .int .i64 (t.st.length : Int), .int .i64 ((t.st.length : Int) + 1), .slice (some ⟨W.drew.heap.size, 0, none⟩) 0 (t.st.length + 1), .pointer (some ⟨B, 0, none⟩), .slice A.aS t.st.length A.cS, .slice ao1 t.st.length c1, .agg #[.int .i64 (-7), .int .i64 0, .int .i64 0], .slice (some ⟨w1.heap.size, 0, none⟩) 1 1, .slice ao2 (t.st.length + 1) c2, .pointer (some ⟨B, 0, none⟩), .slice A.aS t.st.length A.cS, .int .i64 (t.st.length : Int), Y17, Y18, X19, X20, X21, X22, X23, X24, X25, X26, X27, X28, X29, X30, X31, X32, X33, X34, X35, X36, X37, X38, X39, X40, X41, X42, X43, X44, X45, X46, X47, X48, X49, X50, X51], defers := [] } _
      have hc2 : t.st.length + 1 ≤ c2 := by
        have h1 := f4.row.le
        rw [List.length_append, hVl] at h1
        have h2 : (stC markS).length = 3 := rfl
        omega
      refine wpAnyG_take (i := 14) (v := .slice ao2 t.st.length c2) rfl (by kernel_rfl) (by kernel_rfl) (by kernel_rfl) (by kernel_rfl) (fun _ _ _ h => by cases h.1) (.inl ⟨by rfl, fun w' hT => exec_cut0 (Nat.le_succ _) hc2 (f4.row.ad f4.pos) (by rfl) (by rfl) (by rfl)⟩) f4.fr ?_
      change wpAnyG _ _ _ _ _ _ _ _ { tmps := #[X0, .pointer (some ⟨B, 0, none⟩), X2, .pointer (some ⟨B, 0, none⟩), .slice A.aS t.st.length A.cS, .int .i64 (t.st.length : Int), .int .i64 ((t.st.length : Int) + 1), .slice (some ⟨W.drew.heap.size, 0, none⟩) 0 (t.st.length + 1), .pointer (some ⟨B, 0, none⟩), .slice A.aS t.st.length A.cS, .slice ao1 t.st.length c1, .agg #[.int .i64 (-7), .int .i64 0, .int .i64 0], .slice (some ⟨w1.heap.size, 0, none⟩) 1 1, .slice ao2 (t.st.length + 1) c2, .pointer (some ⟨B, 0, none⟩), .slice A.aS t.st.length A.cS, .int .i64 (t.st.length : Int), .slice ao2 t.st.length c2, Y18, X19, X20, X21, X22, X23, X24, X25, X26, X27, X28, X29, X30, X31, X32, X33, X34, X35, X36, X37, X38, X39, X40, X41, X42, X43, X44, X45, X46, X47, X48, X49, X50, X51], defers := [] } _
      refine wpAnyG_take (i := 15) (v := .pointer (some ⟨B, 0, none⟩)) rfl (by kernel_rfl) (by kernel_rfl) (by kernel_rfl) (by kernel_rfl) (fun _ _ _ h => by cases h.1) (.inl ⟨by rfl, fun w' hT => exec_field0 (by rfl) (by rfl)⟩) f4.fr ?_
      change wpAnyG _ _ _ _ _ _ _ _ { tmps := #[X0, .pointer (some ⟨B, 0, none⟩), X2, .pointer (some ⟨B, 0, none⟩), .slice A.aS t.st.length A.cS, .int .i64 (t.st.length : Int), .int .i64 ((t.st.length : Int) + 1), .slice (some ⟨W.drew.heap.size, 0, none⟩) 0 (t.st.length + 1), .pointer (some ⟨B, 0, none⟩), .slice A.aS t.st.length A.cS, .slice ao1 t.st.length c1, .agg #[.int .i64 (-7), .int .i64 0, .int .i64 0], .slice (some ⟨w1.heap.size, 0, none⟩) 1 1, .slice ao2 (t.st.length + 1) c2, .pointer (some ⟨B, 0, none⟩), .slice A.aS t.st.length A.cS, .int .i64 (t.st.length : Int), .slice ao2 t.st.length c2, .pointer (some ⟨B, 0, none⟩), X19, X20, X21, X22, X23, X24, X25, X26, X27, X28, X29, X30, X31, X32, X33, X34, X35, X36, X37, X38, X39, X40, X41, X42, X43, X44, X45, X46, X47, X48, X49, X50, X51], defers := [] } _
      refine wpAnyG_ready (rs := [16]) (by kernel_rfl) (by simp) (AllReadyG.skip rfl (by rfl) (exec_store0 (by rfl) (by rfl) (by rfl) (hld _ f4.fr) (hfz _ f4.fr)) (fun h => absurd rfl h) ?_ AllReadyG.nil)
      change wpAnyG _ _ _ _ _ _ _ _ { tmps := #[X0, .pointer (some ⟨B, 0, none⟩), X2, .pointer (some ⟨B, 0, none⟩), .slice A.aS t.st.length A.cS, .int .i64 (t.st.length : Int), .int .i64 ((t.st.length : Int) + 1), .slice (some ⟨W.drew.heap.size, 0, none⟩) 0 (t.st.length + 1), .pointer (some ⟨B, 0, none⟩), .slice A.aS t.st.length A.cS, .slice ao1 t.st.length c1, .agg #[.int .i64 (-7), .int .i64 0, .int .i64 0], .slice (some ⟨w1.heap.size, 0, none⟩) 1 1, .slice ao2 (t.st.length + 1) c2, .pointer (some ⟨B, 0, none⟩), .slice A.aS t.st.length A.cS, .int .i64 (t.st.length : Int), .slice ao2 t.st.length c2, .pointer (some ⟨B, 0, none⟩), X19, X20, X21, X22, X23, X24, X25, X26, X27, X28, X29, X30, X31, X32, X33, X34, X35, X36, X37, X38, X39, X40, X41, X42, X43, X44, X45, X46, X47, X48, X49, X50, X51], defers := [] } _
      refine wpAnyG_done (by kernel_rfl) ⟨rfl, hQ _ _ _ _ _ _ _ _ _ _ _ _ _ _ _ _ ao2 c2 g2 _ (TB.put (hb.keep f4.fr) 0 _ rfl) ?_ (Fr.setCell (S := fun q => q = B) (f4.fr.mono (fun _ _ t => t.elim)) (p := ⟨B, 0, none⟩) (fun _ => rfl) _)⟩ _
      rw [hVm]
      exact ⟨f4.row.stay (fun hc => Below.heap_setCell _ _ _ _ (by have h1 := f4.new; show g2 ≠ B; omega)), f4.new, f4.pos⟩
  · change wpAnyG _ _ _ _ _ _ _ _ { tmps := #[X0, .pointer (some ⟨B, 0, none⟩), X2, .pointer (some ⟨B, 0, none⟩), .slice A.aS t.st.length A.cS, .int .i64 (t.st.length : Int), .int .i64 ((t.st.length : Int) + 1), Y7, .pointer (some ⟨B, 0, none⟩), .slice A.aS t.st.length A.cS, Y10, .agg #[.int .i64 (-7), .int .i64 0, .int .i64 0], .slice (some ⟨W.drew.heap.size, 0, none⟩) 1 1, Y13, .pointer (some ⟨B, 0, none⟩), .slice A.aS t.st.length A.cS, .int .i64 (t.st.length : Int), Y17, Y18, X19, X20, X21, X22, X23, X24, X25, X26, X27, X28, X29, X30, X31, X32, X33, X34, X35, X36, X37, X38, X39, X40, X41, X42, X43, X44, X45, X46, X47, X48, X49, X50, X51], defers := [] } _
    clear hm f1 w1
    obtain ⟨w1, hm, f1⟩ := Fresh.make (P := Tryz.prog) (hT0.alloc (.cells #[.int .i64 (-7), .int .i64 0, .int .i64 0] 42)) 22 42 info _ 3 t.st.length Tryz.underlying22 hi hz hs hfit hlen
    have r0 : Fr (fun _ => False) (W.drew.alloc (.cells #[.int .i64 (-7), .int .i64 0, .int .i64 0] 42)) w1 := by
      obtain ⟨w1', hm', f1'⟩ := Fresh.make (P := Tryz.prog) (Fr.refl (fun _ => False) (W.drew.alloc (.cells #[.int .i64 (-7), .int .i64 0, .int .i64 0] 42))) 22 42 info _ 3 t.st.length Tryz.underlying22 hi hz hs hfit hlen
      rw [hm] at hm'
      injection hm' with _ hm'
      rw [hm']
      exact f1'.fr
    obtain ⟨ao1, c1, w2, g1, ha, f2, r1⟩ := f1.append (P := Tryz.prog) (n := 0) 22 22 22 42 info _ (by omega) Tryz.underlying22 hi hz rfl hs rfl _ _ t.st.length (hsrc _ f1.fr) (by rw [hy]; omega) (by omega)
    rw [Nat.zero_add] at ha
    have hsm := src_new' W.drew (stC markS) 22 42 3 Tryz.underlying22 rfl hone (W := w2) (fun j => by rw [r1.cell (a := ⟨W.drew.heap.size, j, none⟩) (by have h1 := f1.row.lt (by omega) f1.pos; rw [heap_alloc] at h1; show W.drew.heap.size < _; omega) (by show ¬ W.drew.heap.size = (W.drew.alloc (.cells #[.int .i64 (-7), .int .i64 0, .int .i64 0] 42)).heap.size; rw [heap_alloc]; omega), r0.cell (a := ⟨W.drew.heap.size, j, none⟩) (by rw [heap_alloc]; exact Nat.lt_succ_self _) (fun t => t), World.cell?_alloc_new]; simp [stC, markS])
    obtain ⟨ao2, c2, w4, g2, hb2, f4, _⟩ := f2.append (P := Tryz.prog) (n := t.st.length) 22 22 22 42 info _ (by omega) Tryz.underlying22 hi hz rfl hs hVl _ _ 1 hsm (by rw [hy]; exact hl) (by omega)
    refine wpAnyG_ready (rs := [4]) (by kernel_rfl) (by simp) (AllReadyG.value rfl (by rfl) (exec_make (by rfl) (by rfl) (by rfl) hm) (fun _ => f1.fr) ?_ AllReadyG.nil)
    change wpAnyG _ _ _ _ _ _ _ _ { tmps := #[X0, .pointer (some ⟨B, 0, none⟩), X2, .pointer (some ⟨B, 0, none⟩), .slice A.aS t.st.length A.cS, .int .i64 (t.st.length : Int), .int .i64 ((t.st.length : Int) + 1), .slice (some ⟨(W.drew.alloc (.cells #[.int .i64 (-7), .int .i64 0, .int .i64 0] 42)).heap.size, 0, none⟩) 0 (t.st.length + 1), .pointer (some ⟨B, 0, none⟩), .slice A.aS t.st.length A.cS, Y10, .agg #[.int .i64 (-7), .int .i64 0, .int .i64 0], .slice (some ⟨W.drew.heap.size, 0, none⟩) 1 1, Y13, .pointer (some ⟨B, 0, none⟩), .slice A.aS t.st.length A.cS, .int .i64 (t.st.length : Int), Y17, Y18, X19, X20, X21, X22, X23, X24, X25, X26, X27, X28, X29, X30, X31, X32, X33, X34, X35, X36, X37, X38, X39, X40, X41, X42, X43, X44, X45, X46, X47, X48, X49, X50, X51], defers := [] } _
    refine wpAnyG_ready (rs := [7]) (by kernel_rfl) (by simp) (AllReadyG.value rfl (by rfl) (exec_append (by rfl) (by rfl) (by rfl) ha) (fun _ => f2.fr) ?_ AllReadyG.nil)
    change wpAnyG _ _ _ _ _ _ _ _ { tmps := #[X0, .pointer (some ⟨B, 0, none⟩), X2, .pointer (some ⟨B, 0, none⟩), .slice A.aS t.st.length A.cS, .int .i64 (t.st.length : Int), .int .i64 ((t.st.length : Int) + 1), .slice (some ⟨(W.drew.alloc (.cells #[.int .i64 (-7), .int .i64 0, .int .i64 0] 42)).heap.size, 0, none⟩) 0 (t.st.length + 1), .pointer (some ⟨B, 0, none⟩), .slice A.aS t.st.length A.cS, .slice ao1 t.st.length c1, .agg #[.int .i64 (-7), .int .i64 0, .int .i64 0], .slice (some ⟨W.drew.heap.size, 0, none⟩) 1 1, Y13, .pointer (some ⟨B, 0, none⟩), .slice A.aS t.st.length A.cS, .int .i64 (t.st.length : Int), Y17, Y18, X19, X20, X21, X22, X23, X24, X25, X26, X27, X28, X29, X30, X31, X32, X33, X34, X35, X36, X37, X38, X39, X40, X41, X42, X43, X44, X45, X46, X47, X48, X49, X50, X51], defers := [] } _
    refine wpAnyG_ready (rs := [10]) (by kernel_rfl) (by simp) (AllReadyG.value rfl (by rfl) (exec_append (by rfl) (by rfl) (by rfl) hb2) (fun _ => f4.fr) ?_ AllReadyG.nil)
    change wpAnyG _ _ _ _ _ _ _ _ { tmps := #[X0, .pointer (some ⟨B, 0, none⟩), X2, .pointer (some ⟨B, 0, none⟩), .slice A.aS t.st.length A.cS, .int .i64 (t.st.length : Int), .int .i64 ((t.st.length : Int) + 1), .slice (some ⟨(W.drew.alloc (.cells #[.int .i64 (-7), .int .i64 0, .int .i64 0] 42)).heap.size, 0, none⟩) 0 (t.st.length + 1), .pointer (some ⟨B, 0, none⟩), .slice A.aS t.st.length A.cS, .slice ao1 t.st.length c1, .agg #[.int .i64 (-7), .int .i64 0, .int .i64 0], .slice (some ⟨W.drew.heap.size, 0, none⟩) 1 1, .slice ao2 (t.st.length + 1) c2, .pointer (some ⟨B, 0, none⟩), .slice A.aS t.st.length A.cS, .int .i64 (t.st.length : Int), Y17, Y18, X19, X20, X21, X22, X23, X24, X25, X26, X27, X28, X29, X30, X31, X32, X33, X34, X35, X36, X37, X38, X39, X40, X41, X42, X43, X44, X45, X46, X47, X48, X49, X50, X51], defers := [] } _
    have hc2 : t.st.length + 1 ≤ c2 := by
      have h1 := f4.row.le
      rw [List.length_append, hVl] at h1
      have h2 : (stC markS).length = 3 := rfl
      omega
    refine wpAnyG_take (i := 14) (v := .slice ao2 t.st.length c2) rfl (by kernel_rfl) (by kernel_rfl) (by kernel_rfl) (by kernel_rfl) (fun _ _ _ h => by cases h.1) (.inl ⟨by rfl, fun w' hT => exec_cut0 (Nat.le_succ _) hc2 (f4.row.ad f4.pos) (by rfl) (by rfl) (by rfl)⟩) f4.fr ?_
    change wpAnyG _ _ _ _ _ _ _ _ { tmps := #[X0, .pointer (some ⟨B, 0, none⟩), X2, .pointer (some ⟨B, 0, none⟩), .slice A.aS t.st.length A.cS, .int .i64 (t.st.length : Int), .int .i64 ((t.st.length : Int) + 1), .slice (some ⟨(W.drew.alloc (.cells #[.int .i64 (-7), .int .i64 0, .int .i64 0] 42)).heap.size, 0, none⟩) 0 (t.st.length + 1), .pointer (some ⟨B, 0, none⟩), .slice A.aS t.st.length A.cS, .slice ao1 t.st.length c1, .agg #[.int .i64 (-7), .int .i64 0, .int .i64 0], .slice (some ⟨W.drew.heap.size, 0, none⟩) 1 1, .slice ao2 (t.st.length + 1) c2, .pointer (some ⟨B, 0, none⟩), .slice A.aS t.st.length A.cS, .int .i64 (t.st.length : Int), .slice ao2 t.st.length c2, Y18, X19, X20, X21, X22, X23, X24, X25, X26, X27, X28, X29, X30, X31, X32, X33, X34, X35, X36, X37, X38, X39, X40, X41, X42, X43, X44, X45, X46, X47, X48, X49, X50, X51], defers := [] } _
    refine wpAnyG_take (i := 15) (v := .pointer (some ⟨B, 0, none⟩)) rfl (by kernel_rfl) (by kernel_rfl) (by kernel_rfl) (by kernel_rfl) (fun _ _ _ h => by cases h.1) (.inl ⟨by rfl, fun w' hT => exec_field0 (by rfl) (by rfl)⟩) f4.fr ?_
    change wpAnyG _ _ _ _ _ _ _ _ { tmps := #[X0, .pointer (some ⟨B, 0, none⟩), X2, .pointer (some ⟨B, 0, none⟩), .slice A.aS t.st.length A.cS, .int .i64 (t.st.length : Int), .int .i64 ((t.st.length : Int) + 1), .slice (some ⟨(W.drew.alloc (.cells #[.int .i64 (-7), .int .i64 0, .int .i64 0] 42)).heap.size, 0, none⟩) 0 (t.st.length + 1), .pointer (some ⟨B, 0, none⟩), .slice A.aS t.st.length A.cS, .slice ao1 t.st.length c1, .agg #[.int .i64 (-7), .int .i64 0, .int .i64 0], .slice (some ⟨W.drew.heap.size, 0, none⟩) 1 1, .slice ao2 (t.st.length + 1) c2, .pointer (some ⟨B, 0, none⟩), .slice A.aS t.st.length A.cS, .int .i64 (t.st.length : Int), .slice ao2 t.st.length c2, .pointer (some ⟨B, 0, none⟩), X19, X20, X21, X22, X23, X24, X25, X26, X27, X28, X29, X30, X31, X32, X33, X34, X35, X36, X37, X38, X39, X40, X41, X42, X43, X44, X45, X46, X47, X48, X49, X50, X51], defers := [] } _
    refine wpAnyG_ready (rs := [16]) (by kernel_rfl) (by simp) (AllReadyG.skip rfl (by rfl) (exec_store0 (by rfl) (by rfl) (by rfl) (hld _ f4.fr) (hfz _ f4.fr)) (fun h => absurd rfl h) ?_ AllReadyG.nil)
    change wpAnyG _ _ _ _ _ _ _ _ { tmps := #[X0, .pointer (some ⟨B, 0, none⟩), X2, .pointer (some ⟨B, 0, none⟩), .slice A.aS t.st.length A.cS, .int .i64 (t.st.length : Int), .int .i64 ((t.st.length : Int) + 1), .slice (some ⟨(W.drew.alloc (.cells #[.int .i64 (-7), .int .i64 0, .int .i64 0] 42)).heap.size, 0, none⟩) 0 (t.st.length + 1), .pointer (some ⟨B, 0, none⟩), .slice A.aS t.st.length A.cS, .slice ao1 t.st.length c1, .agg #[.int .i64 (-7), .int .i64 0, .int .i64 0], .slice (some ⟨W.drew.heap.size, 0, none⟩) 1 1, .slice ao2 (t.st.length + 1) c2, .pointer (some ⟨B, 0, none⟩), .slice A.aS t.st.length A.cS, .int .i64 (t.st.length : Int), .slice ao2 t.st.length c2, .pointer (some ⟨B, 0, none⟩), X19, X20, X21, X22, X23, X24, X25, X26, X27, X28, X29, X30, X31, X32, X33, X34, X35, X36, X37, X38, X39, X40, X41, X42, X43, X44, X45, X46, X47, X48, X49, X50, X51], defers := [] } _
    refine wpAnyG_done (by kernel_rfl) ⟨rfl, hQ _ _ _ _ _ _ _ _ _ _ _ _ _ _ _ _ ao2 c2 g2 _ (TB.put (hb.keep f4.fr) 0 _ rfl) ?_ (Fr.setCell (S := fun q => q = B) (f4.fr.mono (fun _ _ t => t.elim)) (p := ⟨B, 0, none⟩) (fun _ => rfl) _)⟩ _
    rw [hVm]
    exact ⟨f4.row.stay (fun hc => Below.heap_setCell _ _ _ _ (by have h1 := f4.new; show g2 ≠ B; omega)), f4.new, f4.pos⟩

end Go.Proofs.YtkjoojamkbpfcaaGreat

/- A region of Lent. -/
namespace Go.Proofs.YtkjoojamkbpfcaaGreat
open Go.RowKit

set_option maxHeartbeats 1500000 in
set_option maxRecDepth 100000 in
theorem lent_region1 (W : World) (B : Nat) (A : Ad) (t : Tf) (hb : TB W B A t) (hc0 : CAt W A.aP (spV t.sp)) (hl : (t.sp.length + 1) * 40 ≤ 140737488355328) {Q : Exit → Act → World → Prop} (X0 X2 X3 X4 X5 X6 X7 X8 X9 X10 X11 X12 X13 X14 X15 X16 X17 X18 X35 X36 X37 X38 X39 X40 X41 X42 X43 X44 X45 X46 X47 X48 X49 X50 X51 Y19 Y20 Y21 Y22 Y23 Y24 Y25 Y26 Y27 Y28 Y29 Y30 Y31 Y32 Y33 Y34 : Value)
    (hQ : ∀ (u19 u20 u21 u22 u23 u24 u25 u26 u27 u28 u29 u30 u31 u32 u33 u34 : Value) (ao' : Option Addr) (cap' g' : Nat) (w' : World), TB w' B { A with aP := ao', cP := cap' } t → OwnT W w' ao' cap' g' 5 (spV (t.sp ++ [markP])) → Fr (fun q => q = B) W w' → Q .normal { tmps := #[X0, .pointer (some ⟨B, 0, none⟩), X2, X3, X4, X5, X6, X7, X8, X9, X10, X11, X12, X13, X14, X15, X16, X17, X18, u19, u20, u21, u22, u23, u24, u25, u26, u27, u28, u29, u30, u31, u32, u33, u34, X35, X36, X37, X38, X39, X40, X41, X42, X43, X44, X45, X46, X47, X48, X49, X50, X51], defers := [] } w') :
    (Code.region 2 #[{ dst := some 19, op := Go.Op.fieldAddr 27 (Go.Operand.tmp 1) 1, type := 0, pos := "law.go:29", after := #[], guard := none }, { dst := some 20, op := Go.Op.load 23 (Go.Operand.tmp 19), type := 23, pos := "law.go:29", after := #[{ on := 0, ground := Go.Ground.data }], guard := none }, { dst := some 21, op := Go.Op.call { callee := Go.Callee.builtin Go.Builtin.len, args := #[Go.Operand.tmp 20], argTypes := #[23] }, type := 3, pos := "law.go:29", after := #[{ on := 1, ground := Go.Ground.data }], guard := none }, { dst := some 22, op := Go.Op.binOp Go.BinOp.add 3 (Go.Operand.tmp 21) (Go.Operand.const (Go.Value.int Go.IntKind.i64 1)) 3, type := 3, pos := "law.go:29", after := #[{ on := 2, ground := Go.Ground.data }], guard := none }, { dst := some 23, op := Go.Op.makeSlice 23 (Go.Operand.const (Go.Value.int Go.IntKind.i64 0)) (Go.Operand.tmp 22), type := 23, pos := "law.go:29", after := #[{ on := 3, ground := Go.Ground.data }], guard := none }, { dst := some 24, op := Go.Op.fieldAddr 27 (Go.Operand.tmp 1) 1, type := 0, pos := "law.go:29", after := #[], guard := none }, { dst := some 25, op := Go.Op.load 23 (Go.Operand.tmp 24), type := 23, pos := "law.go:29", after := #[{ on := 5, ground := Go.Ground.data }], guard := none }, { dst := some 26, op := Go.Op.call { callee := Go.Callee.builtin Go.Builtin.append, args := #[Go.Operand.tmp 23, Go.Operand.tmp 25], argTypes := #[23, 23] }, type := 23, pos := "law.go:29", after := #[{ on := 4, ground := Go.Ground.data }, { on := 6, ground := Go.Ground.data }], guard := none }, { dst := some 27, op := Go.Op.build 44 #[(0, Go.Operand.const (Go.Value.int Go.IntKind.i64 (-7)))], type := 44, pos := "law.go:29", after := #[], guard := none }, { dst := some 28, op := Go.Op.buildSlice 23 1 #[(0, Go.Operand.tmp 27)], type := 23, pos := "law.go:29", after := #[{ on := 8, ground := Go.Ground.data }], guard := none }, { dst := some 29, op := Go.Op.call { callee := Go.Callee.builtin Go.Builtin.append, args := #[Go.Operand.tmp 26, Go.Operand.tmp 28], argTypes := #[23, 23] }, type := 23, pos := "law.go:29", after := #[{ on := 7, ground := Go.Ground.data }, { on := 9, ground := Go.Ground.data }, { on := 7, ground := Go.Ground.chain }], guard := none }, { dst := some 30, op := Go.Op.fieldAddr 27 (Go.Operand.tmp 1) 1, type := 0, pos := "law.go:29", after := #[], guard := none }, { dst := some 31, op := Go.Op.load 23 (Go.Operand.tmp 30), type := 23, pos := "law.go:29", after := #[{ on := 11, ground := Go.Ground.data }], guard := none }, { dst := some 32, op := Go.Op.call { callee := Go.Callee.builtin Go.Builtin.len, args := #[Go.Operand.tmp 31], argTypes := #[23] }, type := 3, pos := "law.go:29", after := #[{ on := 12, ground := Go.Ground.data }], guard := none }, { dst := some 33, op := Go.Op.slice 23 (Go.Operand.tmp 29) none (some (Go.Operand.tmp 32)) none, type := 23, pos := "law.go:29", after := #[{ on := 10, ground := Go.Ground.data }, { on := 13, ground := Go.Ground.data }], guard := none }, { dst := some 34, op := Go.Op.fieldAddr 27 (Go.Operand.tmp 1) 1, type := 0, pos := "law.go:29", after := #[{ on := 0, ground := Go.Ground.phase }, { on := 1, ground := Go.Ground.phase }, { on := 2, ground := Go.Ground.phase }, { on := 3, ground := Go.Ground.phase }, { on := 4, ground := Go.Ground.phase }, { on := 5, ground := Go.Ground.phase }, { on := 6, ground := Go.Ground.phase }, { on := 7, ground := Go.Ground.phase }, { on := 8, ground := Go.Ground.phase }, { on := 9, ground := Go.Ground.phase }, { on := 10, ground := Go.Ground.phase }, { on := 11, ground := Go.Ground.phase }, { on := 12, ground := Go.Ground.phase }, { on := 13, ground := Go.Ground.phase }, { on := 14, ground := Go.Ground.phase }], guard := none }, { dst := none, op := Go.Op.store 23 (Go.Operand.tmp 34) (Go.Operand.tmp 33), type := 0, pos := "law.go:29", after := #[{ on := 15, ground := Go.Ground.data }, { on := 14, ground := Go.Ground.data }, { on := 10, ground := Go.Ground.chain }, { on := 0, ground := Go.Ground.phase }, { on := 1, ground := Go.Ground.phase }, { on := 2, ground := Go.Ground.phase }, { on := 3, ground := Go.Ground.phase }, { on := 4, ground := Go.Ground.phase }, { on := 5, ground := Go.Ground.phase }, { on := 6, ground := Go.Ground.phase }, { on := 7, ground := Go.Ground.phase }, { on := 8, ground := Go.Ground.phase }, { on := 9, ground := Go.Ground.phase }, { on := 10, ground := Go.Ground.phase }, { on := 11, ground := Go.Ground.phase }, { on := 12, ground := Go.Ground.phase }, { on := 13, ground := Go.Ground.phase }, { on := 14, ground := Go.Ground.phase }], guard := none }] true).wp Tryz.prog Q { tmps := #[X0, .pointer (some ⟨B, 0, none⟩), X2, X3, X4, X5, X6, X7, X8, X9, X10, X11, X12, X13, X14, X15, X16, X17, X18, Y19, Y20, Y21, Y22, Y23, Y24, Y25, Y26, Y27, Y28, Y29, Y30, Y31, Y32, Y33, Y34, X35, X36, X37, X38, X39, X40, X41, X42, X43, X44, X45, X46, X47, X48, X49, X50, X51], defers := [] } W := by
  obtain ⟨info, hi, hzz⟩ := Option.map_eq_some_iff.1 info39
  simp only [Prod.mk.injEq] at hzz
  obtain ⟨hz, hs, hy⟩ := hzz
  refine Code.wp_mono (Q := fun e a' w' => e = .normal ∧ Q .normal a' w') (fun e a' w' h => by obtain ⟨rfl, h⟩ := h; exact h) ?_
  have hT0 : Fr (fun _ => False) W W.drew := (Fr.refl _ _).drew
  have hlt := hb.lt
  have hcl : W.cell? ⟨B, 1, none⟩ = some (.slice A.aP t.sp.length A.cP) := hb.cell 1
  have hld : ∀ w', Fr (fun _ => False) W w' → w'.cell? ⟨B, 1, none⟩ = some (.slice A.aP t.sp.length A.cP) := fun w' hf => (hf.cell hlt (fun t => t)).trans hcl
  have hfz : ∀ w', Fr (fun _ => False) W w' → w'.frozen? ⟨B, 1, none⟩ = false := fun w' hf => (hf.frozen (a := ⟨B, 1, none⟩) hlt (fun t => t)).trans (hb.frozen 1)
  have hlen : t.sp.length + 1 ≤ 140737488355328 := by omega
  have hfit : (t.sp.length + 1) * info.bytes ≤ 140737488355328 := by rw [hy]; exact hl
  have hsrc : ∀ w', Fr (fun _ => False) W w' → Src Tryz.prog 5 23 (.slice A.aP t.sp.length A.cP) t.sp.length (spV t.sp) w' := fun w' hf => CAt.src (hc0.keep hf) 23 44 5 _ _ (by omega) Tryz.underlying23 (spV_length _) (spV_one _)
  have hVm : spV (t.sp ++ [markP]) = [] ++ spV t.sp ++ spC markP := by simp [spV]
  have hVl : ([] ++ spV t.sp).length = t.sp.length * 5 := by rw [List.nil_append]; exact spV_length _
  have hone : ∀ u ∈ spC markP, u.oneCell' = true := fun u hu => spV_one [markP] u (by simpa [spV] using hu)
  refine wp_region_G (k := 16) (T := Fr (fun _ => False) W) (by kernel_rfl) ?_
  refine wpAnyG_take (i := 0) (v := .pointer (some ⟨B, 1, none⟩)) rfl (by kernel_rfl) (by kernel_rfl) (by kernel_rfl) (by kernel_rfl) (fun _ _ _ h => by cases h.1) (.inl ⟨by rfl, fun w' hT => exec_field1 (by rfl) (by rfl)⟩) hT0 ?_
  change wpAnyG _ _ _ _ _ _ _ _ { tmps := #[X0, .pointer (some ⟨B, 0, none⟩), X2, X3, X4, X5, X6, X7, X8, X9, X10, X11, X12, X13, X14, X15, X16, X17, X18, .pointer (some ⟨B, 1, none⟩), Y20, Y21, Y22, Y23, Y24, Y25, Y26, Y27, Y28, Y29, Y30, Y31, Y32, Y33, Y34, X35, X36, X37, X38, X39, X40, X41, X42, X43, X44, X45, X46, X47, X48, X49, X50, X51], defers := [] } _
  refine wpAnyG_take (i := 1) (v := .slice A.aP t.sp.length A.cP) rfl (by kernel_rfl) (by kernel_rfl) (by kernel_rfl) (by kernel_rfl) (fun _ _ _ h => by cases h.1) (.inl ⟨by rfl, fun w' hT => exec_load1 (by rfl) (by rfl) (hld w' hT)⟩) hT0 ?_
  change wpAnyG _ _ _ _ _ _ _ _ { tmps := #[X0, .pointer (some ⟨B, 0, none⟩), X2, X3, X4, X5, X6, X7, X8, X9, X10, X11, X12, X13, X14, X15, X16, X17, X18, .pointer (some ⟨B, 1, none⟩), .slice A.aP t.sp.length A.cP, Y21, Y22, Y23, Y24, Y25, Y26, Y27, Y28, Y29, Y30, Y31, Y32, Y33, Y34, X35, X36, X37, X38, X39, X40, X41, X42, X43, X44, X45, X46, X47, X48, X49, X50, X51], defers := [] } _
  refine wpAnyG_take (i := 2) (v := .int .i64 (t.sp.length : Int)) rfl (by kernel_rfl) (by kernel_rfl) (by kernel_rfl) (by kernel_rfl) (fun _ _ _ h => by cases h.1) (.inl ⟨by rfl, fun w' hT => exec_len1 (by rfl) (by rfl)⟩) hT0 ?_
  change wpAnyG _ _ _ _ _ _ _ _ { tmps := #[X0, .pointer (some ⟨B, 0, none⟩), X2, X3, X4, X5, X6, X7, X8, X9, X10, X11, X12, X13, X14, X15, X16, X17, X18, .pointer (some ⟨B, 1, none⟩), .slice A.aP t.sp.length A.cP, .int .i64 (t.sp.length : Int), Y22, Y23, Y24, Y25, Y26, Y27, Y28, Y29, Y30, Y31, Y32, Y33, Y34, X35, X36, X37, X38, X39, X40, X41, X42, X43, X44, X45, X46, X47, X48, X49, X50, X51], defers := [] } _
  refine wpAnyG_take (i := 3) (v := .int .i64 ((t.sp.length : Int) + 1)) rfl (by kernel_rfl) (by kernel_rfl) (by kernel_rfl) (by kernel_rfl) (fun _ _ _ h => by cases h.1) (.inl ⟨by rfl, fun w' hT => exec_add1 hlen (by rfl) (by rfl) (by rfl)⟩) hT0 ?_
  change wpAnyG _ _ _ _ _ _ _ _ { tmps := #[X0, .pointer (some ⟨B, 0, none⟩), X2, X3, X4, X5, X6, X7, X8, X9, X10, X11, X12, X13, X14, X15, X16, X17, X18, .pointer (some ⟨B, 1, none⟩), .slice A.aP t.sp.length A.cP, .int .i64 (t.sp.length : Int), .int .i64 ((t.sp.length : Int) + 1), Y23, Y24, Y25, Y26, Y27, Y28, Y29, Y30, Y31, Y32, Y33, Y34, X35, X36, X37, X38, X39, X40, X41, X42, X43, X44, X45, X46, X47, X48, X49, X50, X51], defers := [] } _
  refine wpAnyG_take (i := 5) (v := .pointer (some ⟨B, 1, none⟩)) rfl (by kernel_rfl) (by kernel_rfl) (by kernel_rfl) (by kernel_rfl) (fun _ _ _ h => by cases h.1) (.inl ⟨by rfl, fun w' hT => exec_field1 (by rfl) (by rfl)⟩) hT0 ?_
  change wpAnyG _ _ _ _ _ _ _ _ { tmps := #[X0, .pointer (some ⟨B, 0, none⟩), X2, X3, X4, X5, X6, X7, X8, X9, X10, X11, X12, X13, X14, X15, X16, X17, X18, .pointer (some ⟨B, 1, none⟩), .slice A.aP t.sp.length A.cP, .int .i64 (t.sp.length : Int), .int .i64 ((t.sp.length : Int) + 1), Y23, .pointer (some ⟨B, 1, none⟩), Y25, Y26, Y27, Y28, Y29, Y30, Y31, Y32, Y33, Y34, X35, X36, X37, X38, X39, X40, X41, X42, X43, X44, X45, X46, X47, X48, X49, X50, X51], defers := [] } _
  refine wpAnyG_take (i := 6) (v := .slice A.aP t.sp.length A.cP) rfl (by kernel_rfl) (by kernel_rfl) (by kernel_rfl) (by kernel_rfl) (fun _ _ _ h => by cases h.1) (.inl ⟨by rfl, fun w' hT => exec_load1 (by rfl) (by rfl) (hld w' hT)⟩) hT0 ?_
  change wpAnyG _ _ _ _ _ _ _ _ { tmps := #[X0, .pointer (some ⟨B, 0, none⟩), X2, X3, X4, X5, X6, X7, X8, X9, X10, X11, X12, X13, X14, X15, X16, X17, X18, .pointer (some ⟨B, 1, none⟩), .slice A.aP t.sp.length A.cP, .int .i64 (t.sp.length : Int), .int .i64 ((t.sp.length : Int) + 1), Y23, .pointer (some ⟨B, 1, none⟩), .slice A.aP t.sp.length A.cP, Y26, Y27, Y28, Y29, Y30, Y31, Y32, Y33, Y34, X35, X36, X37, X38, X39, X40, X41, X42, X43, X44, X45, X46, X47, X48, X49, X50, X51], defers := [] } _
  refine wpAnyG_take (i := 8) (v := .agg #[.int .i64 (-7), .int .i64 0, .int .i64 0, .int .i64 0, .int .i64 0]) rfl (by kernel_rfl) (by kernel_rfl) (by kernel_rfl) (by kernel_rfl) (fun _ _ _ h => by cases h.1) (.inl ⟨by rfl, fun w' hT => exec_build1 (by rfl) (by rfl)⟩) hT0 ?_
  change wpAnyG _ _ _ _ _ _ _ _ { tmps := #[X0, .pointer (some ⟨B, 0, none⟩), X2, X3, X4, X5, X6, X7, X8, X9, X10, X11, X12, X13, X14, X15, X16, X17, X18, .pointer (some ⟨B, 1, none⟩), .slice A.aP t.sp.length A.cP, .int .i64 (t.sp.length : Int), .int .i64 ((t.sp.length : Int) + 1), Y23, .pointer (some ⟨B, 1, none⟩), .slice A.aP t.sp.length A.cP, Y26, .agg #[.int .i64 (-7), .int .i64 0, .int .i64 0, .int .i64 0, .int .i64 0], Y28, Y29, Y30, Y31, Y32, Y33, Y34, X35, X36, X37, X38, X39, X40, X41, X42, X43, X44, X45, X46, X47, X48, X49, X50, X51], defers := [] } _
  refine wpAnyG_take (i := 11) (v := .pointer (some ⟨B, 1, none⟩)) rfl (by kernel_rfl) (by kernel_rfl) (by kernel_rfl) (by kernel_rfl) (fun _ _ _ h => by cases h.1) (.inl ⟨by rfl, fun w' hT => exec_field1 (by rfl) (by rfl)⟩) hT0 ?_
  change wpAnyG _ _ _ _ _ _ _ _ { tmps := #[X0, .pointer (some ⟨B, 0, none⟩), X2, X3, X4, X5, X6, X7, X8, X9, X10, X11, X12, X13, X14, X15, X16, X17, X18, .pointer (some ⟨B, 1, none⟩), .slice A.aP t.sp.length A.cP, .int .i64 (t.sp.length : Int), .int .i64 ((t.sp.length : Int) + 1), Y23, .pointer (some ⟨B, 1, none⟩), .slice A.aP t.sp.length A.cP, Y26, .agg #[.int .i64 (-7), .int .i64 0, .int .i64 0, .int .i64 0, .int .i64 0], Y28, Y29, .pointer (some ⟨B, 1, none⟩), Y31, Y32, Y33, Y34, X35, X36, X37, X38, X39, X40, X41, X42, X43, X44, X45, X46, X47, X48, X49, X50, X51], defers := [] } _
  refine wpAnyG_take (i := 12) (v := .slice A.aP t.sp.length A.cP) rfl (by kernel_rfl) (by kernel_rfl) (by kernel_rfl) (by kernel_rfl) (fun _ _ _ h => by cases h.1) (.inl ⟨by rfl, fun w' hT => exec_load1 (by rfl) (by rfl) (hld w' hT)⟩) hT0 ?_
  change wpAnyG _ _ _ _ _ _ _ _ { tmps := #[X0, .pointer (some ⟨B, 0, none⟩), X2, X3, X4, X5, X6, X7, X8, X9, X10, X11, X12, X13, X14, X15, X16, X17, X18, .pointer (some ⟨B, 1, none⟩), .slice A.aP t.sp.length A.cP, .int .i64 (t.sp.length : Int), .int .i64 ((t.sp.length : Int) + 1), Y23, .pointer (some ⟨B, 1, none⟩), .slice A.aP t.sp.length A.cP, Y26, .agg #[.int .i64 (-7), .int .i64 0, .int .i64 0, .int .i64 0, .int .i64 0], Y28, Y29, .pointer (some ⟨B, 1, none⟩), .slice A.aP t.sp.length A.cP, Y32, Y33, Y34, X35, X36, X37, X38, X39, X40, X41, X42, X43, X44, X45, X46, X47, X48, X49, X50, X51], defers := [] } _
  refine wpAnyG_take (i := 13) (v := .int .i64 (t.sp.length : Int)) rfl (by kernel_rfl) (by kernel_rfl) (by kernel_rfl) (by kernel_rfl) (fun _ _ _ h => by cases h.1) (.inl ⟨by rfl, fun w' hT => exec_len1 (by rfl) (by rfl)⟩) hT0 ?_
  change wpAnyG _ _ _ _ _ _ _ _ { tmps := #[X0, .pointer (some ⟨B, 0, none⟩), X2, X3, X4, X5, X6, X7, X8, X9, X10, X11, X12, X13, X14, X15, X16, X17, X18, .pointer (some ⟨B, 1, none⟩), .slice A.aP t.sp.length A.cP, .int .i64 (t.sp.length : Int), .int .i64 ((t.sp.length : Int) + 1), Y23, .pointer (some ⟨B, 1, none⟩), .slice A.aP t.sp.length A.cP, Y26, .agg #[.int .i64 (-7), .int .i64 0, .int .i64 0, .int .i64 0, .int .i64 0], Y28, Y29, .pointer (some ⟨B, 1, none⟩), .slice A.aP t.sp.length A.cP, .int .i64 (t.sp.length : Int), Y33, Y34, X35, X36, X37, X38, X39, X40, X41, X42, X43, X44, X45, X46, X47, X48, X49, X50, X51], defers := [] } _
  obtain ⟨w1, hm, f1⟩ := Fresh.make (P := Tryz.prog) hT0 23 44 info _ 5 t.sp.length Tryz.underlying23 hi hz hs hfit hlen
  refine wpAnyG_ready (rs := [4, 9]) (by kernel_rfl) (by simp) (AllReadyG.value rfl (by rfl) (exec_make (by rfl) (by rfl) (by rfl) hm) (fun _ => f1.fr) ?_ (AllReadyG.value rfl (by rfl) (exec_slice11 (by rfl) (by rfl)) (fun _ => hT0.alloc _) ?_ AllReadyG.nil))
  · change wpAnyG _ _ _ _ _ _ _ _ { tmps := #[X0, .pointer (some ⟨B, 0, none⟩), X2, X3, X4, X5, X6, X7, X8, X9, X10, X11, X12, X13, X14, X15, X16, X17, X18, .pointer (some ⟨B, 1, none⟩), .slice A.aP t.sp.length A.cP, .int .i64 (t.sp.length : Int), .int .i64 ((t.sp.length : Int) + 1), .slice (some ⟨W.drew.heap.size, 0, none⟩) 0 (t.sp.length + 1), .pointer (some ⟨B, 1, none⟩), .slice A.aP t.sp.length A.cP, Y26, .agg #[.int .i64 (-7), .int .i64 0, .int .i64 0, .int .i64 0, .int .i64 0], Y28, Y29, .pointer (some ⟨B, 1, none⟩), .slice A.aP t.sp.length A.cP, .int .i64 (t.sp.length : Int), Y33, Y34, X35, X36, X37, X38, X39, X40, X41, X42, X43, X44, X45, X46, X47, X48, X49, X50, X51], defers := [] } _
    obtain ⟨ao1, c1, w2, g1, ha, f2, r1⟩ := f1.append (P := Tryz.prog) (n := 0) 23 23 23 44 info _ (by omega) Tryz.underlying23 hi hz rfl hs rfl _ _ t.sp.length (hsrc _ f1.fr) (by rw [hy]; omega) (by omega)
    rw [Nat.zero_add] at ha
    have f1a := f1.alloc (by omega) (.cells #[.int .i64 (-7), .int .i64 0, .int .i64 0, .int .i64 0, .int .i64 0] 44)
    refine wpAnyG_ready (rs := [7, 9]) (by kernel_rfl) (by simp) (AllReadyG.value rfl (by rfl) (exec_append (by rfl) (by rfl) (by rfl) ha) (fun _ => f2.fr) ?_ (AllReadyG.value rfl (by rfl) (exec_slice11 (by rfl) (by rfl)) (fun _ => f1a.fr) ?_ AllReadyG.nil))
    · change wpAnyG _ _ _ _ _ _ _ _ { tmps := #[X0, .pointer (some ⟨B, 0, none⟩), X2, X3, X4, X5, X6, X7, X8, X9, X10, X11, X12, X13, X14, X15, X16, X17, X18, .pointer (some ⟨B, 1, none⟩), .slice A.aP t.sp.length A.cP, .int .i64 (t.sp.length : Int), .int .i64 ((t.sp.length : Int) + 1), .slice (some ⟨W.drew.heap.size, 0, none⟩) 0 (t.sp.length + 1), .pointer (some ⟨B, 1, none⟩), .slice A.aP t.sp.length A.cP, .slice ao1 t.sp.length c1, .agg #[.int .i64 (-7), .int .i64 0, .int .i64 0, .int .i64 0, .int .i64 0], Y28, Y29, .pointer (some ⟨B, 1, none⟩), .slice A.aP t.sp.length A.cP, .int .i64 (t.sp.length : Int), Y33, Y34, X35, X36, X37, X38, X39, X40, X41, X42, X43, X44, X45, X46, X47, X48, X49, X50, X51], defers := [] } _
      have f3 := f2.alloc (by omega) (.cells #[.int .i64 (-7), .int .i64 0, .int .i64 0, .int .i64 0, .int .i64 0] 44)
      have hsm := src_new' w2 (spC markP) 23 44 5 Tryz.underlying23 rfl hone (W := w2.alloc (.cells #[.int .i64 (-7), .int .i64 0, .int .i64 0, .int .i64 0, .int .i64 0] 44)) (fun j => by rw [World.cell?_alloc_new]; simp [spC, markP])
      obtain ⟨ao2, c2, w4, g2, hb2, f4, _⟩ := f3.append (P := Tryz.prog) (n := t.sp.length) 23 23 23 44 info _ (by omega) Tryz.underlying23 hi hz rfl hs hVl _ _ 1 hsm (by rw [hy]; exact hl) (by omega)
      refine wpAnyG_ready (rs := [9]) (by kernel_rfl) (by simp) (AllReadyG.value rfl (by rfl) (exec_slice11 (by rfl) (by rfl)) (fun _ => f3.fr) ?_ AllReadyG.nil)
      change wpAnyG _ _ _ _ _ _ _ _ { tmps := #[X0, .pointer (some ⟨B, 0, none⟩), X2, X3, X4, X5, X6, X7, X8, X9, X10, X11, X12, X13, X14, X15, X16, X17, X18, .pointer (some ⟨B, 1, none⟩), .slice A.aP t.sp.length A.cP, .int .i64 (t.sp.length : Int), .int .i64 ((t.sp.length : Int) + 1), .slice (some ⟨W.drew.heap.size, 0, none⟩) 0 (t.sp.length + 1), .pointer (some ⟨B, 1, none⟩), .slice A.aP t.sp.length A.cP, .slice ao1 t.sp.length c1, .agg #[.int .i64 (-7), .int .i64 0, .int .i64 0, .int .i64 0, .int .i64 0], .slice (some ⟨w2.heap.size, 0, none⟩) 1 1, Y29, .pointer (some ⟨B, 1, none⟩), .slice A.aP t.sp.length A.cP, .int .i64 (t.sp.length : Int), Y33, Y34, X35, X36, X37, X38, X39, X40, X41, X42, X43, X44, X45, X46, X47, X48, X49, X50, X51], defers := [] } _
      refine wpAnyG_ready (rs := [10]) (by kernel_rfl) (by simp) (AllReadyG.value rfl (by rfl) (exec_append (by rfl) (by rfl) (by rfl) hb2) (fun _ => f4.fr) ?_ AllReadyG.nil)
      change wpAnyG _ _ _ _ _ _ _ _ { tmps := #[X0, .pointer (some ⟨B, 0, none⟩), X2, X3, X4, X5, X6, X7, X8, X9, X10, X11, X12, X13, X14, X15, X16, X17, X18, .pointer (some ⟨B, 1, none⟩), .slice A.aP t.sp.length A.cP, .int .i64 (t.sp.length : Int), .int .i64 ((t.sp.length : Int) + 1), .slice (some ⟨W.drew.heap.size, 0, none⟩) 0 (t.sp.length + 1), .pointer (some ⟨B, 1, none⟩), .slice A.aP t.sp.length A.cP, .slice ao1 t.sp.length c1, .agg #[.int .i64 (-7), .int .i64 0, .int .i64 0, .int .i64 0, .int .i64 0], .slice (some ⟨w2.heap.size, 0, none⟩) 1 1, .slice ao2 (t.sp.length + 1) c2, .pointer (some ⟨B, 1, none⟩), .slice A.aP t.sp.length A.cP, .int .i64 (t.sp.length : Int), Y33, Y34, X35, X36, X37, X38, X39, X40, X41, X42, X43, X44, X45, X46, X47, X48, X49, X50, X51], defers := [] } _
      have hc2 : t.sp.length + 1 ≤ c2 := by
        have h1 := f4.row.le
        rw [List.length_append, hVl] at h1
        have h2 : (spC markP).length = 5 := rfl
        omega
      refine wpAnyG_take (i := 14) (v := .slice ao2 t.sp.length c2) rfl (by kernel_rfl) (by kernel_rfl) (by kernel_rfl) (by kernel_rfl) (fun _ _ _ h => by cases h.1) (.inl ⟨by rfl, fun w' hT => exec_cut1 (Nat.le_succ _) hc2 (f4.row.ad f4.pos) (by rfl) (by rfl) (by rfl)⟩) f4.fr ?_
      change wpAnyG _ _ _ _ _ _ _ _ { tmps := #[X0, .pointer (some ⟨B, 0, none⟩), X2, X3, X4, X5, X6, X7, X8, X9, X10, X11, X12, X13, X14, X15, X16, X17, X18, .pointer (some ⟨B, 1, none⟩), .slice A.aP t.sp.length A.cP, .int .i64 (t.sp.length : Int), .int .i64 ((t.sp.length : Int) + 1), .slice (some ⟨W.drew.heap.size, 0, none⟩) 0 (t.sp.length + 1), .pointer (some ⟨B, 1, none⟩), .slice A.aP t.sp.length A.cP, .slice ao1 t.sp.length c1, .agg #[.int .i64 (-7), .int .i64 0, .int .i64 0, .int .i64 0, .int .i64 0], .slice (some ⟨w2.heap.size, 0, none⟩) 1 1, .slice ao2 (t.sp.length + 1) c2, .pointer (some ⟨B, 1, none⟩), .slice A.aP t.sp.length A.cP, .int .i64 (t.sp.length : Int), .slice ao2 t.sp.length c2, Y34, X35, X36, X37, X38, X39, X40, X41, X42, X43, X44, X45, X46, X47, X48, X49, X50, X51], defers := [] } _
      refine wpAnyG_take (i := 15) (v := .pointer (some ⟨B, 1, none⟩)) rfl (by kernel_rfl) (by kernel_rfl) (by kernel_rfl) (by kernel_rfl) (fun _ _ _ h => by cases h.1) (.inl ⟨by rfl, fun w' hT => exec_field1 (by rfl) (by rfl)⟩) f4.fr ?_
      change wpAnyG _ _ _ _ _ _ _ _ { tmps := #[X0, .pointer (some ⟨B, 0, none⟩), X2, X3, X4, X5, X6, X7, X8, X9, X10, X11, X12, X13, X14, X15, X16, X17, X18, .pointer (some ⟨B, 1, none⟩), .slice A.aP t.sp.length A.cP, .int .i64 (t.sp.length : Int), .int .i64 ((t.sp.length : Int) + 1), .slice (some ⟨W.drew.heap.size, 0, none⟩) 0 (t.sp.length + 1), .pointer (some ⟨B, 1, none⟩), .slice A.aP t.sp.length A.cP, .slice ao1 t.sp.length c1, .agg #[.int .i64 (-7), .int .i64 0, .int .i64 0, .int .i64 0, .int .i64 0], .slice (some ⟨w2.heap.size, 0, none⟩) 1 1, .slice ao2 (t.sp.length + 1) c2, .pointer (some ⟨B, 1, none⟩), .slice A.aP t.sp.length A.cP, .int .i64 (t.sp.length : Int), .slice ao2 t.sp.length c2, .pointer (some ⟨B, 1, none⟩), X35, X36, X37, X38, X39, X40, X41, X42, X43, X44, X45, X46, X47, X48, X49, X50, X51], defers := [] } _
      refine wpAnyG_ready (rs := [16]) (by kernel_rfl) (by simp) (AllReadyG.skip rfl (by rfl) (exec_store1 (by rfl) (by rfl) (by rfl) (hld _ f4.fr) (hfz _ f4.fr)) (fun h => absurd rfl h) ?_ AllReadyG.nil)
      change wpAnyG _ _ _ _ _ _ _ _ { tmps := #[X0, .pointer (some ⟨B, 0, none⟩), X2, X3, X4, X5, X6, X7, X8, X9, X10, X11, X12, X13, X14, X15, X16, X17, X18, .pointer (some ⟨B, 1, none⟩), .slice A.aP t.sp.length A.cP, .int .i64 (t.sp.length : Int), .int .i64 ((t.sp.length : Int) + 1), .slice (some ⟨W.drew.heap.size, 0, none⟩) 0 (t.sp.length + 1), .pointer (some ⟨B, 1, none⟩), .slice A.aP t.sp.length A.cP, .slice ao1 t.sp.length c1, .agg #[.int .i64 (-7), .int .i64 0, .int .i64 0, .int .i64 0, .int .i64 0], .slice (some ⟨w2.heap.size, 0, none⟩) 1 1, .slice ao2 (t.sp.length + 1) c2, .pointer (some ⟨B, 1, none⟩), .slice A.aP t.sp.length A.cP, .int .i64 (t.sp.length : Int), .slice ao2 t.sp.length c2, .pointer (some ⟨B, 1, none⟩), X35, X36, X37, X38, X39, X40, X41, X42, X43, X44, X45, X46, X47, X48, X49, X50, X51], defers := [] } _
      refine wpAnyG_done (by kernel_rfl) ⟨rfl, hQ _ _ _ _ _ _ _ _ _ _ _ _ _ _ _ _ ao2 c2 g2 _ (TB.put (hb.keep f4.fr) 1 _ rfl) ?_ (Fr.setCell (S := fun q => q = B) (f4.fr.mono (fun _ _ t => t.elim)) (p := ⟨B, 1, none⟩) (fun _ => rfl) _)⟩ _
      rw [hVm]
      exact ⟨f4.row.stay (fun hc => Below.heap_setCell _ _ _ _ (by have h1 := f4.new; show g2 ≠ B; omega)), f4.new, f4.pos⟩
    · change wpAnyG _ _ _ _ _ _ _ _ { tmps := #[X0, .pointer (some ⟨B, 0, none⟩), X2, X3, X4, X5, X6, X7, X8, X9, X10, X11, X12, X13, X14, X15, X16, X17, X18, .pointer (some ⟨B, 1, none⟩), .slice A.aP t.sp.length A.cP, .int .i64 (t.sp.length : Int), .int .i64 ((t.sp.length : Int) + 1), .slice (some ⟨W.drew.heap.size, 0, none⟩) 0 (t.sp.length + 1), .pointer (some ⟨B, 1, none⟩), .slice A.aP t.sp.length A.cP, Y26, .agg #[.int .i64 (-7), .int .i64 0, .int .i64 0, .int .i64 0, .int .i64 0], .slice (some ⟨w1.heap.size, 0, none⟩) 1 1, Y29, .pointer (some ⟨B, 1, none⟩), .slice A.aP t.sp.length A.cP, .int .i64 (t.sp.length : Int), Y33, Y34, X35, X36, X37, X38, X39, X40, X41, X42, X43, X44, X45, X46, X47, X48, X49, X50, X51], defers := [] } _
      clear ha f2 r1 ao1 c1 w2 g1
      obtain ⟨ao1, c1, w2, g1, ha, f2, r1⟩ := f1a.append (P := Tryz.prog) (n := 0) 23 23 23 44 info _ (by omega) Tryz.underlying23 hi hz rfl hs rfl _ _ t.sp.length (hsrc _ f1a.fr) (by rw [hy]; omega) (by omega)
      rw [Nat.zero_add] at ha
      have hsm := src_new' w1 (spC markP) 23 44 5 Tryz.underlying23 rfl hone (W := w2) (fun j => by rw [r1.cell (a := ⟨w1.heap.size, j, none⟩) (by rw [heap_alloc]; exact Nat.lt_succ_self _) (by have h1 := f1.row.lt (by omega) f1.pos; show ¬ w1.heap.size = W.drew.heap.size; omega), World.cell?_alloc_new]; simp [spC, markP])
      obtain ⟨ao2, c2, w4, g2, hb2, f4, _⟩ := f2.append (P := Tryz.prog) (n := t.sp.length) 23 23 23 44 info _ (by omega) Tryz.underlying23 hi hz rfl hs hVl _ _ 1 hsm (by rw [hy]; exact hl) (by omega)
      refine wpAnyG_ready (rs := [7]) (by kernel_rfl) (by simp) (AllReadyG.value rfl (by rfl) (exec_append (by rfl) (by rfl) (by rfl) ha) (fun _ => f2.fr) ?_ AllReadyG.nil)
      change wpAnyG _ _ _ _ _ _ _ _ { tmps := #[X0, .pointer (some ⟨B, 0, none⟩), X2, X3, X4, X5, X6, X7, X8, X9, X10, X11, X12, X13, X14, X15, X16, X17, X18, .pointer (some ⟨B, 1, none⟩), .slice A.aP t.sp.length A.cP, .int .i64 (t.sp.length : Int), .int .i64 ((t.sp.length : Int) + 1), .slice (some ⟨W.drew.heap.size, 0, none⟩) 0 (t.sp.length + 1), .pointer (some ⟨B, 1, none⟩), .slice A.aP t.sp.length A.cP, .slice ao1 t.sp.length c1, .agg #[.int .i64 (-7), .int .i64 0, .int .i64 0, .int .i64 0, .int .i64 0], .slice (some ⟨w1.heap.size, 0, none⟩) 1 1, Y29, .pointer (some ⟨B, 1, none⟩), .slice A.aP t.sp.length A.cP, .int .i64 (t.sp.length : Int), Y33, Y34, X35, X36, X37, X38, X39, X40, X41, X42, X43, X44, X45, X46, X47, X48, X49, X50, X51], defers := [] } _
      refine wpAnyG_ready (rs := [10]) (by kernel_rfl) (by simp) (AllReadyG.value rfl (by rfl) (exec_append (by rfl) (by rfl) (by rfl) hb2) (fun _ => f4.fr) ?_ AllReadyG.nil)
      change wpAnyG _ _ _ _ _ _ _ _ { tmps := #[X0, .pointer (some ⟨B, 0, none⟩), X2, X3, X4, X5, X6, X7, X8, X9, X10, X11, X12, X13, X14, X15, X16, X17, X18, .pointer (some ⟨B, 1, none⟩), .slice A.aP t.sp.length A.cP, .int .i64 (t.sp.length : Int), .int .i64 ((t.sp.length : Int) + 1), .slice (some ⟨W.drew.heap.size, 0, none⟩) 0 (t.sp.length + 1), .pointer (some ⟨B, 1, none⟩), .slice A.aP t.sp.length A.cP, .slice ao1 t.sp.length c1, .agg #[.int .i64 (-7), .int .i64 0, .int .i64 0, .int .i64 0, .int .i64 0], .slice (some ⟨w1.heap.size, 0, none⟩) 1 1, .slice ao2 (t.sp.length + 1) c2, .pointer (some ⟨B, 1, none⟩), .slice A.aP t.sp.length A.cP, .int .i64 (t.sp.length : Int), Y33, Y34, X35, X36, X37, X38, X39, X40, X41, X42, X43, X44, X45, X46, X47, X48, X49, X50, X51], defers := [] } _
      have hc2 : t.sp.length + 1 ≤ c2 := by
        have h1 := f4.row.le
        rw [List.length_append, hVl] at h1
        have h2 : (spC markP).length = 5 := rfl
        omega
      refine wpAnyG_take (i := 14) (v := .slice ao2 t.sp.length c2) rfl (by kernel_rfl) (by kernel_rfl) (by kernel_rfl) (by kernel_rfl) (fun _ _ _ h => by cases h.1) (.inl ⟨by rfl, fun w' hT => exec_cut1 (Nat.le_succ _) hc2 (f4.row.ad f4.pos) (by rfl) (by rfl) (by rfl)⟩) f4.fr ?_
      change wpAnyG _ _ _ _ _ _ _ _ { tmps := #[X0, .pointer (some ⟨B, 0, none⟩), X2, X3, X4, X5, X6, X7, X8, X9, X10, X11, X12, X13, X14, X15, X16, X17, X18, .pointer (some ⟨B, 1, none⟩), .slice A.aP t.sp.length A.cP, .int .i64 (t.sp.length : Int), .int .i64 ((t.sp.length : Int) + 1), .slice (some ⟨W.drew.heap.size, 0, none⟩) 0 (t.sp.length + 1), .pointer (some ⟨B, 1, none⟩), .slice A.aP t.sp.length A.cP, .slice ao1 t.sp.length c1, .agg #[.int .i64 (-7), .int .i64 0, .int .i64 0, .int .i64 0, .int .i64 0], .slice (some ⟨w1.heap.size, 0, none⟩) 1 1, .slice ao2 (t.sp.length + 1) c2, .pointer (some ⟨B, 1, none⟩), .slice A.aP t.sp.length A.cP, .int .i64 (t.sp.length : Int), .slice ao2 t.sp.length c2, Y34, X35, X36, X37, X38, X39, X40, X41, X42, X43, X44, X45, X46, X47, X48, X49, X50, X51], defers := [] } _
      refine wpAnyG_take (i := 15) (v := .pointer (some ⟨B, 1, none⟩)) rfl (by kernel_rfl) (by kernel_rfl) (by kernel_rfl) (by kernel_rfl) (fun _ _ _ h => by cases h.1) (.inl ⟨by rfl, fun w' hT => exec_field1 (by rfl) (by rfl)⟩) f4.fr ?_
      change wpAnyG _ _ _ _ _ _ _ _ { tmps := #[X0, .pointer (some ⟨B, 0, none⟩), X2, X3, X4, X5, X6, X7, X8, X9, X10, X11, X12, X13, X14, X15, X16, X17, X18, .pointer (some ⟨B, 1, none⟩), .slice A.aP t.sp.length A.cP, .int .i64 (t.sp.length : Int), .int .i64 ((t.sp.length : Int) + 1), .slice (some ⟨W.drew.heap.size, 0, none⟩) 0 (t.sp.length + 1), .pointer (some ⟨B, 1, none⟩), .slice A.aP t.sp.length A.cP, .slice ao1 t.sp.length c1, .agg #[.int .i64 (-7), .int .i64 0, .int .i64 0, .int .i64 0, .int .i64 0], .slice (some ⟨w1.heap.size, 0, none⟩) 1 1, .slice ao2 (t.sp.length + 1) c2, .pointer (some ⟨B, 1, none⟩), .slice A.aP t.sp.length A.cP, .int .i64 (t.sp.length : Int), .slice ao2 t.sp.length c2, .pointer (some ⟨B, 1, none⟩), X35, X36, X37, X38, X39, X40, X41, X42, X43, X44, X45, X46, X47, X48, X49, X50, X51], defers := [] } _
      refine wpAnyG_ready (rs := [16]) (by kernel_rfl) (by simp) (AllReadyG.skip rfl (by rfl) (exec_store1 (by rfl) (by rfl) (by rfl) (hld _ f4.fr) (hfz _ f4.fr)) (fun h => absurd rfl h) ?_ AllReadyG.nil)
      change wpAnyG _ _ _ _ _ _ _ _ { tmps := #[X0, .pointer (some ⟨B, 0, none⟩), X2, X3, X4, X5, X6, X7, X8, X9, X10, X11, X12, X13, X14, X15, X16, X17, X18, .pointer (some ⟨B, 1, none⟩), .slice A.aP t.sp.length A.cP, .int .i64 (t.sp.length : Int), .int .i64 ((t.sp.length : Int) + 1), .slice (some ⟨W.drew.heap.size, 0, none⟩) 0 (t.sp.length + 1), .pointer (some ⟨B, 1, none⟩), .slice A.aP t.sp.length A.cP, .slice ao1 t.sp.length c1, .agg #[.int .i64 (-7), .int .i64 0, .int .i64 0, .int .i64 0, .int .i64 0], .slice (some ⟨w1.heap.size, 0, none⟩) 1 1, .slice ao2 (t.sp.length + 1) c2, .pointer (some ⟨B, 1, none⟩), .slice A.aP t.sp.length A.cP, .int .i64 (t.sp.length : Int), .slice ao2 t.sp.length c2, .pointer (some ⟨B, 1, none⟩), X35, X36, X37, X38, X39, X40, X41, X42, X43, X44, X45, X46, X47, X48, X49, X50, X51], defers := [] } _
      refine wpAnyG_done (by kernel_rfl) ⟨rfl, hQ _ _ _ _ _ _ _ _ _ _ _ _ _ _ _ _ ao2 c2 g2 _ (TB.put (hb.keep f4.fr) 1 _ rfl) ?_ (Fr.setCell (S := fun q => q = B) (f4.fr.mono (fun _ _ t => t.elim)) (p := ⟨B, 1, none⟩) (fun _ => rfl) _)⟩ _
      rw [hVm]
      exact ⟨f4.row.stay (fun hc => Below.heap_setCell _ _ _ _ (by have h1 := f4.new; show g2 ≠ B; omega)), f4.new, f4.pos⟩
  · change wpAnyG _ _ _ _ _ _ _ _ { tmps := #[X0, .pointer (some ⟨B, 0, none⟩), X2, X3, X4, X5, X6, X7, X8, X9, X10, X11, X12, X13, X14, X15, X16, X17, X18, .pointer (some ⟨B, 1, none⟩), .slice A.aP t.sp.length A.cP, .int .i64 (t.sp.length : Int), .int .i64 ((t.sp.length : Int) + 1), Y23, .pointer (some ⟨B, 1, none⟩), .slice A.aP t.sp.length A.cP, Y26, .agg #[.int .i64 (-7), .int .i64 0, .int .i64 0, .int .i64 0, .int .i64 0], .slice (some ⟨W.drew.heap.size, 0, none⟩) 1 1, Y29, .pointer (some ⟨B, 1, none⟩), .slice A.aP t.sp.length A.cP, .int .i64 (t.sp.length : Int), Y33, Y34, X35, X36, X37, X38, X39, X40, X41, X42, X43, X44, X45, X46, X47, X48, X49, X50, X51], defers := [] } _
    clear hm f1 w1
    obtain ⟨w1, hm, f1⟩ := Fresh.make (P := Tryz.prog) (hT0.alloc (.cells #[.int .i64 (-7), .int .i64 0, .int .i64 0, .int .i64 0, .int .i64 0] 44)) 23 44 info _ 5 t.sp.length Tryz.underlying23 hi hz hs hfit hlen
    have r0 : Fr (fun _ => False) (W.drew.alloc (.cells #[.int .i64 (-7), .int .i64 0, .int .i64 0, .int .i64 0, .int .i64 0] 44)) w1 := by
      obtain ⟨w1', hm', f1'⟩ := Fresh.make (P := Tryz.prog) (Fr.refl (fun _ => False) (W.drew.alloc (.cells #[.int .i64 (-7), .int .i64 0, .int .i64 0, .int .i64 0, .int .i64 0] 44))) 23 44 info _ 5 t.sp.length Tryz.underlying23 hi hz hs hfit hlen
      rw [hm] at hm'
      injection hm' with _ hm'
      rw [hm']
      exact f1'.fr
    obtain ⟨ao1, c1, w2, g1, ha, f2, r1⟩ := f1.append (P := Tryz.prog) (n := 0) 23 23 23 44 info _ (by omega) Tryz.underlying23 hi hz rfl hs rfl _ _ t.sp.length (hsrc _ f1.fr) (by rw [hy]; omega) (by omega)
    rw [Nat.zero_add] at ha
    have hsm := src_new' W.drew (spC markP) 23 44 5 Tryz.underlying23 rfl hone (W := w2) (fun j => by rw [r1.cell (a := ⟨W.drew.heap.size, j, none⟩) (by have h1 := f1.row.lt (by omega) f1.pos; rw [heap_alloc] at h1; show W.drew.heap.size < _; omega) (by show ¬ W.drew.heap.size = (W.drew.alloc (.cells #[.int .i64 (-7), .int .i64 0, .int .i64 0, .int .i64 0, .int .i64 0] 44)).heap.size; rw [heap_alloc]; omega), r0.cell (a := ⟨W.drew.heap.size, j, none⟩) (by rw [heap_alloc]; exact Nat.lt_succ_self _) (fun t => t), World.cell?_alloc_new]; simp [spC, markP])
    obtain ⟨ao2, c2, w4, g2, hb2, f4, _⟩ := f2.append (P := Tryz.prog) (n := t.sp.length) 23 23 23 44 info _ (by omega) Tryz.underlying23 hi hz rfl hs hVl _ _ 1 hsm (by rw [hy]; exact hl) (by omega)
    refine wpAnyG_ready (rs := [4]) (by kernel_rfl) (by simp) (AllReadyG.value rfl (by rfl) (exec_make (by rfl) (by rfl) (by rfl) hm) (fun _ => f1.fr) ?_ AllReadyG.nil)
    change wpAnyG _ _ _ _ _ _ _ _ { tmps := #[X0, .pointer (some ⟨B, 0, none⟩), X2, X3, X4, X5, X6, X7, X8, X9, X10, X11, X12, X13, X14, X15, X16, X17, X18, .pointer (some ⟨B, 1, none⟩), .slice A.aP t.sp.length A.cP, .int .i64 (t.sp.length : Int), .int .i64 ((t.sp.length : Int) + 1), .slice (some ⟨(W.drew.alloc (.cells #[.int .i64 (-7), .int .i64 0, .int .i64 0, .int .i64 0, .int .i64 0] 44)).heap.size, 0, none⟩) 0 (t.sp.length + 1), .pointer (some ⟨B, 1, none⟩), .slice A.aP t.sp.length A.cP, Y26, .agg #[.int .i64 (-7), .int .i64 0, .int .i64 0, .int .i64 0, .int .i64 0], .slice (some ⟨W.drew.heap.size, 0, none⟩) 1 1, Y29, .pointer (some ⟨B, 1, none⟩), .slice A.aP t.sp.length A.cP, .int .i64 (t.sp.length : Int), Y33, Y34, X35, X36, X37, X38, X39, X40, X41, X42, X43, X44, X45, X46, X47, X48, X49, X50, X51], defers := [] } _
    refine wpAnyG_ready (rs := [7]) (by kernel_rfl) (by simp) (AllReadyG.value rfl (by rfl) (exec_append (by rfl) (by rfl) (by rfl) ha) (fun _ => f2.fr) ?_ AllReadyG.nil)
    change wpAnyG _ _ _ _ _ _ _ _ { tmps := #[X0, .pointer (some ⟨B, 0, none⟩), X2, X3, X4, X5, X6, X7, X8, X9, X10, X11, X12, X13, X14, X15, X16, X17, X18, .pointer (some ⟨B, 1, none⟩), .slice A.aP t.sp.length A.cP, .int .i64 (t.sp.length : Int), .int .i64 ((t.sp.length : Int) + 1), .slice (some ⟨(W.drew.alloc (.cells #[.int .i64 (-7), .int .i64 0, .int .i64 0, .int .i64 0, .int .i64 0] 44)).heap.size, 0, none⟩) 0 (t.sp.length + 1), .pointer (some ⟨B, 1, none⟩), .slice A.aP t.sp.length A.cP, .slice ao1 t.sp.length c1, .agg #[.int .i64 (-7), .int .i64 0, .int .i64 0, .int .i64 0, .int .i64 0], .slice (some ⟨W.drew.heap.size, 0, none⟩) 1 1, Y29, .pointer (some ⟨B, 1, none⟩), .slice A.aP t.sp.length A.cP, .int .i64 (t.sp.length : Int), Y33, Y34, X35, X36, X37, X38, X39, X40, X41, X42, X43, X44, X45, X46, X47, X48, X49, X50, X51], defers := [] } _
    refine wpAnyG_ready (rs := [10]) (by kernel_rfl) (by simp) (AllReadyG.value rfl (by rfl) (exec_append (by rfl) (by rfl) (by rfl) hb2) (fun _ => f4.fr) ?_ AllReadyG.nil)
    change wpAnyG _ _ _ _ _ _ _ _ { tmps := #[X0, .pointer (some ⟨B, 0, none⟩), X2, X3, X4, X5, X6, X7, X8, X9, X10, X11, X12, X13, X14, X15, X16, X17, X18, .pointer (some ⟨B, 1, none⟩), .slice A.aP t.sp.length A.cP, .int .i64 (t.sp.length : Int), .int .i64 ((t.sp.length : Int) + 1), .slice (some ⟨(W.drew.alloc (.cells #[.int .i64 (-7), .int .i64 0, .int .i64 0, .int .i64 0, .int .i64 0] 44)).heap.size, 0, none⟩) 0 (t.sp.length + 1), .pointer (some ⟨B, 1, none⟩), .slice A.aP t.sp.length A.cP, .slice ao1 t.sp.length c1, .agg #[.int .i64 (-7), .int .i64 0, .int .i64 0, .int .i64 0, .int .i64 0], .slice (some ⟨W.drew.heap.size, 0, none⟩) 1 1, .slice ao2 (t.sp.length + 1) c2, .pointer (some ⟨B, 1, none⟩), .slice A.aP t.sp.length A.cP, .int .i64 (t.sp.length : Int), Y33, Y34, X35, X36, X37, X38, X39, X40, X41, X42, X43, X44, X45, X46, X47, X48, X49, X50, X51], defers := [] } _
    have hc2 : t.sp.length + 1 ≤ c2 := by
      have h1 := f4.row.le
      rw [List.length_append, hVl] at h1
      have h2 : (spC markP).length = 5 := rfl
      omega
    refine wpAnyG_take (i := 14) (v := .slice ao2 t.sp.length c2) rfl (by kernel_rfl) (by kernel_rfl) (by kernel_rfl) (by kernel_rfl) (fun _ _ _ h => by cases h.1) (.inl ⟨by rfl, fun w' hT => exec_cut1 (Nat.le_succ _) hc2 (f4.row.ad f4.pos) (by rfl) (by rfl) (by rfl)⟩) f4.fr ?_
    change wpAnyG _ _ _ _ _ _ _ _ { tmps := #[X0, .pointer (some ⟨B, 0, none⟩), X2, X3, X4, X5, X6, X7, X8, X9, X10, X11, X12, X13, X14, X15, X16, X17, X18, .pointer (some ⟨B, 1, none⟩), .slice A.aP t.sp.length A.cP, .int .i64 (t.sp.length : Int), .int .i64 ((t.sp.length : Int) + 1), .slice (some ⟨(W.drew.alloc (.cells #[.int .i64 (-7), .int .i64 0, .int .i64 0, .int .i64 0, .int .i64 0] 44)).heap.size, 0, none⟩) 0 (t.sp.length + 1), .pointer (some ⟨B, 1, none⟩), .slice A.aP t.sp.length A.cP, .slice ao1 t.sp.length c1, .agg #[.int .i64 (-7), .int .i64 0, .int .i64 0, .int .i64 0, .int .i64 0], .slice (some ⟨W.drew.heap.size, 0, none⟩) 1 1, .slice ao2 (t.sp.length + 1) c2, .pointer (some ⟨B, 1, none⟩), .slice A.aP t.sp.length A.cP, .int .i64 (t.sp.length : Int), .slice ao2 t.sp.length c2, Y34, X35, X36, X37, X38, X39, X40, X41, X42, X43, X44, X45, X46, X47, X48, X49, X50, X51], defers := [] } _
    refine wpAnyG_take (i := 15) (v := .pointer (some ⟨B, 1, none⟩)) rfl (by kernel_rfl) (by kernel_rfl) (by kernel_rfl) (by kernel_rfl) (fun _ _ _ h => by cases h.1) (.inl ⟨by rfl, fun w' hT => exec_field1 (by rfl) (by rfl)⟩) f4.fr ?_
    change wpAnyG _ _ _ _ _ _ _ _ { tmps := #[X0, .pointer (some ⟨B, 0, none⟩), X2, X3, X4, X5, X6, X7, X8, X9, X10, X11, X12, X13, X14, X15, X16, X17, X18, .pointer (some ⟨B, 1, none⟩), .slice A.aP t.sp.length A.cP, .int .i64 (t.sp.length : Int), .int .i64 ((t.sp.length : Int) + 1), .slice (some ⟨(W.drew.alloc (.cells #[.int .i64 (-7), .int .i64 0, .int .i64 0, .int .i64 0, .int .i64 0] 44)).heap.size, 0, none⟩) 0 (t.sp.length + 1), .pointer (some ⟨B, 1, none⟩), .slice A.aP t.sp.length A.cP, .slice ao1 t.sp.length c1, .agg #[.int .i64 (-7), .int .i64 0, .int .i64 0, .int .i64 0, .int .i64 0], .slice (some ⟨W.drew.heap.size, 0, none⟩) 1 1, .slice ao2 (t.sp.length + 1) c2, .pointer (some ⟨B, 1, none⟩), .slice A.aP t.sp.length A.cP, .int .i64 (t.sp.length : Int), .slice ao2 t.sp.length c2, .pointer (some ⟨B, 1, none⟩), X35, X36, X37, X38, X39, X40, X41, X42, X43, X44, X45, X46, X47, X48, X49, X50, X51], defers := [] } _
    refine wpAnyG_ready (rs := [16]) (by kernel_rfl) (by simp) (AllReadyG.skip rfl (by rfl) (exec_store1 (by rfl) (by rfl) (by rfl) (hld _ f4.fr) (hfz _ f4.fr)) (fun h => absurd rfl h) ?_ AllReadyG.nil)
    change wpAnyG _ _ _ _ _ _ _ _ { tmps := #[X0, .pointer (some ⟨B, 0, none⟩), X2, X3, X4, X5, X6, X7, X8, X9, X10, X11, X12, X13, X14, X15, X16, X17, X18, .pointer (some ⟨B, 1, none⟩), .slice A.aP t.sp.length A.cP, .int .i64 (t.sp.length : Int), .int .i64 ((t.sp.length : Int) + 1), .slice (some ⟨(W.drew.alloc (.cells #[.int .i64 (-7), .int .i64 0, .int .i64 0, .int .i64 0, .int .i64 0] 44)).heap.size, 0, none⟩) 0 (t.sp.length + 1), .pointer (some ⟨B, 1, none⟩), .slice A.aP t.sp.length A.cP, .slice ao1 t.sp.length c1, .agg #[.int .i64 (-7), .int .i64 0, .int .i64 0, .int .i64 0, .int .i64 0], .slice (some ⟨W.drew.heap.size, 0, none⟩) 1 1, .slice ao2 (t.sp.length + 1) c2, .pointer (some ⟨B, 1, none⟩), .slice A.aP t.sp.length A.cP, .int .i64 (t.sp.length : Int), .slice ao2 t.sp.length c2, .pointer (some ⟨B, 1, none⟩), X35, X36, X37, X38, X39, X40, X41, X42, X43, X44, X45, X46, X47, X48, X49, X50, X51], defers := [] } _
    refine wpAnyG_done (by kernel_rfl) ⟨rfl, hQ _ _ _ _ _ _ _ _ _ _ _ _ _ _ _ _ ao2 c2 g2 _ (TB.put (hb.keep f4.fr) 1 _ rfl) ?_ (Fr.setCell (S := fun q => q = B) (f4.fr.mono (fun _ _ t => t.elim)) (p := ⟨B, 1, none⟩) (fun _ => rfl) _)⟩ _
    rw [hVm]
    exact ⟨f4.row.stay (fun hc => Below.heap_setCell _ _ _ _ (by have h1 := f4.new; show g2 ≠ B; omega)), f4.new, f4.pos⟩

end Go.Proofs.YtkjoojamkbpfcaaGreat

/- A region of Lent. -/
namespace Go.Proofs.YtkjoojamkbpfcaaGreat
open Go.RowKit

set_option maxHeartbeats 1500000 in
set_option maxRecDepth 100000 in
theorem lent_region2 (W : World) (B : Nat) (A : Ad) (t : Tf) (hb : TB W B A t) (hc0 : CAt W A.aB (bdV t.bd)) (hl : (t.bd.length + 1) * 16 ≤ 140737488355328) {Q : Exit → Act → World → Prop} (X0 X2 X3 X4 X5 X6 X7 X8 X9 X10 X11 X12 X13 X14 X15 X16 X17 X18 X19 X20 X21 X22 X23 X24 X25 X26 X27 X28 X29 X30 X31 X32 X33 X34 X51 Y35 Y36 Y37 Y38 Y39 Y40 Y41 Y42 Y43 Y44 Y45 Y46 Y47 Y48 Y49 Y50 : Value)
    (hQ : ∀ (u35 u36 u37 u38 u39 u40 u41 u42 u43 u44 u45 u46 u47 u48 u49 u50 : Value) (ao' : Option Addr) (cap' g' : Nat) (w' : World), TB w' B { A with aB := ao', cB := cap' } t → OwnT W w' ao' cap' g' 2 (bdV (t.bd ++ [markB])) → Fr (fun q => q = B) W w' → Q .normal { tmps := #[X0, .pointer (some ⟨B, 0, none⟩), X2, X3, X4, X5, X6, X7, X8, X9, X10, X11, X12, X13, X14, X15, X16, X17, X18, X19, X20, X21, X22, X23, X24, X25, X26, X27, X28, X29, X30, X31, X32, X33, X34, u35, u36, u37, u38, u39, u40, u41, u42, u43, u44, u45, u46, u47, u48, u49, u50, X51], defers := [] } w') :
    (Code.region 3 #[{ dst := some 35, op := Go.Op.fieldAddr 27 (Go.Operand.tmp 1) 2, type := 0, pos := "law.go:30", after := #[], guard := none }, { dst := some 36, op := Go.Op.load 24 (Go.Operand.tmp 35), type := 24, pos := "law.go:30", after := #[{ on := 0, ground := Go.Ground.data }], guard := none }, { dst := some 37, op := Go.Op.call { callee := Go.Callee.builtin Go.Builtin.len, args := #[Go.Operand.tmp 36], argTypes := #[24] }, type := 3, pos := "law.go:30", after := #[{ on := 1, ground := Go.Ground.data }], guard := none }, { dst := some 38, op := Go.Op.binOp Go.BinOp.add 3 (Go.Operand.tmp 37) (Go.Operand.const (Go.Value.int Go.IntKind.i64 1)) 3, type := 3, pos := "law.go:30", after := #[{ on := 2, ground := Go.Ground.data }], guard := none }, { dst := some 39, op := Go.Op.makeSlice 24 (Go.Operand.const (Go.Value.int Go.IntKind.i64 0)) (Go.Operand.tmp 38), type := 24, pos := "law.go:30", after := #[{ on := 3, ground := Go.Ground.data }], guard := none }, { dst := some 40, op := Go.Op.fieldAddr 27 (Go.Operand.tmp 1) 2, type := 0, pos := "law.go:30", after := #[], guard := none }, { dst := some 41, op := Go.Op.load 24 (Go.Operand.tmp 40), type := 24, pos := "law.go:30", after := #[{ on := 5, ground := Go.Ground.data }], guard := none }, { dst := some 42, op := Go.Op.call { callee := Go.Callee.builtin Go.Builtin.append, args := #[Go.Operand.tmp 39, Go.Operand.tmp 41], argTypes := #[24, 24] }, type := 24, pos := "law.go:30", after := #[{ on := 4, ground := Go.Ground.data }, { on := 6, ground := Go.Ground.data }], guard := none }, { dst := some 43, op := Go.Op.build 52 #[(0, Go.Operand.const (Go.Value.int Go.IntKind.i64 (-7)))], type := 52, pos := "law.go:30", after := #[], guard := none }, { dst := some 44, op := Go.Op.buildSlice 24 1 #[(0, Go.Operand.tmp 43)], type := 24, pos := "law.go:30", after := #[{ on := 8, ground := Go.Ground.data }], guard := none }, { dst := some 45, op := Go.Op.call { callee := Go.Callee.builtin Go.Builtin.append, args := #[Go.Operand.tmp 42, Go.Operand.tmp 44], argTypes := #[24, 24] }, type := 24, pos := "law.go:30", after := #[{ on := 7, ground := Go.Ground.data }, { on := 9, ground := Go.Ground.data }, { on := 7, ground := Go.Ground.chain }], guard := none }, { dst := some 46, op := Go.Op.fieldAddr 27 (Go.Operand.tmp 1) 2, type := 0, pos := "law.go:30", after := #[], guard := none }, { dst := some 47, op := Go.Op.load 24 (Go.Operand.tmp 46), type := 24, pos := "law.go:30", after := #[{ on := 11, ground := Go.Ground.data }], guard := none }, { dst := some 48, op := Go.Op.call { callee := Go.Callee.builtin Go.Builtin.len, args := #[Go.Operand.tmp 47], argTypes := #[24] }, type := 3, pos := "law.go:30", after := #[{ on := 12, ground := Go.Ground.data }], guard := none }, { dst := some 49, op := Go.Op.slice 24 (Go.Operand.tmp 45) none (some (Go.Operand.tmp 48)) none, type := 24, pos := "law.go:30", after := #[{ on := 10, ground := Go.Ground.data }, { on := 13, ground := Go.Ground.data }], guard := none }, { dst := some 50, op := Go.Op.fieldAddr 27 (Go.Operand.tmp 1) 2, type := 0, pos := "law.go:30", after := #[{ on := 0, ground := Go.Ground.phase }, { on := 1, ground := Go.Ground.phase }, { on := 2, ground := Go.Ground.phase }, { on := 3, ground := Go.Ground.phase }, { on := 4, ground := Go.Ground.phase }, { on := 5, ground := Go.Ground.phase }, { on := 6, ground := Go.Ground.phase }, { on := 7, ground := Go.Ground.phase }, { on := 8, ground := Go.Ground.phase }, { on := 9, ground := Go.Ground.phase }, { on := 10, ground := Go.Ground.phase }, { on := 11, ground := Go.Ground.phase }, { on := 12, ground := Go.Ground.phase }, { on := 13, ground := Go.Ground.phase }, { on := 14, ground := Go.Ground.phase }], guard := none }, { dst := none, op := Go.Op.store 24 (Go.Operand.tmp 50) (Go.Operand.tmp 49), type := 0, pos := "law.go:30", after := #[{ on := 15, ground := Go.Ground.data }, { on := 14, ground := Go.Ground.data }, { on := 10, ground := Go.Ground.chain }, { on := 0, ground := Go.Ground.phase }, { on := 1, ground := Go.Ground.phase }, { on := 2, ground := Go.Ground.phase }, { on := 3, ground := Go.Ground.phase }, { on := 4, ground := Go.Ground.phase }, { on := 5, ground := Go.Ground.phase }, { on := 6, ground := Go.Ground.phase }, { on := 7, ground := Go.Ground.phase }, { on := 8, ground := Go.Ground.phase }, { on := 9, ground := Go.Ground.phase }, { on := 10, ground := Go.Ground.phase }, { on := 11, ground := Go.Ground.phase }, { on := 12, ground := Go.Ground.phase }, { on := 13, ground := Go.Ground.phase }, { on := 14, ground := Go.Ground.phase }], guard := none }] true).wp Tryz.prog Q { tmps := #[X0, .pointer (some ⟨B, 0, none⟩), X2, X3, X4, X5, X6, X7, X8, X9, X10, X11, X12, X13, X14, X15, X16, X17, X18, X19, X20, X21, X22, X23, X24, X25, X26, X27, X28, X29, X30, X31, X32, X33, X34, Y35, Y36, Y37, Y38, Y39, Y40, Y41, Y42, Y43, Y44, Y45, Y46, Y47, Y48, Y49, Y50, X51], defers := [] } W := by
  obtain ⟨info, hi, hzz⟩ := Option.map_eq_some_iff.1 info46
  simp only [Prod.mk.injEq] at hzz
  obtain ⟨hz, hs, hy⟩ := hzz
  refine Code.wp_mono (Q := fun e a' w' => e = .normal ∧ Q .normal a' w') (fun e a' w' h => by obtain ⟨rfl, h⟩ := h; exact h) ?_
  have hT0 : Fr (fun _ => False) W W.drew := (Fr.refl _ _).drew
  have hlt := hb.lt
  have hcl : W.cell? ⟨B, 2, none⟩ = some (.slice A.aB t.bd.length A.cB) := hb.cell 2
  have hld : ∀ w', Fr (fun _ => False) W w' → w'.cell? ⟨B, 2, none⟩ = some (.slice A.aB t.bd.length A.cB) := fun w' hf => (hf.cell hlt (fun t => t)).trans hcl
  have hfz : ∀ w', Fr (fun _ => False) W w' → w'.frozen? ⟨B, 2, none⟩ = false := fun w' hf => (hf.frozen (a := ⟨B, 2, none⟩) hlt (fun t => t)).trans (hb.frozen 2)
  have hlen : t.bd.length + 1 ≤ 140737488355328 := by omega
  have hfit : (t.bd.length + 1) * info.bytes ≤ 140737488355328 := by rw [hy]; exact hl
  have hsrc : ∀ w', Fr (fun _ => False) W w' → Src Tryz.prog 2 24 (.slice A.aB t.bd.length A.cB) t.bd.length (bdV t.bd) w' := fun w' hf => CAt.src (hc0.keep hf) 24 52 2 _ _ (by omega) Tryz.underlying24 (bdV_length _) (bdV_one _)
  have hVm : bdV (t.bd ++ [markB]) = [] ++ bdV t.bd ++ bdC markB := by simp [bdV]
  have hVl : ([] ++ bdV t.bd).length = t.bd.length * 2 := by rw [List.nil_append]; exact bdV_length _
  have hone : ∀ u ∈ bdC markB, u.oneCell' = true := fun u hu => bdV_one [markB] u (by simpa [bdV] using hu)
  refine wp_region_G (k := 16) (T := Fr (fun _ => False) W) (by kernel_rfl) ?_
  refine wpAnyG_take (i := 0) (v := .pointer (some ⟨B, 2, none⟩)) rfl (by kernel_rfl) (by kernel_rfl) (by kernel_rfl) (by kernel_rfl) (fun _ _ _ h => by cases h.1) (.inl ⟨by rfl, fun w' hT => exec_field2 (by rfl) (by rfl)⟩) hT0 ?_
  change wpAnyG _ _ _ _ _ _ _ _ { tmps := #[X0, .pointer (some ⟨B, 0, none⟩), X2, X3, X4, X5, X6, X7, X8, X9, X10, X11, X12, X13, X14, X15, X16, X17, X18, X19, X20, X21, X22, X23, X24, X25, X26, X27, X28, X29, X30, X31, X32, X33, X34, .pointer (some ⟨B, 2, none⟩), Y36, Y37, Y38, Y39, Y40, Y41, Y42, Y43, Y44, Y45, Y46, Y47, Y48, Y49, Y50, X51], defers := [] } _
  refine wpAnyG_take (i := 1) (v := .slice A.aB t.bd.length A.cB) rfl (by kernel_rfl) (by kernel_rfl) (by kernel_rfl) (by kernel_rfl) (fun _ _ _ h => by cases h.1) (.inl ⟨by rfl, fun w' hT => exec_load2 (by rfl) (by rfl) (hld w' hT)⟩) hT0 ?_
  change wpAnyG _ _ _ _ _ _ _ _ { tmps := #[X0, .pointer (some ⟨B, 0, none⟩), X2, X3, X4, X5, X6, X7, X8, X9, X10, X11, X12, X13, X14, X15, X16, X17, X18, X19, X20, X21, X22, X23, X24, X25, X26, X27, X28, X29, X30, X31, X32, X33, X34, .pointer (some ⟨B, 2, none⟩), .slice A.aB t.bd.length A.cB, Y37, Y38, Y39, Y40, Y41, Y42, Y43, Y44, Y45, Y46, Y47, Y48, Y49, Y50, X51], defers := [] } _
  refine wpAnyG_take (i := 2) (v := .int .i64 (t.bd.length : Int)) rfl (by kernel_rfl) (by kernel_rfl) (by kernel_rfl) (by kernel_rfl) (fun _ _ _ h => by cases h.1) (.inl ⟨by rfl, fun w' hT => exec_len2 (by rfl) (by rfl)⟩) hT0 ?_
  change wpAnyG _ _ _ _ _ _ _ _ { tmps := #[X0, .pointer (some ⟨B, 0, none⟩), X2, X3, X4, X5, X6, X7, X8, X9, X10, X11, X12, X13, X14, X15, X16, X17, X18, X19, X20, X21, X22, X23, X24, X25, X26, X27, X28, X29, X30, X31, X32, X33, X34, .pointer (some ⟨B, 2, none⟩), .slice A.aB t.bd.length A.cB, .int .i64 (t.bd.length : Int), Y38, Y39, Y40, Y41, Y42, Y43, Y44, Y45, Y46, Y47, Y48, Y49, Y50, X51], defers := [] } _
  refine wpAnyG_take (i := 3) (v := .int .i64 ((t.bd.length : Int) + 1)) rfl (by kernel_rfl) (by kernel_rfl) (by kernel_rfl) (by kernel_rfl) (fun _ _ _ h => by cases h.1) (.inl ⟨by rfl, fun w' hT => exec_add1 hlen (by rfl) (by rfl) (by rfl)⟩) hT0 ?_
  change wpAnyG _ _ _ _ _ _ _ _ { tmps := #[X0, .pointer (some ⟨B, 0, none⟩), X2, X3, X4, X5, X6, X7, X8, X9, X10, X11, X12, X13, X14, X15, X16, X17, X18, X19, X20, X21, X22, X23, X24, X25, X26, X27, X28, X29, X30, X31, X32, X33, X34, .pointer (some ⟨B, 2, none⟩), .slice A.aB t.bd.length A.cB, .int .i64 (t.bd.length : Int), .int .i64 ((t.bd.length : Int) + 1), Y39, Y40, Y41, Y42, Y43, Y44, Y45, Y46, Y47, Y48, Y49, Y50, X51], defers := [] } _
  refine wpAnyG_take (i := 5) (v := .pointer (some ⟨B, 2, none⟩)) rfl (by kernel_rfl) (by kernel_rfl) (by kernel_rfl) (by kernel_rfl) (fun _ _ _ h => by cases h.1) (.inl ⟨by rfl, fun w' hT => exec_field2 (by rfl) (by rfl)⟩) hT0 ?_
  change wpAnyG _ _ _ _ _ _ _ _ { tmps := #[X0, .pointer (some ⟨B, 0, none⟩), X2, X3, X4, X5, X6, X7, X8, X9, X10, X11, X12, X13, X14, X15, X16, X17, X18, X19, X20, X21, X22, X23, X24, X25, X26, X27, X28, X29, X30, X31, X32, X33, X34, .pointer (some ⟨B, 2, none⟩), .slice A.aB t.bd.length A.cB, .int .i64 (t.bd.length : Int), .int .i64 ((t.bd.length : Int) + 1), Y39, .pointer (some ⟨B, 2, none⟩), Y41, Y42, Y43, Y44, Y45, Y46, Y47, Y48, Y49, Y50, X51], defers := [] } _
  refine wpAnyG_take (i := 6) (v := .slice A.aB t.bd.length A.cB) rfl (by kernel_rfl) (by kernel_rfl) (by kernel_rfl) (by kernel_rfl) (fun _ _ _ h => by cases h.1) (.inl ⟨by rfl, fun w' hT => exec_load2 (by rfl) (by rfl) (hld w' hT)⟩) hT0 ?_
  change wpAnyG _ _ _ _ _ _ _ _ { tmps := #[X0, .pointer (some ⟨B, 0, none⟩), X2, X3, X4, X5, X6, X7, X8, X9, X10, X11, X12, X13, X14, X15, X16, X17, X18, X19, X20, X21, X22, X23, X24, X25, X26, X27, X28, X29, X30, X31, X32, X33, X34, .pointer (some ⟨B, 2, none⟩), .slice A.aB t.bd.length A.cB, .int .i64 (t.bd.length : Int), .int .i64 ((t.bd.length : Int) + 1), Y39, .pointer (some ⟨B, 2, none⟩), .slice A.aB t.bd.length A.cB, Y42, Y43, Y44, Y45, Y46, Y47, Y48, Y49, Y50, X51], defers := [] } _
  refine wpAnyG_take (i := 8) (v := .agg #[.int .i64 (-7), .int .i64 0]) rfl (by kernel_rfl) (by kernel_rfl) (by kernel_rfl) (by kernel_rfl) (fun _ _ _ h => by cases h.1) (.inl ⟨by rfl, fun w' hT => exec_build2 (by rfl) (by rfl)⟩) hT0 ?_
  change wpAnyG _ _ _ _ _ _ _ _ { tmps := #[X0, .pointer (some ⟨B, 0, none⟩), X2, X3, X4, X5, X6, X7, X8, X9, X10, X11, X12, X13, X14, X15, X16, X17, X18, X19, X20, X21, X22, X23, X24, X25, X26, X27, X28, X29, X30, X31, X32, X33, X34, .pointer (some ⟨B, 2, none⟩), .slice A.aB t.bd.length A.cB, .int .i64 (t.bd.length : Int), .int .i64 ((t.bd.length : Int) + 1), Y39, .pointer (some ⟨B, 2, none⟩), .slice A.aB t.bd.length A.cB, Y42, .agg #[.int .i64 (-7), .int .i64 0], Y44, Y45, Y46, Y47, Y48, Y49, Y50, X51], defers := [] } _
  refine wpAnyG_take (i := 11) (v := .pointer (some ⟨B, 2, none⟩)) rfl (by kernel_rfl) (by kernel_rfl) (by kernel_rfl) (by kernel_rfl) (fun _ _ _ h => by cases h.1) (.inl ⟨by rfl, fun w' hT => exec_field2 (by rfl) (by rfl)⟩) hT0 ?_
  change wpAnyG _ _ _ _ _ _ _ _ { tmps := #[X0, .pointer (some ⟨B, 0, none⟩), X2, X3, X4, X5, X6, X7, X8, X9, X10, X11, X12, X13, X14, X15, X16, X17, X18, X19, X20, X21, X22, X23, X24, X25, X26, X27, X28, X29, X30, X31, X32, X33, X34, .pointer (some ⟨B, 2, none⟩), .slice A.aB t.bd.length A.cB, .int .i64 (t.bd.length : Int), .int .i64 ((t.bd.length : Int) + 1), Y39, .pointer (some ⟨B, 2, none⟩), .slice A.aB t.bd.length A.cB, Y42, .agg #[.int .i64 (-7), .int .i64 0], Y44, Y45, .pointer (some ⟨B, 2, none⟩), Y47, Y48, Y49, Y50, X51], defers := [] } _
  refine wpAnyG_take (i := 12) (v := .slice A.aB t.bd.length A.cB) rfl (by kernel_rfl) (by kernel_rfl) (by kernel_rfl) (by kernel_rfl) (fun _ _ _ h => by cases h.1) (.inl ⟨by rfl, fun w' hT => exec_load2 (by rfl) (by rfl) (hld w' hT)⟩) hT0 ?_
  change wpAnyG _ _ _ _ _ _ _ _ { tmps := #[X0, .pointer (some ⟨B, 0, none⟩), X2, X3, X4, X5, X6, X7, X8, X9, X10, X11, X12, X13, X14, X15, X16, X17, X18, X19, X20, X21, X22, X23, X24, X25, X26, X27, X28, X29, X30, X31, X32, X33, X34, .pointer (some ⟨B, 2, none⟩), .slice A.aB t.bd.length A.cB, .int .i64 (t.bd.length : Int), .int .i64 ((t.bd.length : Int) + 1), Y39, .pointer (some ⟨B, 2, none⟩), .slice A.aB t.bd.length A.cB, Y42, .agg #[.int .i64 (-7), .int .i64 0], Y44, Y45, .pointer (some ⟨B, 2, none⟩), .slice A.aB t.bd.length A.cB, Y48, Y49, Y50, X51], defers := [] } _
  refine wpAnyG_take (i := 13) (v := .int .i64 (t.bd.length : Int)) rfl (by kernel_rfl) (by kernel_rfl) (by kernel_rfl) (by kernel_rfl) (fun _ _ _ h => by cases h.1) (.inl ⟨by rfl, fun w' hT => exec_len2 (by rfl) (by rfl)⟩) hT0 ?_
  change wpAnyG _ _ _ _ _ _ _ _ { tmps := #[X0, .pointer (some ⟨B, 0, none⟩), X2, X3, X4, X5, X6, X7, X8, X9, X10, X11, X12, X13, X14, X15, X16, X17, X18, X19, X20, X21, X22, X23, X24, X25, X26, X27, X28, X29, X30, X31, X32, X33, X34, .pointer (some ⟨B, 2, none⟩), .slice A.aB t.bd.length A.cB, .int .i64 (t.bd.length : Int), .int .i64 ((t.bd.length : Int) + 1), Y39, .pointer (some ⟨B, 2, none⟩), .slice A.aB t.bd.length A.cB, Y42, .agg #[.int .i64 (-7), .int .i64 0], Y44, Y45, .pointer (some ⟨B, 2, none⟩), .slice A.aB t.bd.length A.cB, .int .i64 (t.bd.length : Int), Y49, Y50, X51], defers := [] } _
  obtain ⟨w1, hm, f1⟩ := Fresh.make (P := Tryz.prog) hT0 24 52 info _ 2 t.bd.length Tryz.underlying24 hi hz hs hfit hlen
  refine wpAnyG_ready (rs := [4, 9]) (by kernel_rfl) (by simp) (AllReadyG.value rfl (by rfl) (exec_make (by rfl) (by rfl) (by rfl) hm) (fun _ => f1.fr) ?_ (AllReadyG.value rfl (by rfl) (exec_slice12 (by rfl) (by rfl)) (fun _ => hT0.alloc _) ?_ AllReadyG.nil))
  · change wpAnyG _ _ _ _ _ _ _ _ { tmps := #[X0, .pointer (some ⟨B, 0, none⟩), X2, X3, X4, X5, X6, X7, X8, X9, X10, X11, X12, X13, X14, X15, X16, X17, X18, X19, X20, X21, X22, X23, X24, X25, X26, X27, X28, X29, X30, X31, X32, X33, X34, .pointer (some ⟨B, 2, none⟩), .slice A.aB t.bd.length A.cB, .int .i64 (t.bd.length : Int), .int .i64 ((t.bd.length : Int) + 1), .slice (some ⟨W.drew.heap.size, 0, none⟩) 0 (t.bd.length + 1), .pointer (some ⟨B, 2, none⟩), .slice A.aB t.bd.length A.cB, Y42, .agg #[.int .i64 (-7), .int .i64 0], Y44, Y45, .pointer (some ⟨B, 2, none⟩), .slice A.aB t.bd.length A.cB, .int .i64 (t.bd.length : Int), Y49, Y50, X51], defers := [] } _
    obtain ⟨ao1, c1, w2, g1, ha, f2, r1⟩ := f1.append (P := Tryz.prog) (n := 0) 24 24 24 52 info _ (by omega) Tryz.underlying24 hi hz rfl hs rfl _ _ t.bd.length (hsrc _ f1.fr) (by rw [hy]; omega) (by omega)
    rw [Nat.zero_add] at ha
    have f1a := f1.alloc (by omega) (.cells #[.int .i64 (-7), .int .i64 0] 52)
    refine wpAnyG_ready (rs := [7, 9]) (by kernel_rfl) (by simp) (AllReadyG.value rfl (by rfl) (exec_append (by rfl) (by rfl) (by rfl) ha) (fun _ => f2.fr) ?_ (AllReadyG.value rfl (by rfl) (exec_slice12 (by rfl) (by rfl)) (fun _ => f1a.fr) ?_ AllReadyG.nil))
    · change wpAnyG _ _ _ _ _ _ _ _ { tmps := #[X0, .pointer (some ⟨B, 0, none⟩), X2, X3, X4, X5, X6, X7, X8, X9, X10, X11, X12, X13, X14, X15, X16, X17, X18, X19, X20, X21, X22, X23, X24, X25, X26, X27, X28, X29, X30, X31, X32, X33, X34, .pointer (some ⟨B, 2, none⟩), .slice A.aB t.bd.length A.cB, .int .i64 (t.bd.length : Int), .int .i64 ((t.bd.length : Int) + 1), .slice (some ⟨W.drew.heap.size, 0, none⟩) 0 (t.bd.length + 1), .pointer (some ⟨B, 2, none⟩), .slice A.aB t.bd.length A.cB, .slice ao1 t.bd.length c1, .agg #[.int .i64 (-7), .int .i64 0], Y44, Y45, .pointer (some ⟨B, 2, none⟩), .slice A.aB t.bd.length A.cB, .int .i64 (t.bd.length : Int), Y49, Y50, X51], defers := [] } _
      have f3 := f2.alloc (by omega) (.cells #[.int .i64 (-7), .int .i64 0] 52)
      have hsm := src_new' w2 (bdC markB) 24 52 2 Tryz.underlying24 rfl hone (W := w2.alloc (.cells #[.int .i64 (-7), .int .i64 0] 52)) (fun j => by rw [World.cell?_alloc_new]; simp [bdC, markB])
      obtain ⟨ao2, c2, w4, g2, hb2, f4, _⟩ := f3.append (P := Tryz.prog) (n := t.bd.length) 24 24 24 52 info _ (by omega) Tryz.underlying24 hi hz rfl hs hVl _ _ 1 hsm (by rw [hy]; exact hl) (by omega)
      refine wpAnyG_ready (rs := [9]) (by kernel_rfl) (by simp) (AllReadyG.value rfl (by rfl) (exec_slice12 (by rfl) (by rfl)) (fun _ => f3.fr) ?_ AllReadyG.nil)
      change wpAnyG _ _ _ _ _ _ _ _ { tmps := #[X0, .pointer (some ⟨B, 0, none⟩), X2, X3, X4, X5, X6, X7, X8, X9, X10, X11, X12, X13, X14, X15, X16, X17, X18, X19, X20, X21, X22, X23, X24, X25, X26, X27, X28, X29, X30, X31, X32, X33, X34, .pointer (some ⟨B, 2, none⟩), .slice A.aB t.bd.length A.cB, .int .i64 (t.bd.length : Int), .int .i64 ((t.bd.length : Int) + 1), .slice (some ⟨W.drew.heap.size, 0, none⟩) 0 (t.bd.length + 1), .pointer (some ⟨B, 2, none⟩), .slice A.aB t.bd.length A.cB, .slice ao1 t.bd.length c1, .agg #[.int .i64 (-7), .int .i64 0], .slice (some ⟨w2.heap.size, 0, none⟩) 1 1, Y45, .pointer (some ⟨B, 2, none⟩), .slice A.aB t.bd.length A.cB, .int .i64 (t.bd.length : Int), Y49, Y50, X51], defers := [] } _
      refine wpAnyG_ready (rs := [10]) (by kernel_rfl) (by simp) (AllReadyG.value rfl (by rfl) (exec_append (by rfl) (by rfl) (by rfl) hb2) (fun _ => f4.fr) ?_ AllReadyG.nil)
      change wpAnyG _ _ _ _ _ _ _ _ { tmps := #[X0, .pointer (some ⟨B, 0, none⟩), X2, X3, X4, X5, X6, X7, X8, X9, X10, X11, X12, X13, X14, X15, X16, X17, X18, X19, X20, X21, X22, X23, X24, X25, X26, X27, X28, X29, X30, X31, X32, X33, X34, .pointer (some ⟨B, 2, none⟩), .slice A.aB t.bd.length A.cB, .int .i64 (t.bd.length : Int), .int .i64 ((t.bd.length : Int) + 1), .slice (some ⟨W.drew.heap.size, 0, none⟩) 0 (t.bd.length + 1), .pointer (some ⟨B, 2, none⟩), .slice A.aB t.bd.length A.cB, .slice ao1 t.bd.length c1, .agg #[.int .i64 (-7), .int .i64 0], .slice (some ⟨w2.heap.size, 0, none⟩) 1 1, .slice ao2 (t.bd.length + 1) c2, .pointer (some ⟨B, 2, none⟩), .slice A.aB t.bd.length A.cB, .int .i64 (t.bd.length : Int), Y49, Y50, X51], defers := [] } _
      have hc2 : t.bd.length + 1 ≤ c2 := by
        have h1 := f4.row.le
        rw [List.length_append, hVl] at h1
        have h2 : (bdC markB).length = 2 := rfl
        omega
      refine wpAnyG_take (i := 14) (v := .slice ao2 t.bd.length c2) rfl (by kernel_rfl) (by kernel_rfl) (by kernel_rfl) (by kernel_rfl) (fun _ _ _ h => by cases h.1) (.inl ⟨by rfl, fun w' hT => exec_cut2 (Nat.le_succ _) hc2 (f4.row.ad f4.pos) (by rfl) (by rfl) (by rfl)⟩) f4.fr ?_
      change wpAnyG _ _ _ _ _ _ _ _ { tmps := #[X0, .pointer (some ⟨B, 0, none⟩), X2, X3, X4, X5, X6, X7, X8, X9, X10, X11, X12, X13, X14, X15, X16, X17, X18, X19, X20, X21, X22, X23, X24, X25, X26, X27, X28, X29, X30, X31, X32, X33, X34, .pointer (some ⟨B, 2, none⟩), .slice A.aB t.bd.length A.cB, .int .i64 (t.bd.length : Int), .int .i64 ((t.bd.length : Int) + 1), .slice (some ⟨W.drew.heap.size, 0, none⟩) 0 (t.bd.length + 1), .pointer (some ⟨B, 2, none⟩), .slice A.aB t.bd.length A.cB, .slice ao1 t.bd.length c1, .agg #[.int .i64 (-7), .int .i64 0], .slice (some ⟨w2.heap.size, 0, none⟩) 1 1, .slice ao2 (t.bd.length + 1) c2, .pointer (some ⟨B, 2, none⟩), .slice A.aB t.bd.length A.cB, .int .i64 (t.bd.length : Int), .slice ao2 t.bd.length c2, Y50, X51], defers := [] } _
      refine wpAnyG_take (i := 15) (v := .pointer (some ⟨B, 2, none⟩)) rfl (by kernel_rfl) (by kernel_rfl) (by kernel_rfl) (by kernel_rfl) (fun _ _ _ h => by cases h.1) (.inl ⟨by rfl, fun w' hT => exec_field2 (by rfl) (by rfl)⟩) f4.fr ?_
      change wpAnyG _ _ _ _ _ _ _ _ { tmps := #[X0, .pointer (some ⟨B, 0, none⟩), X2, X3, X4, X5, X6, X7, X8, X9, X10, X11, X12, X13, X14, X15, X16, X17, X18, X19, X20, X21, X22, X23, X24, X25, X26, X27, X28, X29, X30, X31, X32, X33, X34, .pointer (some ⟨B, 2, none⟩), .slice A.aB t.bd.length A.cB, .int .i64 (t.bd.length : Int), .int .i64 ((t.bd.length : Int) + 1), .slice (some ⟨W.drew.heap.size, 0, none⟩) 0 (t.bd.length + 1), .pointer (some ⟨B, 2, none⟩), .slice A.aB t.bd.length A.cB, .slice ao1 t.bd.length c1, .agg #[.int .i64 (-7), .int .i64 0], .slice (some ⟨w2.heap.size, 0, none⟩) 1 1, .slice ao2 (t.bd.length + 1) c2, .pointer (some ⟨B, 2, none⟩), .slice A.aB t.bd.length A.cB, .int .i64 (t.bd.length : Int), .slice ao2 t.bd.length c2, .pointer (some ⟨B, 2, none⟩), X51], defers := [] } _
      refine wpAnyG_ready (rs := [16]) (by kernel_rfl) (by simp) (AllReadyG.skip rfl (by rfl) (exec_store2 (by rfl) (by rfl) (by rfl) (hld _ f4.fr) (hfz _ f4.fr)) (fun h => absurd rfl h) ?_ AllReadyG.nil)
      change wpAnyG _ _ _ _ _ _ _ _ { tmps := #[X0, .pointer (some ⟨B, 0, none⟩), X2, X3, X4, X5, X6, X7, X8, X9, X10, X11, X12, X13, X14, X15, X16, X17, X18, X19, X20, X21, X22, X23, X24, X25, X26, X27, X28, X29, X30, X31, X32, X33, X34, .pointer (some ⟨B, 2, none⟩), .slice A.aB t.bd.length A.cB, .int .i64 (t.bd.length : Int), .int .i64 ((t.bd.length : Int) + 1), .slice (some ⟨W.drew.heap.size, 0, none⟩) 0 (t.bd.length + 1), .pointer (some ⟨B, 2, none⟩), .slice A.aB t.bd.length A.cB, .slice ao1 t.bd.length c1, .agg #[.int .i64 (-7), .int .i64 0], .slice (some ⟨w2.heap.size, 0, none⟩) 1 1, .slice ao2 (t.bd.length + 1) c2, .pointer (some ⟨B, 2, none⟩), .slice A.aB t.bd.length A.cB, .int .i64 (t.bd.length : Int), .slice ao2 t.bd.length c2, .pointer (some ⟨B, 2, none⟩), X51], defers := [] } _
      refine wpAnyG_done (by kernel_rfl) ⟨rfl, hQ _ _ _ _ _ _ _ _ _ _ _ _ _ _ _ _ ao2 c2 g2 _ (TB.put (hb.keep f4.fr) 2 _ rfl) ?_ (Fr.setCell (S := fun q => q = B) (f4.fr.mono (fun _ _ t => t.elim)) (p := ⟨B, 2, none⟩) (fun _ => rfl) _)⟩ _
      rw [hVm]
      exact ⟨f4.row.stay (fun hc => Below.heap_setCell _ _ _ _ (by have h1 := f4.new; show g2 ≠ B; omega)), f4.new, f4.pos⟩
    · change wpAnyG _ _ _ _ _ _ _ _ { tmps := #[X0, .pointer (some ⟨B, 0, none⟩), X2, X3, X4, X5, X6, X7, X8, X9, X10, X11, X12, X13, X14, X15, X16, X17, X18, X19, X20, X21, X22, X23, X24, X25, X26, X27, X28, X29, X30, X31, X32, X33, X34, .pointer (some ⟨B, 2, none⟩), .slice A.aB t.bd.length A.cB, .int .i64 (t.bd.length : Int), .int .i64 ((t.bd.length : Int) + 1), .slice (some ⟨W.drew.heap.size, 0, none⟩) 0 (t.bd.length + 1), .pointer (some ⟨B, 2, none⟩), .slice A.aB t.bd.length A.cB, Y42, .agg #[.int .i64 (-7), .int .i64 0], .slice (some ⟨w1.heap.size, 0, none⟩) 1 1, Y45, .pointer (some ⟨B, 2, none⟩), .slice A.aB t.bd.length A.cB, .int .i64 (t.bd.length : Int), Y49, Y50, X51], defers := [] } _
      clear ha f2 r1 ao1 c1 w2 g1
      obtain ⟨ao1, c1, w2, g1, ha, f2, r1⟩ := f1a.append (P := Tryz.prog) (n := 0) 24 24 24 52 info _ (by omega) Tryz.underlying24 hi hz rfl hs rfl _ _ t.bd.length (hsrc _ f1a.fr) (by rw [hy]; omega) (by omega)
      rw [Nat.zero_add] at ha
      have hsm := src_new' w1 (bdC markB) 24 52 2 Tryz.underlying24 rfl hone (W := w2) (fun j => by rw [r1.cell (a := ⟨w1.heap.size, j, none⟩) (by rw [heap_alloc]; exact Nat.lt_succ_self _) (by have h1 := f1.row.lt (by omega) f1.pos; show ¬ w1.heap.size = W.drew.heap.size; omega), World.cell?_alloc_new]; simp [bdC, markB])
      obtain ⟨ao2, c2, w4, g2, hb2, f4, _⟩ := f2.append (P := Tryz.prog) (n := t.bd.length) 24 24 24 52 info _ (by omega) Tryz.underlying24 hi hz rfl hs hVl _ _ 1 hsm (by rw [hy]; exact hl) (by omega)
      refine wpAnyG_ready (rs := [7]) (by kernel_rfl) (by simp) (AllReadyG.value rfl (by rfl) (exec_append (by rfl) (by rfl) (by rfl) ha) (fun _ => f2.fr) ?_ AllReadyG.nil)
      change wpAnyG _ _ _ _ _ _ _ _ { tmps := #[X0, .pointer (some ⟨B, 0, none⟩), X2, X3, X4, X5, X6, X7, X8, X9, X10, X11, X12, X13, X14, X15, X16, X17, X18, X19, X20, X21, X22, X23, X24, X25, X26, X27, X28, X29, X30, X31, X32, X33, X34, .pointer (some ⟨B, 2, none⟩), .slice A.aB t.bd.length A.cB, .int .i64 (t.bd.length : Int), .int .i64 ((t.bd.length : Int) + 1), .slice (some ⟨W.drew.heap.size, 0, none⟩) 0 (t.bd.length + 1), .pointer (some ⟨B, 2, none⟩), .slice A.aB t.bd.length A.cB, .slice ao1 t.bd.length c1, .agg #[.int .i64 (-7), .int .i64 0], .slice (some ⟨w1.heap.size, 0, none⟩) 1 1, Y45, .pointer (some ⟨B, 2, none⟩), .slice A.aB t.bd.length A.cB, .int .i64 (t.bd.length : Int), Y49, Y50, X51], defers := [] } _
      refine wpAnyG_ready (rs := [10]) (by kernel_rfl) (by simp) (AllReadyG.value rfl (by rfl) (exec_append (by rfl) (by rfl) (by rfl) hb2) (fun _ => f4.fr) ?_ AllReadyG.nil)
      change wpAnyG _ _ _ _ _ _ _ _ { tmps := #[X0, .pointer (some ⟨B, 0, none⟩), X2, X3, X4, X5, X6, X7, X8, X9, X10, X11, X12, X13, X14, X15, X16, X17, X18, X19, X20, X21, X22, X23, X24, X25, X26, X27, X28, X29, X30, X31, X32, X33, X34, .pointer (some ⟨B, 2, none⟩), .slice A.aB t.bd.length A.cB, .int .i64 (t.bd.length : Int), .int .i64 ((t.bd.length : Int) + 1), .slice (some ⟨W.drew.heap.size, 0, none⟩) 0 (t.bd.length + 1), .pointer (some ⟨B, 2, none⟩), .slice A.aB t.bd.length A.cB, .slice ao1 t.bd.length c1, .agg #[.int .i64 (-7), .int .i64 0], .slice (some ⟨w1.heap.size, 0, none⟩) 1 1, .slice ao2 (t.bd.length + 1) c2, .pointer (some ⟨B, 2, none⟩), .slice A.aB t.bd.length A.cB, .int .i64 (t.bd.length : Int), Y49, Y50, X51], defers := [] } _
      have hc2 : t.bd.length + 1 ≤ c2 := by
        have h1 := f4.row.le
        rw [List.length_append, hVl] at h1
        have h2 : (bdC markB).length = 2 := rfl
        omega
      refine wpAnyG_take (i := 14) (v := .slice ao2 t.bd.length c2) rfl (by kernel_rfl) (by kernel_rfl) (by kernel_rfl) (by kernel_rfl) (fun _ _ _ h => by cases h.1) (.inl ⟨by rfl, fun w' hT => exec_cut2 (Nat.le_succ _) hc2 (f4.row.ad f4.pos) (by rfl) (by rfl) (by rfl)⟩) f4.fr ?_
      change wpAnyG _ _ _ _ _ _ _ _ { tmps := #[X0, .pointer (some ⟨B, 0, none⟩), X2, X3, X4, X5, X6, X7, X8, X9, X10, X11, X12, X13, X14, X15, X16, X17, X18, X19, X20, X21, X22, X23, X24, X25, X26, X27, X28, X29, X30, X31, X32, X33, X34, .pointer (some ⟨B, 2, none⟩), .slice A.aB t.bd.length A.cB, .int .i64 (t.bd.length : Int), .int .i64 ((t.bd.length : Int) + 1), .slice (some ⟨W.drew.heap.size, 0, none⟩) 0 (t.bd.length + 1), .pointer (some ⟨B, 2, none⟩), .slice A.aB t.bd.length A.cB, .slice ao1 t.bd.length c1, .agg #[.int .i64 (-7), .int .i64 0], .slice (some ⟨w1.heap.size, 0, none⟩) 1 1, .slice ao2 (t.bd.length + 1) c2, .pointer (some ⟨B, 2, none⟩), .slice A.aB t.bd.length A.cB, .int .i64 (t.bd.length : Int), .slice ao2 t.bd.length c2, Y50, X51], defers := [] } _
      refine wpAnyG_take (i := 15) (v := .pointer (some ⟨B, 2, none⟩)) rfl (by kernel_rfl) (by kernel_rfl) (by kernel_rfl) (by kernel_rfl) (fun _ _ _ h => by cases h.1) (.inl ⟨by rfl, fun w' hT => exec_field2 (by rfl) (by rfl)⟩) f4.fr ?_
      change wpAnyG _ _ _ _ _ _ _ _ { tmps := #[X0, .pointer (some ⟨B, 0, none⟩), X2, X3, X4, X5, X6, X7, X8, X9, X10, X11, X12, X13, X14, X15, X16, X17, X18, X19, X20, X21, X22, X23, X24, X25, X26, X27, X28, X29, X30, X31, X32, X33, X34, .pointer (some ⟨B, 2, none⟩), .slice A.aB t.bd.length A.cB, .int .i64 (t.bd.length : Int), .int .i64 ((t.bd.length : Int) + 1), .slice (some ⟨W.drew.heap.size, 0, none⟩) 0 (t.bd.length + 1), .pointer (some ⟨B, 2, none⟩), .slice A.aB t.bd.length A.cB, .slice ao1 t.bd.length c1, .agg #[.int .i64 (-7), .int .i64 0], .slice (some ⟨w1.heap.size, 0, none⟩) 1 1, .slice ao2 (t.bd.length + 1) c2, .pointer (some ⟨B, 2, none⟩), .slice A.aB t.bd.length A.cB, .int .i64 (t.bd.length : Int), .slice ao2 t.bd.length c2, .pointer (some ⟨B, 2, none⟩), X51], defers := [] } _
      refine wpAnyG_ready (rs := [16]) (by kernel_rfl) (by simp) (AllReadyG.skip rfl (by rfl) (exec_store2 (by rfl) (by rfl) (by rfl) (hld _ f4.fr) (hfz _ f4.fr)) (fun h => absurd rfl h) ?_ AllReadyG.nil)
      change wpAnyG _ _ _ _ _ _ _ _ { tmps := #[X0, .pointer (some ⟨B, 0, none⟩), X2, X3, X4, X5, X6, X7, X8, X9, X10, X11, X12, X13, X14, X15, X16, X17, X18, X19, X20, X21, X22, X23, X24, X25, X26, X27, X28, X29, X30, X31, X32, X33, X34, .pointer (some ⟨B, 2, none⟩), .slice A.aB t.bd.length A.cB, .int .i64 (t.bd.length : Int), .int .i64 ((t.bd.length : Int) + 1), .slice (some ⟨W.drew.heap.size, 0, none⟩) 0 (t.bd.length + 1), .pointer (some ⟨B, 2, none⟩), .slice A.aB t.bd.length A.cB, .slice ao1 t.bd.length c1, .agg #[.int .i64 (-7), .int .i64 0], .slice (some ⟨w1.heap.size, 0, none⟩) 1 1, .slice ao2 (t.bd.length + 1) c2, .pointer (some ⟨B, 2, none⟩), .slice A.aB t.bd.length A.cB, .int .i64 (t.bd.length : Int), .slice ao2 t.bd.length c2, .pointer (some ⟨B, 2, none⟩), X51], defers := [] } _
      refine wpAnyG_done (by kernel_rfl) ⟨rfl, hQ _ _ _ _ _ _ _ _ _ _ _ _ _ _ _ _ ao2 c2 g2 _ (TB.put (hb.keep f4.fr) 2 _ rfl) ?_ (Fr.setCell (S := fun q => q = B) (f4.fr.mono (fun _ _ t => t.elim)) (p := ⟨B, 2, none⟩) (fun _ => rfl) _)⟩ _
      rw [hVm]
      exact ⟨f4.row.stay (fun hc => Below.heap_setCell _ _ _ _ (by have h1 := f4.new; show g2 ≠ B; omega)), f4.new, f4.pos⟩
  · change wpAnyG _ _ _ _ _ _ _ _ { tmps := #[X0, .pointer (some ⟨B, 0, none⟩), X2, X3, X4, X5, X6, X7, X8, X9, X10, X11, X12, X13, X14, X15, X16, X17, X18, X19, X20, X21, X22, X23, X24, X25, X26, X27, X28, X29, X30, X31, X32, X33, X34, .pointer (some ⟨B, 2, none⟩), .slice A.aB t.bd.length A.cB, .int .i64 (t.bd.length : Int), .int .i64 ((t.bd.length : Int) + 1), Y39, .pointer (some ⟨B, 2, none⟩), .slice A.aB t.bd.length A.cB, Y42, .agg #[.int .i64 (-7), .int .i64 0], .slice (some ⟨W.drew.heap.size, 0, none⟩) 1 1, Y45, .pointer (some ⟨B, 2, none⟩), .slice A.aB t.bd.length A.cB, .int .i64 (t.bd.length : Int), Y49, Y50, X51], defers := [] } _
    clear hm f1 w1
    obtain ⟨w1, hm, f1⟩ := Fresh.make (P := Tryz.prog) (hT0.alloc (.cells #[.int .i64 (-7), .int .i64 0] 52)) 24 52 info _ 2 t.bd.length Tryz.underlying24 hi hz hs hfit hlen
    have r0 : Fr (fun _ => False) (W.drew.alloc (.cells #[.int .i64 (-7), .int .i64 0] 52)) w1 := by
      obtain ⟨w1', hm', f1'⟩ := Fresh.make (P := Tryz.prog) (Fr.refl (fun _ => False) (W.drew.alloc (.cells #[.int .i64 (-7), .int .i64 0] 52))) 24 52 info _ 2 t.bd.length Tryz.underlying24 hi hz hs hfit hlen
      rw [hm] at hm'
      injection hm' with _ hm'
      rw [hm']
      exact f1'.fr
    obtain ⟨ao1, c1, w2, g1, ha, f2, r1⟩ := f1.append (P := Tryz.prog) (n := 0) 24 24 24 52 info _ (by omega) Tryz.underlying24 hi hz rfl hs rfl _ _ t.bd.length (hsrc _ f1.fr) (by rw [hy]; omega) (by omega)
    rw [Nat.zero_add] at ha
    have hsm := src_new' W.drew (bdC markB) 24 52 2 Tryz.underlying24 rfl hone (W := w2) (fun j => by rw [r1.cell (a := ⟨W.drew.heap.size, j, none⟩) (by have h1 := f1.row.lt (by omega) f1.pos; rw [heap_alloc] at h1; show W.drew.heap.size < _; omega) (by show ¬ W.drew.heap.size = (W.drew.alloc (.cells #[.int .i64 (-7), .int .i64 0] 52)).heap.size; rw [heap_alloc]; omega), r0.cell (a := ⟨W.drew.heap.size, j, none⟩) (by rw [heap_alloc]; exact Nat.lt_succ_self _) (fun t => t), World.cell?_alloc_new]; simp [bdC, markB])
    obtain ⟨ao2, c2, w4, g2, hb2, f4, _⟩ := f2.append (P := Tryz.prog) (n := t.bd.length) 24 24 24 52 info _ (by omega) Tryz.underlying24 hi hz rfl hs hVl _ _ 1 hsm (by rw [hy]; exact hl) (by omega)
    refine wpAnyG_ready (rs := [4]) (by kernel_rfl) (by simp) (AllReadyG.value rfl (by rfl) (exec_make (by rfl) (by rfl) (by rfl) hm) (fun _ => f1.fr) ?_ AllReadyG.nil)
    change wpAnyG _ _ _ _ _ _ _ _ { tmps := #[X0, .pointer (some ⟨B, 0, none⟩), X2, X3, X4, X5, X6, X7, X8, X9, X10, X11, X12, X13, X14, X15, X16, X17, X18, X19, X20, X21, X22, X23, X24, X25, X26, X27, X28, X29, X30, X31, X32, X33, X34, .pointer (some ⟨B, 2, none⟩), .slice A.aB t.bd.length A.cB, .int .i64 (t.bd.length : Int), .int .i64 ((t.bd.length : Int) + 1), .slice (some ⟨(W.drew.alloc (.cells #[.int .i64 (-7), .int .i64 0] 52)).heap.size, 0, none⟩) 0 (t.bd.length + 1), .pointer (some ⟨B, 2, none⟩), .slice A.aB t.bd.length A.cB, Y42, .agg #[.int .i64 (-7), .int .i64 0], .slice (some ⟨W.drew.heap.size, 0, none⟩) 1 1, Y45, .pointer (some ⟨B, 2, none⟩), .slice A.aB t.bd.length A.cB, .int .i64 (t.bd.length : Int), Y49, Y50, X51], defers := [] } _
    refine wpAnyG_ready (rs := [7]) (by kernel_rfl) (by simp) (AllReadyG.value rfl (by rfl) (exec_append (by rfl) (by rfl) (by rfl) ha) (fun _ => f2.fr) ?_ AllReadyG.nil)
    change wpAnyG _ _ _ _ _ _ _ _ { tmps := #[X0, .pointer (some ⟨B, 0, none⟩), X2, X3, X4, X5, X6, X7, X8, X9, X10, X11, X12, X13, X14, X15, X16, X17, X18, X19, X20, X21, X22, X23, X24, X25, X26, X27, X28, X29, X30, X31, X32, X33, X34, .pointer (some ⟨B, 2, none⟩), .slice A.aB t.bd.length A.cB, .int .i64 (t.bd.length : Int), .int .i64 ((t.bd.length : Int) + 1), .slice (some ⟨(W.drew.alloc (.cells #[.int .i64 (-7), .int .i64 0] 52)).heap.size, 0, none⟩) 0 (t.bd.length + 1), .pointer (some ⟨B, 2, none⟩), .slice A.aB t.bd.length A.cB, .slice ao1 t.bd.length c1, .agg #[.int .i64 (-7), .int .i64 0], .slice (some ⟨W.drew.heap.size, 0, none⟩) 1 1, Y45, .pointer (some ⟨B, 2, none⟩), .slice A.aB t.bd.length A.cB, .int .i64 (t.bd.length : Int), Y49, Y50, X51], defers := [] } _
    refine wpAnyG_ready (rs := [10]) (by kernel_rfl) (by simp) (AllReadyG.value rfl (by rfl) (exec_append (by rfl) (by rfl) (by rfl) hb2) (fun _ => f4.fr) ?_ AllReadyG.nil)
    change wpAnyG _ _ _ _ _ _ _ _ { tmps := #[X0, .pointer (some ⟨B, 0, none⟩), X2, X3, X4, X5, X6, X7, X8, X9, X10, X11, X12, X13, X14, X15, X16, X17, X18, X19, X20, X21, X22, X23, X24, X25, X26, X27, X28, X29, X30, X31, X32, X33, X34, .pointer (some ⟨B, 2, none⟩), .slice A.aB t.bd.length A.cB, .int .i64 (t.bd.length : Int), .int .i64 ((t.bd.length : Int) + 1), .slice (some ⟨(W.drew.alloc (.cells #[.int .i64 (-7), .int .i64 0] 52)).heap.size, 0, none⟩) 0 (t.bd.length + 1), .pointer (some ⟨B, 2, none⟩), .slice A.aB t.bd.length A.cB, .slice ao1 t.bd.length c1, .agg #[.int .i64 (-7), .int .i64 0], .slice (some ⟨W.drew.heap.size, 0, none⟩) 1 1, .slice ao2 (t.bd.length + 1) c2, .pointer (some ⟨B, 2, none⟩), .slice A.aB t.bd.length A.cB, .int .i64 (t.bd.length : Int), Y49, Y50, X51], defers := [] } _
    have hc2 : t.bd.length + 1 ≤ c2 := by
      have h1 := f4.row.le
      rw [List.length_append, hVl] at h1
      have h2 : (bdC markB).length = 2 := rfl
      omega
    refine wpAnyG_take (i := 14) (v := .slice ao2 t.bd.length c2) rfl (by kernel_rfl) (by kernel_rfl) (by kernel_rfl) (by kernel_rfl) (fun _ _ _ h => by cases h.1) (.inl ⟨by rfl, fun w' hT => exec_cut2 (Nat.le_succ _) hc2 (f4.row.ad f4.pos) (by rfl) (by rfl) (by rfl)⟩) f4.fr ?_
    change wpAnyG _ _ _ _ _ _ _ _ { tmps := #[X0, .pointer (some ⟨B, 0, none⟩), X2, X3, X4, X5, X6, X7, X8, X9, X10, X11, X12, X13, X14, X15, X16, X17, X18, X19, X20, X21, X22, X23, X24, X25, X26, X27, X28, X29, X30, X31, X32, X33, X34, .pointer (some ⟨B, 2, none⟩), .slice A.aB t.bd.length A.cB, .int .i64 (t.bd.length : Int), .int .i64 ((t.bd.length : Int) + 1), .slice (some ⟨(W.drew.alloc (.cells #[.int .i64 (-7), .int .i64 0] 52)).heap.size, 0, none⟩) 0 (t.bd.length + 1), .pointer (some ⟨B, 2, none⟩), .slice A.aB t.bd.length A.cB, .slice ao1 t.bd.length c1, .agg #[.int .i64 (-7), .int .i64 0], .slice (some ⟨W.drew.heap.size, 0, none⟩) 1 1, .slice ao2 (t.bd.length + 1) c2, .pointer (some ⟨B, 2, none⟩), .slice A.aB t.bd.length A.cB, .int .i64 (t.bd.length : Int), .slice ao2 t.bd.length c2, Y50, X51], defers := [] } _
    refine wpAnyG_take (i := 15) (v := .pointer (some ⟨B, 2, none⟩)) rfl (by kernel_rfl) (by kernel_rfl) (by kernel_rfl) (by kernel_rfl) (fun _ _ _ h => by cases h.1) (.inl ⟨by rfl, fun w' hT => exec_field2 (by rfl) (by rfl)⟩) f4.fr ?_
    change wpAnyG _ _ _ _ _ _ _ _ { tmps := #[X0, .pointer (some ⟨B, 0, none⟩), X2, X3, X4, X5, X6, X7, X8, X9, X10, X11, X12, X13, X14, X15, X16, X17, X18, X19, X20, X21, X22, X23, X24, X25, X26, X27, X28, X29, X30, X31, X32, X33, X34, .pointer (some ⟨B, 2, none⟩), .slice A.aB t.bd.length A.cB, .int .i64 (t.bd.length : Int), .int .i64 ((t.bd.length : Int) + 1), .slice (some ⟨(W.drew.alloc (.cells #[.int .i64 (-7), .int .i64 0] 52)).heap.size, 0, none⟩) 0 (t.bd.length + 1), .pointer (some ⟨B, 2, none⟩), .slice A.aB t.bd.length A.cB, .slice ao1 t.bd.length c1, .agg #[.int .i64 (-7), .int .i64 0], .slice (some ⟨W.drew.heap.size, 0, none⟩) 1 1, .slice ao2 (t.bd.length + 1) c2, .pointer (some ⟨B, 2, none⟩), .slice A.aB t.bd.length A.cB, .int .i64 (t.bd.length : Int), .slice ao2 t.bd.length c2, .pointer (some ⟨B, 2, none⟩), X51], defers := [] } _
    refine wpAnyG_ready (rs := [16]) (by kernel_rfl) (by simp) (AllReadyG.skip rfl (by rfl) (exec_store2 (by rfl) (by rfl) (by rfl) (hld _ f4.fr) (hfz _ f4.fr)) (fun h => absurd rfl h) ?_ AllReadyG.nil)
    change wpAnyG _ _ _ _ _ _ _ _ { tmps := #[X0, .pointer (some ⟨B, 0, none⟩), X2, X3, X4, X5, X6, X7, X8, X9, X10, X11, X12, X13, X14, X15, X16, X17, X18, X19, X20, X21, X22, X23, X24, X25, X26, X27, X28, X29, X30, X31, X32, X33, X34, .pointer (some ⟨B, 2, none⟩), .slice A.aB t.bd.length A.cB, .int .i64 (t.bd.length : Int), .int .i64 ((t.bd.length : Int) + 1), .slice (some ⟨(W.drew.alloc (.cells #[.int .i64 (-7), .int .i64 0] 52)).heap.size, 0, none⟩) 0 (t.bd.length + 1), .pointer (some ⟨B, 2, none⟩), .slice A.aB t.bd.length A.cB, .slice ao1 t.bd.length c1, .agg #[.int .i64 (-7), .int .i64 0], .slice (some ⟨W.drew.heap.size, 0, none⟩) 1 1, .slice ao2 (t.bd.length + 1) c2, .pointer (some ⟨B, 2, none⟩), .slice A.aB t.bd.length A.cB, .int .i64 (t.bd.length : Int), .slice ao2 t.bd.length c2, .pointer (some ⟨B, 2, none⟩), X51], defers := [] } _
    refine wpAnyG_done (by kernel_rfl) ⟨rfl, hQ _ _ _ _ _ _ _ _ _ _ _ _ _ _ _ _ ao2 c2 g2 _ (TB.put (hb.keep f4.fr) 2 _ rfl) ?_ (Fr.setCell (S := fun q => q = B) (f4.fr.mono (fun _ _ t => t.elim)) (p := ⟨B, 2, none⟩) (fun _ => rfl) _)⟩ _
    rw [hVm]
    exact ⟨f4.row.stay (fun hc => Below.heap_setCell _ _ _ _ (by have h1 := f4.new; show g2 ≠ B; omega)), f4.new, f4.pos⟩

end Go.Proofs.YtkjoojamkbpfcaaGreat

/- The law's own Lent. -/
namespace Go.Proofs.YtkjoojamkbpfcaaGreat
open Go.RowKit

/-- A lent tariff. -/
structure Lt (w w' : World) (A' : Ad) (t : Tf) (gS gP gB : Nat) : Prop where
  oS : OwnT w w' A'.aS A'.cS gS 3 (stV (t.st ++ [markS]))
  oP : OwnT w w' A'.aP A'.cP gP 5 (spV (t.sp ++ [markP]))
  oB : OwnT w w' A'.aB A'.cB gB 2 (bdV (t.bd ++ [markB]))
  n1 : gS ≠ gP
  n2 : gS ≠ gB
  n3 : gP ≠ gB
  fr : Fr (fun _ => False) w w'

theorem CAt.old {w w' : World} {ao : Option Addr} {vs : List Value} {S : Nat → Prop} (h : CAt w ao vs) (hf : Fr S w w') (hS : ∀ q, q < w.heap.size → ¬ S q) : CAt w' ao vs :=
  fun hl => by
    obtain ⟨b, off, e, hc⟩ := h hl
    exact ⟨b, off, e, fun j hj => (hf.cell (a := ⟨b, off + j, none⟩) (World.block_lt_of_cell? _ _ (hc j hj)) (hS _ (World.block_lt_of_cell? _ _ (hc j hj)))).trans (hc j hj)⟩

set_option maxHeartbeats 2000000 in
set_option maxRecDepth 100000 in
theorem lent_anyT (w : World) (A : Ad) (t : Tf) (h : TAt w A t) : Calls Tryz.prog 5 #[tv A t] w fun e w' => ∃ A' gS gP gB, e = .returned (tv A' t) ∧ Lt w w' A' t gS gP gB := by
  obtain ⟨B, HBE⟩ : ∃ B, Hid (B = w.heap.size) := ⟨_, rfl⟩
  obtain ⟨W0, hW0⟩ : ∃ W0, W0 = (w.alloc (.cells (tc A t) 27)).alloc (.cells #[.slice none 0 0, .slice none 0 0, .slice none 0 0, .float .f64 0, .int .i64 0, .int .i64 0, .int .i64 0, .int .i64 0, .int .i64 0, .int .i64 0, .int .i64 0, .int .i64 0, .int .i64 0, .int .i64 0] 27) := ⟨_, rfl⟩
  have hF0 : Fr (fun q => q = B) w W0 := by rw [hW0]; exact ((Fr.refl _ w).alloc _).alloc _
  have hb0 : TB W0 B A t := by rw [hW0, unhide HBE]; exact (TB.new w A t).keep ((Fr.refl _ _).alloc _)
  have hG0 : W0.heap[B + 1]? = some (.cells #[.slice none 0 0, .slice none 0 0, .slice none 0 0, .float .f64 0, .int .i64 0, .int .i64 0, .int .i64 0, .int .i64 0, .int .i64 0, .int .i64 0, .int .i64 0, .int .i64 0, .int .i64 0, .int .i64 0] 27 (0, 0)) := by rw [hW0, unhide HBE, ← heap_alloc w (.cells (tc A t) 27)]; exact heap_new _ _
  have hN : ∀ q, q < w.heap.size → ¬ q = B := fun q hq => by rw [unhide HBE]; omega
  have HS := hide (And.intro hF0 (And.intro hb0 hG0))
  have H := hide h
  have HN := hide hN
  clear hF0 hb0 h hG0 hN
  unfold tc at hW0
  unfold tv tc
  go_enter Tryz.func5, Tryz.ntmps5
  go_wp2_with fail
  rw [← hW0, ← unhide HBE]
  clear hW0
  refine lent_region0 W0 B A t (unhide HS).2.1 ((unhide H).st.old (unhide HS).1 (unhide HN)) (unhide H).lS _ _ _ _ _ _ _ _ _ _ _ _ _ _ _ _ _ _ _ _ _ _ _ _ _ _ _ _ _ _ _ _ _ _ _ _ _ _ _ _ _ _ _ _ _ _ _ _ _ _ _ ?_
  intro u3 u4 u5 u6 u7 u8 u9 u10 u11 u12 u13 u14 u15 u16 u17 u18 ao0 cap0 g0 W1 hb1 ho0 hf1
  have HS1 : Hid (Fr (fun q => q = B) w W1 ∧ TB W1 B { A with aS := ao0, cS := cap0 } t ∧ W1.heap[B + 1]? = some (.cells #[.slice none 0 0, .slice none 0 0, .slice none 0 0, .float .f64 0, .int .i64 0, .int .i64 0, .int .i64 0, .int .i64 0, .int .i64 0, .int .i64 0, .int .i64 0, .int .i64 0, .int .i64 0, .int .i64 0] 27 (0, 0)) ∧ OwnT W0 W1 ao0 cap0 g0 3 (stV (t.st ++ [markS]))) := hide ⟨(unhide HS).1.trans hf1 (fun _ _ t => t), hb1, (hf1.block _ ((Array.getElem?_eq_some_iff.1 (unhide HS).2.2).1) (by omega)).trans (unhide HS).2.2, ho0⟩
  have HW1 := hide hf1.size
  clear hb1 ho0 hf1
  go_wp2_with fail
  refine lent_region1 W1 B { A with aS := ao0, cS := cap0 } t (unhide HS1).2.1 ((unhide H).sp.old (unhide HS1).1 (unhide HN)) (unhide H).lP _ _ _ _ _ _ _ _ _ _ _ _ _ _ _ _ _ _ _ _ _ _ _ _ _ _ _ _ _ _ _ _ _ _ _ _ _ _ _ _ _ _ _ _ _ _ _ _ _ _ _ ?_
  intro u19 u20 u21 u22 u23 u24 u25 u26 u27 u28 u29 u30 u31 u32 u33 u34 ao1 cap1 g1 W2 hb2 ho1 hf2
  have HS2 : Hid (Fr (fun q => q = B) w W2 ∧ TB W2 B { A with aS := ao0, cS := cap0, aP := ao1, cP := cap1 } t ∧ W2.heap[B + 1]? = some (.cells #[.slice none 0 0, .slice none 0 0, .slice none 0 0, .float .f64 0, .int .i64 0, .int .i64 0, .int .i64 0, .int .i64 0, .int .i64 0, .int .i64 0, .int .i64 0, .int .i64 0, .int .i64 0, .int .i64 0] 27 (0, 0)) ∧ OwnT W0 W2 ao0 cap0 g0 3 (stV (t.st ++ [markS])) ∧ OwnT W1 W2 ao1 cap1 g1 5 (spV (t.sp ++ [markP]))) := hide ⟨(unhide HS1).1.trans hf2 (fun _ _ t => t), hb2, (hf2.block _ ((Array.getElem?_eq_some_iff.1 (unhide HS1).2.2.1).1) (by omega)).trans (unhide HS1).2.2.1, (unhide HS1).2.2.2.frame (by omega) hf2 (by have h1 := (unhide HS1).2.2.2.new; have h2 := (unhide HS).2.1.lt; omega), ho1⟩
  have HW2 := hide hf2.size
  clear hb2 ho1 hf2
  go_wp2_with fail
  refine lent_region2 W2 B { A with aS := ao0, cS := cap0, aP := ao1, cP := cap1 } t (unhide HS2).2.1 ((unhide H).bd.old (unhide HS2).1 (unhide HN)) (unhide H).lB _ _ _ _ _ _ _ _ _ _ _ _ _ _ _ _ _ _ _ _ _ _ _ _ _ _ _ _ _ _ _ _ _ _ _ _ _ _ _ _ _ _ _ _ _ _ _ _ _ _ _ ?_
  intro u35 u36 u37 u38 u39 u40 u41 u42 u43 u44 u45 u46 u47 u48 u49 u50 ao2 cap2 g2 W3 hb3 ho2 hf3
  have HS3 : Hid (Fr (fun q => q = B) w W3 ∧ TB W3 B { A with aS := ao0, cS := cap0, aP := ao1, cP := cap1, aB := ao2, cB := cap2 } t ∧ W3.heap[B + 1]? = some (.cells #[.slice none 0 0, .slice none 0 0, .slice none 0 0, .float .f64 0, .int .i64 0, .int .i64 0, .int .i64 0, .int .i64 0, .int .i64 0, .int .i64 0, .int .i64 0, .int .i64 0, .int .i64 0, .int .i64 0] 27 (0, 0)) ∧ OwnT W0 W3 ao0 cap0 g0 3 (stV (t.st ++ [markS])) ∧ OwnT W1 W3 ao1 cap1 g1 5 (spV (t.sp ++ [markP])) ∧ OwnT W2 W3 ao2 cap2 g2 2 (bdV (t.bd ++ [markB]))) := hide ⟨(unhide HS2).1.trans hf3 (fun _ _ t => t), hb3, (hf3.block _ ((Array.getElem?_eq_some_iff.1 (unhide HS2).2.2.1).1) (by omega)).trans (unhide HS2).2.2.1, (unhide HS2).2.2.2.1.frame (by omega) hf3 (by have h1 := (unhide HS2).2.2.2.1.new; have h2 := (unhide HS).2.1.lt; omega), (unhide HS2).2.2.2.2.frame (by omega) hf3 (by have h1 := (unhide HS2).2.2.2.2.new; have h2 := (unhide HS1).2.1.lt; omega), ho2⟩
  clear hb3 ho2 hf3
  go_wp2_with (first | refine wpList_load_tariff rfl (.tmp 1) rfl (g := B) (A := { A with aS := ao0, cS := cap0, aP := ao1, cP := cap1, aB := ao2, cB := cap2 }) (t := t) rfl (unhide HS3).2.1 ?_ | refine wpList_store_tariff rfl (.tmp 2) (.tmp 51) rfl (g := B + 1) (A := { A with aS := ao0, cS := cap0, aP := ao1, cP := cap1, aB := ao2, cB := cap2 }) (t := t) rfl rfl _ (unhide HS3).2.2.1 rfl ?_)
  refine bodyPost_ret (results_tariff rfl _ _ (g := B + 1) (A := { A with aS := ao0, cS := cap0, aP := ao1, cP := cap1, aB := ao2, cB := cap2 }) (t := t) rfl (TB.set (unhide HS3).2.2.1 _ _)) rfl ⟨_, g0, g1, g2, rfl, ?_⟩
  obtain ⟨k1, k2, k3, k4, k5, k6⟩ := unhide HS3
  have hs := (Fr.refl (fun q => q = B + 1) W3).setRow (g := B + 1) (fun _ => rfl) (tc { A with aS := ao0, cS := cap0, aP := ao1, cP := cap1, aB := ao2, cB := cap2 } t)
  have e1 := (Array.getElem?_eq_some_iff.1 (unhide HS).2.2).1
  have e2 := unhide HW1
  have e3 := unhide HW2
  have a1 := k4.new
  have a2 := k5.new
  have a3 := k6.new
  have b1 := (unhide HS1).2.2.2.row.lt (by omega) (unhide HS1).2.2.2.pos
  have b2 := (unhide HS2).2.2.2.2.row.lt (by omega) (unhide HS2).2.2.2.2.pos
  have eB := unhide HBE
  have o1 := k4.frame (by omega) hs (by omega)
  have o2 := k5.frame (by omega) hs (by omega)
  have o3 := k6.frame (by omega) hs (by omega)
  refine ⟨⟨o1.row, by omega, o1.pos⟩, ⟨o2.row, by omega, o2.pos⟩, ⟨o3.row, by omega, o3.pos⟩, by omega, by omega, by omega, ?_⟩
  exact (k1.mono (T := fun _ => False) (fun q hq e => by omega)).trans hs (fun q hq e => by omega)

end Go.Proofs.YtkjoojamkbpfcaaGreat

/- The law's own Kept: a lent tariff is as it was, and its marks are; then its owner writes over it. -/
namespace Go.Proofs.YtkjoojamkbpfcaaGreat
open Go.RowKit

def Room (w : World) (g m : Nat) : Prop := ∀ j, j < m → (∃ v, w.cell? ⟨g, j, none⟩ = some v) ∧ w.frozen? ⟨g, j, none⟩ = false

theorem KRow.room' {w : World} {ao : Option Addr} {cap g k : Nat} {vs : List Value} (h : KRow w ao cap g k vs) : Room w g (cap * k) := fun j hj => ⟨Option.isSome_iff_exists.1 (h.room j hj).1, (h.room j hj).2⟩

theorem Room.frame {S : Nat → Prop} {w w' : World} {g m : Nat} (h : Room w g m) (hf : Fr S w w') (hS : ¬ S g) : Room w' g m := fun j hj => by
  obtain ⟨⟨v, hv⟩, hz⟩ := h j hj
  have hlt := World.block_lt_of_cell? _ _ hv
  exact ⟨⟨v, (hf.cell hlt hS).trans hv⟩, (hf.frozen (a := ⟨g, j, none⟩) hlt hS).trans hz⟩

theorem Room.set {w : World} {g m : Nat} (h : Room w g m) (i : Nat) (v : Value) : Room (w.setCell ⟨g, i, none⟩ v) g m := fun j hj => by
  obtain ⟨⟨u, hu⟩, hz⟩ := h j hj
  refine ⟨?_, by rw [World.frozen?_setCell]; exact hz⟩
  by_cases e : j = i
  · subst e; exact ⟨v, World.cell?_setCell_same _ _ _ hu⟩
  · exact ⟨u, by rw [World.cell?_setCell_other _ _ _ _ (by intro hh; injection hh with _ h2; exact e h2.symm)]; exact hu⟩

theorem Room.any {w : World} {g m : Nat} (h : Room w g m) (b i : Nat) (v : Value) : Room (w.setCell ⟨b, i, none⟩ v) g m := by
  by_cases e : b = g
  · subst e; exact h.set i v
  · exact h.frame (S := fun q => q = b) (Fr.setCell (S := fun q => q = b) (Fr.refl _ w) (p := ⟨b, i, none⟩) (fun _ => rfl) v) (fun t => e t.symm)

/-- Three of them. -/
def R3 (w : World) (gS gP gB mS mP mB : Nat) : Prop := Room w gS mS ∧ Room w gP mP ∧ Room w gB mB
theorem R3.any {w : World} {gS gP gB mS mP mB : Nat} (h : R3 w gS gP gB mS mP mB) (b i : Nat) (v : Value) : R3 (w.setCell ⟨b, i, none⟩ v) gS gP gB mS mP mB := ⟨h.1.any b i v, h.2.1.any b i v, h.2.2.any b i v⟩

/-- The mark behind a list. -/
theorem mark_at {α : Type} (f : α → List Value) (k : Nat) (hf : ∀ x, (f x).length = k) (hk : 0 < k) (l : List α) (x : α) {w : World} {ao : Option Addr} {cap g : Nat} (h : KRow w ao cap g k ((l ++ [x]).flatMap f)) {v : Value} (hv : (f x)[0]? = some v) : w.cell? ⟨g, l.length * k, none⟩ = some v := by
  have h1 := flat_get f k hf (l ++ [x]) l.length (by simp) 0 hk
  rw [Nat.add_zero] at h1
  have hl := flat_length f k hf (l ++ [x])
  rw [List.length_append, Nat.add_mul] at hl
  simp only [List.length_cons, List.length_nil, Nat.zero_add, Nat.one_mul] at hl
  have h2 := h.cells (l.length * k) (by omega)
  rw [h2]
  rw [List.getElem?_eq_getElem (by omega)] at h1
  rw [h1]
  simp only [List.getElem_concat_length]
  exact hv

theorem OwnT.cat {w0 w : World} {ao : Option Addr} {cap g k : Nat} {vs us : List Value} (h : OwnT w0 w ao cap g k (vs ++ us)) : CAt w ao vs := fun hl => by
  refine ⟨g, 0, h.row.ad h.pos, fun j hj => ?_⟩
  rw [Nat.zero_add, h.row.cells j (by rw [List.length_append]; omega), List.getElem_append_left hj]

theorem Lt.tat {w w' : World} {A A' : Ad} {t : Tf} {gS gP gB : Nat} (h : Lt w w' A' t gS gP gB) (hT : TAt w A t) : TAt w' A' t :=
  ⟨OwnT.cat (us := stC markS) (by have := h.oS; simpa [stV] using this), OwnT.cat (us := spC markP) (by have := h.oP; simpa [spV] using this), OwnT.cat (us := bdC markB) (by have := h.oB; simpa [bdV] using this), hT.lS, hT.lP, hT.lB, hT.off⟩

/-- What Kept wants of a lent tariff, in whatever later world. -/
structure Kp (w : World) (A' : Ad) (t : Tf) (gS gP gB : Nat) : Prop where
  rS : KRow w A'.aS A'.cS gS 3 (stV (t.st ++ [markS]))
  rP : KRow w A'.aP A'.cP gP 5 (spV (t.sp ++ [markP]))
  rB : KRow w A'.aB A'.cB gB 2 (bdV (t.bd ++ [markB]))
  pS : 0 < A'.cS
  pP : 0 < A'.cP
  pB : 0 < A'.cB
  n1 : gS ≠ gP
  n2 : gS ≠ gB
  n3 : gP ≠ gB

theorem Lt.kp {w w' : World} {A' : Ad} {t : Tf} {gS gP gB : Nat} (h : Lt w w' A' t gS gP gB) : Kp w' A' t gS gP gB := ⟨h.oS.row, h.oP.row, h.oB.row, h.oS.pos, h.oP.pos, h.oB.pos, h.n1, h.n2, h.n3⟩
theorem Kp.keep {w w' : World} {A' : Ad} {t : Tf} {gS gP gB : Nat} (h : Kp w A' t gS gP gB) (hf : Fr (fun _ => False) w w') : Kp w' A' t gS gP gB := ⟨h.rS.keep (by omega) hf, h.rP.keep (by omega) hf, h.rB.keep (by omega) hf, h.pS, h.pP, h.pB, h.n1, h.n2, h.n3⟩

set_option maxHeartbeats 4000000 in
set_option maxRecDepth 100000 in
theorem kept_anyT (w : World) (A' A : Ad) (t : Tf) (gS gP gB : Nat) (h' : TAt w A' t) (h : TAt w A t) (hk : Kp w A' t gS gP gB) :
    Calls Tryz.prog 7 #[tv A' t, tv A t] w fun e w' => e = .returned (.bool true) ∧ Fr (fun q => q = gS ∨ q = gP ∨ q = gB) w w' := by
  obtain ⟨B, hB⟩ : ∃ B, w.heap.size = B := ⟨_, rfl⟩
  obtain ⟨W0, hW0⟩ : ∃ W0, W0 = (w.alloc (.cells (tc A' t) 27)).alloc (.cells (tc A t) 27) := ⟨_, rfl⟩
  have HF0 : Hid (Fr (fun _ => False) w W0) := hide (by rw [hW0]; exact ((Fr.refl _ w).alloc _).alloc _)
  have HB0 : Hid (TB W0 B A' t) := hide (by rw [hW0, ← hB]; exact (TB.new w A' t).keep ((Fr.refl _ _).alloc _))
  have HB1 : Hid (TB W0 (B + 1) A t) := hide (by rw [hW0, ← hB, ← heap_alloc w (.cells (tc A' t) 27)]; exact TB.new _ A t)
  have R := same_anyT W0 A' A t (h'.keep (unhide HF0)) (h.keep (unhide HF0))
  have HK := hide (hk.keep (unhide HF0))
  have lS := h.lS
  have lP := h.lP
  have lB := h.lB
  have hgw : gS < w.heap.size ∧ gP < w.heap.size ∧ gB < w.heap.size := ⟨hk.rS.lt (by omega) hk.pS, hk.rP.lt (by omega) hk.pP, hk.rB.lt (by omega) hk.pB⟩
  rw [hB] at hgw
  have HGW := hide hgw
  clear h h' hk hgw
  unfold tv
  go_enter Tryz.func7, Tryz.ntmps7
  go_wp2_with (first | refine wpList_load_tariff rfl (.tmp 2) rfl (g := B) (A := A') (t := t) rfl (by rw [← hW0]; exact unhide HB0) ?_ | refine wpList_load_tariff rfl (.tmp 3) rfl (g := B + 1) (A := A) (t := t) rfl (by rw [← hW0]; exact unhide HB1) ?_)
  rw [← hW0]
  refine R.mono ?_
  rintro e w1 ⟨rfl, hF⟩
  have HF1 := hide ((unhide HF0).trans hF (fun _ _ t => t))
  have HB := hide ((unhide HB0).keep hF)
  have HK1 := hide ((unhide HK).keep hF)
  clear R hF HB0 HB1 HK HF0 hW0
  obtain ⟨aS, cS, aP, cP, aB, cB⟩ := A'
  have eS := (unhide HK1).rS.ad (unhide HK1).pS
  have eP := (unhide HK1).rP.ad (unhide HK1).pP
  have eBb := (unhide HK1).rB.ad (unhide HK1).pB
  simp only at eS eP eBb
  subst eS eP eBb
  have cc0 : w1.cell? ⟨B, 0, none⟩ = some (.slice (some ⟨gS, 0, none⟩) t.st.length cS) := (unhide HB).cell 0
  have cc1 : w1.cell? ⟨B, 1, none⟩ = some (.slice (some ⟨gP, 0, none⟩) t.sp.length cP) := (unhide HB).cell 1
  have cc2 : w1.cell? ⟨B, 2, none⟩ = some (.slice (some ⟨gB, 0, none⟩) t.bd.length cB) := (unhide HB).cell 2
  have mS : w1.cell? ⟨gS, t.st.length * 3, none⟩ = some (.int .i64 (-7)) := mark_at stC 3 (fun _ => rfl) (by omega) t.st markS (unhide HK1).rS rfl
  have mP : w1.cell? ⟨gP, t.sp.length * 5, none⟩ = some (.int .i64 (-7)) := mark_at spC 5 (fun _ => rfl) (by omega) t.sp markP (unhide HK1).rP rfl
  have mB : w1.cell? ⟨gB, t.bd.length * 2, none⟩ = some (.int .i64 (-7)) := mark_at bdC 2 (fun _ => rfl) (by omega) t.bd markB (unhide HK1).rB rfl
  have rS := (unhide HK1).rS.room'
  have rP := (unhide HK1).rP.room'
  have rB := (unhide HK1).rB.room'
  have qS : t.st.length + 1 ≤ cS := by have := (unhide HK1).rS.le; rw [stV_length, List.length_append] at this; simp at this; omega
  have qP : t.sp.length + 1 ≤ cP := by have := (unhide HK1).rP.le; rw [spV_length, List.length_append] at this; simp at this; omega
  have qB : t.bd.length + 1 ≤ cB := by have := (unhide HK1).rB.le; rw [bdV_length, List.length_append] at this; simp at this; omega
  have HR := hide (And.intro rS (And.intro rP rB))
  have HNN := hide (And.intro (unhide HK1).n1 (And.intro (unhide HK1).n2 (unhide HK1).n3))
  simp only at HR
  clear rS rP rB HK1 HB
  go_wp2
  clear cc0 cc1 cc2 mS mP mB
  go_loopw [10] (fun iv wq => ∃ (i : Nat), i ≤ t.st.length + 1 ∧ iv = .int .i64 i ∧ Hid (Fr (fun q => q = gS ∨ q = gP ∨ q = gB) w1 wq ∧ R3 wq gS gP gB (cS * 3) (cP * 5) (cB * 2))) (fun iv _ => t.st.length + 1 - (intOf iv).toNat)
  case atStart => exact ⟨0, Nat.zero_le _, rfl, hide ⟨Fr.refl _ _, unhide HR⟩⟩
  case round =>
    obtain ⟨i, hi, rfl, HI0⟩ := hrel
    by_cases hil : i < t.st.length + 1
    · have hm : i * 3 + 3 ≤ cS * 3 := by omega
      obtain ⟨⟨z0, a0⟩, f0⟩ := (unhide HI0).2.1 (i * 3) (by omega)
      obtain ⟨⟨z1, a1⟩, f1⟩ := (unhide HI0).2.1 (i * 3 + 1) (by omega)
      obtain ⟨⟨z2, a2⟩, f2⟩ := (unhide HI0).2.1 (i * 3 + 2) (by omega)
      have HN := hide (And.intro ((((unhide HI0).1.setCell (p := ⟨gS, i * 3, none⟩) (fun _ => by simp) (.int .i64 (-9))).setCell (p := ⟨gS, i * 3 + 1, none⟩) (fun _ => by simp) (.int .i64 0)).setCell (p := ⟨gS, i * 3 + 2, none⟩) (fun _ => by simp) (.int .i64 0)) ((((unhide HI0).2.any gS (i * 3) (.int .i64 (-9))).any gS (i * 3 + 1) (.int .i64 0)).any gS (i * 3 + 2) (.int .i64 0)))
      clear HI0
      go_wp2
      exact ⟨⟨i + 1, by omega, by go_num, unhide HN⟩, by simp [intOf]; omega⟩
    · obtain rfl : i = t.st.length + 1 := by omega
      have HST1 := HI0
      clear HI0
      go_wp2
      go_loopw [11] (fun iv wq => ∃ (i : Nat), i ≤ t.sp.length + 1 ∧ iv = .int .i64 i ∧ Hid (Fr (fun q => q = gS ∨ q = gP ∨ q = gB) w1 wq ∧ R3 wq gS gP gB (cS * 3) (cP * 5) (cB * 2))) (fun iv _ => t.sp.length + 1 - (intOf iv).toNat)
      case atStart => exact ⟨0, Nat.zero_le _, rfl, HST1⟩
      case round =>
        obtain ⟨i, hi, rfl, HI1⟩ := hrel
        by_cases hil : i < t.sp.length + 1
        · have hm : i * 5 + 5 ≤ cP * 5 := by omega
          obtain ⟨⟨z0, a0⟩, f0⟩ := (unhide HI1).2.2.1 (i * 5) (by omega)
          obtain ⟨⟨z1, a1⟩, f1⟩ := (unhide HI1).2.2.1 (i * 5 + 1) (by omega)
          obtain ⟨⟨z2, a2⟩, f2⟩ := (unhide HI1).2.2.1 (i * 5 + 2) (by omega)
          obtain ⟨⟨z3, a3⟩, f3⟩ := (unhide HI1).2.2.1 (i * 5 + 3) (by omega)
          obtain ⟨⟨z4, a4⟩, f4⟩ := (unhide HI1).2.2.1 (i * 5 + 4) (by omega)
          have HN := hide (And.intro ((((((unhide HI1).1.setCell (p := ⟨gP, i * 5, none⟩) (fun _ => by simp) (.int .i64 (-9))).setCell (p := ⟨gP, i * 5 + 1, none⟩) (fun _ => by simp) (.int .i64 0)).setCell (p := ⟨gP, i * 5 + 2, none⟩) (fun _ => by simp) (.int .i64 0)).setCell (p := ⟨gP, i * 5 + 3, none⟩) (fun _ => by simp) (.int .i64 0)).setCell (p := ⟨gP, i * 5 + 4, none⟩) (fun _ => by simp) (.int .i64 0)) ((((((unhide HI1).2.any gP (i * 5) (.int .i64 (-9))).any gP (i * 5 + 1) (.int .i64 0)).any gP (i * 5 + 2) (.int .i64 0)).any gP (i * 5 + 3) (.int .i64 0)).any gP (i * 5 + 4) (.int .i64 0)))
          clear HI1
          go_wp2
          exact ⟨⟨i + 1, by omega, by go_num, unhide HN⟩, by simp [intOf]; omega⟩
        · obtain rfl : i = t.sp.length + 1 := by omega
          have HST2 := HI1
          clear HI1
          go_wp2
          go_loopw [12] (fun iv wq => ∃ (i : Nat), i ≤ t.bd.length + 1 ∧ iv = .int .i64 i ∧ Hid (Fr (fun q => q = gS ∨ q = gP ∨ q = gB) w1 wq ∧ R3 wq gS gP gB (cS * 3) (cP * 5) (cB * 2))) (fun iv _ => t.bd.length + 1 - (intOf iv).toNat)
          case atStart => exact ⟨0, Nat.zero_le _, rfl, HST2⟩
          case round =>
            obtain ⟨i, hi, rfl, HI2⟩ := hrel
            by_cases hil : i < t.bd.length + 1
            · have hm : i * 2 + 2 ≤ cB * 2 := by omega
              obtain ⟨⟨z0, a0⟩, f0⟩ := (unhide HI2).2.2.2 (i * 2) (by omega)
              obtain ⟨⟨z1, a1⟩, f1⟩ := (unhide HI2).2.2.2 (i * 2 + 1) (by omega)
              have HN := hide (And.intro (((unhide HI2).1.setCell (p := ⟨gB, i * 2, none⟩) (fun _ => by simp) (.int .i64 (-9))).setCell (p := ⟨gB, i * 2 + 1, none⟩) (fun _ => by simp) (.int .i64 0)) (((unhide HI2).2.any gB (i * 2) (.int .i64 (-9))).any gB (i * 2 + 1) (.int .i64 0)))
              clear HI2
              go_wp2
              exact ⟨⟨i + 1, by omega, by go_num, unhide HN⟩, by simp [intOf]; omega⟩
            · obtain rfl : i = t.bd.length + 1 := by omega
              have HFz := hide (((unhide HF1).mono (T := (fun q => q = gS ∨ q = gP ∨ q = gB)) (fun _ _ t => t.elim)).trans (unhide HI2).1 (fun _ _ t => t))
              clear HI2
              go_wp2
              go_ret
              exact ⟨rfl, unhide HFz⟩

end Go.Proofs.YtkjoojamkbpfcaaGreat

