import Derived.Test.YtlhgfnpialndaaaI1
/- A row of elements of k cells each, of one's own ('KRow'), and what append makesT of it. No program is named here. -/
namespace Go.Proofs.Ytlhgfnpialndaaa
open Go.RowKit

/-- A slice whose elements' cells are vs, in block g (where it has room at all). -/
structure KRow (w : World) (ao : Option Addr) (cap g k : Nat) (vs : List Value) : Prop where
  le : vs.length ≤ cap * k
  max : cap ≤ maxLen
  ad : 0 < cap → ao = some ⟨g, 0, none⟩
  room : ∀ j, j < cap * k → (w.cell? ⟨g, j, none⟩).isSome = true ∧ w.frozen? ⟨g, j, none⟩ = false
  cells : ∀ j (hj : j < vs.length), w.cell? ⟨g, j, none⟩ = some vs[j]
  one : ∀ u ∈ vs, u.oneCell' = true

theorem KRow.nil (w : World) (g k : Nat) : KRow w none 0 g k [] :=
  ⟨Nat.zero_le _, Nat.zero_le _, fun h => absurd h (by omega), fun j hj => absurd hj (by omega), fun j hj => absurd hj (by simp), fun u hu => by cases hu⟩

theorem KRow.stay {w w' : World} {ao : Option Addr} {cap g k : Nat} {vs : List Value} (h : KRow w ao cap g k vs) (hb : 0 < cap → w'.heap[g]? = w.heap[g]?) : KRow w' ao cap g k vs := by
  have hc : ∀ j, j < cap * k → 0 < cap := fun j hj => by
    rcases Nat.eq_zero_or_pos cap with rfl | h
    · omega
    · exact h
  refine ⟨h.le, h.max, h.ad, fun j hj => ?_, fun j hj => ?_, h.one⟩
  · have e := hb (hc j hj)
    rw [World.cell?_of_block (a := ⟨g, j, none⟩) e, World.frozen?_of_block (a := ⟨g, j, none⟩) e]
    exact h.room j hj
  · have := h.le
    rw [World.cell?_of_block (a := ⟨g, j, none⟩) (hb (hc j (by omega)))]
    exact h.cells j hj

theorem KRow.lt {w : World} {ao : Option Addr} {cap g k : Nat} {vs : List Value} (h : KRow w ao cap g k vs) (hk : 0 < k) (hc : 0 < cap) : g < w.heap.size := by
  obtain ⟨u, hu⟩ := Option.isSome_iff_exists.1 (h.room 0 (Nat.mul_pos hc hk)).1
  exact World.block_lt_of_cell? _ _ hu

/-- Nothing that was there has turned: the row stands. -/
theorem KRow.keep {w w' : World} {ao : Option Addr} {cap g k : Nat} {vs : List Value} (h : KRow w ao cap g k vs) (hk : 0 < k) (hf : Fr (fun _ => False) w w') : KRow w' ao cap g k vs :=
  h.stay fun hc => hf.block g (h.lt hk hc) (fun t => t)

theorem zeroCells_size (c : Array Value) (n : Nat) : (Builtin.zeroCells c n).size = n * c.size := by
  simp [Builtin.zeroCells]

section
variable {P : Program}

theorem append_krow (t tx ty e : TypeId) (i : TypeInfo) (z : Value) (k : Nat) (hk : 0 < k) (ht : P.underlying t = some (.slice e)) (hi : P.info? e = some i) (hz : i.zero = some z) (hz1 : z.cells.size = k) (hs1 : i.size = k)
    {w : World} {ao : Option Addr} {cap g n : Nat} {vs : List Value} (h : KRow w ao cap g k vs) (hn : vs.length = n * k) (x : Value) (news : List Value) (m : Nat) (hs : Src P k tx x m news w) (hfit : (n + m) * i.bytes ≤ 140737488355328) (hf2 : n + m ≤ 140737488355328) :
    ∃ ao' cap' w' g', (Builtin.append_ #[t, tx] ty #[.slice ao n cap, x]).run P w = .ok (.slice ao' (n + m) cap') w' ∧ KRow w' ao' cap' g' k (vs ++ news) ∧ Grew w g cap w' g' cap' := by
  have hm := hs.newsLen
  have h1 := h.le
  have hnc : n ≤ cap := by rw [hn] at h1; exact Nat.le_of_mul_le_mul_right h1 hk
  have hs' : Src P i.size tx x m news w := by rw [hs1]; exact hs
  have hone : ∀ u ∈ vs ++ news, u.oneCell' = true := fun u hu => (List.mem_append.1 hu).elim (h.one u) (hs.one u)
  have hlen : (vs ++ news).length = (n + m) * k := by rw [List.length_append, hn, hm, Nat.add_mul]
  by_cases hr : n + m ≤ cap
  · have hmul : n * k + m * k ≤ cap * k := by rw [← Nat.add_mul]; exact Nat.mul_le_mul_right _ hr
    by_cases hc : cap = 0
    · obtain rfl : m = 0 := by omega
      have hm' : news = [] := List.eq_nil_of_length_eq_zero (by omega)
      subst hm'
      have hrun := run_append_nothing (P := P) w t tx ty e i ht hi ao n cap hnc x hs'
      rw [List.append_nil]
      exact ⟨_, _, _, g, hrun, h, .inl ⟨rfl, rfl, Fr.refl _ _⟩⟩
    · obtain rfl := h.ad (by omega)
      have hrun := run_append_room_src (P := P) w t tx ty e i ht hi g 0 n cap x m news hs' hr
        (fun j hj => by rw [hs1, Nat.zero_add]; exact (h.room _ (by omega)).1)
        (fun j hj => by rw [hs1, Nat.zero_add]; exact (h.room _ (by omega)).2)
      rw [hs1, Nat.zero_add] at hrun
      have hin := World.cell?_setCells_in g news (n * k) w (fun j hj => (h.room _ (by omega)).1)
      have hout : ∀ j, (j < n * k ∨ n * k + news.length ≤ j) → (w.setCells g (n * k) news).cell? ⟨g, j, none⟩ = w.cell? ⟨g, j, none⟩ := fun j hj => World.cell?_setCells_out g _ _ _ _ (fun _ _ => hj)
      refine ⟨_, _, _, g, hrun, ⟨by rw [hlen, Nat.add_mul]; exact hmul, h.max, h.ad, fun j hj => ⟨?_, by rw [World.frozen?_setCells]; exact (h.room j hj).2⟩, fun j hj => ?_, hone⟩, .inl ⟨rfl, rfl, Fr.setCells (S := fun k => k = g ∧ 0 < cap) g (fun _ => ⟨rfl, by omega⟩) _ _ _ (Fr.refl _ _)⟩⟩
      · by_cases hj2 : j < n * k ∨ n * k + news.length ≤ j
        · rw [hout j hj2]; exact (h.room j hj).1
        · have := hin (j - n * k) (by omega)
          rw [show n * k + (j - n * k) = j by omega] at this
          rw [this]; rfl
      · rw [List.length_append] at hj
        by_cases hj2 : j < vs.length
        · rw [hout j (.inl (by omega)), h.cells j hj2, List.getElem_append_left hj2]
        · have := hin (j - n * k) (by omega)
          rw [show n * k + (j - n * k) = j by omega] at this
          rw [this, List.getElem_append_right (by omega)]
          congr 2
          omega
  · have hold : (Builtin.firstCells i.size n (.slice ao n cap)).run P w.drew = .ok vs.toArray w.drew := by
      by_cases hc : 0 < cap
      · rw [h.ad hc]
        refine run_firstCells_some w.drew i.size n ⟨g, 0, none⟩ n cap vs (by rw [hs1, hn]) (fun j u hj => ?_)
        have hjl : j < vs.length := (List.getElem?_eq_some_iff.1 hj).1
        have hplain : (⟨g, 0, none⟩ : Addr).add j = ⟨g, j, none⟩ := by unfold Addr.add; split <;> simp_all
        rw [hplain, ← hj, List.getElem?_eq_getElem hjl]
        exact h.cells j hjl
      · obtain rfl : n = 0 := by omega
        have hb : vs = [] := List.eq_nil_of_length_eq_zero (by omega)
        subst hb
        cases ao with
        | none => exact run_firstCells_none w.drew i.size 0 0 cap
        | some b => exact run_firstCells_some w.drew i.size 0 b 0 cap [] (by simp) (fun j u hj => by simp at hj)
    have hrun := run_append_grow_src (P := P) w t tx ty e i z ht hi hz ao n cap vs hold x m news hs' (by omega) (by omega) (growslice_fits (by omega) hfit)
    have hge := grownCap_ge w (n + m) cap e
    have hcm := grownCap_le_maxLen w (n + m) cap e (by simp only [maxLen]; omega)
    generalize grownCap w (n + m) cap e = C at hrun hge hcm
    have hsz0 : ((vs ++ news).toArray ++ Builtin.zeroCells z.cells (C - (n + m))).size = C * k := by
      rw [Array.size_append, zeroCells_size, hz1, List.size_toArray, hlen, ← Nat.add_mul]
      congr 1
      omega
    refine ⟨_, _, _, w.heap.size, hrun, ⟨by rw [hlen]; exact Nat.mul_le_mul_right _ hge, hcm, fun _ => rfl, fun j hj => ⟨?_, ?_⟩, fun j hj => ?_, hone⟩, .inr ⟨Nat.le_refl _, by omega, (Fr.refl _ w).drew.alloc _⟩⟩
    · have e1 := World.cell?_alloc_new w.drew ((vs ++ news).toArray ++ Builtin.zeroCells z.cells (C - (n + m))) e j
      rw [show w.heap.size = w.drew.heap.size from rfl, e1, Array.getElem?_eq_getElem (by rw [hsz0]; exact hj)]; rfl
    · exact World.frozen?_alloc_new w.drew _ _ _
    · have e1 := World.cell?_alloc_new w.drew ((vs ++ news).toArray ++ Builtin.zeroCells z.cells (C - (n + m))) e j
      rw [show w.heap.size = w.drew.heap.size from rfl, e1, Array.getElem?_append_left (by simpa using hj), List.getElem?_toArray, List.getElem?_eq_getElem hj]

/-- The same, as one step of a list of operations. -/
theorem wpList_append_krow (w : World) {ops : Array Oper} {rest : List Oper} {o : Oper} {a : Act} {Q : Exit → Act → World → Prop} (hgd : o.guard = none) (s x : Operand) (t tx : TypeId)
    (ho : o.op = .call { callee := .builtin .append, args := #[s, x], argTypes := #[t, tx] }) (e : TypeId) (i : TypeInfo) (z : Value) (k : Nat) (hk : 0 < k) (ht : P.underlying t = some (.slice e)) (hi : P.info? e = some i) (hz : i.zero = some z) (hz1 : z.cells.size = k) (hs1 : i.size = k)
    {ao : Option Addr} {cap g n : Nat} {vs : List Value} (hv : a.eval s = .slice ao n cap) (h : KRow w ao cap g k vs) (hn : vs.length = n * k) (xv : Value) (news : List Value) (m : Nat) (hx : a.eval x = xv) (hs : Src P k tx xv m news w) (hfit : (n + m) * i.bytes ≤ 140737488355328) (hf2 : n + m ≤ 140737488355328)
    (hK : ∀ ao' cap' w' g', KRow w' ao' cap' g' k (vs ++ news) → Grew w g cap w' g' cap' → wpList P ops Q rest (a.put o.dst (.slice ao' (n + m) cap')) w') : wpList P ops Q (o :: rest) a w := by
  refine wpList_plain hgd fun K hK' => ?_
  obtain ⟨ao', cap', w', g', hrun, r1, r2⟩ := append_krow (P := P) t tx o.type e i z k hk ht hi hz hz1 hs1 h hn xv news m hs hfit hf2
  unfold Oper.wp
  simp [execOp, ho, resolve, invoke, builtin, hv, hx, hrun, Result.andThen]
  exact hK' _ _ (hK ao' cap' w' g' r1 r2)

/-- The same, as one step of a region that draws its order. -/
theorem step_append_krow {ops : Array Oper} {o : Oper} {a : Act} {w : World} {K : Act → World → Prop} {Q : Exit → Act → World → Prop} {E : Prop} (hgd : o.guard = none) (s x : Operand) (t tx : TypeId)
    (ho : o.op = .call { callee := .builtin .append, args := #[s, x], argTypes := #[t, tx] }) (e : TypeId) (i : TypeInfo) (z : Value) (k : Nat) (hk : 0 < k) (ht : P.underlying t = some (.slice e)) (hi : P.info? e = some i) (hz : i.zero = some z) (hz1 : z.cells.size = k) (hs1 : i.size = k)
    {ao : Option Addr} {cap g n : Nat} {vs : List Value} (hv : a.eval s = .slice ao n cap) (h : KRow w ao cap g k vs) (hn : vs.length = n * k) (xv : Value) (news : List Value) (m : Nat) (hx : a.eval x = xv) (hs : Src P k tx xv m news w) (hfit : (n + m) * i.bytes ≤ 140737488355328) (hf2 : n + m ≤ 140737488355328)
    (hK : ∀ ao' cap' w' g', KRow w' ao' cap' g' k (vs ++ news) → Grew w g cap w' g' cap' → K (a.put o.dst (.slice ao' (n + m) cap')) w') :
    if Region.wanted o (yielded ops a.tmps) = true then Oper.wp P o a w K Q else E := by
  have hw : Region.wanted o (yielded ops a.tmps) = true := by simp [Region.wanted, hgd]
  rw [if_pos hw]
  obtain ⟨ao', cap', w', g', hrun, r1, r2⟩ := append_krow (P := P) t tx o.type e i z k hk ht hi hz hz1 hs1 h hn xv news m hs hfit hf2
  unfold Oper.wp
  simp [execOp, ho, resolve, invoke, builtin, hv, hx, hrun, Result.andThen]
  exact hK ao' cap' w' g' r1 r2

/-- A row of one element, just laid. -/
theorem src_one (w : World) (cs : List Value) (tx e : TypeId) (k : Nat) (ht : P.underlying tx = some (.slice e)) (hn : cs.length = k) (h1 : ∀ u ∈ cs, u.oneCell' = true) {W : World} (hW : ∀ j, W.cell? ⟨w.heap.size, j, none⟩ = cs[j]?) :
    Src P k tx (.slice (some ⟨w.heap.size, 0, none⟩) 1 1) 1 cs W := by
  refine Src.ofSlice _ ht ⟨w.heap.size, 0, none⟩ 1 1 cs (by simpa using hn) (fun j u hj => ?_) h1
  rw [Addr.add_lit, Nat.zero_add, hW]
  exact hj

end
end Go.Proofs.Ytlhgfnpialndaaa

