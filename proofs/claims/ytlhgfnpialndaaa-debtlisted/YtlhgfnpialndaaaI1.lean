import Derived.Test.YtlhgfnpialndaaaB0
/- A row of values of one cell each, of one's own ('VRow'), and what append makes of it: in its room, or in a new block, where nothing that was there has turned. No program is named here. -/
namespace Go.Proofs.Ytlhgfnpialndaaa
open Go.RowKit

/-- A slice whose elements are vs, in block g (where it has room at all). -/
structure VRow (w : World) (ao : Option Addr) (cap g : Nat) (vs : List Value) : Prop where
  le : vs.length ≤ cap
  max : cap ≤ maxLen
  ad : 0 < cap → ao = some ⟨g, 0, none⟩
  room : ∀ j, j < cap → (w.cell? ⟨g, j, none⟩).isSome = true ∧ w.frozen? ⟨g, j, none⟩ = false
  cells : ∀ j (hj : j < vs.length), w.cell? ⟨g, j, none⟩ = some vs[j]
  one : ∀ u ∈ vs, u.oneCell' = true

theorem VRow.nil (w : World) (g : Nat) : VRow w none 0 g [] :=
  ⟨Nat.le_refl _, Nat.zero_le _, fun h => absurd h (by omega), fun j hj => absurd hj (by omega), fun j hj => absurd hj (by simp), fun u hu => by cases hu⟩

theorem VRow.stay {w w' : World} {ao : Option Addr} {cap g : Nat} {vs : List Value} (h : VRow w ao cap g vs) (hb : 0 < cap → w'.heap[g]? = w.heap[g]?) : VRow w' ao cap g vs := by
  refine ⟨h.le, h.max, h.ad, fun j hj => ?_, fun j hj => ?_, h.one⟩
  · have e := hb (by omega)
    rw [World.cell?_of_block (a := ⟨g, j, none⟩) e, World.frozen?_of_block (a := ⟨g, j, none⟩) e]
    exact h.room j hj
  · have := h.le
    rw [World.cell?_of_block (a := ⟨g, j, none⟩) (hb (by omega))]
    exact h.cells j hj

theorem VRow.lt {w : World} {ao : Option Addr} {cap g : Nat} {vs : List Value} (h : VRow w ao cap g vs) (hc : 0 < cap) : g < w.heap.size := by
  obtain ⟨u, hu⟩ := Option.isSome_iff_exists.1 (h.room 0 hc).1
  exact World.block_lt_of_cell? _ _ hu

theorem Row.vrow {w : World} {ao : Option Addr} {n cap g : Nat} {bs : List UInt8} (h : Row w (.slice ao n cap) g bs) : VRow w ao cap g (bytesV bs) := by
  obtain ⟨ao0, cap0, hv, h1, h2, h3, h4⟩ := h.shape
  injection hv with e1 e2 e3
  subst e1 e3
  refine ⟨by rw [bytesV_length]; exact h1, h2, h3, h4, fun j hj => ?_, bytesV_one bs⟩
  rw [bytesV_length] at hj
  rw [h.cells j hj]
  simp [bytesV]

/-- Behind an append: in the old block, at its end; or in a new one, and nothing that was there has turned. -/
def Grew (w : World) (g cap : Nat) (w' : World) (g' cap' : Nat) : Prop := (g' = g ∧ cap' = cap ∧ Fr (fun k => k = g ∧ 0 < cap) w w') ∨ (w.heap.size ≤ g' ∧ 0 < cap' ∧ Fr (fun _ => False) w w')

section
variable {P : Program}

theorem append_vrow (t tx ty e : TypeId) (i : TypeInfo) (z : Value) (ht : P.underlying t = some (.slice e)) (hi : P.info? e = some i) (hz : i.zero = some z) (hz1 : z.cells = #[z]) (hs1 : i.size = 1)
    {w : World} {ao : Option Addr} {cap g n : Nat} {vs : List Value} (h : VRow w ao cap g vs) (hn : vs.length = n) (x : Value) (news : List Value) (m : Nat) (hm : news.length = m) (hs : Src P 1 tx x m news w) (hfit : (n + m) * i.bytes ≤ 140737488355328) (hf2 : n + m ≤ 140737488355328) :
    ∃ ao' cap' w' g', (Builtin.append_ #[t, tx] ty #[.slice ao n cap, x]).run P w = .ok (.slice ao' (n + m) cap') w' ∧ VRow w' ao' cap' g' (vs ++ news) ∧ Grew w g cap w' g' cap' := by
  subst hn
  subst hm
  have h1 := h.le
  have hs' : Src P i.size tx x news.length news w := by rw [hs1]; exact hs
  have hone : ∀ u ∈ vs ++ news, u.oneCell' = true := fun u hu => (List.mem_append.1 hu).elim (h.one u) (hs.one u)
  by_cases hr : vs.length + news.length ≤ cap
  · by_cases hc : cap = 0
    · have hm : news = [] := List.eq_nil_of_length_eq_zero (by omega)
      subst hm
      have hrun := run_append_nothing (P := P) w t tx ty e i ht hi ao vs.length cap h1 x hs'
      rw [List.append_nil]
      exact ⟨_, _, _, g, hrun, h, .inl ⟨rfl, rfl, Fr.refl _ _⟩⟩
    · obtain rfl := h.ad (by omega)
      have hrun := run_append_room_src (P := P) w t tx ty e i ht hi g 0 vs.length cap x news.length news hs' hr
        (fun j hj => by rw [hs1, Nat.mul_one, Nat.zero_add]; exact (h.room _ (by omega)).1)
        (fun j hj => by rw [hs1, Nat.mul_one, Nat.zero_add]; exact (h.room _ (by omega)).2)
      rw [hs1, Nat.mul_one, Nat.zero_add] at hrun
      have hin := World.cell?_setCells_in g news vs.length w (fun j hj => (h.room _ (by omega)).1)
      have hout : ∀ j, (j < vs.length ∨ vs.length + news.length ≤ j) → (w.setCells g vs.length news).cell? ⟨g, j, none⟩ = w.cell? ⟨g, j, none⟩ := fun j hj => World.cell?_setCells_out g _ _ _ _ (fun _ _ => hj)
      refine ⟨_, _, _, g, hrun, ⟨by rw [List.length_append]; exact hr, h.max, h.ad, fun j hj => ⟨?_, by rw [World.frozen?_setCells]; exact (h.room j hj).2⟩, fun j hj => ?_, hone⟩, .inl ⟨rfl, rfl, Fr.setCells (S := fun k => k = g ∧ 0 < cap) g (fun _ => ⟨rfl, by omega⟩) _ _ _ (Fr.refl _ _)⟩⟩
      · by_cases hj2 : j < vs.length ∨ vs.length + news.length ≤ j
        · rw [hout j hj2]; exact (h.room j hj).1
        · have := hin (j - vs.length) (by omega)
          rw [show vs.length + (j - vs.length) = j by omega] at this
          rw [this]; rfl
      · rw [List.length_append] at hj
        by_cases hj2 : j < vs.length
        · rw [hout j (.inl hj2), h.cells j hj2, List.getElem_append_left hj2]
        · have := hin (j - vs.length) (by omega)
          rw [show vs.length + (j - vs.length) = j by omega] at this
          rw [this, List.getElem_append_right (by omega)]
  · have hold : (Builtin.firstCells i.size vs.length (.slice ao vs.length cap)).run P w.drew = .ok vs.toArray w.drew := by
      by_cases hc : 0 < cap
      · rw [h.ad hc]
        refine run_firstCells_some w.drew i.size vs.length ⟨g, 0, none⟩ vs.length cap vs (by rw [hs1, Nat.mul_one]) (fun j u hj => ?_)
        have hjl : j < vs.length := (List.getElem?_eq_some_iff.1 hj).1
        have hplain : (⟨g, 0, none⟩ : Addr).add j = ⟨g, j, none⟩ := by unfold Addr.add; split <;> simp_all
        rw [hplain, ← hj, List.getElem?_eq_getElem hjl]
        exact h.cells j hjl
      · have hb : vs = [] := List.eq_nil_of_length_eq_zero (by omega)
        subst hb
        cases ao with
        | none => exact run_firstCells_none w.drew i.size 0 0 cap
        | some b => exact run_firstCells_some w.drew i.size 0 b 0 cap [] (by simp) (fun j u hj => by simp at hj)
    have hrun := run_append_grow_src (P := P) w t tx ty e i z ht hi hz ao vs.length cap vs hold x news.length news hs' (by omega) (by omega) (growslice_fits (by omega) hfit)
    have hge := grownCap_ge w (vs.length + news.length) cap e
    have hcm := grownCap_le_maxLen w (vs.length + news.length) cap e (by simp only [maxLen]; omega)
    generalize grownCap w (vs.length + news.length) cap e = C at hrun hge hcm
    refine ⟨_, _, _, w.heap.size, hrun, ⟨by rw [List.length_append]; exact hge, hcm, fun _ => rfl, fun j hj => ⟨?_, ?_⟩, fun j hj => ?_, hone⟩, .inr ⟨Nat.le_refl _, by omega, (Fr.refl _ w).drew.alloc _⟩⟩
    · have e1 := World.cell?_alloc_new w.drew ((vs ++ news).toArray ++ Builtin.zeroCells z.cells (C - (vs.length + news.length))) e j
      have hsz : j < ((vs ++ news).toArray ++ Builtin.zeroCells z.cells (C - (vs.length + news.length))).size := by
        rw [hz1]
        simp [Builtin.zeroCells]; omega
      rw [show w.heap.size = w.drew.heap.size from rfl, e1, Array.getElem?_eq_getElem hsz]; rfl
    · exact World.frozen?_alloc_new w.drew _ _ _
    · have e1 := World.cell?_alloc_new w.drew ((vs ++ news).toArray ++ Builtin.zeroCells z.cells (C - (vs.length + news.length))) e j
      rw [show w.heap.size = w.drew.heap.size from rfl, e1, Array.getElem?_append_left (by simpa using hj), List.getElem?_toArray, List.getElem?_eq_getElem hj]

/-- The same, as one step of a list of operations. -/
theorem wpList_append_vrow (w : World) {ops : Array Oper} {rest : List Oper} {o : Oper} {a : Act} {Q : Exit → Act → World → Prop} (hgd : o.guard = none) (s x : Operand) (t tx : TypeId)
    (ho : o.op = .call { callee := .builtin .append, args := #[s, x], argTypes := #[t, tx] }) (e : TypeId) (i : TypeInfo) (z : Value) (ht : P.underlying t = some (.slice e)) (hi : P.info? e = some i) (hz : i.zero = some z) (hz1 : z.cells = #[z]) (hs1 : i.size = 1)
    {ao : Option Addr} {cap g n : Nat} {vs : List Value} (hv : a.eval s = .slice ao n cap) (h : VRow w ao cap g vs) (hn : vs.length = n) (xv : Value) (news : List Value) (m : Nat) (hm : news.length = m) (hx : a.eval x = xv) (hs : Src P 1 tx xv m news w) (hfit : (n + m) * i.bytes ≤ 140737488355328) (hf2 : n + m ≤ 140737488355328)
    (hK : ∀ ao' cap' w' g', VRow w' ao' cap' g' (vs ++ news) → Grew w g cap w' g' cap' → wpList P ops Q rest (a.put o.dst (.slice ao' (n + m) cap')) w') : wpList P ops Q (o :: rest) a w := by
  refine wpList_plain hgd fun K hK' => ?_
  obtain ⟨ao', cap', w', g', hrun, r1, r2⟩ := append_vrow (P := P) t tx o.type e i z ht hi hz hz1 hs1 h hn xv news m hm hs hfit hf2
  unfold Oper.wp
  simp [execOp, ho, resolve, invoke, builtin, hv, hx, hrun, Result.andThen]
  exact hK' _ _ (hK ao' cap' w' g' r1 r2)

end
end Go.Proofs.Ytlhgfnpialndaaa

