import Derived.Test.YtlhgfnpialndaaaA0
import Derived.Deep.Upon
import Derived.Deep.RegionHeldLaw
/- A row of bytes of one's own in memory ('Row'), and what append makes of it, whatever is appended. No program is named here. -/
namespace Go.Proofs.Ytlhgfnpialndaaa
open Go.RowKit

/-- Bytes as cells. -/
def bytesV (l : List UInt8) : List Value := l.map fun b => Value.int .u8 b.toNat

theorem bytesV_length (l : List UInt8) : (bytesV l).length = l.length := by simp [bytesV]
theorem bytesV_get (l : List UInt8) (j : Nat) (hj : j < l.length) : (bytesV l)[j]? = some (.int .u8 l[j].toNat) := by simp [bytesV, hj]
theorem bytesV_append (l m : List UInt8) : bytesV (l ++ m) = bytesV l ++ bytesV m := by simp [bytesV]
theorem bytesV_one (l : List UInt8) : ∀ u ∈ bytesV l, u.oneCell' = true := by
  intro u hu
  obtain ⟨b, _, rfl⟩ := List.mem_map.1 hu
  rfl

/-- A slice whose bytes are bs, in block g (where it has room at all). -/
structure Row (w : World) (v : Value) (g : Nat) (bs : List UInt8) : Prop where
  shape : ∃ ao cap, v = .slice ao bs.length cap ∧ bs.length ≤ cap ∧ cap ≤ maxLen ∧ (0 < cap → ao = some ⟨g, 0, none⟩) ∧ (∀ j, j < cap → (w.cell? ⟨g, j, none⟩).isSome = true ∧ w.frozen? ⟨g, j, none⟩ = false)
  cells : ∀ j (hj : j < bs.length), w.cell? ⟨g, j, none⟩ = some (.int .u8 (bs[j].toNat))

theorem Row.stay {w w' : World} {v : Value} {g : Nat} {bs : List UInt8} (h : Row w v g bs) (hb : g < w.heap.size → w'.heap[g]? = w.heap[g]?) : Row w' v g bs := by
  obtain ⟨ao, cap, hv, h1, h2, h3, h4⟩ := h.shape
  refine ⟨⟨ao, cap, hv, h1, h2, h3, fun j hj => ?_⟩, fun j hj => ?_⟩
  · obtain ⟨u, hu⟩ := Option.isSome_iff_exists.1 (h4 j hj).1
    have e := hb (World.block_lt_of_cell? _ _ hu)
    rw [World.cell?_of_block (a := ⟨g, j, none⟩) e, World.frozen?_of_block (a := ⟨g, j, none⟩) e]
    exact h4 j hj
  · have e := hb (World.block_lt_of_cell? _ _ (h.cells j hj))
    rw [World.cell?_of_block (a := ⟨g, j, none⟩) e]
    exact h.cells j hj

theorem Row.frame {S : Nat → Prop} {w w' : World} {v : Value} {g : Nat} {bs : List UInt8} (h : Row w v g bs) (hf : Fr S w w') (hg : ¬ S g) : Row w' v g bs :=
  h.stay fun hlt => hf.block g hlt hg

theorem Row.elsewhere {w w' : World} {ao : Option Addr} {n cap g : Nat} {bs : List UInt8} (h : Row w (.slice ao n cap) g bs) (hb : 0 < cap → w'.heap[g]? = w.heap[g]?) : Row w' (.slice ao n cap) g bs := by
  by_cases hc : 0 < cap
  · exact h.stay fun _ => hb hc
  · obtain ⟨ao', cap', hv, h1, h2, h3, h4⟩ := h.shape
    injection hv with e1 e2 e3
    subst e1 e2 e3
    exact ⟨⟨_, _, rfl, h1, h2, h3, fun j hj => absurd hj (by omega)⟩, fun j hj => absurd hj (by omega)⟩

theorem Fr.setCells {S : Nat → Prop} {a : World} (b : Nat) (hb : b < a.heap.size → S b) : ∀ (vs : List Value) (o : Nat) (w : World), Fr S a w → Fr S a (w.setCells b o vs)
  | [], _, _, h => h
  | v :: r, o, _, h => Fr.setCells b hb r (o + 1) _ (h.setCell (p := ⟨b, o, none⟩) hb v)

theorem Row.nil (w : World) (g : Nat) : Row w (.slice none 0 0) g [] := ⟨⟨none, 0, rfl, Nat.le_refl _, Nat.zero_le _, fun h => absurd h (by omega), fun j hj => absurd hj (by omega)⟩, fun j hj => absurd hj (by simp)⟩

section
variable {P : Program}

theorem append_row (t tx ty e : TypeId) (i : TypeInfo) (ht : P.underlying t = some (.slice e)) (hi : P.info? e = some i) (hz : i.zero = some (.int .u8 0)) (hs1 : i.size = 1) (hby : i.bytes = 1)
    {w : World} {ao : Option Addr} {cap g : Nat} {bs : List UInt8} (h : Row w (.slice ao bs.length cap) g bs) (x : Value) (ms : List UInt8) (hs : Src P 1 tx x ms.length (bytesV ms) w) (hfit : bs.length + ms.length ≤ 140737488355328) :
    ∃ ao' cap' w' g', (Builtin.append_ #[t, tx] ty #[.slice ao bs.length cap, x]).run P w = .ok (.slice ao' (bs ++ ms).length cap') w' ∧ Row w' (.slice ao' (bs ++ ms).length cap') g' (bs ++ ms) ∧ Fr (fun k => k = g ∧ 0 < cap) w w' ∧ ((g' = g ∧ cap' = cap) ∨ w.heap.size ≤ g') := by
  obtain ⟨ao0, cap0, hv0, h1, h2, h3, h4⟩ := h.shape
  injection hv0 with e1 e2 e3
  subst e1 e3
  have hs' : Src P i.size tx x ms.length (bytesV ms) w := by rw [hs1]; exact hs
  by_cases hr : bs.length + ms.length ≤ cap
  · by_cases hc : cap = 0
    · have hm : ms = [] := List.eq_nil_of_length_eq_zero (by omega)
      subst hm
      have hrun := run_append_nothing (P := P) w t tx ty e i ht hi ao bs.length cap h1 x hs'
      rw [List.append_nil]
      exact ⟨_, _, _, g, hrun, h, Fr.refl _ _, .inl ⟨rfl, rfl⟩⟩
    · obtain rfl := h3 (by omega)
      have hrun := run_append_room_src (P := P) w t tx ty e i ht hi g 0 bs.length cap x ms.length (bytesV ms) hs' hr
        (fun j hj => by rw [bytesV_length] at hj; rw [hs1, Nat.mul_one, Nat.zero_add]; exact (h4 _ (by omega)).1)
        (fun j hj => by rw [bytesV_length] at hj; rw [hs1, Nat.mul_one, Nat.zero_add]; exact (h4 _ (by omega)).2)
      rw [hs1, Nat.mul_one, Nat.zero_add] at hrun
      have hin := World.cell?_setCells_in g (bytesV ms) bs.length w (fun j hj => by rw [bytesV_length] at hj; exact (h4 _ (by omega)).1)
      have hout : ∀ j, (j < bs.length ∨ bs.length + ms.length ≤ j) → (w.setCells g bs.length (bytesV ms)).cell? ⟨g, j, none⟩ = w.cell? ⟨g, j, none⟩ := fun j hj => World.cell?_setCells_out g _ _ _ _ (fun _ _ => by rw [bytesV_length]; exact hj)
      rw [← List.length_append] at hrun
      refine ⟨_, _, _, g, hrun, ⟨⟨_, cap, rfl, by rw [List.length_append]; exact hr, h2, h3, fun j hj => ⟨?_, by rw [World.frozen?_setCells]; exact (h4 j hj).2⟩⟩, fun j hj => ?_⟩, Fr.setCells (S := fun k => k = g ∧ 0 < cap) g (fun _ => ⟨rfl, by omega⟩) _ _ _ (Fr.refl _ _), .inl ⟨rfl, rfl⟩⟩
      · by_cases hj2 : j < bs.length ∨ bs.length + ms.length ≤ j
        · rw [hout j hj2]; exact (h4 j hj).1
        · have := hin (j - bs.length) (by rw [bytesV_length]; omega)
          rw [show bs.length + (j - bs.length) = j by omega] at this
          rw [this]; rfl
      · rw [List.length_append] at hj
        by_cases hj2 : j < bs.length
        · rw [hout j (.inl hj2), h.cells j hj2, List.getElem_append_left hj2]
        · have := hin (j - bs.length) (by rw [bytesV_length]; omega)
          rw [show bs.length + (j - bs.length) = j by omega] at this
          rw [this, List.getElem_append_right (by omega)]
          simp [bytesV]
  · have hold : (Builtin.firstCells i.size bs.length (.slice ao bs.length cap)).run P w.drew = .ok (bytesV bs).toArray w.drew := by
      by_cases hc : 0 < cap
      · rw [h3 hc]
        refine run_firstCells_some w.drew i.size bs.length ⟨g, 0, none⟩ bs.length cap (bytesV bs) (by rw [bytesV_length, hs1, Nat.mul_one]) (fun j u hj => ?_)
        have hjl : j < bs.length := by
          have := (List.getElem?_eq_some_iff.1 hj).1
          rwa [bytesV_length] at this
        rw [bytesV_get _ _ hjl] at hj
        have hplain : (⟨g, 0, none⟩ : Addr).add j = ⟨g, j, none⟩ := by unfold Addr.add; split <;> simp_all
        rw [hplain, ← hj]
        exact h.cells j hjl
      · have hb : bs = [] := List.eq_nil_of_length_eq_zero (by omega)
        subst hb
        cases ao with
        | none => exact run_firstCells_none w.drew i.size 0 0 cap
        | some b => exact run_firstCells_some w.drew i.size 0 b 0 cap [] (by simp) (fun j u hj => by simp at hj)
    have hrun := run_append_grow_src (P := P) w t tx ty e i (.int .u8 0) ht hi hz ao bs.length cap (bytesV bs) hold x ms.length (bytesV ms) hs' (by omega) (by omega) (growslice_fits (by omega) (by rw [hby]; omega))
    have hge := grownCap_ge w (bs.length + ms.length) cap e
    have hcm := grownCap_le_maxLen w (bs.length + ms.length) cap e (by simp only [maxLen]; omega)
    generalize grownCap w (bs.length + ms.length) cap e = C at hrun hge hcm
    have hrun2 : (Builtin.append_ #[t, tx] ty #[.slice ao bs.length cap, x]).run P w = .ok (.slice (some ⟨w.heap.size, 0, none⟩) (bs ++ ms).length C)
        (w.drew.alloc (.cells ((bytesV bs ++ bytesV ms).toArray ++ Builtin.zeroCells (Value.int .u8 0).cells (C - (bs.length + ms.length))) e)) := by rw [List.length_append]; exact hrun
    refine ⟨_, _, _, w.heap.size, hrun2, ⟨⟨_, _, rfl, by rw [List.length_append]; exact hge, hcm, fun _ => rfl, fun j hj => ⟨?_, ?_⟩⟩, fun j hj => ?_⟩, (Fr.refl _ w).drew.alloc _, .inr (Nat.le_refl _)⟩
    · have e1 := World.cell?_alloc_new w.drew ((bytesV bs ++ bytesV ms).toArray ++ Builtin.zeroCells (Value.int .u8 0).cells (C - (bs.length + ms.length))) e j
      have hsz : j < ((bytesV bs ++ bytesV ms).toArray ++ Builtin.zeroCells (Value.int .u8 0).cells (C - (bs.length + ms.length))).size := by
        simp [bytesV, Builtin.zeroCells, Value.cells]; omega
      rw [show w.heap.size = w.drew.heap.size from rfl, e1, Array.getElem?_eq_getElem hsz]; rfl
    · exact World.frozen?_alloc_new w.drew _ _ _
    · have e1 := World.cell?_alloc_new w.drew ((bytesV bs ++ bytesV ms).toArray ++ Builtin.zeroCells (Value.int .u8 0).cells (C - (bs.length + ms.length))) e j
      have hl : j < (bytesV bs ++ bytesV ms).length := by rw [List.length_append, bytesV_length, bytesV_length]; rw [List.length_append] at hj; exact hj
      rw [show w.heap.size = w.drew.heap.size from rfl, e1, Array.getElem?_append_left (by simpa using hl), List.getElem?_toArray, ← bytesV_append, bytesV_get _ _ hj]

/-- The same, as one step of a list of operations. -/
theorem wpList_append_row (w : World) {ops : Array Oper} {rest : List Oper} {o : Oper} {a : Act} {Q : Exit → Act → World → Prop} (hgd : o.guard = none) (s x : Operand) (t tx : TypeId)
    (ho : o.op = .call { callee := .builtin .append, args := #[s, x], argTypes := #[t, tx] }) (e : TypeId) (i : TypeInfo) (ht : P.underlying t = some (.slice e)) (hi : P.info? e = some i) (hz : i.zero = some (.int .u8 0)) (hs1 : i.size = 1) (hby : i.bytes = 1)
    {ao : Option Addr} {cap g : Nat} {bs : List UInt8} (hv : a.eval s = .slice ao bs.length cap) (h : Row w (.slice ao bs.length cap) g bs) (xv : Value) (ms : List UInt8) (hx : a.eval x = xv) (hs : Src P 1 tx xv ms.length (bytesV ms) w) (hfit : bs.length + ms.length ≤ 140737488355328)
    (hK : ∀ ao' cap' w' g', Row w' (.slice ao' (bs.length + ms.length) cap') g' (bs ++ ms) → Fr (fun k => k = g ∧ 0 < cap) w w' → ((g' = g ∧ cap' = cap) ∨ w.heap.size ≤ g') → wpList P ops Q rest (a.put o.dst (.slice ao' (bs.length + ms.length) cap')) w') : wpList P ops Q (o :: rest) a w := by
  refine wpList_plain hgd fun K hK' => ?_
  obtain ⟨ao', cap', w', g', hrun, r1, r2, r3⟩ := append_row (P := P) t tx o.type e i ht hi hz hs1 hby h xv ms hs hfit
  rw [List.length_append] at hrun r1
  unfold Oper.wp
  simp [execOp, ho, resolve, invoke, builtin, hv, hx, hrun, Result.andThen]
  exact hK' _ _ (hK ao' cap' w' g' r1 r2 r3)

/-- The same, as one step of a region that draws its order. -/
theorem step_append_row {ops : Array Oper} {o : Oper} {a : Act} {w : World} {K : Act → World → Prop} {Q : Exit → Act → World → Prop} {E : Prop} (hgd : o.guard = none) (s x : Operand) (t tx : TypeId)
    (ho : o.op = .call { callee := .builtin .append, args := #[s, x], argTypes := #[t, tx] }) (e : TypeId) (i : TypeInfo) (ht : P.underlying t = some (.slice e)) (hi : P.info? e = some i) (hz : i.zero = some (.int .u8 0)) (hs1 : i.size = 1) (hby : i.bytes = 1)
    {ao : Option Addr} {cap g : Nat} {bs : List UInt8} (hv : a.eval s = .slice ao bs.length cap) (h : Row w (.slice ao bs.length cap) g bs) (xv : Value) (ms : List UInt8) (hx : a.eval x = xv) (hs : Src P 1 tx xv ms.length (bytesV ms) w) (hfit : bs.length + ms.length ≤ 140737488355328)
    (hK : ∀ ao' cap' w' g', Row w' (.slice ao' (bs.length + ms.length) cap') g' (bs ++ ms) → Fr (fun k => k = g ∧ 0 < cap) w w' → ((g' = g ∧ cap' = cap) ∨ w.heap.size ≤ g') → K (a.put o.dst (.slice ao' (bs.length + ms.length) cap')) w') :
    if Region.wanted o (yielded ops a.tmps) = true then Oper.wp P o a w K Q else E := by
  have hw : Region.wanted o (yielded ops a.tmps) = true := by simp [Region.wanted, hgd]
  rw [if_pos hw]
  obtain ⟨ao', cap', w', g', hrun, r1, r2, r3⟩ := append_row (P := P) t tx o.type e i ht hi hz hs1 hby h xv ms hs hfit
  rw [List.length_append] at hrun r1
  unfold Oper.wp
  simp [execOp, ho, resolve, invoke, builtin, hv, hx, hrun, Result.andThen]
  exact hK ao' cap' w' g' r1 r2 r3

theorem src_string {tx : TypeId} (hk : P.underlying tx = some .string) (s : ByteArray) (w : World) : Src P 1 tx (.string s) s.data.toList.length (bytesV s.data.toList) w := Src.ofString w hk s

theorem src_slice {tx e' : TypeId} (hk : P.underlying tx = some (.slice e')) (w : World) (ao : Option Addr) (c : Nat) (ms : List UInt8)
    (hcell : 0 < ms.length → ∃ b off, ao = some ⟨b, off, none⟩ ∧ ∀ j (hj : j < ms.length), w.cell? ⟨b, off + j, none⟩ = some (.int .u8 (ms[j].toNat))) : Src P 1 tx (.slice ao ms.length c) ms.length (bytesV ms) w := by
  by_cases hm : 0 < ms.length
  · obtain ⟨b, off, rfl, hcs⟩ := hcell hm
    refine Src.ofSlice w hk ⟨b, off, none⟩ ms.length c (bytesV ms) (by rw [bytesV_length, Nat.mul_one]) (fun j u hj => ?_) (bytesV_one ms)
    have hjl : j < ms.length := by
      have := (List.getElem?_eq_some_iff.1 hj).1
      rwa [bytesV_length] at this
    rw [bytesV_get _ _ hjl] at hj
    rw [Addr.add_lit, ← hj]
    exact hcs j hjl
  · have : ms = [] := List.eq_nil_of_length_eq_zero (by omega)
    subst this
    cases ao with
    | none => exact Src.ofNil w hk c
    | some b => exact Src.ofSlice w hk b 0 c [] (by simp) (fun j u hj => by simp at hj) (fun u hu => by cases hu)

end
end Go.Proofs.Ytlhgfnpialndaaa

