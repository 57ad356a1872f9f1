import Derived.Test.YtabhfeocelljdaaGreatDoorZG1
import Derived.Maps.RangeWalk
import Derived.Maps.Ext
import Derived.Maps.OwnOps
/- What a sender noted: a map from numbers to ticks. -/
namespace Go.Proofs.YtabhfeocelljdaaGreatDoor
open Go.RowKit Go.Maps Go.WideElems

theorem keyedI : Keyed Tryz.prog 3 := int_keyed Tryz.underlying3

/-- A map's reading is that of a list. -/
structure Vw (D : DataW Unit) (l : List (Int × Int)) : Prop where
  keys : ∀ kl, has D kl = true → ∃ p ∈ l, kl = .int .i64 p.1
  vals : ∀ p ∈ l, ∀ zd, D.atKey (.int .i64 p.1) zd = .lit (.int .i64 p.2)
  nd : (l.map (·.1)).Nodup
  wf : ∀ p ∈ l, (Lit.int .i64 p.1).wf = true ∧ (Lit.int .i64 p.2).wf = true

theorem lit_ne {a b : Int} (h : a ≠ b) : Lit.int .i64 a ≠ Lit.int .i64 b := by intro t; injection t; contradiction

theorem Vw.empty : Vw (.map []) [] := ⟨fun kl h => by simp [has] at h, fun p h => by (cases h), List.nodup_nil, fun p h => by (cases h)⟩
theorem sAt_mem {l : List (Int × Int)} {q c : Int} (h : sAt l q = some c) : (q, c) ∈ l := by
  unfold sAt at h
  cases hf : l.find? (fun p => p.1 == q) with
  | none => rw [hf] at h; simp at h
  | some p =>
    rw [hf] at h
    have h1 := List.mem_of_find?_eq_some hf
    have h2 := List.find?_some hf
    obtain ⟨a, b⟩ := p
    simp at h h2
    subst h h2
    exact h1
theorem sAt_none {l : List (Int × Int)} {q : Int} (h : sAt l q = none) : ∀ p ∈ l, p.1 ≠ q := by
  unfold sAt at h
  cases hf : l.find? (fun p => p.1 == q) with
  | none =>
    rw [List.find?_eq_none] at hf
    intro p hp e
    exact hf p hp (by simp [e])
  | some p => rw [hf] at h; simp at h
theorem Vw.at {D : DataW Unit} {l : List (Int × Int)} (h : Vw D l) (q : Int) (zd : DataW Unit) : D.atKey (.int .i64 q) zd = match sAt l q with | some c => .lit (.int .i64 c) | none => zd := by
  cases hs : sAt l q with
  | some c => exact h.vals (q, c) (sAt_mem hs) zd
  | none =>
    refine atKey_of_not_has ?_ zd
    cases hh : has D (.int .i64 q) with
    | false => rfl
    | true =>
      obtain ⟨p, hp, e⟩ := h.keys _ hh
      injection e with _ e
      exact absurd e.symm (sAt_none hs p hp)
theorem Vw.put {D : DataW Unit} {l : List (Int × Int)} (h : Vw D l) (hm : IsMap D) {q t : Int} (hq : sAt l q = none) (hw : (Lit.int .i64 q).wf = true ∧ (Lit.int .i64 t).wf = true) : Vw (D.put (.int .i64 q) (.lit (.int .i64 t))) (l ++ [(q, t)]) := by
  have hn := sAt_none hq
  refine ⟨fun kl hk => ?_, fun p hp zd => ?_, ?_, fun p hp => ?_⟩
  · by_cases e : kl = .int .i64 q
    · exact ⟨(q, t), by simp, e⟩
    · rw [has_put_other e] at hk
      obtain ⟨p, hp, e⟩ := h.keys kl hk
      exact ⟨p, List.mem_append_left _ hp, e⟩
  · rw [List.mem_append, List.mem_singleton] at hp
    rcases hp with hp | rfl
    · rw [atKey_put_other (lit_ne (hn p hp))]; exact h.vals p hp zd
    · exact atKey_put_same (k := .int .i64 q) hm trivial _ _
  · rw [List.map_append, List.nodup_append]
    refine ⟨h.nd, by simp, fun a ha b hb => ?_⟩
    simp at ha hb
    subst hb
    obtain ⟨c, hc⟩ := ha
    exact hn _ hc
  · rw [List.mem_append, List.mem_singleton] at hp
    rcases hp with hp | rfl
    · exact h.wf p hp
    · exact hw
theorem Vw.del {D : DataW Unit} {l : List (Int × Int)} (h : Vw D l) (q : Int) : Vw (D.del (.int .i64 q)) (l.filter (fun p => decide (p.1 ≠ q))) := by
  refine ⟨fun kl hk => ?_, fun p hp zd => ?_, (List.filter_sublist.map _).nodup h.nd, fun p hp => h.wf p (List.mem_filter.1 hp).1⟩
  · by_cases e : kl = .int .i64 q
    · subst e; rw [has_del_same] at hk; cases hk
    · rw [has_del_other e] at hk
      obtain ⟨p, hp, e2⟩ := h.keys kl hk
      refine ⟨p, List.mem_filter.2 ⟨hp, ?_⟩, e2⟩
      simp only [decide_eq_true_eq]
      intro t
      exact e (by rw [e2, t])
  · obtain ⟨h1, h2⟩ := List.mem_filter.1 hp
    simp only [decide_eq_true_eq] at h2
    rw [atKey_del_other (lit_ne h2)]
    exact h.vals p h1 zd
theorem len_sub {α : Type} [BEq α] [LawfulBEq α] : ∀ (a b : List α), a.Nodup → (∀ x ∈ a, x ∈ b) → a.length ≤ b.length
  | [], b, _, _ => Nat.zero_le _
  | x :: a, b, hn, hs => by
    rw [List.nodup_cons] at hn
    have hx := hs x (by simp)
    have := len_sub a (b.erase x) hn.2 (fun y hy => (List.mem_erase_of_ne (fun e : y = x => hn.1 (e ▸ hy))).2 (hs y (by simp [hy])))
    rw [List.length_erase_of_mem hx] at this
    have h0 : 0 < b.length := List.length_pos_of_mem hx
    simp only [List.length_cons]
    omega
theorem Vw.size {D : DataW Unit} {l : List (Int × Int)} (h : Vw D l) (es : List (Lit × DataW Unit)) (hD : D = .map es) (hp : es.Pairwise (fun p q => p.1 ≠ q.1)) (hk : ∀ p ∈ es, WideAt.IsKeyLit p.1) : es.length ≤ l.length := by
  have hint : ∀ p ∈ es, ∃ q ∈ l, p.1 = .int .i64 q.1 := by
    intro p hp
    refine h.keys p.1 ?_
    rw [hD, has_eq]
    exact List.any_eq_true.2 ⟨p, hp, WideAt.sameKey_self (hk p hp)⟩
  let num : Lit → Int := fun k => match k with | .int _ x => x | _ => 0
  have hn : (es.map (fun p => num p.1)).Nodup := by
    rw [List.Nodup, List.pairwise_map]
    refine List.Pairwise.imp_of_mem ?_ hp
    intro a b ha hb hab t
    obtain ⟨qa, _, ea⟩ := hint a ha
    obtain ⟨qb, _, eb⟩ := hint b hb
    apply hab
    rw [ea, eb] at t
    have t : qa.1 = qb.1 := t
    rw [ea, eb, t]
  have := len_sub (es.map (fun p => num p.1)) (l.map (·.1)) hn (fun x hx => by
    obtain ⟨p, hp, rfl⟩ := List.mem_map.1 hx
    obtain ⟨q, hq, e⟩ := hint p hp
    rw [e]
    exact List.mem_map.2 ⟨q, hq, rfl⟩)
  simpa using this

/-- The map in block b holds the pairs of l. -/
def SMap (w : World) (b : Nat) (l : List (Int × Int)) : Prop := ∃ D : DataW Unit, w.ownsMap Tryz.prog 3 (plainElem Tryz.prog 3) b l.length D ∧ Vw D l

theorem SMap.lt {w : World} {b : Nat} {l : List (Int × Int)} (h : SMap w b l) : b < w.heap.size := by obtain ⟨D, h, _⟩ := h; exact h.lt
theorem SMap.frame {S : Nat → Prop} {w w' : World} {b : Nat} {l : List (Int × Int)} (h : SMap w b l) (k : Fr S w w') (hS : ¬ S b) : SMap w' b l := by
  obtain ⟨D, h1, h2⟩ := h
  have hlt := h1.lt
  obtain ⟨es, clock, hb, r⟩ := h1
  exact ⟨D, ⟨es, clock, (k.block b hlt hS).trans hb, r⟩, h2⟩
theorem SMap.made (w : World) : SMap (w.alloc (.map #[] 0)) w.heap.size [] := ⟨.map [], World.ownsMap_made w _ _ _, Vw.empty⟩

set_option maxRecDepth 20000 in
/-- 'v, is := m[q]'. -/
theorem SMap.look {w : World} {b : Nat} {l : List (Int × Int)} (h : SMap w b l) {q : Int} (hq : (Lit.int .i64 q).wf = true) : (Instr.lookup 71 (.map (some b)) (.int .i64 q) true).run Tryz.prog w = .ok (.tuple #[.int .i64 ((sAt l q).getD 0), .bool (sAt l q).isSome]) w := by
  obtain ⟨D, h1, h2⟩ := h
  obtain ⟨es, clock, hb, F, _, rfl⟩ := h1
  have hz : (zeroValue 3).run Tryz.prog w = .ok (.int .i64 0) w := by kernel_rfl
  rcases fit_look true keyedI Tryz.underlying71 hz hb F (keyOf_int_mk Tryz.underlying3 hq) with ⟨hrun, _, hat⟩ | ⟨e0, y, he0, hek, hrun, hy, hat, _⟩
  · rw [hrun]
    cases hs : sAt l q with
    | none => rfl
    | some c =>
      have h5 := h2.at q (.lit (.int .i64 (c + 1)))
      rw [hat, hs] at h5
      injection h5 with h5
      injection h5 with _ h5
      omega
  · obtain ⟨c, hv, hy1, _⟩ := plainElem_int_inv Tryz.underlying3 hy
    rw [hrun, hv]
    cases hs : sAt l q with
    | some c' =>
      have h5 := h2.at q (.map [])
      rw [hat, hs, hy1] at h5
      injection h5 with h5
      injection h5 with _ h5
      subst h5
      rfl
    | none =>
      have h5 := h2.at q (.map [])
      have h6 := h2.at q (.lit (.int .i64 0))
      rw [hat, hs] at h5 h6
      rw [h5] at h6
      cases h6

set_option maxRecDepth 20000 in
/-- 'm[q] = t', where nothing stood. -/
theorem SMap.put {w : World} {b : Nat} {l : List (Int × Int)} (h : SMap w b l) {q t : Int} (hq : sAt l q = none) (hw : (Lit.int .i64 q).wf = true) (ht : (Lit.int .i64 t).wf = true) (hl : l.length < 140737488355328) :
    ∃ w', (Instr.mapUpdate 71 (.map (some b)) (.int .i64 q) (.int .i64 t)).run Tryz.prog w = .ok () w' ∧ SMap w' b (l ++ [(q, t)]) ∧ Fr (· = b) w w' ∧ w'.heap.size = w.heap.size := by
  obtain ⟨D, h1, h2⟩ := h
  have hm : IsMap D := by obtain ⟨es, clock, _, _, _, rfl⟩ := h1; exact ⟨_, rfl⟩
  obtain ⟨w', hrun, r1, r2⟩ := h1.update keyedI Tryz.underlying71 (by simp only [maxLen]; omega) (keyOf_int_mk Tryz.underlying3 hw) (plainElem_int Tryz.underlying3 ht)
  have hsz : w'.heap.size = w.heap.size := by
    obtain ⟨es, clock, hb, F, hs, _⟩ := h1
    obtain ⟨es', clock', hrun', _⟩ := fit_store (R' := plainElem (H := Unit) Tryz.prog 3) keyedI Tryz.underlying71 hb F (by simp only [maxLen]; omega) (fun _ _ _ _ hz => hz) (keyOf_int_mk Tryz.underlying3 hw) (plainElem_int Tryz.underlying3 ht)
    rw [hrun] at hrun'
    injection hrun' with _ e
    rw [e]
    simp [ChangeMaps.setBlock]
  refine ⟨w', hrun, ⟨_, by rw [List.length_append]; exact r1, h2.put hm hq ⟨hw, ht⟩⟩, ⟨r2.os, r2.tape, r2.output, r2.size, fun k hk hS => r2.block k hk (fun e => hS (by injection e))⟩, hsz⟩

/-- The map, gone through. -/
def SRng (w : World) (b r : Nat) (l : List (Int × Int)) (left : Lit → Bool) (cnt : Nat) : Prop := ∃ D n, w.ranges Tryz.prog 3 (plainElem (H := Unit) Tryz.prog 3) b r n D left cnt ∧ Vw D l
set_option maxRecDepth 20000 in
theorem SRng.done {w : World} {b r : Nat} {l : List (Int × Int)} {left : Lit → Bool} {cnt : Nat} (h : SRng w b r l left cnt) : SMap w b l := by
  obtain ⟨D, n, h1, h2⟩ := h
  have h3 := h1.owns
  obtain ⟨es, clock, hb, F, hs, hD⟩ := h3
  obtain ⟨es2, e2, hp, hk⟩ := World.ownsMap.entries ⟨es, clock, hb, F, hs, hD⟩ keyedI
  have hsz := h2.size es2 e2 hp hk
  refine ⟨D, ⟨es, clock, hb, F, ?_, hD⟩, h2⟩
  have e1 : es.size = ((es.toList.map (rg Tryz.prog 3 (plainElem (H := Unit) Tryz.prog 3))).foldr DataW.insert []).length := by rw [length_sorted]; simp
  rw [hD] at e2
  injection e2 with e2
  rw [e1, e2]
  exact hsz

theorem nodup_eq {l : List (Int × Int)} (h : (l.map (·.1)).Nodup) {p q : Int × Int} (hp : p ∈ l) (hq : q ∈ l) (e : p.1 = q.1) : p = q := by
  induction l with
  | nil => cases hp
  | cons x r ih =>
    rw [List.map_cons, List.nodup_cons] at h
    rw [List.mem_cons] at hp hq
    rcases hp with rfl | hp
    · rcases hq with rfl | hq
      · rfl
      · exact absurd (List.mem_map.2 ⟨q, hq, e.symm⟩) h.1
    · rcases hq with rfl | hq
      · exact absurd (List.mem_map.2 ⟨p, hp, e⟩) h.1
      · exact ih h.2 hp hq

/-- What stands while the map is gone through: what is still to come, and what is kept. -/
def stayL (left : Lit → Bool) (keep : Int × Int → Bool) (l : List (Int × Int)) : List (Int × Int) := l.filter (fun p => left (.int .i64 p.1) || keep p)
theorem stay_start {D : DataW Unit} {l : List (Int × Int)} (h : Vw D l) (keep : Int × Int → Bool) : stayL (has D) keep l = l := by
  unfold stayL
  rw [List.filter_eq_self]
  intro p hp
  rw [has_true_of_atKey (h.vals p hp)]
  rfl
theorem stay_end {left : Lit → Bool} (h : ∀ kl, left kl = false) (keep : Int × Int → Bool) (l : List (Int × Int)) : stayL left keep l = l.filter keep := by
  unfold stayL
  congr 1
  funext p
  rw [h]
  rfl
theorem stay_kept {left : Lit → Bool} {keep : Int × Int → Bool} {l : List (Int × Int)} {q c : Int} (hnd : (l.map (·.1)).Nodup) (hm : (q, c) ∈ l) (hk : keep (q, c) = true) : stayL (fun z => left z && !z.sameKey (.int .i64 q)) keep l = stayL left keep l := by
  unfold stayL
  refine List.filter_congr (fun p hp => ?_)
  by_cases e : p.1 = q
  · have : p = (q, c) := nodup_eq hnd hp hm e
    subst this
    rw [hk]; simp
  · show ((left (.int .i64 p.1) && !(Lit.int .i64 p.1).sameKey (.int .i64 q)) || keep p) = _
    rw [sameKey_ne (lit_ne e)]; simp
theorem stay_gone {left : Lit → Bool} {keep : Int × Int → Bool} {l : List (Int × Int)} {q c : Int} (hnd : (l.map (·.1)).Nodup) (hm : (q, c) ∈ l) (hk : keep (q, c) = false) : stayL (fun z => left z && !z.sameKey (.int .i64 q)) keep l = (stayL left keep l).filter (fun p => decide (p.1 ≠ q)) := by
  unfold stayL
  rw [List.filter_filter]
  refine List.filter_congr (fun p hp => ?_)
  by_cases e : p.1 = q
  · have : p = (q, c) := nodup_eq hnd hp hm e
    subst this
    show ((left (.int .i64 q) && !(Lit.int .i64 q).sameKey (.int .i64 q)) || keep (q, c)) = _
    rw [hk, WideAt.sameKey_self (a := .int .i64 q) trivial]; simp
  · show ((left (.int .i64 p.1) && !(Lit.int .i64 p.1).sameKey (.int .i64 q)) || keep p) = _
    rw [sameKey_ne (lit_ne e)]; simp [e]

end Go.Proofs.YtabhfeocelljdaaGreatDoor

