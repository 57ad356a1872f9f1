/- What the law WireWrites holds in memory: the program's writer, the document's, the rows that came out; each apart. -/
import Derived.Test.YtdbmojiplfkniaaI3
import Derived.Test.YtdbmojiplfkniaaH3
import Derived.Test.YtdbmojiplfkniaaE0
import Derived.Test.YtdbmojiplfkniaaM1
import Derived.Test.YtdbmojiplfkniaaC4
namespace Go.Proofs.Ytdbmojiplfkniaa
open Go.RowKit

/-- The rows' values. -/
def vals (ds : Nat → RD) (m : Nat) : List Value := (List.range m).map fun j => (ds j).val

theorem vals_length (ds : Nat → RD) (m : Nat) : (vals ds m).length = m := by simp [vals]
theorem vals_get (ds : Nat → RD) (m j : Nat) (hj : j < m) : (vals ds m)[j]? = some (ds j).val := by simp [vals, hj]

/-- One more. -/
def more (ds : Nat → RD) (m : Nat) (d : RD) : Nat → RD := fun j => if j = m then d else ds j

theorem more_last (ds : Nat → RD) (m : Nat) (d : RD) : more ds m d m = d := by simp [more]
theorem more_old (ds : Nat → RD) (m : Nat) (d : RD) {j : Nat} (h : j < m) : more ds m d j = ds j := by simp [more, Nat.ne_of_lt h]

theorem vals_more (ds : Nat → RD) (m : Nat) (d : RD) : vals (more ds m d) (m + 1) = vals ds m ++ [d.val] := by
  unfold vals
  rw [List.range_succ, List.map_append]
  congr 1
  · apply List.map_congr_left
    intro j hj
    rw [more_old ds m d (List.mem_range.1 hj)]
  · simp [more_last]

structure WI (w wr : World) (p g xp xg : Nat) (s t : Option (List UInt8)) (ao : Option Addr) (acap ag m : Nat) (ds : Nat → RD) : Prop where
  wst : WSt wr p g s
  yst : YSt wr xp xg t
  fr : Fr (fun _ => False) w wr
  pw : w.heap.size ≤ p ∧ w.heap.size ≤ g ∧ w.heap.size ≤ xp ∧ w.heap.size ≤ xg
  pl : p < wr.heap.size ∧ g < wr.heap.size
  apx : p ≠ xp ∧ p ≠ xg ∧ g ≠ xp ∧ g ≠ xg
  arow : VRow wr ao acap ag (vals ds m)
  own : ∀ j, j < m → Own wr (ds j)
  fit : ∀ j, j < m → (ds j).n + 9 ≤ 140737488355328
  aw : 0 < acap → w.heap.size ≤ ag ∧ ag ≠ p ∧ ag ≠ g ∧ ag ≠ xp ∧ ag ≠ xg
  dw : ∀ j, j < m → 0 < (ds j).cap → w.heap.size ≤ (ds j).g ∧ (ds j).g ≠ p ∧ (ds j).g ≠ g ∧ (ds j).g ≠ xp ∧ (ds j).g ≠ xg ∧ (0 < acap → (ds j).g ≠ ag)
  dd : ∀ j k, j < m → k < m → j ≠ k → 0 < (ds j).cap → 0 < (ds k).cap → (ds j).g ≠ (ds k).g

section
variable {w wr : World} {p g xp xg : Nat} {s t : Option (List UInt8)} {ao : Option Addr} {acap ag m : Nat} {ds : Nat → RD}

theorem WI.put0 (h : WI w wr p g xp xg s t ao acap ag m ds) {s' : Option (List UInt8)} {w1 : World} {g' : Nat} (k1 : WSt w1 p g' s') (k2 : Fr (fun k => k = p ∨ k = g) wr w1) (k3 : g' = p ∨ g' = g ∨ wr.heap.size ≤ g') (k4 : g' < w1.heap.size) : WI w w1 p g' xp xg s' t ao acap ag m ds := by
  obtain ⟨a1, a2, a3, a4⟩ := h.apx
  obtain ⟨b1, b2, b3, b4⟩ := h.pw
  have hx := h.yst.lt
  have hxg := h.yst.glt
  have hsz := k2.size
  have hsz2 := h.fr.size
  refine ⟨k1, h.yst.frame k2 (by omega) (by omega), h.fr.trans k2 (fun i hi t => by omega), ⟨b1, by omega, b3, b4⟩, ⟨Nat.lt_of_lt_of_le h.pl.1 hsz, k4⟩, ⟨a1, a2, by omega, by omega⟩, h.arow.stay (fun hc => ?_), fun j hj => (h.own j hj).stay (fun hc => ?_), h.fit, fun hc => ?_, fun j hj hc => ?_, h.dd⟩
  · have := h.aw hc
    exact k2.block ag (h.arow.lt hc) (by omega)
  · have := h.dw j hj hc
    exact k2.block _ ((h.own j hj).lt hc) (by omega)
  · have h1 := h.aw hc
    have h2 := h.arow.lt hc
    exact ⟨h1.1, h1.2.1, by omega, h1.2.2.2.1, h1.2.2.2.2⟩
  · have h1 := h.dw j hj hc
    have h2 := (h.own j hj).lt hc
    exact ⟨h1.1, h1.2.1, by omega, h1.2.2.2.1, h1.2.2.2.2.1, h1.2.2.2.2.2⟩

/-- The program's writer was put a piece. -/
theorem WI.put (h : WI w wr p g xp xg s t ao acap ag m ds) {s' : Option (List UInt8)} {w1 : World} (hP : WPuts p g s' wr w1) : ∃ g', WI w w1 p g' xp xg s' t ao acap ag m ds := by
  obtain ⟨g1, k1, k2, k3⟩ := hP
  cases s' with
  | none => exact ⟨p, h.put0 (g' := p) k1 k2 (.inl rfl) (Nat.lt_of_lt_of_le h.pl.1 k2.size)⟩
  | some bs => exact ⟨g1, h.put0 k1 k2 (.inr k3) (WAt.glt k1)⟩

/-- The document's writer was put a piece. -/
theorem WI.model (h : WI w wr p g xp xg s t ao acap ag m ds) {t' : Option (List UInt8)} {w1 : World} (hP : YPuts xp xg t' wr w1) : ∃ xg', WI w w1 p g xp xg' s t' ao acap ag m ds := by
  obtain ⟨xg', k1, k2, k3⟩ := hP
  obtain ⟨a1, a2, a3, a4⟩ := h.apx
  obtain ⟨b1, b2, b3, b4⟩ := h.pw
  have hp := h.pl
  have hsz := k2.size
  have hsz2 := h.fr.size
  refine ⟨xg', h.wst.frame k2 (by omega) (by omega), k1, h.fr.trans k2 (fun i hi t => by omega), ⟨b1, b2, b3, by omega⟩, ⟨by omega, by omega⟩, ⟨a1, by omega, a3, by omega⟩, h.arow.stay (fun hc => ?_), fun j hj => (h.own j hj).stay (fun hc => ?_), h.fit, fun hc => ?_, fun j hj hc => ?_, h.dd⟩
  · have := h.aw hc
    exact k2.block ag (h.arow.lt hc) (by omega)
  · have := h.dw j hj hc
    exact k2.block _ ((h.own j hj).lt hc) (by omega)
  · have h1 := h.aw hc
    have h2 := h.arow.lt hc
    exact ⟨h1.1, h1.2.1, h1.2.2.1, h1.2.2.2.1, by omega⟩
  · have h1 := h.dw j hj hc
    have h2 := (h.own j hj).lt hc
    exact ⟨h1.1, h1.2.1, h1.2.2.1, h1.2.2.2.1, by omega, h1.2.2.2.2.2⟩

/-- Nothing that was there has turned. -/
theorem WI.later (h : WI w wr p g xp xg s t ao acap ag m ds) {w1 : World} (hF : Fr (fun _ => False) wr w1) : WI w w1 p g xp xg s t ao acap ag m ds :=
  ⟨h.wst.frame hF (fun t => t) (fun t => t), h.yst.frame hF (fun t => t) (fun t => t), h.fr.trans hF (fun _ _ t => t), h.pw, ⟨Nat.lt_of_lt_of_le h.pl.1 hF.size, Nat.lt_of_lt_of_le h.pl.2 hF.size⟩, h.apx,
    h.arow.stay (fun hc => hF.block ag (h.arow.lt hc) (fun t => t)), fun j hj => (h.own j hj).stay (fun hc => hF.block _ ((h.own j hj).lt hc) (fun t => t)), h.fit, h.aw, h.dw, h.dd⟩

/-- A row that came out behind 'wo', when all else was there, is laid by. -/
theorem WI.app {wo : World} (ho : WI w wo p g xp xg s t ao acap ag m ds) (h : WI w wr p g xp xg s t ao acap ag m ds) {d : RD} (hd : Own wr d) (hn : 0 < d.cap → wo.heap.size ≤ d.g) (hf : d.n + 9 ≤ 140737488355328) {w1 : World} {ao' : Option Addr} {acap' ag' : Nat} (o : Obj)
    (hr : VRow w1 ao' acap' ag' (vals ds m ++ [d.val])) (hg : Grew (wr.alloc o) ag acap w1 ag' acap') : WI w w1 p g xp xg s t ao' acap' ag' (m + 1) (more ds m d) := by
  obtain ⟨a1, a2, a3, a4⟩ := h.apx
  obtain ⟨b1, b2, b3, b4⟩ := h.pw
  have hp := ho.pl
  have hxl := ho.yst.lt
  have hxg := ho.yst.glt
  have hFa : Fr (fun k => k = ag ∧ 0 < acap) wr w1 := by
    rcases hg with ⟨_, _, hf⟩ | ⟨_, _, hf⟩
    · exact ((Fr.refl _ wr).alloc o).trans hf (fun _ _ t => t)
    · exact ((Fr.refl _ wr).alloc o).trans hf (fun _ _ t => t.elim)
  have hll : (ag' = ag ∧ acap' = acap) ∨ wr.heap.size ≤ ag' := by
    rcases hg with ⟨e1, e2, _⟩ | ⟨hn, _, _⟩
    · exact .inl ⟨e1, e2⟩
    · refine .inr ?_
      simp at hn
      omega
  have hsz := hFa.size
  have hszw := h.fr.size
  have hpl := h.pl
  have hxl2 := h.yst.lt
  have hxg2 := h.yst.glt
  have hag : 0 < acap → ag ≠ p ∧ ag ≠ g ∧ ag ≠ xp ∧ ag ≠ xg := fun hc => (h.aw hc).2
  have own' : ∀ j, j < m → Own w1 (ds j) := fun j hj => (h.own j hj).stay (fun hc => hFa.block _ ((h.own j hj).lt hc) (fun t => (h.dw j hj hc).2.2.2.2.2 t.2 t.1))
  have hdn : 0 < d.cap → w.heap.size ≤ d.g ∧ d.g ≠ p ∧ d.g ≠ g ∧ d.g ≠ xp ∧ d.g ≠ xg ∧ (0 < acap → d.g ≠ ag) := fun hc => by
    have h1 := hn hc
    have h2 := ho.fr.size
    refine ⟨by omega, by omega, by omega, by omega, by omega, fun h3 => ?_⟩
    have := ho.arow.lt h3
    omega
  have dlt : 0 < d.cap → d.g < wr.heap.size := fun hc => hd.lt hc
  refine ⟨h.wst.frame hFa (fun t => (hag t.2).1 t.1.symm) (fun t => (hag t.2).2.1 t.1.symm), h.yst.frame hFa (fun t => (hag t.2).2.2.1 t.1.symm) (fun t => (hag t.2).2.2.2 t.1.symm), h.fr.trans hFa (fun i hi t => by have := (h.aw t.2).1; have := t.1; omega), h.pw, ⟨by omega, by omega⟩, h.apx,
    by rw [vals_more]; exact hr, fun j hj => ?_, fun j hj => ?_, fun hc => ?_, fun j hj hc => ?_, fun j k hj hk hne hcj hck => ?_⟩
  · by_cases e : j = m
    · subst e
      rw [more_last]
      exact hd.stay (fun hc => hFa.block _ (dlt hc) (fun t => (hdn hc).2.2.2.2.2 t.2 t.1))
    · rw [more_old ds m d (by omega)]
      exact own' j (by omega)
  · by_cases e : j = m
    · subst e
      rw [more_last]; exact hf
    · rw [more_old ds m d (by omega)]; exact h.fit j (by omega)
  · rcases hll with ⟨e1, e2⟩ | e
    · rw [e1]; exact h.aw (by omega)
    · exact ⟨by omega, by omega, by omega, by omega, by omega⟩
  · by_cases e : j = m
    · subst e
      rw [more_last] at hc ⊢
      have h1 := hdn hc
      refine ⟨h1.1, h1.2.1, h1.2.2.1, h1.2.2.2.1, h1.2.2.2.2.1, fun h2 => ?_⟩
      rcases hll with ⟨e1, e2⟩ | e
      · rw [e1]; exact h1.2.2.2.2.2 (by omega)
      · have := dlt hc; omega
    · rw [more_old ds m d (by omega)] at hc ⊢
      have h1 := h.dw j (by omega) hc
      refine ⟨h1.1, h1.2.1, h1.2.2.1, h1.2.2.2.1, h1.2.2.2.2.1, fun h2 => ?_⟩
      rcases hll with ⟨e1, e2⟩ | e
      · rw [e1]; exact h1.2.2.2.2.2 (by omega)
      · have := (h.own j (by omega)).lt hc; omega
  · by_cases e : j = m
    · subst e
      rw [more_last] at hcj ⊢
      rw [more_old ds j d (by omega)] at hck ⊢
      have h1 := hn hcj
      have h2 := (ho.own k (by omega)).lt hck
      omega
    · rw [more_old ds m d (by omega)] at hcj ⊢
      by_cases e2 : k = m
      · subst e2
        rw [more_last] at hck ⊢
        have h1 := hn hck
        have h2 := (ho.own j (by omega)).lt hcj
        omega
      · rw [more_old ds m d (by omega)] at hck ⊢
        exact h.dd j k (by omega) (by omega) hne hcj hck

/-- The rows may be handed to Owned. -/
theorem WI.handed (h : WI w wr p g xp xg s t ao acap ag m ds) (hm : m ≤ 20) : Handed wr ag m ds := by
  refine ⟨fun j hj => ?_, h.own, h.dd, fun j hj hc => ?_, h.fit, by omega⟩
  · have hl : j < (vals ds m).length := by rw [vals_length]; exact hj
    have h1 := h.arow.cells j hl
    have h2 := vals_get ds m j hj
    rw [List.getElem?_eq_getElem hl] at h2
    rw [h1, Option.some.inj h2]
  · have hle := h.arow.le
    rw [vals_length] at hle
    exact (h.dw j hj hc).2.2.2.2.2 (by omega)

theorem WI.addr (h : WI w wr p g xp xg s t ao acap ag m ds) : 0 < m → ao = some ⟨ag, 0, none⟩ := by
  intro hm
  have hle := h.arow.le
  rw [vals_length] at hle
  exact h.arow.ad (by omega)

/-- Behind Owned the writers are as they were. -/
theorem WI.behind (h : WI w wr p g xp xg s t ao acap ag m ds) {w1 : World} (hF : Fr (fun k => ∃ j, j < m ∧ 0 < (ds j).cap ∧ k = (ds j).g) wr w1) : WSt w1 p g s ∧ YSt w1 xp xg t ∧ Fr (fun _ => False) w w1 := by
  refine ⟨h.wst.frame hF (fun ⟨j, hj, hc, e⟩ => (h.dw j hj hc).2.1 e.symm) (fun ⟨j, hj, hc, e⟩ => (h.dw j hj hc).2.2.1 e.symm), h.yst.frame hF (fun ⟨j, hj, hc, e⟩ => (h.dw j hj hc).2.2.2.1 e.symm) (fun ⟨j, hj, hc, e⟩ => (h.dw j hj hc).2.2.2.2.1 e.symm), h.fr.trans hF (fun i hi ⟨j, hj, hc, e⟩ => ?_)⟩
  have := (h.dw j hj hc).1
  omega

end
end Go.Proofs.Ytdbmojiplfkniaa
