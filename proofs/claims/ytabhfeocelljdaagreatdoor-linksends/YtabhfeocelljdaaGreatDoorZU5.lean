import Derived.Test.YtabhfeocelljdaaGreatDoorZUA
import Derived.Test.YtabhfeocelljdaaGreatDoorI3
import Derived.Test.YtabhfeocelljdaaGreatDoorZTC
import Derived.Test.YtabhfeocelljdaaGreatDoorI6
/- LinkFrames: what its walk asks. -/
namespace Go.Proofs.YtabhfeocelljdaaGreatDoor
open Go.RowKit Go.Maps

theorem KRow.srcF {w : World} {ao : Option Addr} {cap g k n : Nat} {vs : List Value} (h : KRow w ao cap g k vs) (tx e : TypeId) (hk : 0 < k) (ht : Tryz.prog.underlying tx = some (.slice e)) (hn : vs.length = n * k) : Src Tryz.prog k tx (.slice ao n cap) n vs w := by
  by_cases hm : 0 < vs.length
  · have hc : 0 < cap := by
      rcases Nat.eq_zero_or_pos cap with t | t
      · have := h.le
        rw [t] at this
        omega
      · exact t
    rw [h.ad hc]
    refine Src.ofSlice w ht ⟨g, 0, none⟩ n cap vs hn (fun j u hj => ?_) h.one
    have hjl := (List.getElem?_eq_some_iff.1 hj).1
    rw [Addr.add_lit, Nat.zero_add, h.cells j hjl, ← hj, List.getElem?_eq_getElem hjl]
  · have e0 : vs = [] := List.eq_nil_of_length_eq_zero (by omega)
    subst e0
    obtain rfl : n = 0 := by
      rcases Nat.eq_zero_or_pos n with h0 | h0
      · exact h0
      · have := Nat.mul_pos h0 hk; simp at hn; omega
    cases ao with
    | none => exact Src.ofNil w ht cap
    | some b => exact Src.ofSlice w ht b 0 cap [] (by simp) (fun j u hj => by simp at hj) (fun u hu => by cases hu)

/-- A built row of values. -/
theorem KRow.built (w : World) (vs : List Value) (t : TypeId) (hv : ∀ u ∈ vs, u.oneCell' = true) (hs : vs.length ≤ 1000) : KRow (w.alloc (.cells vs.toArray t)) (some ⟨w.heap.size, 0, none⟩) vs.length w.heap.size 1 vs := by
  have hb := Bx.new w vs.toArray t
  refine ⟨by simp, by simp only [maxLen]; omega, fun _ => rfl, fun j hj => ⟨?_, hb.frozen j⟩, fun j hj => ?_, hv⟩
  · rw [hb.cell j]
    simp
    omega
  · rw [hb.cell j]
    simp

/-- Rows, each in a block of its own, may be handed to Owned. -/
theorem handed_rows {w : World} {ro : Option Addr} {rc rb : Nat} {L : List RD} (h : KRow w ro rc rb 1 (L.map RD.val)) (ho : ∀ d ∈ L, Own w d ∧ d.n + 9 ≤ 140737488355328 ∧ (0 < d.cap → d.g ≠ rb)) (hp : L.Pairwise (fun d e : RD => 0 < d.cap → 0 < e.cap → d.g ≠ e.g)) (hN : L.length ≤ 1048576) : Handed w rb L.length (fun j => L.getD j ⟨none, 0, 0, 0⟩) := by
  have hg : ∀ j (hj : j < L.length), L.getD j ⟨none, 0, 0, 0⟩ = L[j] := fun j hj => by
    rw [List.getD_eq_getElem?_getD, List.getElem?_eq_getElem hj]
    rfl
  refine ⟨fun j hj => ?_, fun j hj => ?_, fun j k hj hk hne hc1 hc2 => ?_, fun j hj hc => ?_, fun j hj => ?_, hN⟩
  · have hv := h.cells j (by rw [List.length_map]; exact hj)
    rw [hg j hj, hv, List.getElem_map]
  · rw [hg j hj]
    exact (ho _ (List.getElem_mem hj)).1
  · rw [hg j hj] at hc1
    rw [hg k hk] at hc2
    rw [hg j hj, hg k hk]
    have hq := List.pairwise_iff_getElem.1 hp
    rcases Nat.lt_or_gt_of_ne hne with t | t
    · exact hq j k hj hk t hc1 hc2
    · exact fun e => hq k j hk hj t hc2 hc1 e.symm
  · rw [hg j hj] at hc ⊢
    exact (ho _ (List.getElem_mem hj)).2.2 hc
  · rw [hg j hj]
    exact (ho _ (List.getElem_mem hj)).2.1

/-- Three rows of one's own, beside a frame's box. -/
structure FQ (w : World) (Bf : Nat) (fc : Array Value) (A : List UInt8) (da db dw : RD) (u : World) : Prop where
  fr : Fr (fun _ => False) w u
  bf : Bx u Bf fc 25
  ra : Row u da.val da.g A
  rb : Row u db.val db.g A
  rw' : Row u dw.val dw.g A
theorem FQ.keep {w : World} {Bf : Nat} {fc : Array Value} {A : List UInt8} {da db dw : RD} {u u' : World} (h : FQ w Bf fc A da db dw u) (k : Fr (fun _ => False) u u') : FQ w Bf fc A da db dw u' :=
  ⟨h.fr.trans k (fun _ _ t => t), h.bf.keep k, h.ra.frame k (fun t => t), h.rb.frame k (fun t => t), h.rw'.frame k (fun t => t)⟩
theorem FQ.other {w : World} {Bf : Nat} {fc : Array Value} {A : List UInt8} {da db dw : RD} {u u' : World} (h : FQ w Bf fc A da db dw u) {g : Nat} (k : Fr (· = g) u u') (hg : w.heap.size ≤ g) (h0 : Bf ≠ g) (h1 : 0 < da.cap → da.g ≠ g) (h2 : 0 < db.cap → db.g ≠ g) (h3 : 0 < dw.cap → dw.g ≠ g) : FQ w Bf fc A da db dw u' :=
  ⟨h.fr.trans k (fun i hi t => by have t : i = g := t; omega), h.bf.frame k h0, h.ra.other k h1, h.rb.other k h2, h.rw'.other k h3⟩

theorem makeF_fits (s : List UInt8) (f : Fm) : (makeF s f).1.length ≤ 30000 := by
  unfold makeF
  cases hm : f.may with
  | false => simp
  | true =>
    simp only [if_true]
    split
    · have := Fm.raw_small hm
      rw [sealed_length]
      omega
    · simp

theorem parseF_items (s raw : List UInt8) : ∀ b ∈ (parseF s raw).1.items, b.length ≤ 256 := by
  unfold parseF
  split
  · intro b hb; simp [zeroFm] at hb
  split
  · intro b hb; simp [zeroFm] at hb
  split
  · rename_i h1 h2 h3
    unfold readOk at h3
    simp only [Bool.and_eq_true] at h3
    have hm := h3.2
    intro b hb
    rcases Fm.may_kind hm with k | k | k
    · exact (Fm.may_one hm k).2.2.2.2.2.2 b hb
    · have h0 := (Fm.may_two hm k).2.1
      rw [List.eq_nil_of_length_eq_zero h0] at hb
      cases hb
    · have h0 := (Fm.may_four hm k).2.2.1
      rw [List.eq_nil_of_length_eq_zero h0] at hb
      cases hb
  · intro b hb; simp [zeroFm] at hb

end Go.Proofs.YtabhfeocelljdaaGreatDoor

