import Derived.Test.YtphkjeeblihfgaaDoorZTE
import Derived.Test.YtphkjeeblihfgaaDoorZTD
import Derived.Test.YtphkjeeblihfgaaDoorI3
import Derived.Test.YtphkjeeblihfgaaDoorZGB
/- LinkTakes: what its walk asks. -/
namespace Go.Proofs.YtphkjeeblihfgaaDoor
open Go.RowKit Go.Maps

theorem got_all {w : World} {p : Nat} {n : Int} (h : RV w p n) (hn : 0 ≤ n ∧ n ≤ 4294967296) (f : Fm) (io : Option Addr) (ic : Nat) (bo : Option Addr) (bc : Nat) (hA : ∀ u, Fr (fun k => k = p) w u → f.At u io bo bc) :
    Calls Tryd.prog 12 #[.pointer (some ⟨p, 0, none⟩), .agg (f.cells io ic bo bc)] w fun e w' => ∃ ro rc, e = .returned (.slice ro (gotF n f).2.length rc) ∧ Hid (RV w' p (gotF n f).1 ∧ (∀ u, Fr (fun k => k < w.heap.size) w' u → ItsAt u ro (gotF n f).2) ∧ Fr (fun k => k = p) w w') := by
  by_cases hm : f.kind = 1 ∧ f.may = true
  · refine (got_fresh h hn f io ic bo bc hA hm.1 hm.2).mono ?_
    rintro e w' ⟨ro, rc, he, H⟩
    exact ⟨ro, rc, he, hide ⟨(unhide H).1, (unhide H).2.1, (unhide H).2.2.1⟩⟩
  · have hg : gotF n f = (n, []) := by unfold gotF; rw [if_neg hm]
    rw [hg]
    refine (got_none (p := p) f io ic bo bc (hA w (Fr.refl _ _)) hm).mono ?_
    rintro e w' ⟨he, H⟩
    exact ⟨none, 0, he, hide ⟨Bx.keep h (unhide H), fun u _ => ⟨fun h0 => absurd h0 (by simp), by simp⟩, (unhide H).mono (fun _ _ t => t.elim)⟩⟩
theorem rgot_all {w : World} {p : Nat} {n : Int} (h : RB w p n) (hn : 0 ≤ n ∧ n ≤ 4294967296) (f : Fm) (io : Option Addr) (ic : Nat) (bo : Option Addr) (bc : Nat) (hA : ∀ u, Fr (fun k => k = p) w u → f.At u io bo bc) :
    Calls Tryd.prog 15 #[.pointer (some ⟨p, 0, none⟩), .agg (f.cells io ic bo bc)] w fun e w' => ∃ ro rc, e = .returned (.slice ro (gotF n f).2.length rc) ∧ Hid (RB w' p (gotF n f).1 ∧ ItsAt w' ro (gotF n f).2 ∧ Fr (fun k => k = p) w w') := by
  by_cases hm : f.kind = 1 ∧ f.may = true
  · refine (rgot_some h hn f io ic bo bc hA hm.1 hm.2).mono ?_
    rintro e w' ⟨ro, rc, he, H⟩
    exact ⟨ro, rc, he, hide ⟨(unhide H).1, (unhide H).2.1, (unhide H).2.2.1⟩⟩
  · have hg : gotF n f = (n, []) := by unfold gotF; rw [if_neg hm]
    rw [hg]
    refine (rgot_none (p := p) f io ic bo bc (hA w (Fr.refl _ _)) hm).mono ?_
    rintro e w' ⟨he, H⟩
    exact ⟨none, 0, he, hide ⟨Bx.keep h (unhide H), ⟨fun h0 => absurd h0 (by simp), by simp⟩, (unhide H).mono (fun _ _ t => t.elim)⟩⟩

theorem gotF_fits {n : Int} (hn : 0 ≤ n ∧ n ≤ 4294967296) (f : Fm) : (0 ≤ (gotF n f).1 ∧ (gotF n f).1 ≤ 4294967296) ∧ (gotF n f).2.length ≤ 8 := by
  by_cases hm : f.kind = 1 ∧ f.may = true
  · obtain ⟨hb0, hi1, hi8, hba, hbs, hsq, hl⟩ := Fm.may_one hm.2 hm.1
    unfold gotF
    rw [if_pos hm]
    refine ⟨⟨by simp only; omega, by simp only; omega⟩, ?_⟩
    simp only
    split
    · simp
    · have := gotL_length (max n f.base) f.seq f.items
      omega
  · unfold gotF
    rw [if_neg hm]
    exact ⟨hn, by simp⟩
theorem takeF_fits {n : Int} (hn : 0 ≤ n ∧ n ≤ 4294967296) (q : Int) : 0 ≤ takeF n q ∧ takeF n q ≤ 4294967296 := by
  unfold takeF
  split <;> omega

/-- Rows of one's own, each in a block of its own, may be handed to Owned. -/
theorem IL.handed {M : Nat} {wk : World} {io : Option Addr} {ic ib : Nat} {ds : List RD} {its : List (List UInt8)} (h : IL M wk io ic ib ds its) (hN : its.length ≤ 1048576) (hl : ∀ b ∈ its, b.length ≤ 1048576) : Handed wk ib its.length (fun j => ds.getD j ⟨none, 0, 0, 0⟩) := by
  have hg : ∀ j (hj : j < its.length), ds.getD j ⟨none, 0, 0, 0⟩ = ds[j]'(by rw [h.n1]; exact hj) := fun j hj => by
    rw [List.getD_eq_getElem?_getD, List.getElem?_eq_getElem (by rw [h.n1]; exact hj)]
    rfl
  have hle := h.row.le
  rw [List.length_map, h.n1] at hle
  have hit : ∀ j (hj : j < its.length), Row wk (ds[j]'(by rw [h.n1]; exact hj)).val (ds[j]'(by rw [h.n1]; exact hj)).g its[j] ∧ (ds[j]'(by rw [h.n1]; exact hj)).n = its[j].length ∧ (0 < (ds[j]'(by rw [h.n1]; exact hj)).cap → M ≤ (ds[j]'(by rw [h.n1]; exact hj)).g ∧ (0 < ic → (ds[j]'(by rw [h.n1]; exact hj)).g ≠ ib)) := fun j hj => h.it j _ _ (List.getElem?_eq_getElem (by rw [h.n1]; exact hj)) (List.getElem?_eq_getElem hj)
  refine ⟨fun j hj => ?_, fun j hj => ?_, fun j k hj hk hne hc1 hc2 => ?_, fun j hj hc => ?_, fun j hj => ?_, hN⟩
  · have hv := h.row.cells j (by rw [List.length_map, h.n1]; exact hj)
    rw [hg j hj, hv, List.getElem_map]
  · rw [hg j hj]
    obtain ⟨r1, r2, r3⟩ := hit j hj
    generalize ds[j]'(by rw [h.n1]; exact hj) = d at *
    obtain ⟨ao, m, cap, g⟩ := d
    have r2 : m = its[j].length := r2
    subst r2
    exact Row.own r1
  · rw [hg j hj] at hc1
    rw [hg k hk] at hc2
    rw [hg j hj, hg k hk]
    have hp := List.pairwise_iff_getElem.1 h.up
    rcases Nat.lt_or_gt_of_ne hne with t | t
    · have := hp j k (by rw [h.n1]; exact hj) (by rw [h.n1]; exact hk) t hc1 hc2
      omega
    · have := hp k j (by rw [h.n1]; exact hk) (by rw [h.n1]; exact hj) t hc2 hc1
      omega
  · rw [hg j hj] at hc ⊢
    exact ((hit j hj).2.2 hc).2 (by omega)
  · rw [hg j hj, (hit j hj).2.1]
    have := hl its[j] (List.getElem_mem hj)
    omega

/-- What LinkTakes holds. -/
structure TKs (w : World) (q x : Nat) (n : Int) (wr : World) : Prop where
  fr : Fr (fun _ => False) w wr
  rv : RV wr q n
  rb : RB wr x n
  lo : w.heap.size ≤ q ∧ w.heap.size ≤ x ∧ q ≠ x
  nb : 0 ≤ n ∧ n ≤ 4294967296
theorem TKs.keep {w : World} {q x : Nat} {n : Int} {wr w' : World} (h : TKs w q x n wr) (k : Fr (fun _ => False) wr w') : TKs w q x n w' :=
  ⟨h.fr.trans k (fun _ _ t => t), Bx.keep h.rv k, Bx.keep h.rb k, h.lo, h.nb⟩

/-- An op that was handed in. -/
structure OpA where
  dk : Int
  sq : Int
  f : Fm
  io : Option Addr
  ic : Nat
  bo : Option Addr
  bc : Nat
def OpA.vals (q : OpA) : List Value := [.int .i64 q.dk, .int .i64 q.sq, .int .i64 q.f.kind, .int .i64 q.f.base, .int .i64 q.f.seq, .slice q.io q.f.items.length q.ic, .slice q.bo q.f.bytes.length q.bc]
structure OpAt (w : World) (so : Option Addr) (xs : List OpA) : Prop where
  cells : 0 < xs.length → ∃ b off, so = some ⟨b, off, none⟩ ∧ ∀ j (hj : j < xs.length) i, i < 7 → w.cell? ⟨b, off + j * 7 + i, none⟩ = (xs[j].vals)[i]?
  at_ : ∀ x ∈ xs, x.f.At w x.io x.bo x.bc
  few : ∀ x ∈ xs, x.f.items.length ≤ 1048576 ∧ ∀ b ∈ x.f.items, b.length ≤ 1048576
  small : xs.length ≤ 140737488355328

end Go.Proofs.YtphkjeeblihfgaaDoor

