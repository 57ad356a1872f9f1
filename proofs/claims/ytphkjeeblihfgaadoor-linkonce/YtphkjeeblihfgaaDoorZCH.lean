import Derived.Test.YtphkjeeblihfgaaDoorZC4
import Derived.Test.YtphkjeeblihfgaaDoorZCG
/- LinkOnce: what its rounds ask of its state. -/
namespace Go.Proofs.YtphkjeeblihfgaaDoor
open Go.RowKit Go.Maps

theorem KRow.src {w : World} {ao : Option Addr} {cap g k n : Nat} {vs : List Value} (h : KRow w ao cap g k vs) (tx e : TypeId) (hk : 0 < k) (ht : Tryd.prog.underlying tx = some (.slice e)) (hn : vs.length = n * k) : Src Tryd.prog k tx (.slice ao n cap) n vs w := by
  by_cases hm : 0 < vs.length
  · have hc : 0 < cap := by
      rcases Nat.eq_zero_or_pos cap with t | t
      · have := h.le
        rw [t] at this
        omega
      · exact t
    rw [h.ad hc]
    refine Src.ofSlice w ht ⟨g, 0, none⟩ n cap vs hn (fun j u hj => ?_) h.one
    have hjl := (List.getElem?_eq_some_iff.1 hj).1
    rw [Addr.add_lit, Nat.zero_add, h.cells j hjl, ← hj, List.getElem?_eq_getElem hjl]
  · have e0 : vs = [] := List.eq_nil_of_length_eq_zero (by omega)
    subst e0
    obtain rfl : n = 0 := by
      rcases Nat.eq_zero_or_pos n with h0 | h0
      · exact h0
      · have := Nat.mul_pos h0 hk; simp at hn; omega
    cases ao with
    | none => exact Src.ofNil w ht cap
    | some b => exact Src.ofSlice w ht b 0 cap [] (by simp) (fun j u hj => by simp at hj) (fun u hu => by cases hu)

section
variable {w wr w' : World} {R : Nat → Nat} {p m q : Nat} {s : Snd} {n : Int} {io : Option Addr} {ic ib : Nat} {es : List (Option Addr × Nat)} {its : List (List UInt8)}
  {fo : Option Addr} {fc fb : Nat} {hs : List (Option Addr × Nat)} {fs : List Fm} {ao : Option Addr} {ac ab : Nat} {aks : List Int} {tko : Option Addr} {tc tb : Nat} {tk : List Bool}

/-- An item. -/
theorem OS.itemAt (h : OS w R p m q s n io ic ib es its fo fc fb hs fs ao ac ab aks tko tc tb tk wr) {k : Nat} (hk : k < its.length) : io = some ⟨ib, 0, none⟩ ∧ wr.cell? ⟨ib, k * 2, none⟩ = some (.int .i64 ((1 + k : Nat) : Int)) ∧ ∃ ao cap, wr.cell? ⟨ib, k * 2 + 1, none⟩ = some (.slice ao its[k].length cap) ∧ BAt wr ao cap its[k] := by
  have hle := h.ir.le
  have hl := itsC_length 1 es its h.el
  rw [hl] at hle
  have e := itsC_get 1 es its k hk h.el
  have hb := (h.ba k hk).later h.fr
  have h0 : k * 2 < (itsC 1 es its).length := by rw [hl]; omega
  have h1 : k * 2 + 1 < (itsC 1 es its).length := by rw [hl]; omega
  refine ⟨h.ir.ad (by omega), ?_, _, _, ?_, hb⟩
  · rw [h.ir.cells _ h0, ← List.getElem?_eq_getElem h0]; exact e.1
  · rw [h.ir.cells _ h1, ← List.getElem?_eq_getElem h1]; exact e.2
/-- What stands to be sent. -/
theorem OS.itsAt (h : OS w R p m q s n io ic ib es its fo fc fb hs fs ao ac ab aks tko tc tb tk wr) {u : World} (k : Fr (fun k => k = p ∨ k = m) wr u) {g : Nat} (hg : g ≤ its.length) (hf : its.length ≤ 300) : ItsAt u (Option.map (fun a => a.add (g * 2)) io) (numI ((g : Int) + 1) (its.drop g)) := by
  have hp := h.rp
  have hm := h.rm
  have hR : ∀ i, (i = p ∨ i = m) → R i = 1 ∨ R i = 2 := fun i t => by rcases t with rfl | rfl <;> omega
  have bp := h.below (k := p) (by omega)
  have bm := h.below (k := m) (by omega)
  obtain ⟨k1, _, _, _⟩ := h.rowsF k (fun i _ t => by have := hR i t; omega)
  have hfr : Fr (fun _ => False) w u := h.fr.trans k (fun i hi t => by rcases t with rfl | rfl <;> omega)
  have hl := itsC_length 1 es its h.el
  refine ⟨fun h0 => ?_, by rw [numI_length, List.length_drop]; omega⟩
  rw [numI_length, List.length_drop] at h0
  have hle := k1.le
  rw [hl] at hle
  refine ⟨ib, g * 2, by rw [k1.ad (by omega)]; simp [Addr.add_lit], fun i hi => ?_⟩
  have hi' : i < (its.drop g).length := by rw [numI_length] at hi; exact hi
  have hi2 : g + i < its.length := by rw [List.length_drop] at hi'; omega
  have e0 : (numI ((g : Int) + 1) (its.drop g))[i] = ⟨(g : Int) + 1 + i, its[g + i]⟩ := by
    rw [numI_get _ _ _ hi', List.getElem_drop]
  rw [e0]
  have e := itsC_get 1 es its (g + i) hi2 h.el
  have h0 : (g + i) * 2 < (itsC 1 es its).length := by rw [hl]; omega
  have h1 : (g + i) * 2 + 1 < (itsC 1 es its).length := by rw [hl]; omega
  have a0 : g * 2 + i * 2 = (g + i) * 2 := by omega
  refine ⟨?_, _, _, ?_, (h.ba (g + i) hi2).later hfr⟩
  · rw [a0, k1.cells _ h0, ← List.getElem?_eq_getElem h0, e.1]
    congr 2
    show ((1 + (g + i) : Nat) : Int) = (g : Int) + 1 + i
    omega
  · rw [a0, k1.cells _ h1, ← List.getElem?_eq_getElem h1]; exact e.2
end

/-- A frame that was sent, in memory. -/
theorem OV.Ok.frameAt {x : OV} {w wr : World} {p m i : Nat} (h : x.Ok w p m i wr) {k : Nat} (hk : k < x.fs.length) : ∃ (ba sq : Int) (ii : List (List UInt8)) (ho : Option Addr) (hc : Nat), x.fo = some ⟨x.fb, 0, none⟩ ∧ wr.cell? ⟨x.fb, k * 5, none⟩ = some (.int .i64 1) ∧ wr.cell? ⟨x.fb, k * 5 + 1, none⟩ = some (.int .i64 ba) ∧ wr.cell? ⟨x.fb, k * 5 + 2, none⟩ = some (.int .i64 sq) ∧ wr.cell? ⟨x.fb, k * 5 + 3, none⟩ = some (.slice ho ii.length hc) ∧ wr.cell? ⟨x.fb, k * 5 + 4, none⟩ = some (.slice none 0 0) ∧
    (∀ u, Fr (fun k => k = x.q) wr u → (⟨1, ba, sq, ii, []⟩ : Fm).At u ho none 0) ∧ (⟨1, ba, sq, ii, []⟩ : Fm) ∈ x.fs := by
  have hrow := h.os.frr
  have hl5 := frsC_length x.hs x.fs h.os.hl
  have hle := hrow.le
  rw [hl5] at hle
  have hcl : ∀ j, j < 5 → wr.cell? ⟨x.fb, k * 5 + j, none⟩ = (frC (x.hs[k]'(by rw [h.os.hl]; exact hk)) x.fs[k])[j]? := fun j hj => by
    have hl : k * 5 + j < (frsC x.hs x.fs).length := by rw [hl5]; omega
    rw [hrow.cells _ hl, ← List.getElem?_eq_getElem hl]
    exact frsC_get x.hs x.fs k j hk h.os.hl hj
  have hfa := fun u hu => h.os.fa u hu k hk
  have hfm := List.getElem_mem hk
  have hsf := h.li.fr _ hfm
  have hq := h.os.rq
  generalize x.hs[k]'(by rw [h.os.hl]; exact hk) = hh at *
  generalize x.fs[k] = f at *
  obtain ⟨ho, hc⟩ := hh
  obtain ⟨kd, ba, sq, ii, bts⟩ := f
  have hkd : kd = 1 := hsf.kind
  have hbt : bts = [] := List.eq_nil_of_length_eq_zero (Fm.may_one hsf.may hsf.kind).1
  subst hkd hbt
  refine ⟨ba, sq, ii, ho, hc, hrow.ad (by omega), hcl 0 (by omega), hcl 1 (by omega), hcl 2 (by omega), hcl 3 (by omega), hcl 4 (by omega), fun u hu => ⟨hfa u (hu.mono (fun i _ t => by have t : i = x.q := t; subst t; omega)), ?_⟩, hfm⟩
  exact ⟨fun _ => ⟨rfl, rfl⟩, fun t => absurd t (by simp), by simp⟩

/-- What a frame brings. -/
theorem LI.gotten {its : List (List UInt8)} {fs : List Fm} {aks : List Int} {tk : List Bool} {g l : Nat} {n : Int} (h : LI its fs aks tk g l n) {f : Fm} (hf : f ∈ fs) : ∃ d : List (List UInt8), (gotF n f).2 = numI (max n f.base) d ∧ (gotF n f).1 = max n f.base ∧ 1 ≤ max n f.base ∧ d.length ≤ 8 ∧ ∀ (j : Nat) (hj : j < d.length), max n f.base + j ≤ (its.length : Int) ∧ its[(max n f.base + j - 1).toNat]? = some d[j] := by
  have hs := h.fr f hf
  have hg : gotF n f = (max n f.base, if max n f.base < f.seq then [] else gotL (max n f.base) f.seq f.items) := by unfold gotF; rw [if_pos ⟨hs.kind, hs.may⟩]
  rw [hg]
  have hb := hs.base
  by_cases hlt : max n f.base < f.seq
  · exact ⟨[], by simp only [if_pos hlt]; rfl, rfl, by omega, by simp, fun j hj => absurd hj (by simp)⟩
  · obtain ⟨e1, e2⟩ := (h.got hf).next hf (by omega) hlt
    refine ⟨_, by simp only [if_neg hlt]; exact e1, rfl, by omega, ?_, fun j hj => ⟨(e2 j hj).1, (e2 j hj).2.2⟩⟩
    have := (Fm.may_one hs.may hs.kind).2.2.1
    rw [List.length_drop]
    omega

end Go.Proofs.YtphkjeeblihfgaaDoor

