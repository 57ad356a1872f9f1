/- Two copies of a tariff, the first of which is written over. -/
import Derived.Test.YthgkdpepgnoepaaL7
import Derived.Test.YthgkdpepgnoepaaC1
namespace Go.Proofs.Ythgkdpepgnoepaa
open Go.RowKit

theorem KRow.cat' {w : World} {ao : Option Addr} {cap g k : Nat} {vs : List Value} (h : KRow w ao cap g k vs) : CAt w ao vs := fun hl => by
  have hc : 0 < cap := by
    rcases Nat.eq_zero_or_pos cap with e | e
    · have := h.le; rw [e] at this; omega
    · exact e
  exact ⟨g, 0, h.ad hc, fun j hj => by rw [Nat.zero_add]; exact h.cells j hj⟩

/-- The first copy: its blocks lie from lo on and below hi, or behind all that was. -/
structure St (Z V : World) (lo hi M : Nat) (A : Ad) (t : Tf) (g0 g1 g2 : Nat) (v0 v1 v2 : List Value) : Prop where
  fr : Fr (fun q => lo ≤ q ∧ q < hi) Z V
  tb : TB V M A t
  r0 : KRow V A.aS A.cS g0 3 v0
  r1 : KRow V A.aP A.cP g1 5 v1
  r2 : KRow V A.aB A.cB g2 2 v2
  p0 : 0 < A.cS → g0 ≠ M ∧ lo ≤ g0 ∧ (g0 < hi ∨ Z.heap.size ≤ g0)
  p1 : 0 < A.cP → g1 ≠ M ∧ lo ≤ g1 ∧ (g1 < hi ∨ Z.heap.size ≤ g1)
  p2 : 0 < A.cB → g2 ≠ M ∧ lo ≤ g2 ∧ (g2 < hi ∨ Z.heap.size ≤ g2)
  n1 : 0 < A.cS → 0 < A.cP → g0 ≠ g1
  n2 : 0 < A.cS → 0 < A.cB → g0 ≠ g2
  n3 : 0 < A.cP → 0 < A.cB → g1 ≠ g2
  b : lo ≤ M ∧ M < hi ∧ hi ≤ Z.heap.size

theorem St.base {T : Nat → Prop} {Z Z' : World} {lo hi M : Nat} {A : Ad} {t : Tf} {g0 g1 g2 : Nat} {v0 v1 v2 : List Value} (h : St Z Z lo hi M A t g0 g1 g2 v0 v1 v2) (hf : Fr T Z Z') (hT : ∀ q, lo ≤ q → q < hi → ¬ T q) : St Z' Z' lo hi M A t g0 g1 g2 v0 v1 v2 := by
  have hb := h.b
  have hsz := hf.size
  refine ⟨Fr.refl _ _, h.tb.frame hf (hT _ hb.1 hb.2.1), h.r0.stay (fun hp => ?_), h.r1.stay (fun hp => ?_), h.r2.stay (fun hp => ?_), fun hp => ?_, fun hp => ?_, fun hp => ?_, h.n1, h.n2, h.n3, ⟨hb.1, hb.2.1, by omega⟩⟩
  · have a := h.r0.lt (by omega) hp; have c := h.p0 hp; exact hf.block _ a (hT _ (by omega) (by omega))
  · have a := h.r1.lt (by omega) hp; have c := h.p1 hp; exact hf.block _ a (hT _ (by omega) (by omega))
  · have a := h.r2.lt (by omega) hp; have c := h.p2 hp; exact hf.block _ a (hT _ (by omega) (by omega))
  · have a := h.r0.lt (by omega) hp; have c := h.p0 hp; exact ⟨c.1, c.2.1, by omega⟩
  · have a := h.r1.lt (by omega) hp; have c := h.p1 hp; exact ⟨c.1, c.2.1, by omega⟩
  · have a := h.r2.lt (by omega) hp; have c := h.p2 hp; exact ⟨c.1, c.2.1, by omega⟩

theorem St.tat {w Z V : World} {lo hi M : Nat} {A A1 : Ad} {t : Tf} {g0 g1 g2 : Nat} (h : St Z V lo hi M A t g0 g1 g2 (stV t.st) (spV t.sp) (bdV t.bd)) (hT : TAt w A1 t) : TAt V A t :=
  ⟨h.r0.cat', h.r1.cat', h.r2.cat', hT.lS, hT.lP, hT.lB, hT.off⟩

theorem St.app0 {Z V V' : World} {lo hi M : Nat} {A : Ad} {t : Tf} {g0 g1 g2 : Nat} {v0 v1 v2 : List Value} (h : St Z V lo hi M A t g0 g1 g2 v0 v1 v2) (o : Obj) {a' : Option Addr} {g' c' : Nat} {v' : List Value} (hg : Grew (V.alloc o) g0 A.cS V' g' c') (hr : KRow V' a' c' g' 3 v') :
    St Z (V'.setCell ⟨M, 0, none⟩ (.slice a' (t.st.length + 1) c')) lo hi M { A with aS := a', cS := c' } { t with st := t.st ++ [⟨1, 0, 0⟩] } g' g1 g2 v' v1 v2 := by
  have hb := h.b
  have hM := h.tb.lt
  have hsz := h.fr.size
  have hF : Fr (fun q => q = g0 ∧ 0 < A.cS) V V' := by
    rcases hg with ⟨_, _, hF⟩ | ⟨_, _, hF⟩
    · exact ((Fr.refl _ V).alloc o).trans hF (fun _ _ t => t)
    · exact ((Fr.refl _ V).alloc o).trans hF (fun _ _ t => t.elim)
  have hN : 0 < c' → (g' = g0 ∧ 0 < A.cS) ∨ V.heap.size ≤ g' := fun hp => by
    rcases hg with ⟨e1, e2, _⟩ | ⟨e1, _, _⟩
    · exact .inl ⟨e1, by omega⟩
    · rw [heap_alloc] at e1; exact .inr (by omega)
  have hm : ∀ q, q ≠ M → (V'.setCell ⟨M, 0, none⟩ (.slice a' (t.st.length + 1) c')).heap[q]? = V'.heap[q]? := fun q hq => Below.heap_setCell _ _ _ _ hq
  have htb : TB V' M A t := h.tb.frame hF (fun e => (h.p0 e.2).1 e.1.symm)
  have hgM : 0 < c' → g' ≠ M := fun hp => by
    rcases hN hp with e | e
    · rw [e.1]; exact (h.p0 e.2).1
    · omega
  have hP : 0 < c' → g' ≠ M ∧ lo ≤ g' ∧ (g' < hi ∨ Z.heap.size ≤ g') := fun hp => ⟨hgM hp, by
    rcases hN hp with e | e
    · have := h.p0 e.2; rw [e.1]; exact this.2
    · exact ⟨by omega, .inr (by omega)⟩⟩
  exact ⟨Fr.setCell (h.fr.trans hF (fun q hq e => by have := h.p0 e.2; have := e.1; omega)) (p := ⟨M, 0, none⟩) (fun _ => ⟨hb.1, hb.2.1⟩) _, TB.put htb 0 _ (by simp [tc]), hr.stay (fun hp => hm _ (hgM hp)), h.r1.stay (fun hp => (hm _ (h.p1 hp).1).trans (hF.block _ (h.r1.lt (by omega) hp) (fun e => (h.n1 e.2 hp e.1.symm)))), h.r2.stay (fun hp => (hm _ (h.p2 hp).1).trans (hF.block _ (h.r2.lt (by omega) hp) (fun e => (h.n2 e.2 hp e.1.symm)))), hP, h.p1, h.p2, (fun hp hq => by
    rcases hN hp with e | e
    · rw [e.1]; exact h.n1 e.2 hq
    · have := h.r1.lt (by omega) hq; omega), (fun hp hq => by
    rcases hN hp with e | e
    · rw [e.1]; exact h.n2 e.2 hq
    · have := h.r2.lt (by omega) hq; omega), h.n3, hb⟩

theorem St.app1 {Z V V' : World} {lo hi M : Nat} {A : Ad} {t : Tf} {g0 g1 g2 : Nat} {v0 v1 v2 : List Value} (h : St Z V lo hi M A t g0 g1 g2 v0 v1 v2) (o : Obj) {a' : Option Addr} {g' c' : Nat} {v' : List Value} (hg : Grew (V.alloc o) g1 A.cP V' g' c') (hr : KRow V' a' c' g' 5 v') :
    St Z (V'.setCell ⟨M, 1, none⟩ (.slice a' (t.sp.length + 1) c')) lo hi M { A with aP := a', cP := c' } { t with sp := t.sp ++ [⟨1, 0, 0, 0, 0⟩] } g0 g' g2 v0 v' v2 := by
  have hb := h.b
  have hM := h.tb.lt
  have hsz := h.fr.size
  have hF : Fr (fun q => q = g1 ∧ 0 < A.cP) V V' := by
    rcases hg with ⟨_, _, hF⟩ | ⟨_, _, hF⟩
    · exact ((Fr.refl _ V).alloc o).trans hF (fun _ _ t => t)
    · exact ((Fr.refl _ V).alloc o).trans hF (fun _ _ t => t.elim)
  have hN : 0 < c' → (g' = g1 ∧ 0 < A.cP) ∨ V.heap.size ≤ g' := fun hp => by
    rcases hg with ⟨e1, e2, _⟩ | ⟨e1, _, _⟩
    · exact .inl ⟨e1, by omega⟩
    · rw [heap_alloc] at e1; exact .inr (by omega)
  have hm : ∀ q, q ≠ M → (V'.setCell ⟨M, 1, none⟩ (.slice a' (t.sp.length + 1) c')).heap[q]? = V'.heap[q]? := fun q hq => Below.heap_setCell _ _ _ _ hq
  have htb : TB V' M A t := h.tb.frame hF (fun e => (h.p1 e.2).1 e.1.symm)
  have hgM : 0 < c' → g' ≠ M := fun hp => by
    rcases hN hp with e | e
    · rw [e.1]; exact (h.p1 e.2).1
    · omega
  have hP : 0 < c' → g' ≠ M ∧ lo ≤ g' ∧ (g' < hi ∨ Z.heap.size ≤ g') := fun hp => ⟨hgM hp, by
    rcases hN hp with e | e
    · have := h.p1 e.2; rw [e.1]; exact this.2
    · exact ⟨by omega, .inr (by omega)⟩⟩
  exact ⟨Fr.setCell (h.fr.trans hF (fun q hq e => by have := h.p1 e.2; have := e.1; omega)) (p := ⟨M, 1, none⟩) (fun _ => ⟨hb.1, hb.2.1⟩) _, TB.put htb 1 _ (by simp [tc]), h.r0.stay (fun hp => (hm _ (h.p0 hp).1).trans (hF.block _ (h.r0.lt (by omega) hp) (fun e => (h.n1 hp e.2 e.1)))), hr.stay (fun hp => hm _ (hgM hp)), h.r2.stay (fun hp => (hm _ (h.p2 hp).1).trans (hF.block _ (h.r2.lt (by omega) hp) (fun e => (h.n3 e.2 hp e.1.symm)))), h.p0, hP, h.p2, (fun hq hp => by
    rcases hN hp with e | e
    · rw [e.1]; exact h.n1 hq e.2
    · have := h.r0.lt (by omega) hq; omega), h.n2, (fun hp hq => by
    rcases hN hp with e | e
    · rw [e.1]; exact h.n3 e.2 hq
    · have := h.r2.lt (by omega) hq; omega), hb⟩

theorem St.app2 {Z V V' : World} {lo hi M : Nat} {A : Ad} {t : Tf} {g0 g1 g2 : Nat} {v0 v1 v2 : List Value} (h : St Z V lo hi M A t g0 g1 g2 v0 v1 v2) (o : Obj) {a' : Option Addr} {g' c' : Nat} {v' : List Value} (hg : Grew (V.alloc o) g2 A.cB V' g' c') (hr : KRow V' a' c' g' 2 v') :
    St Z (V'.setCell ⟨M, 2, none⟩ (.slice a' (t.bd.length + 1) c')) lo hi M { A with aB := a', cB := c' } { t with bd := t.bd ++ [(1, 0)] } g0 g1 g' v0 v1 v' := by
  have hb := h.b
  have hM := h.tb.lt
  have hsz := h.fr.size
  have hF : Fr (fun q => q = g2 ∧ 0 < A.cB) V V' := by
    rcases hg with ⟨_, _, hF⟩ | ⟨_, _, hF⟩
    · exact ((Fr.refl _ V).alloc o).trans hF (fun _ _ t => t)
    · exact ((Fr.refl _ V).alloc o).trans hF (fun _ _ t => t.elim)
  have hN : 0 < c' → (g' = g2 ∧ 0 < A.cB) ∨ V.heap.size ≤ g' := fun hp => by
    rcases hg with ⟨e1, e2, _⟩ | ⟨e1, _, _⟩
    · exact .inl ⟨e1, by omega⟩
    · rw [heap_alloc] at e1; exact .inr (by omega)
  have hm : ∀ q, q ≠ M → (V'.setCell ⟨M, 2, none⟩ (.slice a' (t.bd.length + 1) c')).heap[q]? = V'.heap[q]? := fun q hq => Below.heap_setCell _ _ _ _ hq
  have htb : TB V' M A t := h.tb.frame hF (fun e => (h.p2 e.2).1 e.1.symm)
  have hgM : 0 < c' → g' ≠ M := fun hp => by
    rcases hN hp with e | e
    · rw [e.1]; exact (h.p2 e.2).1
    · omega
  have hP : 0 < c' → g' ≠ M ∧ lo ≤ g' ∧ (g' < hi ∨ Z.heap.size ≤ g') := fun hp => ⟨hgM hp, by
    rcases hN hp with e | e
    · have := h.p2 e.2; rw [e.1]; exact this.2
    · exact ⟨by omega, .inr (by omega)⟩⟩
  exact ⟨Fr.setCell (h.fr.trans hF (fun q hq e => by have := h.p2 e.2; have := e.1; omega)) (p := ⟨M, 2, none⟩) (fun _ => ⟨hb.1, hb.2.1⟩) _, TB.put htb 2 _ (by simp [tc]), h.r0.stay (fun hp => (hm _ (h.p0 hp).1).trans (hF.block _ (h.r0.lt (by omega) hp) (fun e => (h.n2 hp e.2 e.1)))), h.r1.stay (fun hp => (hm _ (h.p1 hp).1).trans (hF.block _ (h.r1.lt (by omega) hp) (fun e => (h.n3 hp e.2 e.1)))), hr.stay (fun hp => hm _ (hgM hp)), h.p0, h.p1, hP, h.n1, (fun hq hp => by
    rcases hN hp with e | e
    · rw [e.1]; exact h.n2 hq e.2
    · have := h.r0.lt (by omega) hq; omega), (fun hq hp => by
    rcases hN hp with e | e
    · rw [e.1]; exact h.n3 hq e.2
    · have := h.r1.lt (by omega) hq; omega), hb⟩

theorem St.tbg0 {Z V V' : World} {lo hi M : Nat} {A : Ad} {t : Tf} {g0 g1 g2 : Nat} {v0 v1 v2 : List Value} (h : St Z V lo hi M A t g0 g1 g2 v0 v1 v2) (o : Obj) {g' c' : Nat} (hg : Grew (V.alloc o) g0 A.cS V' g' c') : TB V' M A t := by
  rcases hg with ⟨_, _, hF⟩ | ⟨_, _, hF⟩
  · exact (h.tb.keep ((Fr.refl _ V).alloc o)).frame hF (fun e => (h.p0 e.2).1 e.1.symm)
  · exact (h.tb.keep ((Fr.refl _ V).alloc o)).keep hF

theorem St.tbg1 {Z V V' : World} {lo hi M : Nat} {A : Ad} {t : Tf} {g0 g1 g2 : Nat} {v0 v1 v2 : List Value} (h : St Z V lo hi M A t g0 g1 g2 v0 v1 v2) (o : Obj) {g' c' : Nat} (hg : Grew (V.alloc o) g1 A.cP V' g' c') : TB V' M A t := by
  rcases hg with ⟨_, _, hF⟩ | ⟨_, _, hF⟩
  · exact (h.tb.keep ((Fr.refl _ V).alloc o)).frame hF (fun e => (h.p1 e.2).1 e.1.symm)
  · exact (h.tb.keep ((Fr.refl _ V).alloc o)).keep hF

theorem St.tbg2 {Z V V' : World} {lo hi M : Nat} {A : Ad} {t : Tf} {g0 g1 g2 : Nat} {v0 v1 v2 : List Value} (h : St Z V lo hi M A t g0 g1 g2 v0 v1 v2) (o : Obj) {g' c' : Nat} (hg : Grew (V.alloc o) g2 A.cB V' g' c') : TB V' M A t := by
  rcases hg with ⟨_, _, hF⟩ | ⟨_, _, hF⟩
  · exact (h.tb.keep ((Fr.refl _ V).alloc o)).frame hF (fun e => (h.p2 e.2).1 e.1.symm)
  · exact (h.tb.keep ((Fr.refl _ V).alloc o)).keep hF

/-- The second copy: its blocks lie from hi on. -/
structure Tw (V : World) (hi M : Nat) (A : Ad) (t : Tf) (g0 g1 g2 : Nat) : Prop where
  tb : TB V M A t
  r0 : KRow V A.aS A.cS g0 3 (stV t.st)
  r1 : KRow V A.aP A.cP g1 5 (spV t.sp)
  r2 : KRow V A.aB A.cB g2 2 (bdV t.bd)
  p0 : 0 < A.cS → hi ≤ g0
  p1 : 0 < A.cP → hi ≤ g1
  p2 : 0 < A.cB → hi ≤ g2
  b : hi ≤ M

theorem Tw.frame {S : Nat → Prop} {V V' : World} {hi M : Nat} {A : Ad} {t : Tf} {g0 g1 g2 : Nat} (h : Tw V hi M A t g0 g1 g2) (hf : Fr S V V') (hS : ∀ q, hi ≤ q → ¬ S q) : Tw V' hi M A t g0 g1 g2 :=
  ⟨h.tb.frame hf (hS _ h.b), h.r0.stay (fun hp => hf.block _ (h.r0.lt (by omega) hp) (hS _ (h.p0 hp))), h.r1.stay (fun hp => hf.block _ (h.r1.lt (by omega) hp) (hS _ (h.p1 hp))), h.r2.stay (fun hp => hf.block _ (h.r2.lt (by omega) hp) (hS _ (h.p2 hp))), h.p0, h.p1, h.p2, h.b⟩

theorem Tw.tat {w V : World} {hi M : Nat} {A A1 : Ad} {t : Tf} {g0 g1 g2 : Nat} (h : Tw V hi M A t g0 g1 g2) (hT : TAt w A1 t) : TAt V A t :=
  ⟨h.r0.cat', h.r1.cat', h.r2.cat', hT.lS, hT.lP, hT.lB, hT.off⟩

/-- Where the writing goes on. -/
structure Lp (Z V : World) (lo hi M : Nat) (A : Ad) (t : Tf) (g0 g1 g2 : Nat) : Prop where
  fr : Fr (fun q => lo ≤ q ∧ q < hi) Z V
  tb : TB V M A t
  r : R3 V g0 g1 g2 (A.cS * 3) (A.cP * 5) (A.cB * 2)

theorem St.lp {Z V : World} {lo hi M : Nat} {A : Ad} {t : Tf} {g0 g1 g2 : Nat} {v0 v1 v2 : List Value} (h : St Z V lo hi M A t g0 g1 g2 v0 v1 v2) : Lp Z V lo hi M A t g0 g1 g2 := ⟨h.fr, h.tb, h.r0.room', h.r1.room', h.r2.room'⟩

theorem Lp.put {Z V : World} {lo hi M : Nat} {A : Ad} {t : Tf} {g0 g1 g2 : Nat} (h : Lp Z V lo hi M A t g0 g1 g2) {g : Nat} (hg : g ≠ M ∧ lo ≤ g ∧ (g < hi ∨ Z.heap.size ≤ g)) (i : Nat) (v : Value) : Lp Z (V.setCell ⟨g, i, none⟩ v) lo hi M A t g0 g1 g2 :=
  ⟨Fr.setCell h.fr (p := ⟨g, i, none⟩) (fun hlt => by have : g < Z.heap.size := hlt; exact ⟨hg.2.1, show g < hi by omega⟩) v, (Below.heap_setCell _ _ _ _ (fun e => hg.1 e.symm)).trans h.tb, h.r.any g i v⟩

end Go.Proofs.Ythgkdpepgnoepaa
