import Derived.Test.YtphkjeeblihfgaaDoorZC1
import Derived.Test.YtphkjeeblihfgaaDoorZG7
/- LinkOnce: what lies in memory. Each thing has a role: 1 the sender, 2 its map, 3 the receiver, 4 the items, 5 the frames, 6 the acknowledgements, 7 what was taken; 0: all else, which nothing turns. -/
namespace Go.Proofs.YtphkjeeblihfgaaDoor
open Go.RowKit Go.Maps

/-- An item's cells: its number, its bytes somewhere in what was handed in. -/
def itC (q : Nat) (e : Option Addr × Nat) (b : List UInt8) : List Value := [.int .i64 ((q : Nat) : Int), .slice e.1 b.length e.2]
def itsC : Nat → List (Option Addr × Nat) → List (List UInt8) → List Value
  | q, e :: es, b :: bs => itC q e b ++ itsC (q + 1) es bs
  | _, _, _ => []
theorem itsC_length : ∀ (q : Nat) (es : List (Option Addr × Nat)) (bs : List (List UInt8)), es.length = bs.length → (itsC q es bs).length = bs.length * 2
  | _, [], [], _ => rfl
  | q, e :: es, b :: bs, h => by
    have := itsC_length (q + 1) es bs (by simpa using h)
    simp only [itsC, List.length_append, this, itC, List.length_cons, List.length_nil]
    omega
theorem itsC_get : ∀ (q : Nat) (es : List (Option Addr × Nat)) (bs : List (List UInt8)) (i : Nat) (h : i < bs.length) (he : es.length = bs.length), (itsC q es bs)[i * 2]? = some (.int .i64 ((q + i : Nat) : Int)) ∧ (itsC q es bs)[i * 2 + 1]? = some (.slice (es[i]'(by omega)).1 bs[i].length (es[i]'(by omega)).2)
  | _, [], [], _, h, _ => by simp at h
  | _, [], _ :: _, _, _, he => by simp at he
  | _, _ :: _, [], _, h, _ => by simp at h
  | q, e :: es, b :: bs, 0, _, _ => by simp [itsC, itC]
  | q, e :: es, b :: bs, i + 1, h, he => by
    have := itsC_get (q + 1) es bs i (by simpa using h) (by simpa using he)
    simp only [itsC]
    rw [List.getElem?_append_right (by simp [itC]; omega), List.getElem?_append_right (by simp [itC]; omega)]
    have e1 : (i + 1) * 2 - (itC q e b).length = i * 2 := by simp [itC]; omega
    have e2 : (i + 1) * 2 + 1 - (itC q e b).length = i * 2 + 1 := by simp [itC]; omega
    rw [e1, e2, this.1, this.2]
    refine ⟨by congr 2; omega, rfl⟩
theorem itsC_snoc : ∀ (q : Nat) (es : List (Option Addr × Nat)) (bs : List (List UInt8)) (e : Option Addr × Nat) (b : List UInt8), es.length = bs.length → itsC q (es ++ [e]) (bs ++ [b]) = itsC q es bs ++ itC (q + bs.length) e b
  | _, [], [], e, b, _ => by simp [itsC]
  | q, x :: es, y :: bs, e, b, h => by
    simp only [List.cons_append, itsC, itsC_snoc (q + 1) es bs e b (by simpa using h), List.append_assoc, List.length_cons]
    congr 3
    omega

/-- A frame's cells. -/
def frC (h : Option Addr × Nat) (f : Fm) : List Value := [.int .i64 f.kind, .int .i64 f.base, .int .i64 f.seq, .slice h.1 f.items.length h.2, .slice none 0 0]
def frsC : List (Option Addr × Nat) → List Fm → List Value
  | h :: hs, f :: fs => frC h f ++ frsC hs fs
  | _, _ => []
theorem frsC_length : ∀ (hs : List (Option Addr × Nat)) (fs : List Fm), hs.length = fs.length → (frsC hs fs).length = fs.length * 5
  | [], [], _ => rfl
  | h :: hs, f :: fs, e => by
    have := frsC_length hs fs (by simpa using e)
    simp only [frsC, List.length_append, this, frC, List.length_cons, List.length_nil]
    omega
theorem frsC_get : ∀ (hs : List (Option Addr × Nat)) (fs : List Fm) (i j : Nat) (h : i < fs.length) (e : hs.length = fs.length), j < 5 → (frsC hs fs)[i * 5 + j]? = (frC (hs[i]'(by omega)) fs[i])[j]?
  | [], [], _, _, h, _, _ => by simp at h
  | [], _ :: _, _, _, _, e, _ => by simp at e
  | _ :: _, [], _, _, h, _, _ => by simp at h
  | h :: hs, f :: fs, 0, j, _, _, hj => by
    simp only [frsC]
    rw [List.getElem?_append_left (by simp [frC]; omega)]
    simp
  | h :: hs, f :: fs, i + 1, j, hi, e, hj => by
    have := frsC_get hs fs i j (by simpa using hi) (by simpa using e) hj
    simp only [frsC]
    rw [List.getElem?_append_right (by simp [frC]; omega)]
    have e1 : (i + 1) * 5 + j - (frC h f).length = i * 5 + j := by simp [frC]; omega
    rw [e1, this]
    rfl
theorem frsC_append : ∀ (hs : List (Option Addr × Nat)) (fs : List Fm) (hs' : List (Option Addr × Nat)) (fs' : List Fm), hs.length = fs.length → frsC (hs ++ hs') (fs ++ fs') = frsC hs fs ++ frsC hs' fs'
  | [], [], _, _, _ => rfl
  | h :: hs, f :: fs, hs', fs', e => by simp only [List.cons_append, frsC, frsC_append hs fs hs' fs' (by simpa using e), List.append_assoc]
theorem frsC_of (xs : List FrM) : frsC (xs.map fun x => (x.io, x.ic)) (xs.map FrM.f) = xs.flatMap FrM.cells := by
  induction xs with
  | nil => rfl
  | cons x r ih => simp only [List.map_cons, frsC, ih, List.flatMap_cons]; rfl

def ackC (a : Int) : List Value := [.int .i64 2, .int .i64 0, .int .i64 a, .slice none 0 0, .slice none 0 0]
theorem ackC_length (l : List Int) : (l.flatMap ackC).length = l.length * 5 := by
  induction l with
  | nil => rfl
  | cons x r ih => rw [List.flatMap_cons, List.length_append, ih]; simp [ackC]; omega
theorem ackC_get (l : List Int) : ∀ (i : Nat) (h : i < l.length), (l.flatMap ackC)[i * 5 + 2]? = some (.int .i64 l[i]) := by
  induction l with
  | nil => intro i h; simp at h
  | cons x r ih =>
    intro i h
    rw [List.flatMap_cons]
    cases i with
    | zero => rfl
    | succ i =>
      rw [List.getElem?_append_right (by simp [ackC]; omega)]
      have e1 : (i + 1) * 5 + 2 - (ackC x).length = i * 5 + 2 := by simp [ackC]; omega
      rw [e1, ih i (by simpa using h)]
      rfl

/-- What LinkOnce holds in memory. -/
structure OS (w : World) (R : Nat → Nat) (p m q : Nat) (s : Snd) (n : Int) (io : Option Addr) (ic ib : Nat) (es : List (Option Addr × Nat)) (its : List (List UInt8))
    (fo : Option Addr) (fc fb : Nat) (hs : List (Option Addr × Nat)) (fs : List Fm) (ao : Option Addr) (ac ab : Nat) (aks : List Int) (tko : Option Addr) (tc tb : Nat) (tk : List Bool) (wr : World) : Prop where
  fr : Fr (fun _ => False) w wr
  r0 : ∀ k, k < w.heap.size → R k = 0
  rz : ∀ k, wr.heap.size ≤ k → R k = 0
  sn : SN wr p m s
  rp : R p = 1
  rm : R m = 2
  rv : RV wr q n
  rq : R q = 3
  ir : KRow wr io ic ib 2 (itsC 1 es its)
  ri : 0 < ic → R ib = 4
  el : es.length = its.length
  ba : ∀ (i : Nat) (h : i < its.length), BAt w (es[i]'(by omega)).1 (es[i]'(by omega)).2 its[i]
  frr : KRow wr fo fc fb 5 (frsC hs fs)
  rf : 0 < fc → R fb = 5
  hl : hs.length = fs.length
  fa : ∀ u, Fr (fun k => R k ≠ 0) wr u → ∀ (i : Nat) (h : i < fs.length), RowsAt u (hs[i]'(by omega)).1 fs[i].items
  ar : KRow wr ao ac ab 5 (aks.flatMap ackC)
  ra : 0 < ac → R ab = 6
  tr : KRow wr tko tc tb 1 (tk.map Value.bool)
  rt : 0 < tc → R tb = 7

section
variable {w wr w' : World} {R : Nat → Nat} {p m q : Nat} {s : Snd} {n : Int} {io : Option Addr} {ic ib : Nat} {es : List (Option Addr × Nat)} {its : List (List UInt8)}
  {fo : Option Addr} {fc fb : Nat} {hs : List (Option Addr × Nat)} {fs : List Fm} {ao : Option Addr} {ac ab : Nat} {aks : List Int} {tko : Option Addr} {tc tb : Nat} {tk : List Bool}

/-- Some of the roles' blocks turn, each thing whose role is another stands. -/
theorem OS.fa' (h : OS w R p m q s n io ic ib es its fo fc fb hs fs ao ac ab aks tko tc tb tk wr) {S : Nat → Prop} (k : Fr S wr w') (hS : ∀ i, i < wr.heap.size → S i → R i ≠ 0) {R' : Nat → Nat} (hR : ∀ i, i < wr.heap.size → R' i ≠ 0 → R i ≠ 0) : ∀ u, Fr (fun k => R' k ≠ 0) w' u → ∀ (i : Nat) (hi : i < fs.length), RowsAt u (hs[i]'(by have := h.hl; omega)).1 fs[i].items :=
  fun u hu => h.fa u ((k.mono (T := fun k => R k ≠ 0) hS).trans hu hR)
theorem OS.keep (h : OS w R p m q s n io ic ib es its fo fc fb hs fs ao ac ab aks tko tc tb tk wr) (k : Fr (fun _ => False) wr w') : OS w R p m q s n io ic ib es its fo fc fb hs fs ao ac ab aks tko tc tb tk w' :=
  ⟨h.fr.trans k (fun _ _ t => t), h.r0, fun i hi => h.rz i (by have := k.size; omega), h.sn.frame k (fun t => t) (fun t => t), h.rp, h.rm, h.rv.keep k, h.rq, h.ir.keep (by omega) k, h.ri, h.el, h.ba, h.frr.keep (by omega) k, h.rf, h.hl, h.fa' k (fun _ _ t => t.elim) (fun _ _ t => t), h.ar.keep (by omega) k, h.ra, h.tr.keep (by omega) k, h.rt⟩
theorem OS.rowsF (h : OS w R p m q s n io ic ib es its fo fc fb hs fs ao ac ab aks tko tc tb tk wr) {S : Nat → Prop} (k : Fr S wr w') (hS : ∀ i, i < wr.heap.size → S i → R i ≠ 4 ∧ R i ≠ 5 ∧ R i ≠ 6 ∧ R i ≠ 7) : KRow w' io ic ib 2 (itsC 1 es its) ∧ KRow w' fo fc fb 5 (frsC hs fs) ∧ KRow w' ao ac ab 5 (aks.flatMap ackC) ∧ KRow w' tko tc tb 1 (tk.map Value.bool) :=
  ⟨h.ir.stay (fun hc => k.block ib (h.ir.lt (by omega) hc) (fun t => by have := hS ib (h.ir.lt (by omega) hc) t; have := h.ri hc; omega)),
   h.frr.stay (fun hc => k.block fb (h.frr.lt (by omega) hc) (fun t => by have := hS fb (h.frr.lt (by omega) hc) t; have := h.rf hc; omega)),
   h.ar.stay (fun hc => k.block ab (h.ar.lt (by omega) hc) (fun t => by have := hS ab (h.ar.lt (by omega) hc) t; have := h.ra hc; omega)),
   h.tr.stay (fun hc => k.block tb (h.tr.lt (by omega) hc) (fun t => by have := hS tb (h.tr.lt (by omega) hc) t; have := h.rt hc; omega))⟩
theorem OS.below (h : OS w R p m q s n io ic ib es its fo fc fb hs fs ao ac ab aks tko tc tb tk wr) {k : Nat} (hk : R k ≠ 0) : w.heap.size ≤ k ∧ k < wr.heap.size := by
  have h1 := h.r0 k
  have h2 := h.rz k
  constructor
  · exact Nat.le_of_not_lt (fun t => hk (h1 t))
  · exact Nat.lt_of_not_le (fun t => hk (h2 t))

/-- The sender ticked. -/
theorem OS.tick (h : OS w R p m q s n io ic ib es its fo fc fb hs fs ao ac ab aks tko tc tb tk wr) {s' : Snd} (k : Fr (fun k => k = p ∨ k = m) wr w') (hs' : SN w' p m s') : OS w R p m q s' n io ic ib es its fo fc fb hs fs ao ac ab aks tko tc tb tk w' := by
  have hp := h.rp
  have hm := h.rm
  have hq := h.rq
  have hR : ∀ i, (i = p ∨ i = m) → R i = 1 ∨ R i = 2 := fun i t => by rcases t with rfl | rfl <;> omega
  have bp := h.below (k := p) (by omega)
  have bm := h.below (k := m) (by omega)
  obtain ⟨k1, k2, k3, k4⟩ := h.rowsF k (fun i _ t => by have := hR i t; omega)
  exact ⟨h.fr.trans k (fun i hi t => by rcases t with rfl | rfl <;> omega), h.r0, fun i hi => h.rz i (by have := k.size; omega), hs', h.rp, h.rm, h.rv.frame k (fun t => by have := hR q t; omega), h.rq, k1, h.ri, h.el, h.ba, k2, h.rf, h.hl, h.fa' k (fun i _ t => by have := hR i t; omega) (fun _ _ t => t), k3, h.ra, k4, h.rt⟩
/-- The receiver turned. -/
theorem OS.recv (h : OS w R p m q s n io ic ib es its fo fc fb hs fs ao ac ab aks tko tc tb tk wr) {n' : Int} (k : Fr (fun k => k = q) wr w') (hr : RV w' q n') : OS w R p m q s n' io ic ib es its fo fc fb hs fs ao ac ab aks tko tc tb tk w' := by
  have hp := h.rp
  have hm := h.rm
  have hq := h.rq
  have bq := h.below (k := q) (by omega)
  obtain ⟨k1, k2, k3, k4⟩ := h.rowsF k (fun i _ t => by have t : i = q := t; subst t; omega)
  exact ⟨h.fr.trans k (fun i hi t => by omega), h.r0, fun i hi => h.rz i (by have := k.size; omega), h.sn.frame k (fun t => by have t : p = q := t; subst t; omega) (fun t => by have t : m = q := t; subst t; omega), h.rp, h.rm, hr, h.rq, k1, h.ri, h.el, h.ba, k2, h.rf, h.hl, h.fa' k (fun i _ t => by have t : i = q := t; subst t; omega) (fun _ _ t => t), k3, h.ra, k4, h.rt⟩

/-- A row turns, or moves into new memory; all else stands. -/
structure TR (w : World) (R : Nat → Nat) (p m q : Nat) (s : Snd) (n : Int) (io : Option Addr) (ic ib : Nat) (es : List (Option Addr × Nat)) (its : List (List UInt8))
    (fo : Option Addr) (fc fb : Nat) (hs : List (Option Addr × Nat)) (fs : List Fm) (ao : Option Addr) (ac ab : Nat) (aks : List Int) (tko : Option Addr) (tc tb : Nat) (tk : List Bool) (j : Nat) (w' : World) : Prop where
  fr : Fr (fun _ => False) w w'
  r0 : ∀ k, k < w.heap.size → R k = 0
  rz : ∀ k, w'.heap.size ≤ k → R k = 0
  sn : SN w' p m s
  rp : R p = 1
  rm : R m = 2
  rv : RV w' q n
  rq : R q = 3
  ir : j ≠ 4 → KRow w' io ic ib 2 (itsC 1 es its) ∧ (0 < ic → R ib = 4)
  frr : j ≠ 5 → KRow w' fo fc fb 5 (frsC hs fs) ∧ (0 < fc → R fb = 5)
  ar : j ≠ 6 → KRow w' ao ac ab 5 (aks.flatMap ackC) ∧ (0 < ac → R ab = 6)
  tr : j ≠ 7 → KRow w' tko tc tb 1 (tk.map Value.bool) ∧ (0 < tc → R tb = 7)

theorem OS.turn (h : OS w R p m q s n io ic ib es its fo fc fb hs fs ao ac ab aks tko tc tb tk wr) {S : Nat → Prop} (k : Fr S wr w') (j : Nat) (hj : 4 ≤ j) (hS : ∀ i, i < wr.heap.size → S i → R i = j) {R' : Nat → Nat} (h1 : ∀ i, i < wr.heap.size → R' i = R i) (h2 : ∀ i, w'.heap.size ≤ i → R' i = 0) :
    TR w R' p m q s n io ic ib es its fo fc fb hs fs ao ac ab aks tko tc tb tk j w' := by
  have hz := h.fr.size
  have hp := h.rp
  have hm := h.rm
  have hq := h.rq
  have bp := (h.below (k := p) (by omega)).2
  have bm := (h.below (k := m) (by omega)).2
  have bq := (h.below (k := q) (by omega)).2
  have ne : ∀ i, i < wr.heap.size → R i ≠ j → ¬ S i := fun i hi hr t => hr (hS i hi t)
  refine ⟨h.fr.trans k (fun i hi t => by have := hS i (by omega) t; have := h.r0 i hi; omega), fun i hi => by rw [h1 i (by omega)]; exact h.r0 i hi, h2, h.sn.frame k (ne p bp (by omega)) (ne m bm (by omega)), by rw [h1 p bp]; exact hp, by rw [h1 m bm]; exact hm, h.rv.frame k (ne q bq (by omega)), by rw [h1 q bq]; exact hq, fun e => ?_, fun e => ?_, fun e => ?_, fun e => ?_⟩
  · exact ⟨h.ir.stay (fun hc => k.block ib (h.ir.lt (by omega) hc) (ne ib (h.ir.lt (by omega) hc) (by rw [h.ri hc]; exact fun t => e t.symm))), fun hc => by rw [h1 ib (h.ir.lt (by omega) hc)]; exact h.ri hc⟩
  · exact ⟨h.frr.stay (fun hc => k.block fb (h.frr.lt (by omega) hc) (ne fb (h.frr.lt (by omega) hc) (by rw [h.rf hc]; exact fun t => e t.symm))), fun hc => by rw [h1 fb (h.frr.lt (by omega) hc)]; exact h.rf hc⟩
  · exact ⟨h.ar.stay (fun hc => k.block ab (h.ar.lt (by omega) hc) (ne ab (h.ar.lt (by omega) hc) (by rw [h.ra hc]; exact fun t => e t.symm))), fun hc => by rw [h1 ab (h.ar.lt (by omega) hc)]; exact h.ra hc⟩
  · exact ⟨h.tr.stay (fun hc => k.block tb (h.tr.lt (by omega) hc) (ne tb (h.tr.lt (by omega) hc) (by rw [h.rt hc]; exact fun t => e t.symm))), fun hc => by rw [h1 tb (h.tr.lt (by omega) hc)]; exact h.rt hc⟩

/-- Where a row stands behind an append. -/
def reR (R : Nat → Nat) (g cap j : Nat) : Nat → Nat := fun k => if k = g ∧ 0 < cap then j else R k
theorem reR_old {g cap g' cap' j : Nat} (h : 0 < cap → R g = j) (k : Grew wr g cap w' g' cap') : ∀ i, i < wr.heap.size → reR R g' cap' j i = R i := by
  intro i hi
  unfold reR
  split
  · rename_i t
    rcases k with ⟨rfl, rfl, _⟩ | ⟨e, _, _⟩
    · rw [t.1, h t.2]
    · omega
  · rfl
theorem reR_new {g cap g' cap' j : Nat} (hz : ∀ k, wr.heap.size ≤ k → R k = 0) (k : Grew wr g cap w' g' cap') (hl : 0 < cap' → g' < w'.heap.size) : ∀ i, w'.heap.size ≤ i → reR R g' cap' j i = 0 := by
  intro i hi
  have hs : wr.heap.size ≤ w'.heap.size := by rcases k with ⟨_, _, f⟩ | ⟨_, _, f⟩ <;> exact f.size
  unfold reR
  split
  · rename_i t
    have := hl t.2
    omega
  · exact hz i (by omega)
theorem reR_at (R : Nat → Nat) {g cap j : Nat} (hc : 0 < cap) : reR R g cap j g = j := by unfold reR; rw [if_pos ⟨rfl, hc⟩]

/-- Frames more. -/
theorem OS.more (h : OS w R p m q s n io ic ib es its fo fc fb hs fs ao ac ab aks tko tc tb tk wr) {M : Nat} {fo2 : Option Addr} {fc2 fb2 : Nat} {xs : List FrM} (hM : ∀ k, R k ≠ 0 → k < M) (hF : FL M wr fo2 fc2 fb2 xs) (h8 : ∀ x ∈ xs, x.f.items.length ≤ 8)
    {fo' : Option Addr} {fc' fb' : Nat} (k1 : KRow w' fo' fc' fb' 5 (frsC hs fs ++ xs.flatMap FrM.cells)) (k2 : Grew wr fb fc w' fb' fc') :
    OS w (reR R fb' fc' 5) p m q s n io ic ib es its fo' fc' fb' (hs ++ xs.map fun x => (x.io, x.ic)) (fs ++ xs.map FrM.f) ao ac ab aks tko tc tb tk w' := by
  have hfr : Fr (fun q => q = fb ∧ 0 < fc) wr w' := k2.frZ
  have h1 := reR_old (R := R) h.rf k2
  have h2 := reR_new (R := R) (j := 5) h.rz k2 (fun hc => k1.lt (by omega) hc)
  have hS : ∀ i, i < wr.heap.size → (i = fb ∧ 0 < fc) → R i = 5 := fun i _ t => by rw [t.1]; exact h.rf t.2
  have T := h.turn hfr 5 (by omega) hS h1 h2
  have hlen : (hs ++ xs.map fun x => (x.io, x.ic)).length = (fs ++ xs.map FrM.f).length := by simp [h.hl]
  refine ⟨T.fr, T.r0, T.rz, T.sn, T.rp, T.rm, T.rv, T.rq, (T.ir (by omega)).1, (T.ir (by omega)).2, h.el, h.ba, by rw [frsC_append _ _ _ _ h.hl, frsC_of]; exact k1, fun hc => reR_at R hc, hlen, ?_, (T.ar (by omega)).1, (T.ar (by omega)).2, (T.tr (by omega)).1, (T.tr (by omega)).2⟩
  intro u hu i hi
  have hR' : ∀ i, i < wr.heap.size → reR R fb' fc' 5 i ≠ 0 → R i ≠ 0 := fun i hi t => by rw [h1 i hi] at t; exact t
  by_cases hil : i < fs.length
  · have := h.fa' hfr (fun i hi t => by rw [hS i hi t]; omega) hR' u hu i hil
    rw [List.getElem_append_left (by rw [h.hl]; exact hil), List.getElem_append_left hil]
    exact this
  · have hx : i - fs.length < xs.length := by simp at hi; omega
    rw [List.getElem_append_right (by rw [h.hl]; omega), List.getElem_append_right (by omega)]
    simp only [List.getElem_map, h.hl]
    have hu2 : Fr (fun k => R k ≠ 0) wr u := (hfr.mono (T := fun k => R k ≠ 0) (fun i hi t => by rw [hS i hi t]; omega)).trans hu hR'
    have hF2 := hF.frame hu2 (fun i t => hM i t)
    have hx8 := h8 _ (List.getElem_mem hx)
    exact (hF2.ok _ (List.getElem_mem hx)).il.rows (by omega)
/-- An item more. -/
theorem OS.item (h : OS w R p m q s n io ic ib es its fo fc fb hs fs ao ac ab aks tko tc tb tk wr) {e : Option Addr × Nat} {b : List UInt8} (hb : BAt w e.1 e.2 b)
    {io' : Option Addr} {ic' ib' : Nat} (k1 : KRow w' io' ic' ib' 2 (itsC 1 es its ++ itC (1 + its.length) e b)) (k2 : Grew wr ib ic w' ib' ic') :
    OS w (reR R ib' ic' 4) p m q s n io' ic' ib' (es ++ [e]) (its ++ [b]) fo fc fb hs fs ao ac ab aks tko tc tb tk w' := by
  have hfr : Fr (fun q => q = ib ∧ 0 < ic) wr w' := k2.frZ
  have h1 := reR_old (R := R) h.ri k2
  have h2 := reR_new (R := R) (j := 4) h.rz k2 (fun hc => k1.lt (by omega) hc)
  have hS : ∀ i, i < wr.heap.size → (i = ib ∧ 0 < ic) → R i = 4 := fun i _ t => by rw [t.1]; exact h.ri t.2
  have T := h.turn hfr 4 (by omega) hS h1 h2
  refine ⟨T.fr, T.r0, T.rz, T.sn, T.rp, T.rm, T.rv, T.rq, by rw [itsC_snoc _ _ _ _ _ h.el]; exact k1, fun hc => reR_at R hc, by simp [h.el], fun i hi => ?_, (T.frr (by omega)).1, (T.frr (by omega)).2, h.hl, h.fa' hfr (fun i hi t => by rw [hS i hi t]; omega) (fun i hi t => by rw [h1 i hi] at t; exact t), (T.ar (by omega)).1, (T.ar (by omega)).2, (T.tr (by omega)).1, (T.tr (by omega)).2⟩
  by_cases hil : i < its.length
  · have := h.ba i hil
    rw [List.getElem_append_left hil]
    simp only [List.getElem_append_left (show i < es.length by rw [h.el]; exact hil)]
    exact this
  · have hie : i = its.length := by simp at hi; omega
    subst hie
    have e1 : (its ++ [b])[its.length] = b := by simp
    have e2 : (es ++ [e])[its.length]'(by simp [h.el]) = e := by simp [← h.el]
    rw [e1, e2]
    exact hb
/-- An acknowledgement more. -/
theorem OS.ack (h : OS w R p m q s n io ic ib es its fo fc fb hs fs ao ac ab aks tko tc tb tk wr) {a : Int}
    {ao' : Option Addr} {ac' ab' : Nat} (k1 : KRow w' ao' ac' ab' 5 (aks.flatMap ackC ++ ackC a)) (k2 : Grew wr ab ac w' ab' ac') :
    OS w (reR R ab' ac' 6) p m q s n io ic ib es its fo fc fb hs fs ao' ac' ab' (aks ++ [a]) tko tc tb tk w' := by
  have hfr : Fr (fun q => q = ab ∧ 0 < ac) wr w' := k2.frZ
  have h1 := reR_old (R := R) h.ra k2
  have h2 := reR_new (R := R) (j := 6) h.rz k2 (fun hc => k1.lt (by omega) hc)
  have hS : ∀ i, i < wr.heap.size → (i = ab ∧ 0 < ac) → R i = 6 := fun i _ t => by rw [t.1]; exact h.ra t.2
  have T := h.turn hfr 6 (by omega) hS h1 h2
  exact ⟨T.fr, T.r0, T.rz, T.sn, T.rp, T.rm, T.rv, T.rq, (T.ir (by omega)).1, (T.ir (by omega)).2, h.el, h.ba, (T.frr (by omega)).1, (T.frr (by omega)).2, h.hl, h.fa' hfr (fun i hi t => by rw [hS i hi t]; omega) (fun i hi t => by rw [h1 i hi] at t; exact t), by rw [List.flatMap_append]; simpa using k1, fun hc => reR_at R hc, (T.tr (by omega)).1, (T.tr (by omega)).2⟩
/-- A place more for what was taken. -/
theorem OS.place (h : OS w R p m q s n io ic ib es its fo fc fb hs fs ao ac ab aks tko tc tb tk wr) {v : Bool}
    {to' : Option Addr} {tc' tb' : Nat} (k1 : KRow w' to' tc' tb' 1 (tk.map Value.bool ++ [.bool v])) (k2 : Grew wr tb tc w' tb' tc') :
    OS w (reR R tb' tc' 7) p m q s n io ic ib es its fo fc fb hs fs ao ac ab aks to' tc' tb' (tk ++ [v]) w' := by
  have hfr : Fr (fun q => q = tb ∧ 0 < tc) wr w' := k2.frZ
  have h1 := reR_old (R := R) h.rt k2
  have h2 := reR_new (R := R) (j := 7) h.rz k2 (fun hc => k1.lt (by omega) hc)
  have hS : ∀ i, i < wr.heap.size → (i = tb ∧ 0 < tc) → R i = 7 := fun i _ t => by rw [t.1]; exact h.rt t.2
  have T := h.turn hfr 7 (by omega) hS h1 h2
  exact ⟨T.fr, T.r0, T.rz, T.sn, T.rp, T.rm, T.rv, T.rq, (T.ir (by omega)).1, (T.ir (by omega)).2, h.el, h.ba, (T.frr (by omega)).1, (T.frr (by omega)).2, h.hl, h.fa' hfr (fun i hi t => by rw [hS i hi t]; omega) (fun i hi t => by rw [h1 i hi] at t; exact t), (T.ar (by omega)).1, (T.ar (by omega)).2, by rw [List.map_append]; exact k1, fun hc => reR_at R hc⟩
/-- A number is taken. -/
theorem OS.mark (h : OS w R p m q s n io ic ib es its fo fc fb hs fs ao ac ab aks tko tc tb tk wr) {i : Nat} (hi : i < tk.length) : OS w R p m q s n io ic ib es its fo fc fb hs fs ao ac ab aks tko tc tb (tk.set i true) (wr.setCell ⟨tb, i, none⟩ (.bool true)) := by
  have hle := h.tr.le
  rw [List.length_map] at hle
  have hc : 0 < tc := by omega
  have hfr : Fr (fun k => k = tb) wr (wr.setCell ⟨tb, i, none⟩ (.bool true)) := Fr.setCell (S := fun k => k = tb) (Fr.refl _ _) (p := ⟨tb, i, none⟩) (fun _ => rfl) _
  have hS : ∀ k, k < wr.heap.size → k = tb → R k = 7 := fun k _ t => by rw [t]; exact h.rt hc
  have T := h.turn hfr 7 (by omega) hS (R' := R) (fun _ _ => rfl) (fun k hk => h.rz k (by have := hfr.size; omega))
  have hrow := h.tr.setAt i (by rw [List.length_map]; exact hi) (.bool true) rfl
  exact ⟨T.fr, T.r0, T.rz, T.sn, T.rp, T.rm, T.rv, T.rq, (T.ir (by omega)).1, (T.ir (by omega)).2, h.el, h.ba, (T.frr (by omega)).1, (T.frr (by omega)).2, h.hl, h.fa' hfr (fun k hk t => by rw [hS k hk t]; omega) (fun _ _ t => t), (T.ar (by omega)).1, (T.ar (by omega)).2, by rw [List.map_set]; exact hrow, h.rt⟩
/-- A new receiver. -/
theorem OS.anew (h : OS w R p m q s n io ic ib es its fo fc fb hs fs ao ac ab aks tko tc tb tk wr) : OS w (fun k => if k = wr.heap.size then 3 else R k) p m wr.heap.size s 0 io ic ib es its fo fc fb hs fs ao ac ab aks tko tc tb tk (wr.alloc (.cells #[.int .i64 0] 67)) := by
  have hk : Fr (fun _ => False) wr (wr.alloc (.cells #[.int .i64 0] 67)) := (Fr.refl _ _).alloc _
  have hsz := heap_alloc wr (.cells #[.int .i64 0] 67)
  have h1 : ∀ i, i < wr.heap.size → (if i = wr.heap.size then 3 else R i) = R i := fun i hi => if_neg (by omega)
  have T := h.turn hk 4 (by omega) (fun _ _ t => t.elim) (R' := fun k => if k = wr.heap.size then 3 else R k) h1 (fun i hi => by rw [hsz] at hi; show (if i = wr.heap.size then 3 else R i) = 0; rw [if_neg (by omega)]; exact h.rz i (by omega))
  exact ⟨T.fr, T.r0, T.rz, T.sn, T.rp, T.rm, Bx.new _ _ _, if_pos rfl, h.ir.keep (by omega) hk, fun hc => by rw [h1 ib (h.ir.lt (by omega) hc)]; exact h.ri hc, h.el, h.ba, (T.frr (by omega)).1, (T.frr (by omega)).2, h.hl, h.fa' hk (fun _ _ t => t.elim) (fun i hi t => by rw [h1 i hi] at t; exact t), (T.ar (by omega)).1, (T.ar (by omega)).2, (T.tr (by omega)).1, (T.tr (by omega)).2⟩

end

end Go.Proofs.YtphkjeeblihfgaaDoor

