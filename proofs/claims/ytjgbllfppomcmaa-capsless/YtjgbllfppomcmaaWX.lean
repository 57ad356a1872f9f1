import Derived.Test.YtjgbllfppomcmaaRX
import Derived.Test.YtjgbllfppomcmaaB0
import Derived.Test.YtjgbllfppomcmaaD0
import Derived.Deep.RegionLaw
/- Contracts: bytes.Clone, NewReader, Fail, End, NewWriter. -/
namespace Go.Proofs.Ytjgbllfppomcmaa
open Go.RowKit

theorem Try.info5 : (Try.prog.info? 5).map (fun i => (i.zero, i.size, i.bytes)) = some (some (.int .u8 0), 1, 1) := by kernel_rfl

/-- What a copy is. -/
def Cloned (w : World) (bs : List UInt8) (e : Ending) (w' : World) : Prop := ∃ v g, e = .returned v ∧ Row w' v g bs ∧ Fr (fun _ => False) w w' ∧ w.heap.size ≤ g

/-- A new reader, over a copy of the bytes. -/
def NewR (w : World) (bs : List UInt8) (e : Ending) (w' : World) : Prop := ∃ p g, e = .returned (.pointer (some ⟨p, 0, none⟩)) ∧ (RS.mk 0 0 0 0).At w' p g bs ∧ Fr (fun _ => False) w w' ∧ w.heap.size ≤ g ∧ w.heap.size ≤ p

/-- Fail: the state behind it. -/
def failR (s : RS) (e : Int) : RS := if s.c = 0 ∧ e ≠ 0 then { s with c := e, f := s.l } else s
/-- End: the state behind it. -/
def endR (s : RS) (n : Nat) : RS := if s.c = 0 ∧ s.a < n then { s with c := 13, f := s.a } else s

section
variable {w : World} {p g : Nat} {bs : List UInt8} {s : RS}

end

end Go.Proofs.Ytjgbllfppomcmaa

/- A writer in memory ('WAt'); contracts of its digits and its Bytes. -/
namespace Go.Proofs.Ytjgbllfppomcmaa
open Go.RowKit

/-- A writer in block p, its bytes in block g (where there are any). -/
structure WAt (w : World) (p g : Nat) (bs : List UInt8) : Prop where
  c0 : ∃ ao cap, w.cell? ⟨p, 0, none⟩ = some (.slice ao bs.length cap) ∧ (0 < cap → g ≠ p) ∧ Row w (.slice ao bs.length cap) g bs
  c1 : w.cell? ⟨p, 1, none⟩ = some (.bool false)
  f0 : w.frozen? ⟨p, 0, none⟩ = false
  f1 : w.frozen? ⟨p, 1, none⟩ = false
  glt : g < w.heap.size

theorem WAt.lt {w : World} {p g : Nat} {bs : List UInt8} (h : WAt w p g bs) : p < w.heap.size := World.block_lt_of_cell? _ _ h.c1

theorem lt_of_same {w w' : World} {g : Nat} (h : g < w.heap.size) (e : w'.heap[g]? = w.heap[g]?) : g < w'.heap.size := by
  rw [Array.getElem?_eq_getElem h] at e
  exact (Array.getElem?_eq_some_iff.1 e).1

theorem WAt.stay {w w' : World} {p g : Nat} {bs : List UInt8} (h : WAt w p g bs) (hb : ∀ k, k = p ∨ k = g → k < w.heap.size → w'.heap[k]? = w.heap[k]?) : WAt w' p g bs := by
  have hp := hb p (.inl rfl) h.lt
  have e : ∀ i, w'.cell? ⟨p, i, none⟩ = w.cell? ⟨p, i, none⟩ := fun i => World.cell?_of_block (a := ⟨p, i, none⟩) hp
  have e' : ∀ i, w'.frozen? ⟨p, i, none⟩ = w.frozen? ⟨p, i, none⟩ := fun i => World.frozen?_of_block (a := ⟨p, i, none⟩) hp
  obtain ⟨ao, cap, h0, h1, h2⟩ := h.c0
  exact ⟨⟨ao, cap, (e 0).trans h0, h1, h2.stay (hb g (.inr rfl))⟩, (e 1).trans h.c1, (e' 0).trans h.f0, (e' 1).trans h.f1, lt_of_same h.glt (hb g (.inr rfl) h.glt)⟩

theorem WAt.frame {S : Nat → Prop} {w w' : World} {p g : Nat} {bs : List UInt8} (h : WAt w p g bs) (hf : Fr S w w') (hp : ¬ S p) (hg : ¬ S g) : WAt w' p g bs :=
  h.stay fun k hk hlt => hf.block k hlt (by rcases hk with rfl | rfl <;> assumption)

theorem WAt.alloc {w : World} {p g : Nat} {bs : List UInt8} (h : WAt w p g bs) (o : Obj) : WAt (w.alloc o) p g bs := h.stay fun _ _ hlt => Below.heap_alloc _ _ _ hlt

/-- Behind what is put: the bytes; what else may have turned; where the bytes lie now. -/
def Puts (p g : Nat) (bs : List UInt8) (w w' : World) : Prop := ∃ g', WAt w' p g' bs ∧ Fr (fun k => k = p ∨ k = g) w w' ∧ (g' = g ∨ w.heap.size ≤ g')

theorem Puts.after {p g g' : Nat} {cs : List UInt8} {w w1 w2 : World} (h2 : Fr (fun k => k = p ∨ k = g) w w1) (h3 : g' = g ∨ w.heap.size ≤ g') (k : Puts p g' cs w1 w2) : Puts p g cs w w2 := by
  obtain ⟨g'', k1, k2, k3⟩ := k
  refine ⟨g'', k1, h2.trans k2 (fun i hi t => ?_), ?_⟩
  · rcases t with t | t
    · exact .inl t
    · rcases h3 with h3 | h3
      · exact .inr (t.trans h3)
      · omega
  · have := h2.size
    rcases k3 with rfl | k3
    · exact h3
    · exact .inr (by omega)

theorem Puts.trans {p g : Nat} {bs cs : List UInt8} {w w1 w2 : World} (h : Puts p g bs w w1) (k : ∀ g', WAt w1 p g' bs → Puts p g' cs w1 w2) : Puts p g cs w w2 := by
  obtain ⟨g', h1, h2, h3⟩ := h
  exact Puts.after h2 h3 (k g' h1)

section
variable {w : World} {p g : Nat} {bs : List UInt8}

/-- The store of the appended row. -/
theorem WAt.store {w1 : World} {ao : Option Addr} {cap g' : Nat} {ms : List UInt8} (h : WAt w p g bs) {ao0 : Option Addr} {cap0 : Nat} (h0 : w.cell? ⟨p, 0, none⟩ = some (.slice ao0 bs.length cap0)) (hne : 0 < cap0 → g ≠ p)
    (hrow : Row w1 (.slice ao (bs.length + ms.length) cap) g' (bs ++ ms)) (hfr : Fr (fun k => k = g ∧ 0 < cap0) w w1) (hg : (g' = g ∧ cap = cap0) ∨ w.heap.size ≤ g') :
    Puts p g (bs ++ ms) w (w1.setCell ⟨p, 0, none⟩ (.slice ao (bs.length + ms.length) cap)) := by
  have hlt := h.lt
  have hnp : ¬ (p = g ∧ 0 < cap0) := fun ⟨e, hc⟩ => hne hc e.symm
  have e : ∀ i, w1.cell? ⟨p, i, none⟩ = w.cell? ⟨p, i, none⟩ := fun i => hfr.cell (a := ⟨p, i, none⟩) hlt hnp
  have e' : ∀ i, w1.frozen? ⟨p, i, none⟩ = w.frozen? ⟨p, i, none⟩ := fun i => hfr.frozen (a := ⟨p, i, none⟩) hlt hnp
  have hgp : 0 < cap → g' ≠ p := by
    intro hc
    rcases hg with ⟨rfl, rfl⟩ | hg
    · exact hne hc
    · omega
  have hfr2 := (hfr.mono (T := fun k => k = p ∨ k = g) (fun i _ t => .inr t.1)).setCell (p := ⟨p, 0, none⟩) (fun _ => .inl rfl) (.slice ao (bs.length + ms.length) cap)
  have q0 : (w1.setCell ⟨p, 0, none⟩ (.slice ao (bs.length + ms.length) cap)).cell? ⟨p, 0, none⟩ = some (.slice ao (bs ++ ms).length cap) := by rw [List.length_append]; exact World.cell?_setCell_same _ _ _ ((e 0).trans h0)
  have q1 : (w1.setCell ⟨p, 0, none⟩ (.slice ao (bs.length + ms.length) cap)).cell? ⟨p, 1, none⟩ = some (.bool false) := (World.cell?_setCell_other _ _ _ _ (by simp)).trans ((e 1).trans h.c1)
  have q2 : (w1.setCell ⟨p, 0, none⟩ (.slice ao (bs.length + ms.length) cap)).frozen? ⟨p, 0, none⟩ = false := by rw [World.frozen?_setCell]; exact (e' 0).trans h.f0
  have q3 : (w1.setCell ⟨p, 0, none⟩ (.slice ao (bs.length + ms.length) cap)).frozen? ⟨p, 1, none⟩ = false := by rw [World.frozen?_setCell]; exact (e' 1).trans h.f1
  by_cases hc : 0 < cap
  · refine ⟨g', ⟨⟨ao, cap, q0, hgp, ?_⟩, q1, q2, q3, ?_⟩, hfr2, hg.imp (fun t => t.1) id⟩
    · rw [List.length_append]; exact hrow.elsewhere (fun hc => Below.heap_setCell _ _ _ _ (hgp hc))
    · obtain ⟨ao0, cap0, hv, _, _, _, h4⟩ := hrow.shape
      injection hv with e1 e2 e3
      subst e3
      obtain ⟨u, hu⟩ := Option.isSome_iff_exists.1 (h4 0 hc).1
      rw [World.size_setCell]
      exact World.block_lt_of_cell? _ _ hu
  · refine ⟨g, ⟨⟨ao, cap, q0, fun t => absurd t hc, ?_⟩, q1, q2, q3, Nat.lt_of_lt_of_le h.glt hfr2.size⟩, hfr2, .inl rfl⟩
    obtain ⟨ao0, cap0, hv, h1, h2, h3, h4⟩ := hrow.shape
    injection hv with e1 e2 e3
    subst e1 e3
    rw [List.length_append] at h1
    exact ⟨⟨_, _, rfl, by rw [List.length_append]; exact h1, h2, fun t => absurd t hc, fun j hj => absurd hj (by omega)⟩, fun j hj => by rw [List.length_append] at hj; omega⟩

end

theorem WAt.drew {w : World} {p g : Nat} {bs : List UInt8} (h : WAt w p g bs) : WAt w.drew p g bs := h.stay fun _ _ _ => rfl

theorem Puts.later {p g : Nat} {bs : List UInt8} {w w1 w2 : World} (hf : Fr (fun _ => False) w w1) (h : Puts p g bs w1 w2) : Puts p g bs w w2 := by
  obtain ⟨g', h1, h2, h3⟩ := h
  exact ⟨g', h1, (hf.mono (fun _ _ t => t.elim)).trans h2 (fun _ _ t => t), h3.imp id (fun t => Nat.le_trans hf.size t)⟩

theorem round_puts {w wr w1 : World} {p g g1 g2 : Nat} {cs ms : List UInt8} {ao ao' : Option Addr} {cap cap' : Nat} (o : Obj)
    (hw : WAt wr p g1 cs ∧ Fr (fun k => k = p ∨ k = g) w wr ∧ (g1 = g ∨ w.heap.size ≤ g1) ∧ (0 < cap → g1 ≠ p) ∧ Row wr (.slice ao cs.length cap) g1 cs) (c0 : wr.cell? ⟨p, 0, none⟩ = some (.slice ao cs.length cap))
    (hr : Row w1 (.slice ao' (cs.length + ms.length) cap') g2 (cs ++ ms) ∧ Fr (fun k => k = g1 ∧ 0 < cap) (wr.alloc o).drew w1 ∧ ((g2 = g1 ∧ cap' = cap) ∨ (wr.alloc o).drew.heap.size ≤ g2)) :
    Puts p g (cs ++ ms) w (w1.setCell ⟨p, 0, none⟩ (.slice ao' (cs.length + ms.length) cap')) := by
  obtain ⟨h1, h2, h3, h4, h5⟩ := hw
  obtain ⟨r1, r2, r3⟩ := hr
  have hst := ((h1.alloc o).drew).store (ao := ao') (cap := cap') (ms := ms) (((World.cell?_alloc_lt wr _ _ h1.lt).trans c0 : (wr.alloc o).drew.cell? ⟨p, 0, none⟩ = some (.slice ao cs.length cap))) h4 r1 r2 r3
  exact Puts.after h2 h3 (Puts.later ((Fr.refl _ wr).alloc o).drew hst)

theorem shift_byte (n j : Nat) (hj : j ≤ 7) : Op.shift .shr .u64 (n : Int) .i64 (IntKind.i64.wrap (8 * (j : Int))) = pure (.int .u64 ((n / 256 ^ j : Nat) : Int)) := by
  have e : IntKind.i64.wrap (8 * (j : Int)) = ((8 * j : Nat) : Int) := by
    rw [show (8 * (j : Int)) = ((8 * j : Nat) : Int) by omega]
    simp [IntKind.wrap, IntKind.bits, IntKind.signed]; omega
  rw [e, shift_shr_any _ _ _ _ (by omega)]
  have e2 : min ((8 * j : Nat) : Int).toNat IntKind.u64.bits = 8 * j := by rw [Int.toNat_natCast]; simp [IntKind.bits]; omega
  have e3 : (2 : Int) ^ (8 * j) = ((256 ^ j : Nat) : Int) := by rw [Int.pow_mul]; simp
  rw [e2, e3, ← Int.natCast_ediv]

theorem wrap_byte (M : Nat) : IntKind.u8.wrap (M : Int) = ((UInt8.ofNat (M % 256)).toNat : Int) := by
  simp [IntKind.wrap, IntKind.bits, IntKind.signed]

theorem lt_alloc {w : World} {p : Nat} (h : p < w.heap.size) (o : Obj) : p < (w.alloc o).drew.heap.size := by simp; omega

theorem one_byte (w : World) (M i : Nat) (hi : i < [UInt8.ofNat (M % 256)].length) : (w.alloc (.cells #[.int .u8 (IntKind.u8.wrap (M : Int))] 5)).drew.cell? ⟨w.heap.size, 0 + i, none⟩ = some (.int .u8 ([UInt8.ofNat (M % 256)][i].toNat)) := by
  have : i = 0 := by simpa using hi
  subst this
  rw [wrap_byte]
  simp

/-- Bytes of a writer at which nothing was wrong: a copy. -/
def Bytesd (w : World) (bs : List UInt8) (e : Ending) (w' : World) : Prop := ∃ v g, e = .returned (.tuple #[v, .int .i64 0]) ∧ Row w' v g bs ∧ Fr (fun _ => False) w w' ∧ w.heap.size ≤ g

end Go.Proofs.Ytjgbllfppomcmaa

/- Contracts of what the writer's calls hand to put, one a kind of piece. -/
namespace Go.Proofs.Ytjgbllfppomcmaa
open Go.RowKit

/-- How a piece comes out: its bytes are put; or it is given up, and nothing has turned. -/
def Put (p g : Nat) (bs : List UInt8) (w : World) (o : Option (List UInt8)) (e : Ending) (w' : World) : Prop :=
  match o with
  | some ms => e = .returned (.tuple #[]) ∧ Puts p g (bs ++ ms) w w'
  | none => e = gave 1 ∧ w = w'

def wNumber (n size : Int) : Option (List UInt8) := if 1 ≤ size ∧ size ≤ 8 ∧ 0 ≤ n ∧ n < 256 ^ size.toNat then some (digs n.toNat size.toNat) else none
def wInt (n : Int) : Option (List UInt8) := some (digs (IntKind.u64.wrap n).toNat 8)
def wFloat (b : Nat) : Option (List UInt8) := some (digs (if nanB b then 9221120237041090560 else b) 8)
def wBool (is : Bool) : Option (List UInt8) := some (digs (if is then 1 else 0) 1)
def wText (s : ByteArray) : Option (List UInt8) := if s.size ≤ 65535 then some (digs s.size 2 ++ s.data.toList) else none
def wFixed (s : ByteArray) (size : Int) : Option (List UInt8) := if 0 ≤ size ∧ size ≤ 65535 ∧ (s.size : Int) = size then some s.data.toList else none
def wCount (n : Int) : Option (List UInt8) := if 0 ≤ n ∧ n ≤ 65535 then some (digs n.toNat 2) else none

section
variable {w : World} {p g : Nat} {bs : List UInt8}

end
end Go.Proofs.Ytjgbllfppomcmaa

/- Contracts of what the writer's Fixed and Text hand to put. -/
namespace Go.Proofs.Ytjgbllfppomcmaa
open Go.RowKit

section
variable {w : World} {p g : Nat} {bs : List UInt8}

theorem puts_drew {w w1 : World} {p g g2 : Nat} {cs ms : List UInt8} {ao ao' : Option Addr} {cap cap' : Nat} (h : WAt w p g cs) (c0 : w.cell? ⟨p, 0, none⟩ = some (.slice ao cs.length cap)) (hne : 0 < cap → g ≠ p)
    (hr : Row w1 (.slice ao' (cs.length + ms.length) cap') g2 (cs ++ ms) ∧ Fr (fun k => k = g ∧ 0 < cap) w.drew w1 ∧ ((g2 = g ∧ cap' = cap) ∨ w.drew.heap.size ≤ g2)) :
    Puts p g (cs ++ ms) w (w1.setCell ⟨p, 0, none⟩ (.slice ao' (cs.length + ms.length) cap')) := by
  obtain ⟨r1, r2, r3⟩ := hr
  have hst := (h.drew).store (ao := ao') (cap := cap') (ms := ms) (c0 : w.drew.cell? ⟨p, 0, none⟩ = some (.slice ao cs.length cap)) hne r1 r2 r3
  exact Puts.later (Fr.refl _ w).drew hst

end
end Go.Proofs.Ytjgbllfppomcmaa

/- Contracts of put and of the writer's exported calls. -/
namespace Go.Proofs.Ytjgbllfppomcmaa
open Go.RowKit

/-- A writer's state: its bytes, or none where something was wrong. -/
def WSt (w : World) (p g : Nat) : Option (List UInt8) → Prop
  | some bs => WAt w p g bs
  | none => w.cell? ⟨p, 1, none⟩ = some (.bool true)

def stepW (s o : Option (List UInt8)) : Option (List UInt8) :=
  match s, o with
  | some bs, some ms => some (bs ++ ms)
  | _, _ => none

def WPuts (p g : Nat) (s : Option (List UInt8)) (w w' : World) : Prop := ∃ g', WSt w' p g' s ∧ Fr (fun k => k = p ∨ k = g) w w' ∧ (g' = g ∨ w.heap.size ≤ g')

theorem Puts.some {p g : Nat} {bs : List UInt8} {w w' : World} (h : Puts p g bs w w') : WPuts p g (some bs) w w' := h

theorem WPuts.later {p g : Nat} {s : Option (List UInt8)} {w w1 w2 : World} (hf : Fr (fun _ => False) w w1) (h : WPuts p g s w1 w2) : WPuts p g s w w2 := by
  obtain ⟨g', h1, h2, h3⟩ := h
  exact ⟨g', h1, (hf.mono (fun _ _ t => t.elim)).trans h2 (fun _ _ t => t), h3.imp id (fun t => Nat.le_trans hf.size t)⟩

end Go.Proofs.Ytjgbllfppomcmaa

/- Contracts of the writer's exported calls: what becomes of the writer. -/
namespace Go.Proofs.Ytjgbllfppomcmaa
open Go.RowKit

theorem stepW_none (o : Option (List UInt8)) : stepW none o = none := by cases o <;> rfl

end Go.Proofs.Ytjgbllfppomcmaa

