import Derived.Test.YtlhgfnpialndaaaN3
import Derived.Test.YtlhgfnpialndaaaQK1
import Derived.Test.YtlhgfnpialndaaaQT1
/- Lists of records: how many there are, then each; read and written. No function of the program is named here. -/
namespace Go.Proofs.Ytlhgfnpialndaaa
open Go.RowKit

/-- So many elements are read. -/
def rdN (bs : List UInt8) (ks : List Kd) : Nat → RS → List (List Value) × RS
  | 0, s => ([], s)
  | n + 1, s => ((rdL bs ks s).1 :: (rdN bs ks n (rdL bs ks s).2).1, (rdN bs ks n (rdL bs ks s).2).2)

theorem rdN_snoc (bs : List UInt8) (ks : List Kd) (n : Nat) (s : RS) : rdN bs ks (n + 1) s = ((rdN bs ks n s).1 ++ [(rdL bs ks (rdN bs ks n s).2).1], (rdL bs ks (rdN bs ks n s).2).2) := by
  induction n generalizing s with
  | zero => rfl
  | succ n ih =>
    rw [rdN, ih]
    simp [rdN]

theorem rdN_length (bs : List UInt8) (ks : List Kd) (n : Nat) (s : RS) : (rdN bs ks n s).1.length = n := by
  induction n generalizing s with
  | zero => rfl
  | succ n ih => simp [rdN, ih]

theorem rdN_mem (bs : List UInt8) (ks : List Kd) (n : Nat) (s : RS) : ∀ r ∈ (rdN bs ks n s).1, ∃ s', r = (rdL bs ks s').1 := by
  induction n generalizing s with
  | zero => intro r h; simp [rdN] at h
  | succ n ih =>
    intro r h
    simp only [rdN, List.mem_cons] at h
    rcases h with rfl | h
    · exact ⟨s, rfl⟩
    · exact ih _ r h

/-- How many there are. -/
def cntR (bs : List UInt8) (most : Nat) (s : RS) : Value × RS := stepR s (.int .i64 0) (oCount bs s.a most)
def cnt (bs : List UInt8) (most : Nat) (s : RS) : Nat := match (cntR bs most s).1 with
  | .int _ n => n.toNat
  | _ => 0

theorem cnt_spec (bs : List UInt8) (most : Nat) (s : RS) : (cntR bs most s).1 = .int .i64 (cnt bs most s : Int) ∧ cnt bs most s ≤ most := by
  unfold cnt cntR
  unfold stepR
  split
  · cases ho : oCount bs s.a most with
    | error x => exact ⟨rfl, Nat.zero_le _⟩
    | ok va =>
      obtain ⟨v, a'⟩ := va
      unfold oCount at ho
      split at ho
      · cases ho
      split at ho
      · cases ho
      split at ho
      · cases ho
      · injection ho with ho
        injection ho with h1 h2
        subst h1
        simp only [Int.toNat_natCast]
        exact ⟨trivial, by omega⟩
  · exact ⟨rfl, Nat.zero_le _⟩

/-- A list is read. -/
def rdM (bs : List UInt8) (most : Nat) (ks : List Kd) (s : RS) : List (List Value) × RS := rdN bs ks (cnt bs most s) (cntR bs most s).2

/-- The bytes of elements; of a list. -/
def wrN (ks : List Kd) : List (List Value) → Option (List UInt8)
  | [] => some []
  | r :: rs => stepW (wrL ks r) (wrN ks rs)

theorem wrN_snoc (ks : List Kd) (rs : List (List Value)) (r : List Value) : wrN ks (rs ++ [r]) = stepW (wrN ks rs) (wrL ks r) := by
  induction rs with
  | nil => simp [wrN, stepW_some, stepW_nil]
  | cons q rs ih => rw [List.cons_append, wrN, ih, wrN, stepW_assoc]

def wrM (ks : List Kd) (rs : List (List Value)) : Option (List UInt8) := stepW (wCount (rs.length : Int)) (wrN ks rs)

theorem Most.wrN (ks : List Kd) (rs : List (List Value)) : Most (wrN ks rs) (rs.length * wide ks) := by
  induction rs with
  | nil => exact Most.nil.mono (Nat.zero_le _)
  | cons r rs ih =>
    refine ((Most.wr ks r).step ih).mono ?_
    rw [List.length_cons, Nat.succ_mul]
    omega

theorem Most.count (n : Int) : Most (wCount n) 2 := by
  intro bs e
  unfold wCount at e
  split at e
  · injection e with e; subst e; rw [digs_length]; exact Nat.le_refl _
  · cases e

theorem flat_len (ls : List (List Value)) (k : Nat) (h : ∀ l ∈ ls, l.length = k) : ls.flatten.length = ls.length * k := by
  induction ls with
  | nil => simp
  | cons l ls ih =>
    rw [List.flatten_cons, List.length_append, ih (fun x hx => h x (by simp [hx])), h l (by simp), List.length_cons, Nat.succ_mul]
    omega

theorem RAt.frame2 {S : Nat → Prop} {w w' : World} {p g : Nat} {bs : List UInt8} {a l : Nat} {c f : Int} (h : RAt w p g bs a l c f) (hf : Fr S w w') (hp : ¬ S p) (hg : 0 < bs.length → ¬ S g) : RAt w' p g bs a l c f := by
  have hq := hf.block p h.lt hp
  have e : ∀ i, w'.cell? ⟨p, i, none⟩ = w.cell? ⟨p, i, none⟩ := fun i => World.cell?_of_block (a := ⟨p, i, none⟩) hq
  have e' : ∀ i, w'.frozen? ⟨p, i, none⟩ = w.frozen? ⟨p, i, none⟩ := fun i => World.frozen?_of_block (a := ⟨p, i, none⟩) hq
  refine ⟨?_, (e 1).trans h.c1, (e 2).trans h.c2, (e 3).trans h.c3, (e 4).trans h.c4, fun i hi => (e' i).trans (h.fz i hi), fun j hj => ?_, h.ne, h.le, h.small⟩
  · obtain ⟨ao, cap, h0, r⟩ := h.c0
    exact ⟨ao, cap, (e 0).trans h0, r⟩
  · exact (hf.cell (a := ⟨g, j, none⟩) (World.block_lt_of_cell? _ _ (h.row j hj)) (hg (by omega))).trans (h.row j hj)

/-- A list that is being read: the reader, the box in which its slice lies, the row, the walk's box. -/
structure RL (w wr : World) (p g b N : Nat) (bs : List UInt8) (s : RS) (cs : Array Value) (o : Nat) (t : TypeId) (ao : Option Addr) (n cap gl k : Nat) (vs : List Value) : Prop where
  r : s.At wr p g bs
  x : Bx wr b (cs.setIfInBounds o (.slice ao n cap)) t
  row : KRow wr ao cap gl k vs
  new : 0 < cap → w.heap.size ≤ gl ∧ gl ≠ N
  wk : Bx wr N #[.pointer none, .pointer (some ⟨p, 0, none⟩)] 82
  fr : Fr (fun q => q = p ∨ q = b) w wr
  pl : p < w.heap.size
  bl : b < w.heap.size
  nl : w.heap.size ≤ N
  gw : 0 < bs.length → g < w.heap.size
  np : b ≠ p
  ng : 0 < bs.length → b ≠ g

section
variable {w wr : World} {p g b N : Nat} {bs : List UInt8} {s s' : RS} {cs : Array Value} {o : Nat} {t : TypeId} {ao : Option Addr} {n cap gl k : Nat} {vs : List Value}

/-- A new element's box. -/
theorem RL.elem (h : RL w wr p g b N bs s cs o t ao n cap gl k vs) (zs : Array Value) (T : TypeId) : RB (wr.alloc (.cells zs T)) p g wr.heap.size bs s zs T :=
  ⟨RAt.alloc h.r _, Bx.new _ _ _, by have := h.pl; have := h.fr.size; omega, fun h0 => by have := h.gw h0; have := h.fr.size; omega⟩

/-- Behind the element's pieces. -/
theorem RL.mid {w1 : World} {zs vs' : Array Value} {T : TypeId} (h : RL w wr p g b N bs s cs o t ao n cap gl k vs) (hk : 0 < k) (hB : RB w1 p g wr.heap.size bs s' vs' T) (hF : Fr (fun q => q = p ∨ q = wr.heap.size) (wr.alloc (.cells zs T)) w1) :
    RL w w1 p g b N bs s' cs o t ao n cap gl k vs := by
  have hF0 : Fr (fun q => q = p ∨ q = wr.heap.size) wr w1 := ((Fr.refl _ _).alloc _).trans hF (fun _ _ t => t)
  have h1 := h.fr.size
  have h2 := h.pl
  have h3 := h.bl
  have h4 := h.nl
  have h5 := h.wk.lt
  refine ⟨hB.r, h.x.frame hF0 (by have := h.np; omega), h.row.stay (fun hc => hF0.block gl (h.row.lt hk hc) ?_), h.new, h.wk.frame hF0 (by omega), h.fr.trans hF0 (fun i hi t => by omega), h2, h3, h4, h.gw, h.np, h.ng⟩
  have := h.new hc
  have := h.row.lt hk hc
  omega

/-- Behind the append. -/
theorem RL.app {w1 w2 : World} {news : List Value} {O : Obj} {ao' : Option Addr} {cap' gl' : Nat} (h : RL w wr p g b N bs s cs o t ao n cap gl k vs) (hw1 : w1 = wr.drew.alloc O) (hr : KRow w2 ao' cap' gl' k (vs ++ news)) (hg : Grew w1 gl cap w2 gl' cap') :
    RL w (w2.setCell ⟨b, o, none⟩ (.slice ao' (n + 1) cap')) p g b N bs s cs o t ao' (n + 1) cap' gl' k (vs ++ news) := by
  subst hw1
  have h1 := h.fr.size
  have h2 := h.pl
  have h3 := h.bl
  have h4 := h.nl
  have h5 := h.wk.lt
  have hA : Fr (fun _ => False) wr (wr.drew.alloc O) := ((Fr.refl _ wr).drew).alloc _
  have hsz : (wr.drew.alloc O).heap.size = wr.heap.size + 1 := heap_alloc _ _
  have hF : Fr (fun q => q = gl ∧ 0 < cap) wr w2 := by
    rcases hg with ⟨_, _, hf⟩ | ⟨_, _, hf⟩
    · exact (hA.mono (fun _ _ t => t.elim)).trans hf (fun _ _ t => t)
    · exact (hA.mono (fun _ _ t => t.elim)).trans hf (fun _ _ t => t.elim)
  have hn : 0 < cap' → w.heap.size ≤ gl' ∧ gl' ≠ N := by
    intro hc
    rcases hg with ⟨e1, e2, _⟩ | ⟨e1, _, _⟩
    · subst e1 e2; exact h.new hc
    · omega
  have hbg : ¬ (b = gl ∧ 0 < cap) := fun t => by have := h.new t.2; omega
  have hpg : ¬ (p = gl ∧ 0 < cap) := fun t => by have := h.new t.2; omega
  have hNg : ¬ (N = gl ∧ 0 < cap) := fun t => by have := h.new t.2; omega
  have hx := (h.x.frame hF hbg).setCell o (.slice ao' (n + 1) cap')
  rw [Array.setIfInBounds_setIfInBounds] at hx
  have hrr : s.At w2 p g bs := RAt.frame2 h.r hF hpg (fun h0 t => by have := h.new t.2; have := h.gw h0; omega)
  exact ⟨RAt.setOther hrr h.np h.ng _, hx, hr.stay (fun hc => Below.heap_setCell _ _ _ _ (by have := hn hc; show gl' ≠ b; omega)), hn, (h.wk.frame hF hNg).setOther (by omega) _ _, (h.fr.trans hF (fun i hi t => by have := h.new t.2; omega)).setCell (p := ⟨b, o, none⟩) (fun _ => Or.inr rfl) _, h2, h3, h4, h.gw, h.np, h.ng⟩

theorem RL.rb (h : RL w wr p g b N bs s cs o t ao n cap gl k vs) : RB wr p g b bs s (cs.setIfInBounds o (.slice ao n cap)) t := ⟨h.r, h.x, h.np, h.ng⟩

theorem set_self {cs : Array Value} {o : Nat} {v : Value} (h : cs[o]? = some v) : cs.setIfInBounds o v = cs := by
  obtain ⟨ho, hv⟩ := Array.getElem?_eq_some_iff.1 h
  apply Array.ext
  · simp
  · intro i h1 h2
    rw [Array.getElem_setIfInBounds]
    split
    · rename_i e; subst e; exact hv.symm
    · rfl

theorem Grew.fr {w w' : World} {g cap g' cap' : Nat} (h : Grew w g cap w' g' cap') : Fr (fun q => q = g ∧ 0 < cap) w w' := by
  rcases h with ⟨_, _, hf⟩ | ⟨_, _, hf⟩
  · exact hf
  · exact hf.mono (fun _ _ t => t.elim)

theorem WSt.frame {S : Nat → Prop} {w w' : World} {p g : Nat} {st : Option (List UInt8)} (h : WSt w p g st) (hf : Fr S w w') (hp : ¬ S p) (hg : ¬ S g) : WSt w' p g st := by
  cases st with
  | some bs => exact WAt.frame h hf hp hg
  | none => exact (hf.cell (a := ⟨p, 1, none⟩) (WSt.lt h) hp).trans h

/-- A list that is being written. -/
structure WL (w wr : World) (p g g1 b N : Nat) (st : Option (List UInt8)) (cs : Array Value) (t : TypeId) : Prop where
  wb : WB wr p g1 b st cs t
  wk : Bx wr N #[.pointer (some ⟨p, 0, none⟩), .pointer none] 82
  fr : Fr (fun q => q = p ∨ q = g) w wr
  gg : g1 = g ∨ w.heap.size ≤ g1
  n1 : N ≠ g1
  np : N ≠ p

theorem WL.next {g1 : Nat} {st st' : Option (List UInt8)} {w1 w2 : World} (h : WL w wr p g g1 b N st cs t) (hf : Fr (fun _ => False) wr w1) (hP : WP p g1 st' w1 w2) : ∃ g2, WL w w2 p g g2 b N st' cs t := by
  obtain ⟨g2, hB, hg2, hF⟩ := h.wb.next (WP.later hf hP)
  have h1 := h.fr.size
  have h2 := h.wk.lt
  have h3 := h.gg
  have h4 := h.n1
  exact ⟨g2, hB, h.wk.frame hF (by have := h.np; omega), h.fr.trans hF (fun i hi t => by omega), by omega, by omega, h.np⟩

/-- An element's box beside the writer. -/
theorem WL.elem {g1 : Nat} {st : Option (List UInt8)} {w1 : World} {vs : Array Value} {T : TypeId} (h : WL w wr p g g1 b N st cs t) (hf : Fr (fun _ => False) wr w1) (hx : Bx w1 wr.heap.size vs T) : WB w1 p g1 wr.heap.size st vs T :=
  ⟨WSt.frame h.wb.s hf (fun t => t) (fun t => t), hx, by have := h.wb.plt; omega, by have := h.wb.gl; omega, by have := h.wb.gl; have := hf.size; omega⟩

end
end Go.Proofs.Ytlhgfnpialndaaa

