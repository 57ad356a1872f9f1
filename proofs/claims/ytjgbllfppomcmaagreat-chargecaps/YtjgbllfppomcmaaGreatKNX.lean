import Derived.Test.YtjgbllfppomcmaaGreatNXX
import Derived.Test.YtjgbllfppomcmaaGreatQK1
import Derived.Test.YtjgbllfppomcmaaGreatQT1
import Derived.Deep.RegionLaw
/- Lists of records: how many there are, then each; read and written. No function of the program is named here. -/
namespace Go.Proofs.YtjgbllfppomcmaaGreat
open Go.RowKit

/-- So many elements are read. -/
def rdN (bs : List UInt8) (ks : List Kd) : Nat → RS → List (List Value) × RS
  | 0, s => ([], s)
  | n + 1, s => ((rdL bs ks s).1 :: (rdN bs ks n (rdL bs ks s).2).1, (rdN bs ks n (rdL bs ks s).2).2)

theorem rdN_snoc (bs : List UInt8) (ks : List Kd) (n : Nat) (s : RS) : rdN bs ks (n + 1) s = ((rdN bs ks n s).1 ++ [(rdL bs ks (rdN bs ks n s).2).1], (rdL bs ks (rdN bs ks n s).2).2) := by
  induction n generalizing s with
  | zero => rfl
  | succ n ih =>
    rw [rdN, ih]
    simp [rdN]

theorem rdN_length (bs : List UInt8) (ks : List Kd) (n : Nat) (s : RS) : (rdN bs ks n s).1.length = n := by
  induction n generalizing s with
  | zero => rfl
  | succ n ih => simp [rdN, ih]

theorem rdN_mem (bs : List UInt8) (ks : List Kd) (n : Nat) (s : RS) : ∀ r ∈ (rdN bs ks n s).1, ∃ s', r = (rdL bs ks s').1 := by
  induction n generalizing s with
  | zero => intro r h; simp [rdN] at h
  | succ n ih =>
    intro r h
    simp only [rdN, List.mem_cons] at h
    rcases h with rfl | h
    · exact ⟨s, rfl⟩
    · exact ih _ r h

/-- How many there are. -/
def cntR (bs : List UInt8) (most : Nat) (s : RS) : Value × RS := stepR s (.int .i64 0) (oCount bs s.a most)
def cnt (bs : List UInt8) (most : Nat) (s : RS) : Nat := match (cntR bs most s).1 with
  | .int _ n => n.toNat
  | _ => 0

theorem cnt_spec (bs : List UInt8) (most : Nat) (s : RS) : (cntR bs most s).1 = .int .i64 (cnt bs most s : Int) ∧ cnt bs most s ≤ most := by
  unfold cnt cntR
  unfold stepR
  split
  · cases ho : oCount bs s.a most with
    | error x => exact ⟨rfl, Nat.zero_le _⟩
    | ok va =>
      obtain ⟨v, a'⟩ := va
      unfold oCount at ho
      split at ho
      · cases ho
      split at ho
      · cases ho
      split at ho
      · cases ho
      · injection ho with ho
        injection ho with h1 h2
        subst h1
        simp only [Int.toNat_natCast]
        exact ⟨trivial, by omega⟩
  · exact ⟨rfl, Nat.zero_le _⟩

/-- A list is read. -/
def rdM (bs : List UInt8) (most : Nat) (ks : List Kd) (s : RS) : List (List Value) × RS := rdN bs ks (cnt bs most s) (cntR bs most s).2

/-- The bytes of elements; of a list. -/
def wrN (ks : List Kd) : List (List Value) → Option (List UInt8)
  | [] => some []
  | r :: rs => stepW (wrL ks r) (wrN ks rs)

theorem wrN_snoc (ks : List Kd) (rs : List (List Value)) (r : List Value) : wrN ks (rs ++ [r]) = stepW (wrN ks rs) (wrL ks r) := by
  induction rs with
  | nil => simp [wrN, stepW_some, stepW_nil]
  | cons q rs ih => rw [List.cons_append, wrN, ih, wrN, stepW_assoc]

def wrM (ks : List Kd) (rs : List (List Value)) : Option (List UInt8) := stepW (wCount (rs.length : Int)) (wrN ks rs)

theorem Most.wrN (ks : List Kd) (rs : List (List Value)) : Most (wrN ks rs) (rs.length * wide ks) := by
  induction rs with
  | nil => exact Most.nil.mono (Nat.zero_le _)
  | cons r rs ih =>
    refine ((Most.wr ks r).step ih).mono ?_
    rw [List.length_cons, Nat.succ_mul]
    omega

theorem Most.count (n : Int) : Most (wCount n) 2 := by
  intro bs e
  unfold wCount at e
  split at e
  · injection e with e; subst e; rw [digs_length]; exact Nat.le_refl _
  · cases e

theorem flat_len (ls : List (List Value)) (k : Nat) (h : ∀ l ∈ ls, l.length = k) : ls.flatten.length = ls.length * k := by
  induction ls with
  | nil => simp
  | cons l ls ih =>
    rw [List.flatten_cons, List.length_append, ih (fun x hx => h x (by simp [hx])), h l (by simp), List.length_cons, Nat.succ_mul]
    omega

theorem RAt.frame2 {S : Nat → Prop} {w w' : World} {p g : Nat} {bs : List UInt8} {a l : Nat} {c f : Int} (h : RAt w p g bs a l c f) (hf : Fr S w w') (hp : ¬ S p) (hg : 0 < bs.length → ¬ S g) : RAt w' p g bs a l c f := by
  have hq := hf.block p h.lt hp
  have e : ∀ i, w'.cell? ⟨p, i, none⟩ = w.cell? ⟨p, i, none⟩ := fun i => World.cell?_of_block (a := ⟨p, i, none⟩) hq
  have e' : ∀ i, w'.frozen? ⟨p, i, none⟩ = w.frozen? ⟨p, i, none⟩ := fun i => World.frozen?_of_block (a := ⟨p, i, none⟩) hq
  refine ⟨?_, (e 1).trans h.c1, (e 2).trans h.c2, (e 3).trans h.c3, (e 4).trans h.c4, fun i hi => (e' i).trans (h.fz i hi), fun j hj => ?_, h.ne, h.le, h.small⟩
  · obtain ⟨ao, cap, h0, r⟩ := h.c0
    exact ⟨ao, cap, (e 0).trans h0, r⟩
  · exact (hf.cell (a := ⟨g, j, none⟩) (World.block_lt_of_cell? _ _ (h.row j hj)) (hg (by omega))).trans (h.row j hj)

/-- A list that is being read: the reader, the box in which its slice lies, the row, the walk's box. -/
structure RL (w wr : World) (p g b N : Nat) (bs : List UInt8) (s : RS) (cs : Array Value) (o : Nat) (t : TypeId) (ao : Option Addr) (n cap gl k : Nat) (vs : List Value) : Prop where
  r : s.At wr p g bs
  x : Bx wr b (cs.setIfInBounds o (.slice ao n cap)) t
  row : KRow wr ao cap gl k vs
  new : 0 < cap → w.heap.size ≤ gl ∧ gl ≠ N
  wk : Bx wr N #[.pointer none, .pointer (some ⟨p, 0, none⟩)] 170
  fr : Fr (fun q => q = p ∨ q = b) w wr
  pl : p < w.heap.size
  bl : b < w.heap.size
  nl : w.heap.size ≤ N
  gw : 0 < bs.length → g < w.heap.size
  np : b ≠ p
  ng : 0 < bs.length → b ≠ g

section
variable {w wr : World} {p g b N : Nat} {bs : List UInt8} {s s' : RS} {cs : Array Value} {o : Nat} {t : TypeId} {ao : Option Addr} {n cap gl k : Nat} {vs : List Value}

/-- A new element's box. -/
theorem RL.elem (h : RL w wr p g b N bs s cs o t ao n cap gl k vs) (zs : Array Value) (T : TypeId) : RB (wr.alloc (.cells zs T)) p g wr.heap.size bs s zs T :=
  ⟨RAt.alloc h.r _, Bx.new _ _ _, by have := h.pl; have := h.fr.size; omega, fun h0 => by have := h.gw h0; have := h.fr.size; omega⟩

/-- Behind the element's pieces. -/
theorem RL.mid {w1 : World} {zs vs' : Array Value} {T : TypeId} (h : RL w wr p g b N bs s cs o t ao n cap gl k vs) (hk : 0 < k) (hB : RB w1 p g wr.heap.size bs s' vs' T) (hF : Fr (fun q => q = p ∨ q = wr.heap.size) (wr.alloc (.cells zs T)) w1) :
    RL w w1 p g b N bs s' cs o t ao n cap gl k vs := by
  have hF0 : Fr (fun q => q = p ∨ q = wr.heap.size) wr w1 := ((Fr.refl _ _).alloc _).trans hF (fun _ _ t => t)
  have h1 := h.fr.size
  have h2 := h.pl
  have h3 := h.bl
  have h4 := h.nl
  have h5 := h.wk.lt
  refine ⟨hB.r, h.x.frame hF0 (by have := h.np; omega), h.row.stay (fun hc => hF0.block gl (h.row.lt hk hc) ?_), h.new, h.wk.frame hF0 (by omega), h.fr.trans hF0 (fun i hi t => by omega), h2, h3, h4, h.gw, h.np, h.ng⟩
  have := h.new hc
  have := h.row.lt hk hc
  omega

/-- Behind the append. -/
theorem RL.app {w1 w2 : World} {news : List Value} {O : Obj} {ao' : Option Addr} {cap' gl' : Nat} (h : RL w wr p g b N bs s cs o t ao n cap gl k vs) (hw1 : w1 = wr.drew.alloc O) (hr : KRow w2 ao' cap' gl' k (vs ++ news)) (hg : Grew w1 gl cap w2 gl' cap') :
    RL w (w2.setCell ⟨b, o, none⟩ (.slice ao' (n + 1) cap')) p g b N bs s cs o t ao' (n + 1) cap' gl' k (vs ++ news) := by
  subst hw1
  have h1 := h.fr.size
  have h2 := h.pl
  have h3 := h.bl
  have h4 := h.nl
  have h5 := h.wk.lt
  have hA : Fr (fun _ => False) wr (wr.drew.alloc O) := ((Fr.refl _ wr).drew).alloc _
  have hsz : (wr.drew.alloc O).heap.size = wr.heap.size + 1 := heap_alloc _ _
  have hF : Fr (fun q => q = gl ∧ 0 < cap) wr w2 := by
    rcases hg with ⟨_, _, hf⟩ | ⟨_, _, hf⟩
    · exact (hA.mono (fun _ _ t => t.elim)).trans hf (fun _ _ t => t)
    · exact (hA.mono (fun _ _ t => t.elim)).trans hf (fun _ _ t => t.elim)
  have hn : 0 < cap' → w.heap.size ≤ gl' ∧ gl' ≠ N := by
    intro hc
    rcases hg with ⟨e1, e2, _⟩ | ⟨e1, _, _⟩
    · subst e1 e2; exact h.new hc
    · omega
  have hbg : ¬ (b = gl ∧ 0 < cap) := fun t => by have := h.new t.2; omega
  have hpg : ¬ (p = gl ∧ 0 < cap) := fun t => by have := h.new t.2; omega
  have hNg : ¬ (N = gl ∧ 0 < cap) := fun t => by have := h.new t.2; omega
  have hx := (h.x.frame hF hbg).setCell o (.slice ao' (n + 1) cap')
  rw [Array.setIfInBounds_setIfInBounds] at hx
  have hrr : s.At w2 p g bs := RAt.frame2 h.r hF hpg (fun h0 t => by have := h.new t.2; have := h.gw h0; omega)
  exact ⟨RAt.setOther hrr h.np h.ng _, hx, hr.stay (fun hc => Below.heap_setCell _ _ _ _ (by have := hn hc; show gl' ≠ b; omega)), hn, (h.wk.frame hF hNg).setOther (by omega) _ _, (h.fr.trans hF (fun i hi t => by have := h.new t.2; omega)).setCell (p := ⟨b, o, none⟩) (fun _ => Or.inr rfl) _, h2, h3, h4, h.gw, h.np, h.ng⟩

theorem RL.rb (h : RL w wr p g b N bs s cs o t ao n cap gl k vs) : RB wr p g b bs s (cs.setIfInBounds o (.slice ao n cap)) t := ⟨h.r, h.x, h.np, h.ng⟩

theorem set_self {cs : Array Value} {o : Nat} {v : Value} (h : cs[o]? = some v) : cs.setIfInBounds o v = cs := by
  obtain ⟨ho, hv⟩ := Array.getElem?_eq_some_iff.1 h
  apply Array.ext
  · simp
  · intro i h1 h2
    rw [Array.getElem_setIfInBounds]
    split
    · rename_i e; subst e; exact hv.symm
    · rfl

theorem Grew.fr {w w' : World} {g cap g' cap' : Nat} (h : Grew w g cap w' g' cap') : Fr (fun q => q = g ∧ 0 < cap) w w' := by
  rcases h with ⟨_, _, hf⟩ | ⟨_, _, hf⟩
  · exact hf
  · exact hf.mono (fun _ _ t => t.elim)

theorem WSt.frame {S : Nat → Prop} {w w' : World} {p g : Nat} {st : Option (List UInt8)} (h : WSt w p g st) (hf : Fr S w w') (hp : ¬ S p) (hg : ¬ S g) : WSt w' p g st := by
  cases st with
  | some bs => exact WAt.frame h hf hp hg
  | none => exact (hf.cell (a := ⟨p, 1, none⟩) (WSt.lt h) hp).trans h

/-- A list that is being written. -/
structure WL (w wr : World) (p g g1 b N : Nat) (st : Option (List UInt8)) (cs : Array Value) (t : TypeId) : Prop where
  wb : WB wr p g1 b st cs t
  wk : Bx wr N #[.pointer (some ⟨p, 0, none⟩), .pointer none] 170
  fr : Fr (fun q => q = p ∨ q = g) w wr
  gg : g1 = g ∨ w.heap.size ≤ g1
  n1 : N ≠ g1
  np : N ≠ p

theorem WL.next {g1 : Nat} {st st' : Option (List UInt8)} {w1 w2 : World} (h : WL w wr p g g1 b N st cs t) (hf : Fr (fun _ => False) wr w1) (hP : WP p g1 st' w1 w2) : ∃ g2, WL w w2 p g g2 b N st' cs t := by
  obtain ⟨g2, hB, hg2, hF⟩ := h.wb.next (WP.later hf hP)
  have h1 := h.fr.size
  have h2 := h.wk.lt
  have h3 := h.gg
  have h4 := h.n1
  exact ⟨g2, hB, h.wk.frame hF (by have := h.np; omega), h.fr.trans hF (fun i hi t => by omega), by omega, by omega, h.np⟩

/-- An element's box beside the writer. -/
theorem WL.elem {g1 : Nat} {st : Option (List UInt8)} {w1 : World} {vs : Array Value} {T : TypeId} (h : WL w wr p g g1 b N st cs t) (hf : Fr (fun _ => False) wr w1) (hx : Bx w1 wr.heap.size vs T) : WB w1 p g1 wr.heap.size st vs T :=
  ⟨WSt.frame h.wb.s hf (fun t => t) (fun t => t), hx, by have := h.wb.plt; omega, by have := h.wb.gl; omega, by have := h.wb.gl; have := hf.size; omega⟩

end
end Go.Proofs.YtjgbllfppomcmaaGreat

/- Lists of records, read and written. -/
namespace Go.Proofs.YtjgbllfppomcmaaGreat
open Go.RowKit

/-- An outage. -/
structure Otg where
  st : Int
  fr : Int
  to : Int
def otC (q : Otg) : List Value := [.int .i64 q.st, .int .i64 q.fr, .int .i64 q.to]
def otV (l : List Otg) : List Value := l.flatMap otC
def tkC (q : ByteArray) : List Value := [.string q]
def tkV (l : List ByteArray) : List Value := l.flatMap tkC
theorem otV_length (l : List Otg) : (otV l).length = l.length * 3 := flat_length otC 3 (fun _ => rfl) l
theorem tkV_length (l : List ByteArray) : (tkV l).length = l.length * 1 := flat_length tkC 1 (fun _ => rfl) l

/-- The pieces of a token. -/
abbrev tokenK : List Kd := [.fix 8]

theorem cat_cell {w : World} {ao : Option Addr} {α : Type} (f : α → List Value) (k : Nat) (hf : ∀ x, (f x).length = k) {l : List α} (h : CAt w ao (l.flatMap f)) {i : Nat} (hi : i < l.length) (hk : 0 < k) :
    ∃ b off, ao = some ⟨b, off, none⟩ ∧ ∀ c, c < k → w.cell? ⟨b, off + i * k + c, none⟩ = (f l[i])[c]? := by
  have hL := flat_length f k hf l
  have hlt : ∀ c, c < k → i * k + c < (l.flatMap f).length := fun c hc => by
    rw [hL]
    have : (i + 1) * k ≤ l.length * k := Nat.mul_le_mul_right k hi
    rw [Nat.succ_mul] at this
    omega
  obtain ⟨b, off, e, hc⟩ := h (by have := hlt 0 hk; omega)
  refine ⟨b, off, e, fun c hck => ?_⟩
  rw [Nat.add_assoc, hc _ (hlt c hck), ← flat_get f k hf l i hi c hck, List.getElem?_eq_getElem (hlt c hck)]

theorem tokenE_r {w : World} {p g b : Nat} {bs : List UInt8} {s : RS} {t : TypeId} (x0 : Value) (h : RB w p g b bs s #[x0] t) :
    Calls Tryz.prog 155 #[walkR p, .pointer (some ⟨b, 0, none⟩)] w (RDone p g b bs (rdL bs tokenK s).2 (rdL bs tokenK s).1.toArray t w) := by
  refine (token_r h 0 (by simp)).mono ?_
  rintro e w' ⟨h1, h2, h3⟩
  exact ⟨h1, by simpa [tokenK, rdL] using h2, h3⟩

theorem tokenE_w {w : World} {p g b : Nat} {st : Option (List UInt8)} {t : TypeId} (x0 : ByteArray) (h : WB w p g b st #[.string x0] t) (L : Nat) (hL : Most st L) (hfit : L + 66200 ≤ 140737488355328) :
    Calls Tryz.prog 155 #[walkW p, .pointer (some ⟨b, 0, none⟩)] w (WDone p g (stepW st (wrL tokenK [.string x0])) w) := by
  refine (token_w h 0 x0 rfl L hL (by omega)).mono ?_
  rintro e w' ⟨h1, h2⟩
  exact ⟨h1, by simpa only [tokenK, wrL, stepW_nil] using h2⟩

theorem Token_shape (bs : List UInt8) (s : RS) : ∃ n0, (rdL bs tokenK s).1 = [.string n0] := by
  obtain ⟨n, h⟩ := rd_fix bs 8 s
  exact ⟨n, by simp [rdL, h]⟩

theorem Token_info : (Tryz.prog.info? 9).map (fun i => (i.zero, i.size, i.bytes)) = some (some (.string ⟨#[]⟩), 1, 16) := by kernel_rfl

theorem Outage_shape (bs : List UInt8) (s : RS) : ∃ n0 n1 n2, (rdL bs outageK s).1 = [.int .i64 n0, .int .i64 n1, .int .i64 n2] := by
  have h : ∀ (n : Nat) (s : RS), ∃ m, ((Kd.num n).rd bs s).1 = .int .i64 m := fun n s => rd_num bs _ s (Or.inl ⟨_, rfl⟩)
  simp only [rdL, List.cons.injEq, and_true]
  obtain ⟨a, ha⟩ := h _ _
  obtain ⟨b, hb⟩ := h _ _
  obtain ⟨c, hc⟩ := h _ _
  exact ⟨a, b, c, ha, hb, hc⟩

theorem Outage_info : (Tryz.prog.info? 57).map (fun i => (i.zero, i.size, i.bytes)) = some (some (.agg #[.int .i64 0, .int .i64 0, .int .i64 0]), 3, 24) := by kernel_rfl

theorem Station_shape (bs : List UInt8) (s : RS) : ∃ n0 n1 n2, (rdL bs stationK s).1 = [.int .i64 n0, .int .i64 n1, .int .i64 n2] := by
  have h : ∀ (n : Nat) (s : RS), ∃ m, ((Kd.num n).rd bs s).1 = .int .i64 m := fun n s => rd_num bs _ s (Or.inl ⟨_, rfl⟩)
  simp only [rdL, List.cons.injEq, and_true]
  obtain ⟨a, ha⟩ := h _ _
  obtain ⟨b, hb⟩ := h _ _
  obtain ⟨c, hc⟩ := h _ _
  exact ⟨a, b, c, ha, hb, hc⟩

theorem Station_info : (Tryz.prog.info? 59).map (fun i => (i.zero, i.size, i.bytes)) = some (some (.agg #[.int .i64 0, .int .i64 0, .int .i64 0]), 3, 24) := by kernel_rfl

theorem Span_shape (bs : List UInt8) (s : RS) : ∃ n0 n1 n2 n3 n4, (rdL bs spanK s).1 = [.int .i64 n0, .int .i64 n1, .int .i64 n2, .int .i64 n3, .int .i64 n4] := by
  have h : ∀ (n : Nat) (s : RS), ∃ m, ((Kd.num n).rd bs s).1 = .int .i64 m := fun n s => rd_num bs _ s (Or.inl ⟨_, rfl⟩)
  simp only [rdL, List.cons.injEq, and_true]
  obtain ⟨a, ha⟩ := h _ _
  obtain ⟨b, hb⟩ := h _ _
  obtain ⟨c, hc⟩ := h _ _
  obtain ⟨d, hd⟩ := h _ _
  obtain ⟨e, he⟩ := h _ _
  exact ⟨a, b, c, d, e, ha, hb, hc, hd, he⟩

theorem Span_info : (Tryz.prog.info? 50).map (fun i => (i.zero, i.size, i.bytes)) = some (some (.agg #[.int .i64 0, .int .i64 0, .int .i64 0, .int .i64 0, .int .i64 0]), 5, 40) := by kernel_rfl

theorem Band_shape (bs : List UInt8) (s : RS) : ∃ n0 n1, (rdL bs bandK s).1 = [.int .i64 n0, .int .i64 n1] := by
  have h : ∀ (n : Nat) (s : RS), ∃ m, ((Kd.num n).rd bs s).1 = .int .i64 m := fun n s => rd_num bs _ s (Or.inl ⟨_, rfl⟩)
  simp only [rdL, List.cons.injEq, and_true]
  obtain ⟨a, ha⟩ := h _ _
  obtain ⟨b, hb⟩ := h _ _
  exact ⟨a, b, ha, hb⟩

theorem Band_info : (Tryz.prog.info? 55).map (fun i => (i.zero, i.size, i.bytes)) = some (some (.agg #[.int .i64 0, .int .i64 0]), 2, 16) := by kernel_rfl

end Go.Proofs.YtjgbllfppomcmaaGreat

/- Lists of records, written. -/
namespace Go.Proofs.YtjgbllfppomcmaaGreat
open Go.RowKit

end Go.Proofs.YtjgbllfppomcmaaGreat

/- Records that hold lists: deltas, outages, tariffs; read and written. -/
namespace Go.Proofs.YtjgbllfppomcmaaGreat
open Go.RowKit

/-- A list that was made behind w0. -/
structure KL (w0 w : World) (ao : Option Addr) (cap gl k : Nat) (vs : List Value) : Prop where
  row : KRow w ao cap gl k vs
  new : 0 < cap → w0.heap.size ≤ gl

theorem KL.frame {w0 w w' : World} {ao : Option Addr} {cap gl k p b : Nat} {vs : List Value} (h : KL w0 w ao cap gl k vs) (hk : 0 < k) (hf : Fr (fun q => q = p ∨ q = b) w w') (hp : p < w0.heap.size) (hb : b < w0.heap.size) : KL w0 w' ao cap gl k vs :=
  ⟨h.row.stay (fun hc => hf.block gl (h.row.lt hk hc) (by have := h.new hc; omega)), h.new⟩

theorem KL.later {w0 w1 w : World} {ao : Option Addr} {cap gl k : Nat} {vs : List Value} (h : KL w1 w ao cap gl k vs) (hs : w0.heap.size ≤ w1.heap.size) : KL w0 w ao cap gl k vs := ⟨h.row, fun hc => Nat.le_trans hs (h.new hc)⟩

theorem Most.list (ks : List Kd) (rs : List (List Value)) : Most (wrM ks rs) (2 + rs.length * wide ks) := (Most.count _).step (Most.wrN ks rs)

def deltaQ0 (bs : List UInt8) (s : RS) : List Value × RS := rdL bs (List.replicate 1 (.num 8)) s
def deltaS1 (bs : List UInt8) (s : RS) : RS := (deltaQ0 bs s).2
def deltaQ1 (bs : List UInt8) (s : RS) : List (List Value) × RS := rdM bs 1000 tokenK (deltaS1 bs s)
def deltaS2 (bs : List UInt8) (s : RS) : RS := (deltaQ1 bs s).2
def deltaQ2 (bs : List UInt8) (s : RS) : List (List Value) × RS := rdM bs 1000 tokenK (deltaS2 bs s)
def deltaS3 (bs : List UInt8) (s : RS) : RS := (deltaQ2 bs s).2

def tariffQ0 (bs : List UInt8) (s : RS) : List (List Value) × RS := rdM bs 200 stationK s
def tariffS1 (bs : List UInt8) (s : RS) : RS := (tariffQ0 bs s).2
def tariffQ1 (bs : List UInt8) (s : RS) : List (List Value) × RS := rdM bs 45 spanK (tariffS1 bs s)
def tariffS2 (bs : List UInt8) (s : RS) : RS := (tariffQ1 bs s).2
def tariffQ2 (bs : List UInt8) (s : RS) : List (List Value) × RS := rdM bs 8 bandK (tariffS2 bs s)
def tariffS3 (bs : List UInt8) (s : RS) : RS := (tariffQ2 bs s).2
def tariffQ3 (bs : List UInt8) (s : RS) : Value × RS := Kd.rd bs (.float) (tariffS3 bs s)
def tariffS4 (bs : List UInt8) (s : RS) : RS := (tariffQ3 bs s).2
def tariffQ4 (bs : List UInt8) (s : RS) : List Value × RS := rdL bs (List.replicate 3 (.num 4)) (tariffS4 bs s)
def tariffS5 (bs : List UInt8) (s : RS) : RS := (tariffQ4 bs s).2
def tariffQ5 (bs : List UInt8) (s : RS) : List Value × RS := rdL bs (List.replicate 1 (.num 2)) (tariffS5 bs s)
def tariffS6 (bs : List UInt8) (s : RS) : RS := (tariffQ5 bs s).2
def tariffQ6 (bs : List UInt8) (s : RS) : List Value × RS := rdL bs (List.replicate 1 (.num 4)) (tariffS6 bs s)
def tariffS7 (bs : List UInt8) (s : RS) : RS := (tariffQ6 bs s).2
def tariffQ7 (bs : List UInt8) (s : RS) : List Value × RS := rdL bs (List.replicate 4 (.num 2)) (tariffS7 bs s)
def tariffS8 (bs : List UInt8) (s : RS) : RS := (tariffQ7 bs s).2
def tariffQ8 (bs : List UInt8) (s : RS) : List Value × RS := rdL bs (List.replicate 1 (.num 4)) (tariffS8 bs s)
def tariffS9 (bs : List UInt8) (s : RS) : RS := (tariffQ8 bs s).2

end Go.Proofs.YtjgbllfppomcmaaGreat

/- Which taps may be: the program's tapError, the document's TapRight. -/
namespace Go.Proofs.YtjgbllfppomcmaaGreat
open Go.RowKit

/-- Is a number from lo to hi? -/
def isIn (n lo hi : Int) : Bool := decide (lo ≤ n) && decide (n ≤ hi)

theorem isIn_not {n lo : Int} (h : ¬ lo ≤ n) (hi : Int) : isIn n lo hi = false := by simp [isIn, h]

theorem isFrom_is {n lo hi : Int} {b : Bool} (hb : isIn n lo hi = b) (w : World) : Calls Tryz.prog 156 #[.int .i64 n, .int .i64 lo, .int .i64 hi] w fun e w' => e = .returned (.bool b) ∧ w' = w := by
  subst hb
  by_cases h1 : lo ≤ n
  · go_enter Tryz.func156, Tryz.ntmps156
    go_wp2
    go_ret
    exact ⟨by simp [isIn, h1], rfl⟩
  · have HN := hide (isIn_not h1 hi)
    go_enter Tryz.func156, Tryz.ntmps156
    go_wp2
    go_ret
    exact ⟨by rw [unhide HN]; rfl, rfl⟩

theorem within_is {n lo hi : Int} {b : Bool} (hb : isIn n lo hi = b) (w : World) : Calls Tryz.prog 122 #[.int .i64 n, .int .i64 lo, .int .i64 hi] w fun e w' => e = .returned (.bool b) ∧ w' = w := by
  subst hb
  by_cases h1 : lo ≤ n
  · go_enter Tryz.func122, Tryz.ntmps122
    go_wp2
    go_ret
    exact ⟨by simp [isIn, h1], rfl⟩
  · have HN := hide (isIn_not h1 hi)
    go_enter Tryz.func122, Tryz.ntmps122
    go_wp2
    go_ret
    exact ⟨by rw [unhide HN]; rfl, rfl⟩

theorem ctime_is {n : Int} {b : Bool} (hb : isIn n 0 2147483648 = b) (w : World) : Calls Tryz.prog 42 #[.int .i64 n] w fun e w' => e = .returned (.bool b) ∧ w' = w := by
  subst hb
  by_cases h1 : 0 ≤ n
  · go_enter Tryz.func42, Tryz.ntmps42
    go_wp2
    go_ret
    exact ⟨by simp [isIn, h1], rfl⟩
  · have HN := hide (isIn_not h1 2147483648)
    go_enter Tryz.func42, Tryz.ntmps42
    go_wp2
    go_ret
    exact ⟨by rw [unhide HN]; rfl, rfl⟩

theorem rtime_is {n : Int} {b : Bool} (hb : isIn n 0 2147483648 = b) (w : World) : Calls Tryz.prog 81 #[.int .i64 n] w fun e w' => e = .returned (.bool b) ∧ w' = w := by
  subst hb
  by_cases h1 : 0 ≤ n
  · go_enter Tryz.func81, Tryz.ntmps81
    go_wp2
    go_ret
    exact ⟨by simp [isIn, h1], rfl⟩
  · have HN := hide (isIn_not h1 2147483648)
    go_enter Tryz.func81, Tryz.ntmps81
    go_wp2
    go_ret
    exact ⟨by rw [unhide HN]; rfl, rfl⟩

theorem money_is {n : Int} {b : Bool} (hb : isIn n (-9007199254740992) 9007199254740992 = b) (w : World) : Calls Tryz.prog 213 #[.int .i64 n] w fun e w' => e = .returned (.bool b) ∧ w' = w := by
  subst hb
  by_cases h1 : -9007199254740992 ≤ n
  · go_enter Tryz.func213, Tryz.ntmps213
    go_wp2
    go_ret
    exact ⟨by simp [isIn, h1], rfl⟩
  · have HN := hide (isIn_not h1 9007199254740992)
    go_enter Tryz.func213, Tryz.ntmps213
    go_wp2
    go_ret
    exact ⟨by rw [unhide HN]; rfl, rfl⟩

theorem rmoney_is {n : Int} {b : Bool} (hb : isIn n (-9007199254740992) 9007199254740992 = b) (w : World) : Calls Tryz.prog 176 #[.int .i64 n] w fun e w' => e = .returned (.bool b) ∧ w' = w := by
  subst hb
  by_cases h1 : -9007199254740992 ≤ n
  · go_enter Tryz.func176, Tryz.ntmps176
    go_wp2
    go_ret
    exact ⟨by simp [isIn, h1], rfl⟩
  · have HN := hide (isIn_not h1 9007199254740992)
    go_enter Tryz.func176, Tryz.ntmps176
    go_wp2
    go_ret
    exact ⟨by rw [unhide HN]; rfl, rfl⟩

/-- Has a text eight bytes? -/
def isTok (s : ByteArray) : Bool := (s.size : Int) == 8

theorem isToken_is {s : ByteArray} {b : Bool} (hb : isTok s = b) (w : World) : Calls Tryz.prog 159 #[.string s] w fun e w' => e = .returned (.bool b) ∧ w' = w := by
  subst hb
  go_enter Tryz.func159, Tryz.ntmps159
  go_wp2
  go_ret
  exact ⟨rfl, rfl⟩

theorem errorUnless_any (b : Bool) (w : World) : Calls Tryz.prog 158 #[.bool b] w fun e w' => e = .returned (.int .i64 (if b then 0 else 80)) ∧ w' = w := by
  cases b
  · go_enter Tryz.func158, Tryz.ntmps158
    go_wp2
    go_ret
    exact ⟨rfl, rfl⟩
  · go_enter Tryz.func158, Tryz.ntmps158
    go_wp2
    go_ret
    exact ⟨rfl, rfl⟩

def mostPlace (kind : Int) : Int := if kind = 3 then 1000 else 65535

theorem greatestPlace_is {k m : Int} (hm : mostPlace k = m) (w : World) : Calls Tryz.prog 157 #[.int .i64 k] w fun e w' => e = .returned (.int .i64 m) ∧ w' = w := by
  subst hm
  by_cases h : k = 3
  · have hd : (k == 3) = true := by simp [h]
    have HH := hide h
    clear h
    go_enter Tryz.func157, Tryz.ntmps157
    go_wp2
    go_ret
    exact ⟨by simp [mostPlace, unhide HH], rfl⟩
  · have hd : (k == 3) = false := by simp [h]
    have HH := hide h
    clear h
    go_enter Tryz.func157, Tryz.ntmps157
    go_wp2
    go_ret
    exact ⟨by simp [mostPlace, unhide HH], rfl⟩

/-- A tap. -/
structure Tp where
  dev : Int
  ctr : Int
  tok : ByteArray
  kind : Int
  place : Int
  time : Int

def tpC (t : Tp) : Array Value := #[.int .i64 t.dev, .int .i64 t.ctr, .string t.tok, .int .i64 t.kind, .int .i64 t.place, .int .i64 t.time]

/-- May it be? -/
def tapOk (t : Tp) : Bool := ((isIn t.dev 1 65535 && isIn t.ctr 1 4294967295) && (isIn t.kind 1 3 && isIn t.place 1 (mostPlace t.kind))) && isTok t.tok && isIn t.time 0 2147483648
def tapE (t : Tp) : Int := if tapOk t then 0 else 80

theorem isIn_iff {n lo hi : Int} : isIn n lo hi = true ↔ lo ≤ n ∧ n ≤ hi := by simp [isIn]

theorem mostPlace_le (k : Int) : mostPlace k ≤ 65535 := by unfold mostPlace; split <;> omega

theorem tap_small (t : Tp) (h : tapOk t = true) : t.dev ≤ 9223372036854775807 ∧ t.ctr ≤ 9223372036854775807 ∧ t.kind ≤ 9223372036854775807 ∧ t.place ≤ 9223372036854775807 ∧ t.time ≤ 9223372036854775807 := by
  simp only [tapOk, Bool.and_eq_true, isIn_iff] at h
  have := mostPlace_le t.kind
  omega

set_option maxHeartbeats 1000000 in
theorem tapError_any (t : Tp) (w : World) : Calls Tryz.prog 132 #[.agg (tpC t)] w fun e w' => e = .returned (.int .i64 (tapE t)) ∧ Fr (fun _ => False) w w' := by
  obtain ⟨b1, hb1⟩ : ∃ b, isIn t.dev 1 65535 = b := ⟨_, rfl⟩
  obtain ⟨b2, hb2⟩ : ∃ b, isIn t.ctr 1 4294967295 = b := ⟨_, rfl⟩
  obtain ⟨b3, hb3⟩ : ∃ b, isIn t.kind 1 3 = b := ⟨_, rfl⟩
  obtain ⟨m, hm⟩ : ∃ m, mostPlace t.kind = m := ⟨_, rfl⟩
  obtain ⟨b4, hb4⟩ : ∃ b, isIn t.place 1 m = b := ⟨_, rfl⟩
  obtain ⟨b5, hb5⟩ : ∃ b, isTok t.tok = b := ⟨_, rfl⟩
  obtain ⟨b6, hb6⟩ : ∃ b, isIn t.time 0 2147483648 = b := ⟨_, rfl⟩
  have HE : Hid (tapE t = if ((b1 && b2) && (b3 && b4)) && b5 && b6 then 0 else 80) := hide (by unfold tapE tapOk; rw [hb1, hb2, hb3, hm, hb4, hb5, hb6])
  have R1 := hide (isFrom_is hb1)
  have R2 := hide (isFrom_is hb2)
  have R3 := hide (isFrom_is hb3)
  have RM := hide (greatestPlace_is hm)
  have R4 := hide (isFrom_is hb4)
  have R5 := hide (isToken_is hb5)
  have R6 := hide (ctime_is hb6)
  clear hb1 hb2 hb3 hb4 hb5 hb6 hm
  generalize hE : tapE t = E at HE ⊢
  clear hE
  unfold tpC
  obtain ⟨dev, ctr, tok, kind, place, time⟩ := t
  simp only at R1 R2 R3 RM R4 R5 R6 ⊢
  go_enter Tryz.func132, Tryz.ntmps132
  go_wp2_with fail
  refine (unhide R1 _).mono ?_
  rintro e w1 ⟨rfl, rfl⟩
  have hF : Fr (fun _ => False) w (w.alloc (.cells #[.int .i64 dev, .int .i64 ctr, .string tok, .int .i64 kind, .int .i64 place, .int .i64 time] 47)) := (Fr.refl _ _).alloc _
  have HF := hide hF
  clear hF
  have c2 : (w.alloc (.cells #[.int .i64 dev, .int .i64 ctr, .string tok, .int .i64 kind, .int .i64 place, .int .i64 time] 47)).cell? ⟨w.heap.size, 2, none⟩ = some (.string tok) := by simp
  have c3 : (w.alloc (.cells #[.int .i64 dev, .int .i64 ctr, .string tok, .int .i64 kind, .int .i64 place, .int .i64 time] 47)).cell? ⟨w.heap.size, 3, none⟩ = some (.int .i64 kind) := by simp
  have c4 : (w.alloc (.cells #[.int .i64 dev, .int .i64 ctr, .string tok, .int .i64 kind, .int .i64 place, .int .i64 time] 47)).cell? ⟨w.heap.size, 4, none⟩ = some (.int .i64 place) := by simp
  have c5 : (w.alloc (.cells #[.int .i64 dev, .int .i64 ctr, .string tok, .int .i64 kind, .int .i64 place, .int .i64 time] 47)).cell? ⟨w.heap.size, 5, none⟩ = some (.int .i64 time) := by simp
  have c1 : (w.alloc (.cells #[.int .i64 dev, .int .i64 ctr, .string tok, .int .i64 kind, .int .i64 place, .int .i64 time] 47)).cell? ⟨w.heap.size, 1, none⟩ = some (.int .i64 ctr) := by simp
  generalize w.alloc (.cells #[.int .i64 dev, .int .i64 ctr, .string tok, .int .i64 kind, .int .i64 place, .int .i64 time] 47) = wA at *
  generalize w.heap.size = B at *
  cases b1
  · go_wp2_with fail
    cases b3
    · go_quiet ((go_at_call_of 156 (Value.int IntKind.i64 kind); exact Calls.quiet_of_same (unhide R3 _)))
      go_wp2_with fail
      refine (errorUnless_any false _).mono ?_
      rintro e w1 ⟨rfl, rfl⟩
      go_wp2
      go_ret
      exact ⟨by rw [unhide HE]; rfl, (unhide HF).drewN _⟩
    · cases b4
      · go_quiet (first | (go_at_call_of 156 (Value.int IntKind.i64 kind); exact Calls.quiet_of_same (unhide R3 _)) | (go_at_call 157; exact Calls.quiet_of_same (unhide RM _)) | (go_at_call_of 156 (Value.int IntKind.i64 place); exact Calls.quiet_of_same (unhide R4 _)))
        go_wp2_with fail
        refine (errorUnless_any false _).mono ?_
        rintro e w1 ⟨rfl, rfl⟩
        go_wp2
        go_ret
        exact ⟨by rw [unhide HE]; rfl, (unhide HF).drewN _⟩
      · go_quiet (first | (go_at_call_of 156 (Value.int IntKind.i64 kind); exact Calls.quiet_of_same (unhide R3 _)) | (go_at_call 157; exact Calls.quiet_of_same (unhide RM _)) | (go_at_call_of 156 (Value.int IntKind.i64 place); exact Calls.quiet_of_same (unhide R4 _)))
        go_wp2_with fail
        refine (errorUnless_any false _).mono ?_
        rintro e w1 ⟨rfl, rfl⟩
        go_wp2
        go_ret
        exact ⟨by rw [unhide HE]; rfl, (unhide HF).drewN _⟩
  · go_wp2_with fail
    refine (unhide R2 _).mono ?_
    rintro e w1 ⟨rfl, rfl⟩
    cases b2
    · go_wp2_with fail
      cases b3
      · go_quiet ((go_at_call_of 156 (Value.int IntKind.i64 kind); exact Calls.quiet_of_same (unhide R3 _)))
        go_wp2_with fail
        refine (errorUnless_any false _).mono ?_
        rintro e w1 ⟨rfl, rfl⟩
        go_wp2
        go_ret
        exact ⟨by rw [unhide HE]; rfl, (unhide HF).drewN _⟩
      · cases b4
        · go_quiet (first | (go_at_call_of 156 (Value.int IntKind.i64 kind); exact Calls.quiet_of_same (unhide R3 _)) | (go_at_call 157; exact Calls.quiet_of_same (unhide RM _)) | (go_at_call_of 156 (Value.int IntKind.i64 place); exact Calls.quiet_of_same (unhide R4 _)))
          go_wp2_with fail
          refine (errorUnless_any false _).mono ?_
          rintro e w1 ⟨rfl, rfl⟩
          go_wp2
          go_ret
          exact ⟨by rw [unhide HE]; rfl, (unhide HF).drewN _⟩
        · go_quiet (first | (go_at_call_of 156 (Value.int IntKind.i64 kind); exact Calls.quiet_of_same (unhide R3 _)) | (go_at_call 157; exact Calls.quiet_of_same (unhide RM _)) | (go_at_call_of 156 (Value.int IntKind.i64 place); exact Calls.quiet_of_same (unhide R4 _)))
          go_wp2_with fail
          refine (errorUnless_any false _).mono ?_
          rintro e w1 ⟨rfl, rfl⟩
          go_wp2
          go_ret
          exact ⟨by rw [unhide HE]; rfl, (unhide HF).drewN _⟩
    · go_wp2_with fail
      cases b3
      · go_quiet ((go_at_call_of 156 (Value.int IntKind.i64 kind); exact Calls.quiet_of_same (unhide R3 _)))
        go_wp2_with fail
        refine (errorUnless_any false _).mono ?_
        rintro e w1 ⟨rfl, rfl⟩
        go_wp2
        go_ret
        exact ⟨by rw [unhide HE]; rfl, (unhide HF).drewN _⟩
      · cases b4
        · go_quiet (first | (go_at_call_of 156 (Value.int IntKind.i64 kind); exact Calls.quiet_of_same (unhide R3 _)) | (go_at_call 157; exact Calls.quiet_of_same (unhide RM _)) | (go_at_call_of 156 (Value.int IntKind.i64 place); exact Calls.quiet_of_same (unhide R4 _)))
          go_wp2_with fail
          refine (errorUnless_any false _).mono ?_
          rintro e w1 ⟨rfl, rfl⟩
          go_wp2
          go_ret
          exact ⟨by rw [unhide HE]; rfl, (unhide HF).drewN _⟩
        · go_quiet (first | (go_at_call_of 156 (Value.int IntKind.i64 kind); exact Calls.quiet_of_same (unhide R3 _)) | (go_at_call 157; exact Calls.quiet_of_same (unhide RM _)) | (go_at_call_of 156 (Value.int IntKind.i64 place); exact Calls.quiet_of_same (unhide R4 _)))
          go_wp2_with fail
          refine (unhide R5 _).mono ?_
          rintro e w1 ⟨rfl, rfl⟩
          cases b5
          · go_wp2_with fail
            refine (errorUnless_any false _).mono ?_
            rintro e w1 ⟨rfl, rfl⟩
            go_wp2
            go_ret
            exact ⟨by rw [unhide HE]; rfl, (unhide HF).drewN _⟩
          · go_wp2_with fail
            refine (unhide R6 _).mono ?_
            rintro e w1 ⟨rfl, rfl⟩
            cases b6
            · go_wp2_with fail
              refine (errorUnless_any false _).mono ?_
              rintro e w1 ⟨rfl, rfl⟩
              go_wp2
              go_ret
              exact ⟨by rw [unhide HE]; rfl, (unhide HF).drewN _⟩
            · go_wp2_with fail
              refine (errorUnless_any true _).mono ?_
              rintro e w1 ⟨rfl, rfl⟩
              go_wp2
              go_ret
              exact ⟨by rw [unhide HE]; rfl, (unhide HF).drewN _⟩

set_option maxHeartbeats 1000000 in
theorem TapRight_any (t : Tp) (w : World) : Calls Tryz.prog 123 #[.agg (tpC t)] w fun e w' => e = .returned (.bool (tapOk t)) ∧ Fr (fun _ => False) w w' := by
  obtain ⟨b1, hb1⟩ : ∃ b, isIn t.dev 1 65535 = b := ⟨_, rfl⟩
  obtain ⟨b2, hb2⟩ : ∃ b, isIn t.ctr 1 4294967295 = b := ⟨_, rfl⟩
  obtain ⟨b3, hb3⟩ : ∃ b, isIn t.kind 1 3 = b := ⟨_, rfl⟩
  obtain ⟨b4, hb4⟩ : ∃ b, isIn t.place 1 (mostPlace t.kind) = b := ⟨_, rfl⟩
  obtain ⟨b5, hb5⟩ : ∃ b, isTok t.tok = b := ⟨_, rfl⟩
  obtain ⟨b6, hb6⟩ : ∃ b, isIn t.time 0 2147483648 = b := ⟨_, rfl⟩
  have HE : Hid (tapOk t = (((b1 && b2) && (b3 && b4)) && b5 && b6)) := hide (by unfold tapOk; rw [hb1, hb2, hb3, hb4, hb5, hb6])
  have R1 := hide (within_is hb1)
  have R2 := hide (within_is hb2)
  have R3 := hide (within_is hb3)
  have R4 := hide (within_is hb4)
  have R6 := hide (rtime_is hb6)
  have hk := hide (show mostPlace t.kind = if t.kind = 3 then 1000 else 65535 from rfl)
  have h5 : ((t.tok.size : Int) == 8) = b5 := hb5
  clear hb1 hb2 hb3 hb4 hb5 hb6
  generalize tapOk t = E at HE ⊢
  generalize mostPlace t.kind = m at *
  unfold tpC
  obtain ⟨dev, ctr, tok, kind, place, time⟩ := t
  simp only at R1 R2 R3 R4 R6 hk h5 ⊢
  have HF : Hid (Fr (fun _ => False) w (w.alloc (.cells #[.int .i64 dev, .int .i64 ctr, .string tok, .int .i64 kind, .int .i64 place, .int .i64 time] 47))) := hide ((Fr.refl _ _).alloc _)
  rcases Decidable.em (kind = 3) with h3 | h3
  · have hd : (kind == 3) = true := by simp [h3]
    have hm : m = 1000 := by rw [unhide hk, if_pos h3]
    subst hm
    clear h3 hk
    go_enter Tryz.func123, Tryz.ntmps123
    go_wp2_with fail
    refine (unhide R6 _).mono ?_
    rintro e w1 ⟨rfl, rfl⟩
    go_wp2_with fail
    refine (unhide R1 _).mono ?_
    rintro e w1 ⟨rfl, rfl⟩
    cases b1
    · go_wp2
      go_ret
      exact ⟨by rw [unhide HE]; first | rfl | simp, unhide HF⟩
    · go_wp2_with fail
      refine (unhide R2 _).mono ?_
      rintro e w1 ⟨rfl, rfl⟩
      cases b2
      · go_wp2
        go_ret
        exact ⟨by rw [unhide HE]; first | rfl | simp, unhide HF⟩
      · cases b5
        · go_wp2
          go_ret
          exact ⟨by rw [unhide HE]; first | rfl | simp, unhide HF⟩
        · go_wp2_with fail
          refine (unhide R3 _).mono ?_
          rintro e w1 ⟨rfl, rfl⟩
          cases b3
          · go_wp2
            go_ret
            exact ⟨by rw [unhide HE]; first | rfl | simp, unhide HF⟩
          · go_wp2_with fail
            refine (unhide R4 _).mono ?_
            rintro e w1 ⟨rfl, rfl⟩
            cases b4
            · go_wp2
              go_ret
              exact ⟨by rw [unhide HE]; first | rfl | simp, unhide HF⟩
            · go_wp2
              go_ret
              exact ⟨by rw [unhide HE]; first | rfl | simp, unhide HF⟩
  · have hd : (kind == 3) = false := by simp [h3]
    have hm : m = 65535 := by rw [unhide hk, if_neg h3]
    subst hm
    clear h3 hk
    go_enter Tryz.func123, Tryz.ntmps123
    go_wp2_with fail
    refine (unhide R6 _).mono ?_
    rintro e w1 ⟨rfl, rfl⟩
    go_wp2_with fail
    refine (unhide R1 _).mono ?_
    rintro e w1 ⟨rfl, rfl⟩
    cases b1
    · go_wp2
      go_ret
      exact ⟨by rw [unhide HE]; first | rfl | simp, unhide HF⟩
    · go_wp2_with fail
      refine (unhide R2 _).mono ?_
      rintro e w1 ⟨rfl, rfl⟩
      cases b2
      · go_wp2
        go_ret
        exact ⟨by rw [unhide HE]; first | rfl | simp, unhide HF⟩
      · cases b5
        · go_wp2
          go_ret
          exact ⟨by rw [unhide HE]; first | rfl | simp, unhide HF⟩
        · go_wp2_with fail
          refine (unhide R3 _).mono ?_
          rintro e w1 ⟨rfl, rfl⟩
          cases b3
          · go_wp2
            go_ret
            exact ⟨by rw [unhide HE]; first | rfl | simp, unhide HF⟩
          · go_wp2_with fail
            refine (unhide R4 _).mono ?_
            rintro e w1 ⟨rfl, rfl⟩
            cases b4
            · go_wp2
              go_ret
              exact ⟨by rw [unhide HE]; first | rfl | simp, unhide HF⟩
            · go_wp2
              go_ret
              exact ⟨by rw [unhide HE]; first | rfl | simp, unhide HF⟩

end Go.Proofs.YtjgbllfppomcmaaGreat

/- Which entries and accounts may be. -/
namespace Go.Proofs.YtjgbllfppomcmaaGreat
open Go.RowKit

/-- An entry of the ledger; an account. -/
structure En where
  run : Int
  tok : ByteArray
  amount : Int
  paid : Bool
structure Ac where
  tok : ByteArray
  charged : Int
  paid : Int
def enC (t : En) : Array Value := #[.int .i64 t.run, .string t.tok, .int .i64 t.amount, .bool t.paid]
def acC (t : Ac) : Array Value := #[.string t.tok, .int .i64 t.charged, .int .i64 t.paid]

def entryOk (t : En) : Bool := isIn t.run 1 2147483648 && isTok t.tok && isIn t.amount (-9007199254740992) 9007199254740992 && (t.amount != 0)
def entryE (t : En) : Int := if entryOk t then 0 else 80
def accountOk (t : Ac) : Bool := isTok t.tok && isIn t.charged 0 9007199254740992 && isIn t.paid 0 t.charged
def accountE (t : Ac) : Int := if accountOk t then 0 else 80

theorem entry_small (t : En) (h : entryOk t = true) : t.run ≤ 9223372036854775807 := by
  simp only [entryOk, Bool.and_eq_true, isIn_iff] at h
  omega
theorem account_small (t : Ac) (h : accountOk t = true) : t.charged ≤ 9223372036854775807 ∧ t.paid ≤ 9223372036854775807 := by
  simp only [accountOk, Bool.and_eq_true, isIn_iff] at h
  omega

theorem accountOk_alt (t : Ac) : accountOk t = (isTok t.tok && isIn t.charged (-9007199254740992) 9007199254740992 && isIn t.paid 0 t.charged) := by
  unfold accountOk
  rw [Bool.eq_iff_iff]
  simp only [Bool.and_eq_true, isIn_iff]
  constructor <;> (rintro ⟨⟨h1, h2⟩, h3⟩; exact ⟨⟨h1, by omega⟩, h3⟩)

end Go.Proofs.YtjgbllfppomcmaaGreat

/- Records as bytes, and the way back: written, taken, the exported calls. -/
namespace Go.Proofs.YtjgbllfppomcmaaGreat
open Go.RowKit

/-- A writer's word on its bytes. -/
def codeOf (s : Option (List UInt8)) : Int := if s.isSome then 0 else 1

/-- What a call that writes a record comes to. -/
def Wrote (w : World) (bs : List UInt8) (c : Int) (e : Ending) (w' : World) : Prop :=
  ∃ ao cap gb, e = .returned (.tuple #[.slice ao bs.length cap, .int .i64 c]) ∧ Row w' (.slice ao bs.length cap) gb bs ∧ (0 < cap → w.heap.size ≤ gb) ∧ Fr (fun _ => False) w w'

theorem Wrote.later {w w1 w' : World} {bs : List UInt8} {c : Int} {e : Ending} (hf : Fr (fun _ => False) w w1) (h : Wrote w1 bs c e w') : Wrote w bs c e w' := by
  obtain ⟨ao, cap, gb, h1, h2, h3, h4⟩ := h
  exact ⟨ao, cap, gb, h1, h2, fun hc => Nat.le_trans hf.size (h3 hc), hf.trans h4 (fun _ _ t => t)⟩

theorem wbytes {w : World} {p g : Nat} {s : Option (List UInt8)} (h : WSt w p g s) (L : Nat) (hL : Most s L) (hf : L ≤ 140737488355328) : Calls Tryz.prog 153 #[.pointer (some ⟨p, 0, none⟩)] w (Wrote w (s.getD []) (codeOf s)) := by
  cases s with
  | some bs =>
    refine (bytes_ok h (Nat.le_trans (hL bs rfl) hf)).mono ?_
    rintro e w' ⟨v, g', rfl, hr, hF, hg⟩
    obtain ⟨ao, cap, rfl, _⟩ := hr.shape
    exact ⟨ao, cap, g', rfl, hr, fun _ => hg, hF⟩
  | none =>
    refine (bytes_bad h).mono ?_
    rintro e w' ⟨rfl, rfl⟩
    exact ⟨none, 0, 0, rfl, Row.nil _ _, fun h => absurd h (by omega), Fr.refl _ _⟩

theorem WP.fresh {p g : Nat} {st : Option (List UInt8)} {w w1 w2 : World} (hf : Fr (fun _ => False) w w1) (hp : w.heap.size ≤ p) (hg : w.heap.size ≤ g) (h : WP p g st w1 w2) : Fr (fun _ => False) w w2 := by
  obtain ⟨g', _, _, _, h4⟩ := h
  exact hf.trans h4 (fun i hi t => by omega)

/-- Bytes that are handed in. -/
structure BIn (w : World) (ao : Option Addr) (cap : Nat) (bs : List UInt8) : Prop where
  nil : ao = none → bs.length = 0 ∧ cap = 0
  cell : 0 < bs.length → ∃ b off, ao = some ⟨b, off, none⟩ ∧ ∀ j (hj : j < bs.length), w.cell? ⟨b, off + j, none⟩ = some (.int .u8 (bs[j].toNat))
  fit : bs.length ≤ 140737488355328

theorem BIn.keep {w w' : World} {ao : Option Addr} {cap : Nat} {bs : List UInt8} (h : BIn w ao cap bs) (hf : Fr (fun _ => False) w w') : BIn w' ao cap bs :=
  ⟨h.nil, fun h0 => by
    obtain ⟨b, off, e, hc⟩ := h.cell h0
    exact ⟨b, off, e, fun j hj => (hf.cell (a := ⟨b, off + j, none⟩) (World.block_lt_of_cell? _ _ (hc j hj)) (fun t => t)).trans (hc j hj)⟩, h.fit⟩

theorem Row.bin {w : World} {ao : Option Addr} {cap g : Nat} {bs : List UInt8} (h : Row w (.slice ao bs.length cap) g bs) (hf : bs.length ≤ 140737488355328) : BIn w ao cap bs := by
  obtain ⟨ao', cap', e, h1, h2, h3, h4⟩ := h.shape
  injection e with e1 e2 e3
  subst e1 e3
  refine ⟨fun e => ?_, fun h0 => ⟨g, 0, h3 (by omega), fun j hj => by rw [Nat.zero_add]; exact h.cells j hj⟩, hf⟩
  have : ¬ 0 < cap := fun hc => by rw [h3 hc] at e; cases e
  omega

/-- End, where nothing is left out of sight: the fault, in a new box. -/
def EndD (w : World) (p : Nat) (bs : List UInt8) (s : RS) (e : Ending) (w' : World) : Prop :=
  e = .returned (.agg #[.int .i64 (endR s bs.length).c, .int .i64 (endR s bs.length).f]) ∧ Fr (· = p) w w'

def tapB (t : Tp) : Option (List UInt8) := wrL tapK (tpC t).toList
/-- What writing answers. -/
def tapW (t : Tp) : List UInt8 × Int := if tapOk t then ((tapB t).getD [], codeOf (tapB t)) else ([], 80)

theorem tapW_le (t : Tp) : (tapW t).1.length ≤ 1000 := by
  unfold tapW
  split
  · cases h : tapB t with
    | none => simp
    | some bs =>
      have := Most.wr tapK (tpC t).toList bs h
      simp only [wide, List.foldr, Kd.n] at this
      simp only [Option.getD_some]
      omega
  · simp

set_option maxHeartbeats 1000000 in
theorem writtenTap_any (t : Tp) (w : World) :
    Calls Tryz.prog 130 #[.agg (tpC t), .func (Fn.func 131) #[] #[], .func (Fn.func 132) #[] #[]] w (Wrote w (tapW t).1 (tapW t).2) := by
  have R := hide (tapError_any t)
  have HN := hide (tap_small t)
  obtain ⟨b, hb⟩ : ∃ b, tapOk t = b := ⟨_, rfl⟩
  have HA : Hid (tapW t = if b then ((tapB t).getD [], codeOf (tapB t)) else ([], 80)) := hide (by unfold tapW; rw [hb])
  have HE : Hid (tapE t = if b then 0 else 80) := hide (by unfold tapE; rw [hb])
  have HK := hide hb
  have HBT : Hid (tapB t = wrL tapK (tpC t).toList) := hide rfl
  rw [unhide HE] at R
  rw [unhide HA]
  generalize hX : tapB t = X at HBT ⊢
  clear HA HE hb hX
  unfold tpC at *
  obtain ⟨dev, ctr, tok, kind, place, time⟩ := t
  simp only at R HN HK HBT ⊢
  cases b
  · simp only [Bool.false_eq_true, if_false] at R ⊢
    go_enter Tryz.func130, Tryz.ntmps130
    go_wp2_with fail
    refine (unhide R _).mono ?_
    rintro e w1 ⟨rfl, hF⟩
    have HB1 := hide ((Bx.new w #[.int .i64 dev, .int .i64 ctr, .string tok, .int .i64 kind, .int .i64 place, .int .i64 time] 47).keep hF)
    have HF1 : Hid (Fr (fun _ => False) w w1) := hide (((Fr.refl _ w).alloc _).trans hF (fun _ _ t => t))
    obtain ⟨B, HB⟩ : ∃ B, Hid (w.heap.size = B) := ⟨_, rfl⟩
    have HBL : Hid (B < w1.heap.size) := hide (by rw [← unhide HB]; exact (unhide HB1).lt)
    rw [unhide HB] at HB1 ⊢
    clear hF
    go_wp2
    go_ret2
    exact ⟨none, 0, 0, rfl, Row.nil _ _, fun h => absurd h (by omega), unhide HF1⟩
  · simp only [if_true] at R ⊢
    go_enter Tryz.func130, Tryz.ntmps130
    go_wp2_with fail
    refine (unhide R _).mono ?_
    rintro e w1 ⟨rfl, hF⟩
    have HB1 := hide ((Bx.new w #[.int .i64 dev, .int .i64 ctr, .string tok, .int .i64 kind, .int .i64 place, .int .i64 time] 47).keep hF)
    have HF1 : Hid (Fr (fun _ => False) w w1) := hide (((Fr.refl _ w).alloc _).trans hF (fun _ _ t => t))
    obtain ⟨B, HB⟩ : ∃ B, Hid (w.heap.size = B) := ⟨_, rfl⟩
    have HBL : Hid (B < w1.heap.size) := hide (by rw [← unhide HB]; exact (unhide HB1).lt)
    rw [unhide HB] at HB1 ⊢
    clear hF
    obtain ⟨hn0, hn1, hn2, hn3, hn4⟩ := unhide HN (unhide HK)
    go_wp2_with fail
    refine (newwriter_any _).mono ?_
    rintro e w2 ⟨rfl, rfl⟩
    have HW2 : Hid (WB ((w1.alloc (.cells #[.slice none 0 0, .bool false] 202)).alloc (.cells #[.pointer (some ⟨w1.heap.size, 0, none⟩), .pointer none] 170)) w1.heap.size w1.heap.size B (some []) #[.int .i64 dev, .int .i64 ctr, .string tok, .int .i64 kind, .int .i64 place, .int .i64 time] 47) :=
      hide ⟨WSt.alloc (show WSt _ _ _ (some []) from newW) _, ((unhide HB1).alloc _).alloc _, by have := unhide HBL; omega, by have := unhide HBL; omega, by rw [heap_alloc, heap_alloc]; omega⟩
    have HN2 : Hid (Bx ((w1.alloc (.cells #[.slice none 0 0, .bool false] 202)).alloc (.cells #[.pointer (some ⟨w1.heap.size, 0, none⟩), .pointer none] 170)) (w1.heap.size + 1) #[.pointer (some ⟨w1.heap.size, 0, none⟩), .pointer none] 170) := hide (by
      have := Bx.new (w1.alloc (.cells #[.slice none 0 0, .bool false] 202)) #[.pointer (some ⟨w1.heap.size, 0, none⟩), .pointer none] 170
      rw [heap_alloc] at this
      exact this)
    have HF2 : Hid (Fr (fun _ => False) w ((w1.alloc (.cells #[.slice none 0 0, .bool false] 202)).alloc (.cells #[.pointer (some ⟨w1.heap.size, 0, none⟩), .pointer none] 170))) := hide (((unhide HF1).alloc _).alloc _)
    go_wp2_with fail
    generalize ((w1.alloc (.cells #[.slice none 0 0, .bool false] 202)).alloc (.cells #[.pointer (some ⟨w1.heap.size, 0, none⟩), .pointer none] 170)) = w2 at *
    obtain ⟨p, Hp⟩ : ∃ p, Hid (w1.heap.size = p) := ⟨_, rfl⟩
    have HPL : Hid (w.heap.size ≤ p) := hide (by rw [← unhide Hp]; exact (unhide HF1).size)
    rw [unhide Hp] at HW2 HN2 ⊢
    refine (tap_w dev ctr tok kind place time (unhide HW2) hn0 hn1 hn2 hn3 hn4 0 Most.nil (by omega)).mono ?_
    rintro e w3 ⟨rfl, hP⟩
    rw [stepW_some] at hP
    have hF3 : Fr (fun k => k = p ∨ k = p) w2 w3 := by obtain ⟨g', _, _, _, h4⟩ := hP; exact h4
    have n0 : w3.cell? ⟨p + 1, 0, none⟩ = some (.pointer (some ⟨p, 0, none⟩)) := ((unhide HN2).frame hF3 (by omega)).cell 0
    have HF3 := hide (WP.fresh (unhide HF2) (unhide HPL) (unhide HPL) hP)
    obtain ⟨g', h1, _, _, _⟩ := hP
    have HW3 := hide h1
    clear h1 hF3
    go_wp2_with fail
    refine (wbytes (unhide HW3) _ (Most.wr _ _) (by simp only [wide, List.foldr, Kd.n]; omega)).mono ?_
    have hXe : X = wrL tapK [.int .i64 dev, .int .i64 ctr, .string tok, .int .i64 kind, .int .i64 place, .int .i64 time] := unhide HBT
    rw [← hXe]
    rintro e w4 hWr
    obtain ⟨ao, cap, gb, rfl, h2⟩ := Wrote.later (unhide HF3) hWr
    have H4 := hide h2
    clear hWr h2 n0 hXe
    go_wp2
    go_ret2
    exact ⟨ao, cap, gb, rfl, unhide H4⟩

theorem recTap_any (t : Tp) (w : World) : Calls Tryz.prog 93 #[.agg (tpC t)] w (Wrote w (tapW t).1 (tapW t).2) := by
  have R := hide (writtenTap_any t)
  generalize (tapW t).1 = bs at *
  generalize (tapW t).2 = c at *
  unfold tpC at *
  obtain ⟨dev, ctr, tok, kind, place, time⟩ := t
  simp only at R ⊢
  go_enter Tryz.func93, Tryz.ntmps93
  go_wp2_with fail
  refine (unhide R _).mono ?_
  rintro e w1 ⟨ao, cap, gb, rfl, h2⟩
  have H2 : Hid (Wrote w bs c (.returned (.tuple #[.slice ao bs.length cap, .int .i64 c])) w1) := hide (Wrote.later ((Fr.refl (fun _ => False) w).alloc (.cells #[.int .i64 dev, .int .i64 ctr, .string tok, .int .i64 kind, .int .i64 place, .int .i64 time] 47)) ⟨ao, cap, gb, rfl, h2⟩)
  clear h2
  go_wp2
  go_ret2
  exact unhide H2

def entryB (t : En) : Option (List UInt8) := wrL entryK (enC t).toList
/-- What writing answers. -/
def entryW (t : En) : List UInt8 × Int := if entryOk t then ((entryB t).getD [], codeOf (entryB t)) else ([], 80)

theorem entryW_le (t : En) : (entryW t).1.length ≤ 1000 := by
  unfold entryW
  split
  · cases h : entryB t with
    | none => simp
    | some bs =>
      have := Most.wr entryK (enC t).toList bs h
      simp only [wide, List.foldr, Kd.n] at this
      simp only [Option.getD_some]
      omega
  · simp

def accountB (t : Ac) : Option (List UInt8) := wrL accountK (acC t).toList
/-- What writing answers. -/
def accountW (t : Ac) : List UInt8 × Int := if accountOk t then ((accountB t).getD [], codeOf (accountB t)) else ([], 80)

theorem accountW_le (t : Ac) : (accountW t).1.length ≤ 1000 := by
  unfold accountW
  split
  · cases h : accountB t with
    | none => simp
    | some bs =>
      have := Most.wr accountK (acC t).toList bs h
      simp only [wide, List.foldr, Kd.n] at this
      simp only [Option.getD_some]
      omega
  · simp

end Go.Proofs.YtjgbllfppomcmaaGreat

