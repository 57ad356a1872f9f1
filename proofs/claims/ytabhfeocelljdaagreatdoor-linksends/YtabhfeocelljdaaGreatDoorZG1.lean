import Derived.Test.YtabhfeocelljdaaGreatDoorZF5
import Derived.Test.YtabhfeocelljdaaGreatDoorZG0
/- Frames in memory: a row of one's own, each frame's items a row of its own, each item in a block of its own. -/
namespace Go.Proofs.YtabhfeocelljdaaGreatDoor
open Go.RowKit

/-- A frame in memory. -/
structure FrM where
  f : Fm
  io : Option Addr
  ic : Nat
  ib : Nat
  ds : List RD
  lo : Nat
  hi : Nat
def FrM.cells (x : FrM) : List Value := [.int .i64 x.f.kind, .int .i64 x.f.base, .int .i64 x.f.seq, .slice x.io x.f.items.length x.ic, .slice none 0 0]
structure FrM.Ok (w : World) (x : FrM) : Prop where
  il : IL x.lo w x.io x.ic x.ib x.ds x.f.items
  b1 : 0 < x.ic → x.ib < x.hi
  b2 : ∀ d ∈ x.ds, 0 < d.cap → d.g < x.hi
  lh : x.lo ≤ x.hi
  hs : x.hi ≤ w.heap.size
  nb : x.f.bytes = []
theorem FrM.Ok.frame {S : Nat → Prop} {w w' : World} {x : FrM} (h : x.Ok w) (k : Fr S w w') (hS : ∀ i, S i → i < x.lo ∨ x.hi ≤ i) : x.Ok w' :=
  ⟨h.il.frame k (fun hc t => by have := h.b1 hc; have := h.il.ib hc; have := hS _ t; omega) (fun d hd hc t => by have := h.b2 d hd hc; have := (h.il.in' hd hc).1; have := hS _ t; omega), h.b1, h.b2, h.lh, Nat.le_trans h.hs k.size, h.nb⟩

theorem flat5 (xs : List FrM) : (xs.flatMap FrM.cells).length = xs.length * 5 := by
  induction xs with
  | nil => rfl
  | cons x r ih => rw [List.flatMap_cons, List.length_append, ih]; simp [FrM.cells]; omega
theorem flat5_get (xs : List FrM) : ∀ (i j : Nat) (x : FrM), xs[i]? = some x → j < 5 → (xs.flatMap FrM.cells)[i * 5 + j]? = x.cells[j]? := by
  induction xs with
  | nil => intro i j x h; simp at h
  | cons y r ih =>
    intro i j x h hj
    rw [List.flatMap_cons]
    have hl : y.cells.length = 5 := rfl
    cases i with
    | zero =>
      have : y = x := by simpa using h
      subst this
      rw [List.getElem?_append_left (by omega)]
      congr 1; omega
    | succ i =>
      rw [List.getElem?_append_right (by omega), hl]
      rw [show (i + 1) * 5 + j - 5 = i * 5 + j by omega]
      exact ih i j x (by simpa using h) hj

theorem KRow.setAt {w : World} {ao : Option Addr} {cap g k : Nat} {vs : List Value} (h : KRow w ao cap g k vs) (j : Nat) (hj : j < vs.length) (v : Value) (hv : v.oneCell' = true) : KRow (w.setCell ⟨g, j, none⟩ v) ao cap g k (vs.set j v) := by
  have hle := h.le
  have hsame : (w.setCell ⟨g, j, none⟩ v).cell? ⟨g, j, none⟩ = some v := by
    obtain ⟨u, hu⟩ := Option.isSome_iff_exists.1 (h.room j (by omega)).1
    exact World.cell?_setCell_same _ _ _ hu
  have hoth : ∀ i, i ≠ j → (w.setCell ⟨g, j, none⟩ v).cell? ⟨g, i, none⟩ = w.cell? ⟨g, i, none⟩ := fun i hi => World.cell?_setCell_other _ _ _ _ (by intro h; injection h with h1 h2; exact hi h2.symm)
  refine ⟨by rw [List.length_set]; exact hle, h.max, h.ad, fun i hi => ⟨?_, by rw [World.frozen?_setCell]; exact (h.room i hi).2⟩, fun i hi => ?_, fun u hu => ?_⟩
  · by_cases e : i = j
    · subst e; rw [hsame]; rfl
    · rw [hoth i e]; exact (h.room i hi).1
  · rw [List.length_set] at hi
    by_cases e : i = j
    · subst e; rw [hsame, List.getElem_set_self]
    · rw [hoth i e, List.getElem_set_ne (fun t => e t.symm)]; exact h.cells i hi
  · rcases List.mem_or_eq_of_mem_set hu with hu | rfl
    · exact h.one u hu
    · exact hv

/-- Frames in a row. -/
structure FL (M : Nat) (w : World) (fo : Option Addr) (fc fb : Nat) (xs : List FrM) : Prop where
  row : KRow w fo fc fb 5 (xs.flatMap FrM.cells)
  ok : ∀ x ∈ xs, x.Ok w
  lw : ∀ x ∈ xs, M ≤ x.lo
  ord : xs.Pairwise (fun x y => x.hi ≤ y.lo)
  bk : 0 < fc → M ≤ fb ∧ ∀ x ∈ xs, fb < x.lo ∨ x.hi ≤ fb
  last : 0 < fc → ∀ x, xs.getLast? = some x → fb < x.lo

theorem FL.nil (M : Nat) (w : World) (fb : Nat) : FL M w none 0 fb [] :=
  ⟨KRow.nil _ _ _, fun x h => by (cases h), fun x h => by (cases h), List.Pairwise.nil, fun h => absurd h (by omega), fun h => absurd h (by omega)⟩
theorem FL.frame {S : Nat → Prop} {M : Nat} {w w' : World} {fo : Option Addr} {fc fb : Nat} {xs : List FrM} (h : FL M w fo fc fb xs) (k : Fr S w w') (hS : ∀ i, S i → i < M) : FL M w' fo fc fb xs :=
  ⟨h.row.stay (fun hc => k.block fb (h.row.lt (by omega) hc) (fun t => by have := hS _ t; have := (h.bk hc).1; omega)), fun x hx => (h.ok x hx).frame k (fun i t => by have := hS i t; have := h.lw x hx; omega), h.lw, h.ord, h.bk, h.last⟩

/-- A frame more, without items. -/
theorem FL.openw {M : Nat} {w w' : World} {fo fo' : Option Addr} {fc fb fc' fb' : Nat} {xs : List FrM} (h : FL M w fo fc fb xs) (hM : M ≤ w.heap.size) (kd ba sq : Int)
    (k1 : KRow w' fo' fc' fb' 5 (xs.flatMap FrM.cells ++ [.int .i64 kd, .int .i64 ba, .int .i64 sq, .slice none 0 0, .slice none 0 0])) (k2 : Grew w fb fc w' fb' fc') :
    FL M w' fo' fc' fb' (xs ++ [⟨⟨kd, ba, sq, [], []⟩, none, 0, 0, [], w'.heap.size, w'.heap.size⟩]) := by
  have hz : w.heap.size ≤ w'.heap.size := by rcases k2 with ⟨_, _, f⟩ | ⟨_, _, f⟩ <;> exact f.size
  have hok : ∀ x ∈ xs, x.Ok w' := by
    intro x hx
    rcases k2 with ⟨e1, e2, f⟩ | ⟨_, _, f⟩
    · exact (h.ok x hx).frame f (fun i t => by obtain ⟨rfl, t2⟩ := t; exact (h.bk t2).2 x hx)
    · exact (h.ok x hx).frame f (fun i t => t.elim)
  have hfb : 0 < fc' → fb' < w'.heap.size ∧ M ≤ fb' ∧ ∀ x ∈ xs, fb' < x.lo ∨ x.hi ≤ fb' := by
    intro hc
    refine ⟨k1.lt (by omega) hc, ?_⟩
    rcases k2 with ⟨e1, e2, f⟩ | ⟨e1, _, f⟩
    · subst e1 e2; exact h.bk hc
    · exact ⟨by omega, fun x hx => .inr (by have := (h.ok x hx).hs; omega)⟩
  refine ⟨by rw [List.flatMap_append]; exact k1, fun x hx => ?_, fun x hx => ?_, ?_, fun hc => ⟨(hfb hc).2.1, fun x hx => ?_⟩, fun hc x hx => ?_⟩
  · rw [List.mem_append, List.mem_singleton] at hx
    rcases hx with hx | rfl
    · exact hok x hx
    · exact ⟨IL.nil _ _ _, fun h => absurd h (Nat.lt_irrefl 0), fun d h => by (cases h), Nat.le_refl _, Nat.le_refl _, rfl⟩
  · rw [List.mem_append, List.mem_singleton] at hx
    rcases hx with hx | rfl
    · exact h.lw x hx
    · show M ≤ w'.heap.size; omega
  · rw [List.pairwise_append]
    exact ⟨h.ord, List.pairwise_singleton _ _, fun a ha b hb => by rw [List.mem_singleton] at hb; subst hb; exact (hok a ha).hs⟩
  · rw [List.mem_append, List.mem_singleton] at hx
    rcases hx with hx | rfl
    · exact (hfb hc).2.2 x hx
    · exact .inl (hfb hc).1
  · rw [List.getLast?_concat] at hx
    injection hx with hx
    subst hx
    exact (hfb hc).1

theorem flat5_set (pre : List FrM) (x : FrM) (v : Value) : ((pre ++ [x]).flatMap FrM.cells).set (pre.length * 5 + 3) v = pre.flatMap FrM.cells ++ [.int .i64 x.f.kind, .int .i64 x.f.base, .int .i64 x.f.seq, v, .slice none 0 0] := by
  have hl : (pre.flatMap FrM.cells).length ≤ pre.length * 5 + 3 := by rw [flat5]; omega
  rw [List.flatMap_append, List.set_append, if_neg (by omega), flat5]
  rw [show pre.length * 5 + 3 - pre.length * 5 = 3 by omega]
  rfl

/-- The last frame gets one item more. -/
theorem FL.add {M : Nat} {w w1 w2 : World} {fo : Option Addr} {fc fb : Nat} {pre : List FrM} {x : FrM} (h : FL M w fo fc fb (pre ++ [x])) (f1 : Fr (fun _ => False) w w1) {d : RD} {b : List UInt8} (hb : b.length ≤ 140737488355328) (hr : Row w1 d.val d.g b) (hn : d.n = b.length) (hd : 0 < d.cap → w.heap.size ≤ d.g)
    {io' : Option Addr} {ic' ib' : Nat} (k1 : KRow w2 io' ic' ib' 1 (x.ds.map RD.val ++ [d.val])) (k2 : Grew w1 x.ib x.ic w2 ib' ic') :
    FL M (w2.setCell ⟨fb, pre.length * 5 + 3, none⟩ (.slice io' (x.f.items.length + 1) ic')) fo fc fb (pre ++ [⟨{ x.f with items := x.f.items ++ [b] }, io', ic', ib', x.ds ++ [d], x.lo, w2.heap.size⟩]) := by
  have hle := h.row.le
  rw [flat5, List.length_append, List.length_singleton] at hle
  have hfc : 0 < fc := by omega
  have hx := h.ok x (by simp)
  have hfx := h.last hfc x (by rw [List.getLast?_concat])
  have hfl := h.row.lt (by omega) hfc
  have hM := h.lw x (by simp)
  have hz1 := f1.size
  have hz : w1.heap.size ≤ w2.heap.size := by rcases k2 with ⟨_, _, f⟩ | ⟨_, _, f⟩ <;> exact f.size
  have f2 : Fr (fun k => x.lo ≤ k) w w2 := by
    rcases k2 with ⟨_, _, f⟩ | ⟨_, _, f⟩
    · exact (f1.mono (fun _ _ t => t.elim)).trans f (fun i hi t => by obtain ⟨rfl, t2⟩ := t; exact hx.il.ib t2)
    · exact (f1.mono (fun _ _ t => t.elim)).trans f (fun i hi t => t.elim)
  have hil : IL x.lo w2 io' ic' ib' (x.ds ++ [d]) (x.f.items ++ [b]) := by
    refine (hx.il.frame f1 (fun _ t => t) (fun _ _ _ t => t)).next hb hr hn (fun hc => ⟨?_, fun hc2 => ?_, fun e he hc2 => ?_⟩) k1 k2 ?_
    · have := hd hc; have := hx.hs; have := hx.lh; omega
    · have := hd hc; have := hx.b1 hc2; have := hx.hs; omega
    · have := hd hc; have := hx.b2 e he hc2; have := hx.hs; omega
    · have := hx.hs; have := hx.lh; omega
  have hrow : KRow w2 fo fc fb 5 ((pre ++ [x]).flatMap FrM.cells) := h.row.stay (fun _ => f2.block fb hfl (by omega))
  have hset := hrow.setAt (pre.length * 5 + 3) (by rw [flat5, List.length_append, List.length_singleton]; omega) (.slice io' (x.f.items.length + 1) ic') rfl
  rw [flat5_set] at hset
  have hfr : Fr (fun k => k = fb) w2 (w2.setCell ⟨fb, pre.length * 5 + 3, none⟩ (.slice io' (x.f.items.length + 1) ic')) := Fr.setCell (S := fun k => k = fb) (Fr.refl (fun k => k = fb) w2) (p := ⟨fb, pre.length * 5 + 3, none⟩) (fun _ => rfl) _
  have hsz : (w2.setCell ⟨fb, pre.length * 5 + 3, none⟩ (.slice io' (x.f.items.length + 1) ic')).heap.size = w2.heap.size := by simp
  have hib2 : 0 < ic' → ib' < w2.heap.size := fun hc => k1.lt (by omega) hc
  refine ⟨by rw [List.flatMap_append]; simpa [FrM.cells] using hset, fun y hy => ?_, fun y hy => ?_, ?_, fun hc => ⟨(h.bk hc).1, fun y hy => ?_⟩, fun hc y hy => ?_⟩
  · rw [List.mem_append, List.mem_singleton] at hy
    rcases hy with hy | rfl
    · have hyx : y.hi ≤ x.lo := by
        have := h.ord
        rw [List.pairwise_append] at this
        exact this.2.2 y hy x (by simp)
      refine ((h.ok y (List.mem_append_left _ hy)).frame f2 (fun i t => .inr (by omega))).frame hfr (fun i t => ?_)
      subst t
      exact (h.bk hfc).2 y (List.mem_append_left _ hy)
    · refine ⟨hil.frame hfr (fun hc t => ?_) (fun e he hc t => ?_), hib2, fun e he hc => (hil.in' he hc).2.1, ?_, by rw [hsz]; exact Nat.le_refl _, hx.nb⟩
      · have := hil.ib hc; omega
      · have := (hil.in' he hc).1; omega
      · show x.lo ≤ w2.heap.size; have := hx.hs; have := hx.lh; omega
  · rw [List.mem_append, List.mem_singleton] at hy
    rcases hy with hy | rfl
    · exact h.lw y (List.mem_append_left _ hy)
    · exact hM
  · have := h.ord
    rw [List.pairwise_append] at this ⊢
    exact ⟨this.1, List.pairwise_singleton _ _, fun a ha b hb => by rw [List.mem_singleton] at hb; subst hb; exact this.2.2 a ha x (by simp)⟩
  · rw [List.mem_append, List.mem_singleton] at hy
    rcases hy with hy | rfl
    · exact (h.bk hc).2 y (List.mem_append_left _ hy)
    · exact .inl hfx
  · rw [List.getLast?_concat] at hy
    injection hy with hy
    subst hy
    exact hfx

/-- Frames that can be read. -/
structure FsAt (w : World) (fo : Option Addr) (fs : List Fm) : Prop where
  cells : 0 < fs.length → ∃ b off, fo = some ⟨b, off, none⟩ ∧ ∀ i (h : i < fs.length), ∃ io ic bo bc, (∀ j, j < 5 → w.cell? ⟨b, off + (i * 5 + j), none⟩ = (fs[i].cells io ic bo bc)[j]?) ∧ fs[i].At w io bo bc
  small : fs.length ≤ 140737488355328
theorem FL.fs {M : Nat} {w : World} {fo : Option Addr} {fc fb : Nat} {xs : List FrM} (h : FL M w fo fc fb xs) (hs : xs.length ≤ 1000000) (hi : ∀ x ∈ xs, x.f.items.length ≤ 8) : FsAt w fo (xs.map FrM.f) := by
  refine ⟨fun h0 => ?_, by rw [List.length_map]; omega⟩
  rw [List.length_map] at h0
  have hle := h.row.le
  rw [flat5] at hle
  refine ⟨fb, 0, h.row.ad (by omega), fun i hi' => ?_⟩
  rw [List.length_map] at hi'
  have hx := h.ok xs[i] (List.getElem_mem hi')
  have h8 := hi xs[i] (List.getElem_mem hi')
  rw [List.getElem_map]
  have hnb := hx.nb
  refine ⟨xs[i].io, xs[i].ic, none, 0, fun j hj => ?_, hx.il.rows (by omega), ⟨fun _ => ⟨by rw [hnb]; rfl, rfl⟩, fun h => absurd h (by rw [hnb]; simp), by rw [hnb]; simp⟩⟩
  have e := flat5_get xs i j xs[i] (List.getElem?_eq_getElem hi') hj
  have hlt : i * 5 + j < (xs.flatMap FrM.cells).length := by rw [flat5]; omega
  rw [Nat.zero_add, h.row.cells _ hlt, ← List.getElem?_eq_getElem hlt, e]
  simp only [FrM.cells, Fm.cells, hnb]
  rcases j with _ | _ | _ | _ | _ | j <;> first | rfl | omega

end Go.Proofs.YtabhfeocelljdaaGreatDoor

