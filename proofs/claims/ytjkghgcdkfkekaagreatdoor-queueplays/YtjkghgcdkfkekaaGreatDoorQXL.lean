import Derived.Test.YtjkghgcdkfkekaaGreatDoorI1
import Derived.Test.YtjkghgcdkfkekaaGreatDoorWX
import Derived.Test.YtjkghgcdkfkekaaGreatDoorSS1
import Derived.Deep.OwnRows
import Derived.Laws.IdiomCopy
import Derived.Test.YtjkghgcdkfkekaaGreatDoorQXJ
import Derived.Test.YtjkghgcdkfkekaaGreatDoorQXG
import Derived.Test.YtjkghgcdkfkekaaGreatDoorQXH
/- The law's own function Owned: what it is handed (rows, each its owner's), what it has come to behind each of them. -/
namespace Go.Proofs.YtjkghgcdkfkekaaGreatDoor
open Go.RowKit

theorem Tryz.info28 : (Tryz.prog.info? 28).map (fun i => (i.zero, i.size, i.bytes)) = some (some (.slice none 0 0), 1, 24) := by kernel_rfl

/-- A row that is handed over: where it lies, how long it is, how much room it has. -/
structure RD where
  ao : Option Addr
  n : Nat
  cap : Nat
  g : Nat

def RD.val (d : RD) : Value := .slice d.ao d.n d.cap

/-- It is its owner's. -/
def Own (w : World) (d : RD) : Prop := ∃ vs : List Value, vs.length = d.n ∧ VRow w d.ao d.cap d.g vs

theorem Own.stay {w w' : World} {d : RD} (h : Own w d) (hb : 0 < d.cap → w'.heap[d.g]? = w.heap[d.g]?) : Own w' d := by
  obtain ⟨vs, h1, h2⟩ := h
  exact ⟨vs, h1, h2.stay hb⟩

theorem Row.own {w : World} {ao : Option Addr} {cap g : Nat} {bs : List UInt8} (h : Row w (.slice ao bs.length cap) g bs) : Own w ⟨ao, bs.length, cap, g⟩ :=
  ⟨bytesV bs, bytesV_length bs, h.vrow⟩

/-- What Owned may take for granted. -/
structure Handed (w : World) (rb N : Nat) (ds : Nat → RD) : Prop where
  hdr : ∀ j, j < N → w.cell? ⟨rb, j, none⟩ = some (ds j).val
  own : ∀ j, j < N → Own w (ds j)
  apart : ∀ j k, j < N → k < N → j ≠ k → 0 < (ds j).cap → 0 < (ds k).cap → (ds j).g ≠ (ds k).g
  hd : ∀ j, j < N → 0 < (ds j).cap → (ds j).g ≠ rb
  fit : ∀ j, j < N → (ds j).n + 9 ≤ 140737488355328
  few : N ≤ 1000

theorem Own.lt {w : World} {d : RD} (h : Own w d) (hc : 0 < d.cap) : d.g < w.heap.size := by
  obtain ⟨vs, _, h2⟩ := h
  exact h2.lt hc

theorem Own.le {w : World} {d : RD} (h : Own w d) : d.n ≤ d.cap := by
  obtain ⟨vs, h1, h2⟩ := h
  have := h2.le
  omega

/-- The mark of a row. -/
def mI (i : Nat) : Int := 1 + (i : Int) % 250

/-- A row that was laid by: all its bytes are that mark, and nothing later turns them. -/
def Seen (w wr : World) (ds : Nat → RD) (i lg lcap : Nat) (v : Value) (m : Int) : Prop :=
  ∃ ao n cap g, v = .slice ao n cap ∧ n ≤ 140737488355328 ∧ (0 < n → ao = some ⟨g, 0, none⟩) ∧ (∀ j, j < n → wr.cell? ⟨g, j, none⟩ = some (.int .u8 m)) ∧
    (0 < n → (0 < lcap → g ≠ lg) ∧ ((∃ j, j < i ∧ 0 < (ds j).cap ∧ g = (ds j).g) ∨ w.heap.size ≤ g))

theorem Seen.on {w wr wr' : World} {ds : Nat → RD} {i lg lcap lg' lcap' : Nat} {v : Value} {m : Int} {S : Nat → Prop} (h : Seen w wr ds i lg lcap v m) (hF : Fr S wr wr')
    (hS : ∀ g, g < wr.heap.size → (0 < lcap → g ≠ lg) → ((∃ j, j < i ∧ 0 < (ds j).cap ∧ g = (ds j).g) ∨ w.heap.size ≤ g) → ¬ S g)
    (hl : (lg' = lg ∧ lcap' = lcap) ∨ wr.heap.size ≤ lg') : Seen w wr' ds (i + 1) lg' lcap' v m := by
  obtain ⟨ao, n, cap, g, h1, h2, h3, h4, h5⟩ := h
  refine ⟨ao, n, cap, g, h1, h2, h3, fun j hj => ?_, fun hn => ?_⟩
  · have hlt : g < wr.heap.size := World.block_lt_of_cell? _ _ (h4 j hj)
    have h6 := h5 (by omega)
    rw [hF.cell (a := ⟨g, j, none⟩) hlt (hS g hlt h6.1 h6.2)]
    exact h4 j hj
  · have h6 := h5 hn
    have hlt : g < wr.heap.size := World.block_lt_of_cell? _ _ (h4 0 hn)
    refine ⟨fun hc => ?_, ?_⟩
    · rcases hl with ⟨e1, e2⟩ | hl
      · rw [e1]; exact h6.1 (by omega)
      · omega
    · rcases h6.2 with ⟨j, hj, hc, e⟩ | h7
      · exact .inl ⟨j, by omega, hc, e⟩
      · exact .inr h7

/-- Where Owned has come to: the rows behind are as they were, those ahead are laid by. -/
structure OSt (w wr : World) (ds : Nat → RD) (N i : Nat) (lo : Option Addr) (lcap lg : Nat) (vs : List Value) : Prop where
  fr : Fr (fun k => ∃ j, j < N ∧ 0 < (ds j).cap ∧ k = (ds j).g) w wr
  own : ∀ j, i ≤ j → j < N → Own wr (ds j)
  lrow : VRow wr lo lcap lg vs
  len : vs.length = 2 * i
  lnew : 0 < lcap → w.heap.size ≤ lg
  seen : ∀ k (hk : k < vs.length), Seen w wr ds i lg lcap vs[k] (mI (k / 2))

theorem VRow.set {w : World} {ao : Option Addr} {cap g : Nat} {vs : List Value} (h : VRow w ao cap g vs) (j : Nat) (hj : j < vs.length) (v : Value) (hv : v.oneCell' = true) : VRow (w.setCell ⟨g, j, none⟩ v) ao cap g (vs.set j v) := by
  refine ⟨by rw [List.length_set]; exact h.le, h.max, h.ad, fun i hi => ⟨?_, by rw [World.frozen?_setCell]; exact (h.room i hi).2⟩, fun i hi => ?_, fun u hu => ?_⟩
  · by_cases e : i = j
    · subst e
      rw [World.cell?_setCell_same _ _ _ (h.cells i hj)]; rfl
    · rw [World.cell?_setCell_other _ _ _ _ (by intro t; injection t with t1 t2; exact e t2.symm)]
      exact (h.room i hi).1
  · rw [List.length_set] at hi
    by_cases e : i = j
    · subst e
      rw [World.cell?_setCell_same _ _ _ (h.cells i hj), List.getElem_set_self]
    · rw [World.cell?_setCell_other _ _ _ _ (by intro t; injection t with t1 t2; exact e t2.symm), h.cells i hi, List.getElem_set_ne (fun t => e t.symm)]
  · rcases List.mem_or_eq_of_mem_set hu with h1 | h1
    · exact h.one u h1
    · rw [h1]; exact hv

theorem marks_set (vs : List Value) (k : Nat) (hk : k < vs.length) (v : Value) : (List.replicate k v ++ vs.drop k).set k v = List.replicate (k + 1) v ++ vs.drop (k + 1) := by
  apply List.ext_getElem?
  intro j
  rw [List.getElem?_set]
  by_cases e : k = j
  · subst e
    rw [if_pos rfl, if_pos (by simp; omega), List.getElem?_append_left (by simp), List.getElem?_replicate, if_pos (by omega)]
  · rw [if_neg e]
    by_cases h1 : j < k
    · rw [List.getElem?_append_left (by simpa using h1), List.getElem?_append_left (by simp; omega), List.getElem?_replicate, List.getElem?_replicate, if_pos h1, if_pos (by omega)]
    · rw [List.getElem?_append_right (by simp; omega), List.getElem?_append_right (by simp; omega), List.getElem?_drop, List.getElem?_drop]
      congr 1
      simp
      omega

theorem marks_more (k : Nat) (v : Value) : List.replicate k v ++ [v] = List.replicate (k + 1) v := by
  rw [List.replicate_succ']

theorem src_mark (w : World) (m : Int) : Src Tryz.prog 1 28 (.slice (some ⟨w.heap.size, 0, none⟩) 1 1) 1 [.int .u8 m] (w.alloc (.cells #[.int .u8 m] 5)) := by
  refine Src.ofSlice _ Tryz.underlying28 ⟨w.heap.size, 0, none⟩ 1 1 [.int .u8 m] rfl (fun j u hj => ?_) (fun u hu => ?_)
  · match j, hj with
    | 0, hj =>
      cases hj
      rw [Addr.add_lit, World.cell?_alloc_new]
      rfl
    | j + 1, hj => simp at hj
  · cases List.mem_singleton.1 hu
    rfl

theorem src_pair (w : World) (a b : Value) (ha : a.oneCell' = true) (hb : b.oneCell' = true) : Src Tryz.prog 1 23 (.slice (some ⟨w.heap.size, 0, none⟩) 2 2) 2 [a, b] (w.alloc (.cells #[a, b] 28)) := by
  refine Src.ofSlice _ Tryz.underlying23 ⟨w.heap.size, 0, none⟩ 2 2 [a, b] rfl (fun j u hj => ?_) (fun u hu => ?_)
  · match j, hj with
    | 0, hj =>
      cases hj
      rw [Addr.add_lit, World.cell?_alloc_new]
      rfl
    | 1, hj =>
      cases hj
      rw [Addr.add_lit, World.cell?_alloc_new]
      rfl
    | j + 2, hj => simp at hj
  · rcases List.mem_cons.1 hu with h | h
    · rw [h]; exact ha
    · cases List.mem_singleton.1 h
      exact hb

/-- Behind the marks: the row itself, and the longer one that was made of it. -/
structure Grown9 (wr wb : World) (d : RD) (m : Int) (go : Option Addr) (gcap gg k : Nat) : Prop where
  fr : Fr (fun x => x = d.g ∧ 0 < d.cap) wr wb
  row : VRow wb go gcap gg (List.replicate (d.n + k) (.int .u8 m))
  marks : ∀ j, j < d.n → wb.cell? ⟨d.g, j, none⟩ = some (.int .u8 m)
  where_ : (gg = d.g ∧ gcap = d.cap) ∨ (wr.heap.size ≤ gg ∧ 0 < gcap)
  old : 0 < d.n → d.g < wr.heap.size

theorem Grown9.start {wr wa : World} {d : RD} {m : Int} (hF : Fr (fun x => x = d.g ∧ 0 < d.cap) wr wa) (h : VRow wa d.ao d.cap d.g (List.replicate d.n (.int .u8 m))) (ho : 0 < d.n → d.g < wr.heap.size) : Grown9 wr wa d m d.ao d.cap d.g 0 :=
  ⟨hF, h, fun j hj => by
    have := h.cells j (by simpa using hj)
    rw [this, List.getElem_replicate], .inl ⟨rfl, rfl⟩, ho⟩

theorem Grown9.next {wr wb w' : World} {d : RD} {m : Int} {go go' : Option Addr} {gcap gg k gcap' gg' : Nat} (h : Grown9 wr wb d m go gcap gg k) (o : Obj) (hr : VRow w' go' gcap' gg' (List.replicate (d.n + k) (.int .u8 m) ++ [.int .u8 m])) (hg : Grew (wb.alloc o) gg gcap w' gg' gcap') :
    Grown9 wr w' d m go' gcap' gg' (k + 1) := by
  rw [marks_more] at hr
  have hFa := h.fr.alloc o
  rcases hg with ⟨e1, e2, hf⟩ | ⟨hn, hc, hf⟩
  · subst e1 e2
    refine ⟨?_, hr, fun j hj => ?_, h.where_, h.old⟩
    · refine hFa.trans hf (fun x hx t => ?_)
      rcases h.where_ with ⟨e1, e2⟩ | ⟨e1, _⟩
      · exact ⟨t.1.trans e1, by rw [← e2]; exact t.2⟩
      · have := t.1; omega
    · rcases h.where_ with ⟨e1, e2⟩ | ⟨e1, e2⟩
      · have := hr.cells j (by simp; omega)
        rw [List.getElem_replicate, e1] at this
        exact this
      · have hc := h.marks j hj
        have hlt : d.g < wb.heap.size := World.block_lt_of_cell? _ _ hc
        have hne : d.g ≠ gg' := by have := h.old (by omega); omega
        rw [hf.cell (a := ⟨d.g, j, none⟩) (by simp; omega) (fun t => hne t.1), World.cell?_alloc_lt _ _ _ hlt]
        exact hc
  · refine ⟨hFa.trans hf (fun _ _ t => t.elim), hr, fun j hj => ?_, .inr ⟨Nat.le_trans hFa.size hn, hc⟩, h.old⟩
    have hc := h.marks j hj
    have hlt : d.g < wb.heap.size := World.block_lt_of_cell? _ _ hc
    rw [hf.cell (a := ⟨d.g, j, none⟩) (by simp; omega) (fun t => t), World.cell?_alloc_lt _ _ _ hlt]
    exact hc

theorem Handed.low {w : World} {rb N : Nat} {ds : Nat → RD} (h : Handed w rb N ds) {j : Nat} (hj : j < N) (hc : 0 < (ds j).cap) : (ds j).g < w.heap.size := (h.own j hj).lt hc

/-- A round of Owned. -/
theorem OSt.next {w wr wb wc : World} {ds : Nat → RD} {rb N i lcap lg lcap' lg' : Nat} {lo lo' : Option Addr} {vs : List Value} {go : Option Addr} {gcap gg : Nat} (hH : Handed w rb N ds) (h : OSt w wr ds N i lo lcap lg vs) (hi : i < N)
    (hG : Grown9 wr wb (ds i) (mI i) go gcap gg 9) (o : Obj) (hr : VRow wc lo' lcap' lg' (vs ++ [.slice go ((ds i).n + 9) gcap, (ds i).val])) (hg : Grew (wb.alloc o) lg lcap wc lg' lcap') :
    OSt w wc ds N (i + 1) lo' lcap' lg' (vs ++ [.slice go ((ds i).n + 9) gcap, (ds i).val]) := by
  have hsz := h.fr.size
  have hszb := hG.fr.size
  have hlt : 0 < lcap → lg < wr.heap.size := h.lrow.lt
  have hFb : Fr (fun k => k = lg ∧ 0 < lcap) wb wc := by
    rcases hg with ⟨_, _, hf⟩ | ⟨_, _, hf⟩
    · exact ((Fr.refl _ wb).alloc o).trans hf (fun _ _ t => t)
    · exact ((Fr.refl _ wb).alloc o).trans hf (fun _ _ t => t.elim)
  have hFc : Fr (fun k => (k = (ds i).g ∧ 0 < (ds i).cap) ∨ (k = lg ∧ 0 < lcap)) wr wc :=
    (hG.fr.mono (fun _ _ t => .inl t)).trans hFb (fun _ _ t => .inr t)
  have hll : (lg' = lg ∧ lcap' = lcap) ∨ wb.heap.size ≤ lg' := by
    rcases hg with ⟨e1, e2, _⟩ | ⟨hn, _, _⟩
    · exact .inl ⟨e1, e2⟩
    · refine .inr ?_
      simp at hn
      omega
  have hown := h.own i (Nat.le_refl _) hi
  have hnc := hown.le
  refine ⟨?_, fun j h1 h2 => ?_, hr, by rw [List.length_append, h.len]; simp; omega, fun hc => ?_, fun k hk => ?_⟩
  · refine h.fr.trans hFc (fun k hk t => ?_)
    rcases t with ⟨e, hc⟩ | ⟨e, hc⟩
    · exact ⟨i, hi, hc, e⟩
    · have := h.lnew hc; omega
  · refine (h.own j (by omega) h2).stay (fun hc => ?_)
    have hlow := hH.low h2 hc
    refine hFc.block _ (by omega) (fun t => ?_)
    rcases t with ⟨e, hc2⟩ | ⟨e, hc2⟩
    · exact hH.apart j i h2 hi (by omega) hc hc2 e
    · have := h.lnew hc2; omega
  · rcases hll with ⟨e1, e2⟩ | e
    · rw [e1]; exact h.lnew (by omega)
    · omega
  · by_cases hk1 : k < vs.length
    · rw [List.getElem_append_left hk1]
      refine (h.seen k hk1).on hFc (fun g _ h1 h2 t => ?_) (hll.imp id (fun e => by omega))
      rcases t with ⟨e, hc⟩ | ⟨e, hc⟩
      · rcases h2 with ⟨j, hj, hcj, ej⟩ | h2
        · exact hH.apart j i (by omega) hi (by omega) hcj hc (ej.symm.trans e)
        · have := hH.low hi hc; omega
      · exact h1 hc e
    · have hlen := h.len
      rw [List.length_append] at hk
      simp only [List.length_cons, List.length_nil] at hk
      rw [List.getElem_append_right (by omega)]
      by_cases hk2 : k = vs.length
      · subst hk2
        rw [show vs.length / 2 = i by omega]
        simp only [Nat.sub_self, List.getElem_cons_zero]
        have hgc := hG.row.le
        rw [List.length_replicate] at hgc
        have hggl : gg < wb.heap.size := hG.row.lt (by omega)
        have hne : 0 < lcap → gg ≠ lg := by
          intro hc e
          have h1 := h.lnew hc
          have h2 := hlt hc
          rcases hG.where_ with ⟨e1, e2⟩ | ⟨e1, _⟩
          · have := hH.low hi (by omega); omega
          · omega
        refine ⟨go, (ds i).n + 9, gcap, gg, rfl, hH.fit i hi, fun _ => hG.row.ad (by omega), fun j hj => ?_, fun _ => ⟨fun hc => ?_, ?_⟩⟩
        · rw [hFb.cell (a := ⟨gg, j, none⟩) hggl (fun t => hne t.2 t.1)]
          have := hG.row.cells j (by simpa using hj)
          rw [this, List.getElem_replicate]
        · rcases hll with ⟨e1, e2⟩ | e
          · rw [e1]; exact hne (by omega)
          · omega
        · rcases hG.where_ with ⟨e1, e2⟩ | ⟨e1, _⟩
          · exact .inl ⟨i, by omega, by omega, e1⟩
          · exact .inr (by omega)
      · have hk3 : k - vs.length = 1 := by omega
        rw [show k / 2 = i by omega]
        simp only [hk3, List.getElem_cons_succ, List.getElem_cons_zero]
        refine ⟨(ds i).ao, (ds i).n, (ds i).cap, (ds i).g, rfl, by have := hH.fit i hi; omega, fun hn => ?_, fun j hj => ?_, fun hn => ⟨fun hc => ?_, .inl ⟨i, by omega, by omega, rfl⟩⟩⟩
        · obtain ⟨_, _, hv⟩ := hown
          exact hv.ad (by omega)
        · have hm := hG.marks j hj
          have hlow := hH.low hi (by omega)
          rw [hFb.cell (a := ⟨(ds i).g, j, none⟩) (World.block_lt_of_cell? _ _ hm) (fun t => by have := h.lnew t.2; have := t.1; simp only [] at this; omega)]
          exact hm
        · have hlow := hH.low hi (by omega)
          rcases hll with ⟨e1, e2⟩ | e
          · have := h.lnew (by omega); omega
          · omega

theorem OSt.start {w : World} {rb N : Nat} {ds : Nat → RD} (hH : Handed w rb N ds) : OSt w w ds N 0 none 0 0 [] :=
  ⟨Fr.refl _ _, fun j _ hj => hH.own j hj, VRow.nil w 0, rfl, fun h => absurd h (by omega), fun k hk => absurd hk (by simp)⟩

/-- The rows' own list stands. -/
theorem OSt.hdr {w wr : World} {rb N i lcap lg : Nat} {ds : Nat → RD} {lo : Option Addr} {vs : List Value} (hH : Handed w rb N ds) (h : OSt w wr ds N i lo lcap lg vs) {j : Nat} (hj : j < N) : wr.cell? ⟨rb, j, none⟩ = some (ds j).val := by
  have h0 := hH.hdr j hj
  rw [h.fr.cell (a := ⟨rb, j, none⟩) (World.block_lt_of_cell? _ _ h0) (fun t => by
    obtain ⟨k, hk, hc, e⟩ := t
    exact hH.hd k hk hc e.symm)]
  exact h0

end Go.Proofs.YtjkghgcdkfkekaaGreatDoor

/- The law's own function Owned, handed rows of one block, none with room to spare: what it has come to behind each of them. -/
namespace Go.Proofs.YtjkghgcdkfkekaaGreatDoor
open Go.RowKit

/-- A row of one block: where it lies, how long it is. -/
structure RO where
  ao : Option Addr
  n : Nat
  o : Nat

def RO.val (d : RO) : Value := .slice d.ao d.n d.n

/-- Its cells. -/
structure Full (w : World) (g : Nat) (d : RO) (vs : List Value) : Prop where
  len : vs.length = d.n
  ad : 0 < d.n → d.ao = some ⟨g, d.o, none⟩
  cells : ∀ j (h : j < vs.length), w.cell? ⟨g, d.o + j, none⟩ = some vs[j]
  soft : ∀ j, j < vs.length → w.frozen? ⟨g, d.o + j, none⟩ = false
  one : ∀ u ∈ vs, u.oneCell' = true

/-- What Owned may take for granted. -/
structure Handed1 (w : World) (rb N g : Nat) (ds : Nat → RO) : Prop where
  hdr : ∀ j, j < N → w.cell? ⟨rb, j, none⟩ = some (ds j).val
  own : ∀ j, j < N → ∃ vs, Full w g (ds j) vs
  apart : ∀ j k, j < k → k < N → (ds j).o + (ds j).n ≤ (ds k).o
  hd : g ≠ rb
  low : 0 < N → g < w.heap.size
  fit : ∀ j, j < N → (ds j).n + 9 ≤ 140737488355328
  few : N ≤ 5000

/-- A row that was laid by: all its bytes are that mark, and nothing later turns them. -/
def Seen1 (w wr : World) (g : Nat) (ds : Nat → RO) (i lg lcap : Nat) (v : Value) (m : Int) : Prop :=
  ∃ ao n cap g' o', v = .slice ao n cap ∧ n ≤ 140737488355328 ∧ (0 < n → ao = some ⟨g', o', none⟩) ∧ (∀ j, j < n → wr.cell? ⟨g', o' + j, none⟩ = some (.int .u8 m)) ∧
    (0 < n → (0 < lcap → g' ≠ lg) ∧ ((g' = g ∧ ∃ j, j < i ∧ o' = (ds j).o ∧ n = (ds j).n) ∨ w.heap.size ≤ g'))

/-- Where Owned has come to. -/
structure OS1 (w wr : World) (g : Nat) (ds : Nat → RO) (N i : Nat) (lo : Option Addr) (lcap lg : Nat) (vs : List Value) : Prop where
  fr : Fr (fun k => k = g) w wr
  own : ∀ j, i ≤ j → j < N → ∃ vs, Full wr g (ds j) vs
  lrow : VRow wr lo lcap lg vs
  len : vs.length = 2 * i
  lnew : 0 < lcap → w.heap.size ≤ lg
  seen : ∀ k (hk : k < vs.length), Seen1 w wr g ds i lg lcap vs[k] (mI (k / 2))

/-- Within the marking of a row, and while it is grown. -/
structure Mk1 (wr wa : World) (g rb i : Nat) (d : RO) (vs : List Value) : Prop where
  full : Full wa g d vs
  fr : Fr (fun x => x = g) wr wa
  out : ∀ x, (x < d.o ∨ d.o + d.n ≤ x) → wa.cell? ⟨g, x, none⟩ = wr.cell? ⟨g, x, none⟩ ∧ wa.frozen? ⟨g, x, none⟩ = wr.frozen? ⟨g, x, none⟩
  hdr : wa.cell? ⟨rb, i, none⟩ = some d.val

theorem Mk1.set {wr wa : World} {g rb i : Nat} {d : RO} {vs : List Value} (h : Mk1 wr wa g rb i d vs) (hne : g ≠ rb) (k : Nat) (hk : k < vs.length) (v : Value) (hv : v.oneCell' = true) : Mk1 wr (wa.setCell ⟨g, d.o + k, none⟩ v) g rb i d (vs.set k v) := by
  have hl := h.full.len
  refine ⟨⟨by rw [List.length_set]; exact hl, h.full.ad, fun j hj => ?_, fun j hj => ?_, fun u hu => ?_⟩, h.fr.setCell (p := ⟨g, d.o + k, none⟩) (fun _ => rfl) _, fun x hx => ⟨?_, ?_⟩, ?_⟩
  · rw [List.length_set] at hj
    by_cases e : j = k
    · subst e
      rw [World.cell?_setCell_same _ _ _ (h.full.cells j hk), List.getElem_set_self]
    · rw [World.cell?_setCell_other _ _ _ _ (by intro t; injection t with t1 t2; omega), h.full.cells j hj, List.getElem_set_ne (fun t => e t.symm)]
  · rw [List.length_set] at hj
    rw [World.frozen?_setCell]; exact h.full.soft j hj
  · rcases List.mem_or_eq_of_mem_set hu with h1 | h1
    · exact h.full.one u h1
    · rw [h1]; exact hv
  · rw [World.cell?_setCell_other _ _ _ _ (by intro t; injection t with t1 t2; omega)]
    exact (h.out x hx).1
  · rw [World.frozen?_setCell]; exact (h.out x hx).2
  · rw [World.cell?_setCell_other _ _ _ _ (by intro t; injection t with t1 t2; exact hne t1)]
    exact h.hdr

theorem Mk1.keep {wr wa wb : World} {g rb i : Nat} {d : RO} {vs : List Value} (h : Mk1 wr wa g rb i d vs) (hF : Fr (fun _ => False) wa wb) (hg : g < wr.heap.size) : Mk1 wr wb g rb i d vs := by
  have hg' : g < wa.heap.size := Nat.lt_of_lt_of_le hg h.fr.size
  have hb : wb.heap[g]? = wa.heap[g]? := hF.block g hg' (fun t => t)
  have hc : ∀ x, wb.cell? ⟨g, x, none⟩ = wa.cell? ⟨g, x, none⟩ := fun x => World.cell?_of_block (a := ⟨g, x, none⟩) hb
  have hz : ∀ x, wb.frozen? ⟨g, x, none⟩ = wa.frozen? ⟨g, x, none⟩ := fun x => World.frozen?_of_block (a := ⟨g, x, none⟩) hb
  refine ⟨⟨h.full.len, h.full.ad, fun j hj => (hc _).trans (h.full.cells j hj), fun j hj => (hz _).trans (h.full.soft j hj), h.full.one⟩, h.fr.trans hF (fun _ _ t => t.elim), fun x hx => ⟨(hc x).trans (h.out x hx).1, (hz x).trans (h.out x hx).2⟩, ?_⟩
  exact (hF.cell (a := ⟨rb, i, none⟩) (World.block_lt_of_cell? _ _ h.hdr) (fun t => t)).trans h.hdr

section
variable {P : Program}

/-- append to a row that has no room to spare. -/
theorem append_full (t tx ty e : TypeId) (i : TypeInfo) (z : Value) (ht : P.underlying t = some (.slice e)) (hi : P.info? e = some i) (hz : i.zero = some z) (hz1 : z.cells = #[z]) (hs1 : i.size = 1)
    {w : World} {g : Nat} {d : RO} {vs : List Value} (h : Full w g d vs) (x : Value) (news : List Value) (m : Nat) (hm : news.length = m) (hm0 : 0 < m) (hs : Src P 1 tx x m news w) (hfit : (d.n + m) * i.bytes ≤ 140737488355328) (hf2 : d.n + m ≤ 140737488355328) :
    ∃ ao' cap' w' g', (Builtin.append_ #[t, tx] ty #[.slice d.ao d.n d.n, x]).run P w = .ok (.slice ao' (d.n + m) cap') w' ∧ VRow w' ao' cap' g' (vs ++ news) ∧ w.heap.size ≤ g' ∧ 0 < cap' ∧ Fr (fun _ => False) w w' := by
  obtain ⟨ao, n, o⟩ := d
  obtain ⟨hn, had, hc, hsf, hone'⟩ := h
  have hn' : vs.length = n := hn
  subst hn'
  subst hm
  have hs' : Src P i.size tx x news.length news w := by rw [hs1]; exact hs
  have hone : ∀ u ∈ vs ++ news, u.oneCell' = true := fun u hu => (List.mem_append.1 hu).elim (hone' u) (hs.one u)
  have hfit' : (vs.length + news.length) * i.bytes ≤ 140737488355328 := hfit
  have hf2' : vs.length + news.length ≤ 140737488355328 := hf2
  have hold : (Builtin.firstCells i.size vs.length (.slice ao vs.length vs.length)).run P w.drew = .ok vs.toArray w.drew := by
    by_cases hc0 : 0 < vs.length
    · have had' : ao = some ⟨g, o, none⟩ := had hc0
      rw [had']
      refine run_firstCells_some w.drew i.size vs.length ⟨g, o, none⟩ vs.length vs.length vs (by rw [hs1, Nat.mul_one]) (fun j u hj => ?_)
      have hjl : j < vs.length := (List.getElem?_eq_some_iff.1 hj).1
      have hplain : (⟨g, o, none⟩ : Addr).add j = ⟨g, o + j, none⟩ := by unfold Addr.add; split <;> simp_all
      rw [hplain, ← hj, List.getElem?_eq_getElem hjl]
      exact hc j hjl
    · have hb : vs = [] := List.eq_nil_of_length_eq_zero (by omega)
      subst hb
      cases ao with
      | none => exact run_firstCells_none w.drew i.size 0 0 0
      | some b => exact run_firstCells_some w.drew i.size 0 b 0 0 [] (by simp) (fun j u hj => by simp at hj)
  have hrun := run_append_grow_src (P := P) w t tx ty e i z ht hi hz ao vs.length vs.length vs hold x news.length news hs' (by omega) (by omega) (growslice_fits (by omega) hfit')
  have hge := grownCap_ge w (vs.length + news.length) vs.length e
  have hcm := grownCap_le_maxLen w (vs.length + news.length) vs.length e (by simp only [maxLen]; omega)
  generalize grownCap w (vs.length + news.length) vs.length e = C at hrun hge hcm
  refine ⟨_, _, _, w.heap.size, hrun, ⟨by rw [List.length_append]; exact hge, hcm, fun _ => rfl, fun j hj => ⟨?_, ?_⟩, fun j hj => ?_, hone⟩, Nat.le_refl _, by omega, (Fr.refl _ w).drew.alloc _⟩
  · have e1 := World.cell?_alloc_new w.drew ((vs ++ news).toArray ++ Builtin.zeroCells z.cells (C - (vs.length + news.length))) e j
    have hsz : j < ((vs ++ news).toArray ++ Builtin.zeroCells z.cells (C - (vs.length + news.length))).size := by
      rw [hz1]
      simp [Builtin.zeroCells]; omega
    rw [show w.heap.size = w.drew.heap.size from rfl, e1, Array.getElem?_eq_getElem hsz]; rfl
  · exact World.frozen?_alloc_new w.drew _ _ _
  · have e1 := World.cell?_alloc_new w.drew ((vs ++ news).toArray ++ Builtin.zeroCells z.cells (C - (vs.length + news.length))) e j
    rw [show w.heap.size = w.drew.heap.size from rfl, e1, Array.getElem?_append_left (by simpa using hj), List.getElem?_toArray, List.getElem?_eq_getElem hj]

theorem wpList_append_full (w : World) {ops : Array Oper} {rest : List Oper} {o : Oper} {a : Act} {Q : Exit → Act → World → Prop} (hgd : o.guard = none) (s x : Operand) (t tx : TypeId)
    (ho : o.op = .call { callee := .builtin .append, args := #[s, x], argTypes := #[t, tx] }) (e : TypeId) (i : TypeInfo) (z : Value) (ht : P.underlying t = some (.slice e)) (hi : P.info? e = some i) (hz : i.zero = some z) (hz1 : z.cells = #[z]) (hs1 : i.size = 1)
    {g : Nat} {d : RO} {vs : List Value} (hv : a.eval s = .slice d.ao d.n d.n) (h : Full w g d vs) (xv : Value) (news : List Value) (m : Nat) (hm : news.length = m) (hm0 : 0 < m) (hx : a.eval x = xv) (hs : Src P 1 tx xv m news w) (hfit : (d.n + m) * i.bytes ≤ 140737488355328) (hf2 : d.n + m ≤ 140737488355328)
    (hK : ∀ ao' cap' w' g', VRow w' ao' cap' g' (vs ++ news) → w.heap.size ≤ g' → 0 < cap' → Fr (fun _ => False) w w' → wpList P ops Q rest (a.put o.dst (.slice ao' (d.n + m) cap')) w') : wpList P ops Q (o :: rest) a w := by
  refine wpList_plain hgd fun K hK' => ?_
  obtain ⟨ao', cap', w', g', hrun, r1, r2, r3, r4⟩ := append_full (P := P) t tx o.type e i z ht hi hz hz1 hs1 h xv news m hm hm0 hs hfit hf2
  unfold Oper.wp
  simp [execOp, ho, resolve, invoke, builtin, hv, hx, hrun, Result.andThen]
  exact hK' _ _ (hK ao' cap' w' g' r1 r2 r3 r4)
end

/-- The longer row that was made of it. -/
structure Gr1 (wr wb : World) (g rb i : Nat) (d : RO) (m : Int) (go : Option Addr) (gcap gg k : Nat) : Prop where
  mkd : Mk1 wr wb g rb i d (List.replicate d.n (.int .u8 m))
  first : k = 0 → go = d.ao ∧ gcap = d.n
  row : 0 < k → VRow wb go gcap gg (List.replicate (d.n + k) (.int .u8 m)) ∧ wr.heap.size ≤ gg ∧ 0 < gcap

theorem Gr1.one {wr wb w' : World} {g rb i : Nat} {d : RO} {m : Int} {go go' : Option Addr} {gcap gg gcap' gg' : Nat} (h : Gr1 wr wb g rb i d m go gcap gg 0) (hg : g < wr.heap.size) (o : Obj) (hr : VRow w' go' gcap' gg' (List.replicate d.n (.int .u8 m) ++ [.int .u8 m])) (h1 : (wb.alloc o).heap.size ≤ gg') (h2 : 0 < gcap') (h3 : Fr (fun _ => False) (wb.alloc o) w') :
    Gr1 wr w' g rb i d m go' gcap' gg' 1 := by
  rw [marks_more] at hr
  have hsz := h.mkd.fr.size
  simp at h1
  exact ⟨h.mkd.keep (((Fr.refl _ wb).alloc o).trans h3 (fun _ _ t => t)) hg, fun t => absurd t (by omega), fun _ => ⟨hr, by omega, h2⟩⟩

theorem Gr1.next {wr wb w' : World} {g rb i : Nat} {d : RO} {m : Int} {go go' : Option Addr} {gcap gg k gcap' gg' : Nat} (h : Gr1 wr wb g rb i d m go gcap gg k) (hk : 0 < k) (hg : g < wr.heap.size) (hrb : rb < wr.heap.size) (o : Obj) (hr : VRow w' go' gcap' gg' (List.replicate (d.n + k) (.int .u8 m) ++ [.int .u8 m])) (hgr : Grew (wb.alloc o) gg gcap w' gg' gcap') :
    Gr1 wr w' g rb i d m go' gcap' gg' (k + 1) := by
  rw [marks_more] at hr
  obtain ⟨r1, r2, r3⟩ := h.row hk
  have hsz := h.mkd.fr.size
  have hfr : Fr (fun x => x = gg) wb w' := by
    rcases hgr with ⟨_, _, hf⟩ | ⟨_, _, hf⟩
    · exact ((Fr.refl _ wb).alloc o).trans hf (fun _ _ t => t.1)
    · exact ((Fr.refl _ wb).alloc o).trans hf (fun _ _ t => t.elim)
  have hb : w'.heap[g]? = wb.heap[g]? := hfr.block g (by omega) (by omega)
  have hc : ∀ x, w'.cell? ⟨g, x, none⟩ = wb.cell? ⟨g, x, none⟩ := fun x => World.cell?_of_block (a := ⟨g, x, none⟩) hb
  have hz : ∀ x, w'.frozen? ⟨g, x, none⟩ = wb.frozen? ⟨g, x, none⟩ := fun x => World.frozen?_of_block (a := ⟨g, x, none⟩) hb
  refine ⟨⟨⟨h.mkd.full.len, h.mkd.full.ad, fun j hj => (hc _).trans (h.mkd.full.cells j hj), fun j hj => (hz _).trans (h.mkd.full.soft j hj), h.mkd.full.one⟩, h.mkd.fr.trans hfr (fun x hx t => by have e : x = gg := t; exfalso; omega), fun x hx => ⟨(hc x).trans (h.mkd.out x hx).1, (hz x).trans (h.mkd.out x hx).2⟩, ?_⟩, fun t => absurd t (by omega), fun _ => ⟨hr, ?_⟩⟩
  · exact (hfr.cell (a := ⟨rb, i, none⟩) (by show rb < _; omega) (by show rb ≠ gg; omega)).trans h.mkd.hdr
  · rcases hgr with ⟨e1, e2, _⟩ | ⟨e1, e2, _⟩
    · rw [e1, e2]; exact ⟨r2, r3⟩
    · simp at e1; exact ⟨by omega, e2⟩

theorem OS1.start {w : World} {rb N g : Nat} {ds : Nat → RO} (hH : Handed1 w rb N g ds) : OS1 w w g ds N 0 none 0 0 [] :=
  ⟨Fr.refl _ _, fun j _ h => hH.own j h, VRow.nil w 0, rfl, fun h => absurd h (by omega), fun k hk => absurd hk (by simp)⟩

theorem OS1.hdr {w wr : World} {rb N g i lcap lg : Nat} {ds : Nat → RO} {lo : Option Addr} {vs : List Value} (hH : Handed1 w rb N g ds) (h : OS1 w wr g ds N i lo lcap lg vs) {j : Nat} (hj : j < N) : wr.cell? ⟨rb, j, none⟩ = some (ds j).val :=
  (h.fr.cell (a := ⟨rb, j, none⟩) (World.block_lt_of_cell? _ _ (hH.hdr j hj)) (fun t => hH.hd t.symm)).trans (hH.hdr j hj)

/-- A round of Owned. -/
theorem OS1.next {w wr wb wc : World} {g : Nat} {ds : Nat → RO} {rb N i lcap lg lcap' lg' : Nat} {lo lo' : Option Addr} {vs : List Value} {go : Option Addr} {gcap gg : Nat} (hH : Handed1 w rb N g ds) (h : OS1 w wr g ds N i lo lcap lg vs) (hi : i < N)
    (hG : Gr1 wr wb g rb i (ds i) (mI i) go gcap gg 9) (o : Obj) (hr : VRow wc lo' lcap' lg' (vs ++ [.slice go ((ds i).n + 9) gcap, (ds i).val])) (hg : Grew (wb.alloc o) lg lcap wc lg' lcap') :
    OS1 w wc g ds N (i + 1) lo' lcap' lg' (vs ++ [.slice go ((ds i).n + 9) gcap, (ds i).val]) := by
  have hsz := h.fr.size
  have hszb := hG.mkd.fr.size
  have hlow := hH.low (by omega)
  have hlt : 0 < lcap → lg < wr.heap.size := h.lrow.lt
  have hlen := h.len
  obtain ⟨r1, r2, r3⟩ := hG.row (by omega)
  have hFb : Fr (fun k => k = lg ∧ 0 < lcap) wb wc := by
    rcases hg with ⟨_, _, hf⟩ | ⟨_, _, hf⟩
    · exact ((Fr.refl _ wb).alloc o).trans hf (fun _ _ t => t)
    · exact ((Fr.refl _ wb).alloc o).trans hf (fun _ _ t => t.elim)
  have hll : (lg' = lg ∧ lcap' = lcap) ∨ wb.heap.size ≤ lg' := by
    rcases hg with ⟨e1, e2, _⟩ | ⟨hn, _, _⟩
    · exact .inl ⟨e1, e2⟩
    · simp at hn; exact .inr (by omega)
  have hng : ¬ (g = lg ∧ 0 < lcap) := fun t => by have := h.lnew t.2; omega
  have hb : wc.heap[g]? = wb.heap[g]? := hFb.block g (by omega) hng
  have hc : ∀ x, wc.cell? ⟨g, x, none⟩ = wb.cell? ⟨g, x, none⟩ := fun x => World.cell?_of_block (a := ⟨g, x, none⟩) hb
  have hz : ∀ x, wc.frozen? ⟨g, x, none⟩ = wb.frozen? ⟨g, x, none⟩ := fun x => World.frozen?_of_block (a := ⟨g, x, none⟩) hb
  refine ⟨(h.fr.trans hG.mkd.fr (fun _ _ t => t)).trans hFb (fun k hk t => by have := h.lnew t.2; omega), fun j h1 h2 => ?_, hr, by simp; omega, fun hc' => ?_, fun k hk => ?_⟩
  · obtain ⟨us, u1⟩ := h.own j (by omega) h2
    have hap := hH.apart i j (by omega) h2
    refine ⟨us, u1.len, u1.ad, fun x hx => ?_, fun x hx => ?_, u1.one⟩
    · rw [hc, (hG.mkd.out _ (.inr (by omega))).1]; exact u1.cells x hx
    · rw [hz, (hG.mkd.out _ (.inr (by omega))).2]; exact u1.soft x hx
  · rcases hll with ⟨e1, e2⟩ | e1
    · rw [e1]; exact h.lnew (by omega)
    · omega
  · by_cases hk1 : k < vs.length
    · rw [List.getElem_append_left hk1]
      obtain ⟨ao, n, cap, g', o', s1, s2, s3, s4, s5⟩ := h.seen k hk1
      refine ⟨ao, n, cap, g', o', s1, s2, s3, fun j hj => ?_, fun hn => ?_⟩
      · obtain ⟨t1, t2⟩ := s5 (by omega)
        have hlt' : g' < wr.heap.size := World.block_lt_of_cell? _ _ (s4 j hj)
        rcases t2 with ⟨e, jj, j1, j2, j3⟩ | t2
        · subst e
          have hap := hH.apart jj i j1 hi
          rw [hc, (hG.mkd.out _ (.inl (by omega))).1]; exact s4 j hj
        · rw [hFb.cell (a := ⟨g', o' + j, none⟩) (by show g' < _; omega) (fun t => t1 t.2 t.1), hG.mkd.fr.cell (a := ⟨g', o' + j, none⟩) hlt' (by show g' ≠ g; omega)]
          exact s4 j hj
      · obtain ⟨t1, t2⟩ := s5 hn
        have hlt' : g' < wr.heap.size := World.block_lt_of_cell? _ _ (s4 0 hn)
        refine ⟨fun hc' => ?_, ?_⟩
        · rcases hll with ⟨e1, e2⟩ | e1
          · rw [e1]; exact t1 (by omega)
          · omega
        · rcases t2 with ⟨e, jj, j1, j2, j3⟩ | t2
          · exact .inl ⟨e, jj, by omega, j2, j3⟩
          · exact .inr t2
    · by_cases hk2 : k = vs.length
      · subst hk2
        have e1 : (vs ++ [Value.slice go ((ds i).n + 9) gcap, (ds i).val])[vs.length] = .slice go ((ds i).n + 9) gcap := by simp
        have e2 : vs.length / 2 = i := by omega
        rw [e1, e2]
        refine ⟨go, _, gcap, gg, 0, rfl, hH.fit i hi, fun _ => r1.ad r3, fun j hj => ?_, fun _ => ⟨fun hc' => ?_, .inr (by omega)⟩⟩
        · have hcl := r1.cells j (by simpa using hj)
          rw [List.getElem_replicate] at hcl
          have hlt' : gg < wb.heap.size := World.block_lt_of_cell? _ _ hcl
          rw [Nat.zero_add, hFb.cell (a := ⟨gg, j, none⟩) hlt' (fun t => by have := hlt t.2; have : gg = lg := t.1; omega)]
          exact hcl
        · have hlt' : gg < wb.heap.size := by
            have hcl := r1.cells 0 (by simp)
            exact World.block_lt_of_cell? _ _ hcl
          rcases hll with ⟨e1, e2⟩ | e1
          · rw [e1]; have := hlt (by omega); omega
          · omega
      · have hk3 : k = vs.length + 1 := by simp at hk; omega
        subst hk3
        have e1 : (vs ++ [Value.slice go ((ds i).n + 9) gcap, (ds i).val])[vs.length + 1] = (ds i).val := by simp
        have e2 : (vs.length + 1) / 2 = i := by omega
        rw [e1, e2]
        refine ⟨(ds i).ao, (ds i).n, (ds i).n, g, (ds i).o, rfl, by have := hH.fit i hi; omega, hG.mkd.full.ad, fun j hj => ?_, fun _ => ⟨fun hc' => ?_, .inl ⟨rfl, i, by omega, rfl, rfl⟩⟩⟩
        · have hcl := hG.mkd.full.cells j (by simpa using hj)
          rw [List.getElem_replicate] at hcl
          rw [hc]; exact hcl
        · rcases hll with ⟨e1, e2⟩ | e1
          · rw [e1]; have := h.lnew (by omega); omega
          · omega

end Go.Proofs.YtjkghgcdkfkekaaGreatDoor

/- The law's own function Owned, handed rows of one block: its walk. -/
namespace Go.Proofs.YtjkghgcdkfkekaaGreatDoor
open Go.RowKit

set_option maxHeartbeats 4000000 in
set_option maxRecDepth 100000 in
theorem owned_one (w : World) (ro : Option Addr) (rb N rcap g : Nat) (hro : 0 < N → ro = some ⟨rb, 0, none⟩) (ds : Nat → RO) (hH : Handed1 w rb N g ds) :
    Calls Tryz.prog 51 #[.slice ro N rcap] w fun e w' => e = .returned (.bool true) ∧ Fr (fun k => k = g) w w' := by
  obtain ⟨i5, hi5, hz50, hz51, hz52⟩ := info_parts Tryz.info5
  obtain ⟨i2, hi2, hz20, hz21, hz22⟩ := info_parts Tryz.info28
  have HI := hide (And.intro hi5 hi2)
  have HH := hide hH
  have HRO := hide hro
  have hfew := hH.few
  clear hi5 hi2 hH hro
  go_enter Tryz.func51, Tryz.ntmps51
  go_wp2
  go_loopw [3, 4, 5, 6, 7, 8] (fun lv iv _ _ _ _ wr => ∃ i : Nat, i ≤ N ∧ iv = .int .i64 i ∧ ∃ lo lcap lg vs, lv = .slice lo (2 * i) lcap ∧ Hid (OS1 w wr g ds N i lo lcap lg vs)) (fun _ iv _ _ _ _ _ => N - (intOf iv).toNat)
  case atStart => exact ⟨0, Nat.zero_le _, rfl, none, 0, 0, [], rfl, hide (OS1.start (unhide HH))⟩
  case round =>
    obtain ⟨i, hiN, rfl, lo, lcap, lg, vs, rfl, HS⟩ := hrel
    by_cases hlt : i < N
    · obtain rfl := unhide HRO (by omega)
      have hdr := (unhide HS).hdr (unhide HH) hlt
      have hown := (unhide HS).own i (Nat.le_refl _) hlt
      have hfit := (unhide HH).fit i hlt
      have hgl : g < wr.heap.size := Nat.lt_of_lt_of_le ((unhide HH).low (by omega)) (unhide HS).fr.size
      have hrl : rb < wr.heap.size := World.block_lt_of_cell? _ _ hdr
      obtain ⟨d, hd⟩ : ∃ d, ds i = d := ⟨_, rfl⟩
      rw [hd] at hdr hown hfit
      have HD := hide hd
      clear hd
      obtain ⟨ao, n, o⟩ := d
      have hdr' : wr.cell? ⟨rb, i, none⟩ = some (.slice ao n n) := hdr
      have hfit' : n + 9 ≤ 140737488355328 := hfit
      obtain ⟨vs0, hvf⟩ := hown
      have hvl' : vs0.length = n := hvf.len
      have hM0 : Mk1 wr wr g rb i ⟨ao, n, o⟩ vs0 := ⟨hvf, Fr.refl _ _, fun _ _ => ⟨rfl, rfl⟩, hdr⟩
      have hM1 : Mk1 wr wr g rb i ⟨ao, n, o⟩ (List.replicate 0 (.int .u8 (mI i)) ++ vs0.drop 0) := by simpa using hM0
      have HM := hide (And.intro hM1 (And.intro hvl' (And.intro hgl hrl)))
      clear hdr hfit hvf hM0 hM1 hvl' hgl hrl
      obtain ⟨m, hm⟩ : ∃ m, mI i = m := ⟨_, rfl⟩
      rw [hm] at HM
      have HMI := hide hm
      clear hm
      rename World => wo
      go_wp2
      rw [show (1 + (i : Int) % 250) = m from unhide HMI]
      go_loopw [6] (fun kv wr => ∃ k : Nat, k ≤ n ∧ kv = .int .i64 k ∧ Hid (Mk1 wo wr g rb i ⟨ao, n, o⟩ (List.replicate k (.int .u8 m) ++ vs0.drop k))) (fun kv _ => n - (intOf kv).toNat)
      case atStart => exact ⟨0, Nat.zero_le _, rfl, hide (unhide HM).1⟩
      case round =>
        obtain ⟨k, hkn, rfl, HK⟩ := hrel
        have hdk : wr.cell? ⟨rb, i, none⟩ = some (.slice ao n n) := (unhide HK).hdr
        by_cases hk : k < n
        · obtain rfl : ao = some ⟨g, o, none⟩ := (unhide HK).full.ad (by show 0 < n; omega)
          have hkl : k < (List.replicate k (Value.int .u8 m) ++ vs0.drop k).length := by
            rw [List.length_append, List.length_replicate, List.length_drop, (unhide HM).2.1]; omega
          have ck3 := (unhide HK).full.cells k hkl
          have ck3' : wr.cell? ⟨g, o + k, none⟩ = some ((List.replicate k (Value.int .u8 m) ++ vs0.drop k)[k]) := ck3
          have ck2 : wr.frozen? ⟨g, o + k, none⟩ = false := (unhide HK).full.soft k hkl
          obtain ⟨c0, hc0⟩ : ∃ c0, (List.replicate k (Value.int .u8 m) ++ vs0.drop k)[k] = c0 := ⟨_, rfl⟩
          rw [hc0] at ck3'
          have hN2 := (unhide HK).set (unhide HH).hd k hkl (.int .u8 m) rfl
          rw [marks_set vs0 k (by rw [(unhide HM).2.1]; exact hk)] at hN2
          have HN : Hid (Mk1 wo (wr.setCell ⟨g, o + k, none⟩ (.int .u8 m)) g rb i ⟨some ⟨g, o, none⟩, n, o⟩ (List.replicate (k + 1) (.int .u8 m) ++ vs0.drop (k + 1))) := hide hN2
          clear ck3 hN2 hc0 hkl
          have hkI : (k : Int) < (n : Int) := by omega
          go_wp2
          exact ⟨⟨k + 1, by omega, by go_num, HN⟩, by simp [intOf]; omega⟩
        · obtain rfl : n = k := by omega
          have hG0 : Gr1 wo wr g rb i ⟨ao, n, o⟩ m ao n g 0 := by
            have h1 := unhide HK
            rw [List.drop_of_length_le (by rw [(unhide HM).2.1]; exact Nat.le_refl _), List.append_nil] at h1
            exact ⟨h1, fun _ => ⟨rfl, rfl⟩, fun t => absurd t (by omega)⟩
          have HG0 := hide hG0
          clear hG0 HK
          go_wp2
          clear hdk
          go_loopw [7, 8] (fun gv kv wr => ∃ k : Nat, k ≤ 9 ∧ kv = .int .i64 k ∧ ∃ go gcap gg, gv = .slice go (n + k) gcap ∧ Hid (Gr1 wo wr g rb i ⟨ao, n, o⟩ m go gcap gg k)) (fun _ kv _ => 9 - (intOf kv).toNat)
          case atStart => exact ⟨0, by omega, rfl, ao, n, g, rfl, HG0⟩
          case round =>
            obtain ⟨k, hk9, rfl, go, gcap, gg, rfl, HG⟩ := hrel
            by_cases hk : k < 9
            · by_cases hk0 : k = 0
              · subst hk0
                obtain ⟨e1, e2⟩ := (unhide HG).first rfl
                have e1' : go = ao := e1
                have e2' : gcap = n := e2
                subst e1' e2'
                clear e1 e2
                have hfa : Full (wr.alloc (.cells #[.int .u8 m] 5)) g ⟨go, gcap, o⟩ (List.replicate gcap (.int .u8 m)) := ((unhide HG).mkd.keep ((Fr.refl _ _).alloc _) (unhide HM).2.2.1).full
                have HFA := hide hfa
                clear hfa
                go_wp2_with (at_builtin; refine wpList_append_full _ rfl (.tmp 45) (.tmp 47) 28 28 rfl 5 i5 (.int .u8 0) Tryz.underlying28 (unhide HI).1 hz50 rfl hz51 (g := g) (d := ⟨go, gcap, o⟩) (vs := List.replicate gcap (.int .u8 m)) rfl (unhide HFA) _ [.int .u8 m] 1 rfl (by omega) rfl (src_mark wr m) (by rw [hz52]; show (gcap + 1) * _ ≤ _; omega) (by show gcap + 1 ≤ _; omega) ?_)
                intro go' gcap' w3 gg' hrow h1 h2 h3
                have HN := hide ((unhide HG).one (unhide HM).2.2.1 (.cells #[.int .u8 m] 5) hrow (by simp; omega) h2 h3)
                clear hrow h1 h2 h3
                go_wp2
                exact ⟨⟨1, by omega, by go_num, go', gcap', gg', rfl, HN⟩, by simp [intOf]⟩
              · obtain ⟨r1, r2, r3⟩ := (unhide HG).row (by omega)
                have HR := hide r1
                clear r1 r2 r3
                go_wp2_with (at_builtin; refine wpList_append_vrow _ rfl (.tmp 45) (.tmp 47) 28 28 rfl 5 i5 (.int .u8 0) Tryz.underlying28 (unhide HI).1 hz50 rfl hz51 (ao := go) (cap := gcap) (g := gg) (n := n + k) (vs := List.replicate (n + k) (.int .u8 m)) rfl ((unhide HR).stay (fun hc => Below.heap_alloc _ _ _ ((unhide HR).lt hc))) (by simp) _ [.int .u8 m] 1 rfl rfl (src_mark wr m) (by rw [hz52]; omega) (by omega) ?_)
                intro go' gcap' w3 gg' hrow hgr
                have HN := hide ((unhide HG).next (by omega) (unhide HM).2.2.1 (unhide HM).2.2.2 _ hrow hgr)
                clear hrow hgr HR
                go_wp2
                exact ⟨⟨k + 1, by omega, by go_num, go', gcap', gg', rfl, HN⟩, by simp [intOf]; omega⟩
            · obtain rfl : 9 = k := by omega
              have hdk : wr.cell? ⟨rb, i, none⟩ = some (.slice ao n n) := (unhide HG).mkd.hdr
              have hlr : VRow wr lo lcap lg vs := (unhide HS).lrow.stay (fun hc => (unhide HG).mkd.fr.block lg ((unhide HS).lrow.lt hc) (fun t => by
                have h1 := (unhide HS).lnew hc
                have h2 := (unhide HH).low (by omega)
                have h3 : lg = g := t
                omega))
              have HLR := hide hlr
              have hln := (unhide HS).len
              clear hlr
              go_wp2_with (at_builtin; refine wpList_append_vrow _ rfl (.tmp 49) (.tmp 55) 23 23 rfl 28 i2 (.slice none 0 0) Tryz.underlying23 (unhide HI).2 hz20 rfl hz21 (ao := lo) (cap := lcap) (g := lg) (n := 2 * i) (vs := vs) rfl ((unhide HLR).stay (fun hc => Below.heap_alloc _ _ _ ((unhide HLR).lt hc))) hln _ [.slice go (n + 9) gcap, .slice ao n n] 2 rfl rfl (src_pair wr _ _ rfl rfl) (by rw [hz22]; omega) (by omega) ?_)
              intro lo' lcap' w3 lg' hrow hgr
              have hGd : Gr1 wo wr g rb i (ds i) (mI i) go gcap gg 9 := by rw [unhide HD, unhide HMI]; exact unhide HG
              have hrow' : VRow w3 lo' lcap' lg' (vs ++ [.slice go ((ds i).n + 9) gcap, (ds i).val]) := by rw [unhide HD]; exact hrow
              have hnx := OS1.next (unhide HH) (unhide HS) hlt hGd _ hrow' hgr
              have HN := hide hnx
              clear hrow hgr hGd hrow' hnx
              go_wp2
              exact ⟨⟨i + 1, by omega, by go_num, lo', lcap', lg', _, rfl, HN⟩, by simp [intOf]; omega⟩
    · obtain rfl : N = i := by omega
      have HF := hide (unhide HS).fr
      have hln := (unhide HS).len
      rename World => wo
      go_wp2
      go_loopw [9, 10] (fun av _ wr => ∃ a : Nat, a ≤ 2 * N ∧ av = .int .i64 a ∧ wo = wr) (fun av _ _ => 2 * N - (intOf av).toNat)
      case atStart => exact ⟨0, by omega, rfl, rfl⟩
      case round =>
        obtain ⟨a, ha, rfl, rfl⟩ := hrel
        by_cases hal : a < 2 * N
        · have hav : a < vs.length := by omega
          have hlc := (unhide HS).lrow.le
          obtain rfl : lo = some ⟨lg, 0, none⟩ := (unhide HS).lrow.ad (by omega)
          have ca := (unhide HS).lrow.cells a hav
          obtain ⟨ao, n, cap, g', o', h1, h2, h3, h4, _⟩ := (unhide HS).seen a hav
          rw [h1] at ca
          have e4 : mI (a / 2) = 1 + (a : Int) / 2 % 250 := by unfold mI; omega
          rw [e4] at h4
          have HC := hide (And.intro h3 h4)
          clear h1 h3 h4 e4
          go_wp2
          go_loopw [10] (fun kv wr => ∃ k : Nat, k ≤ n ∧ kv = .int .i64 k ∧ wo = wr) (fun kv _ => n - (intOf kv).toNat)
          case atStart => exact ⟨0, Nat.zero_le _, rfl, rfl⟩
          case round =>
            obtain ⟨k, hk, rfl, rfl⟩ := hrel
            by_cases hkn : k < n
            · obtain rfl : ao = some ⟨g', o', none⟩ := (unhide HC).1 (by omega)
              have ck := (unhide HC).2 k hkn
              have hkI : (k : Int) < (n : Int) := by omega
              have hse : ((1 + (a : Int) / 2 % 250) == (1 + (a : Int) / 2 % 250)) = true := by simp
              go_wp2
              exact ⟨⟨k + 1, by omega, by go_num, trivial⟩, by simp [intOf]; omega⟩
            · obtain rfl : n = k := by omega
              go_wp2
              exact ⟨⟨a + 1, by omega, by go_num, trivial⟩, by simp [intOf]; omega⟩
        · go_wp2
          go_ret
          exact ⟨rfl, unhide HF⟩

end Go.Proofs.YtjkghgcdkfkekaaGreatDoor

/- The law's own functions Lent and Back, for rows beside a queue. -/
namespace Go.Proofs.YtjkghgcdkfkekaaGreatDoor
open Go.RowKit

/-- What lies in a lent row: the bytes, marks up to place i, then nothing. -/
def lentF (bs : List UInt8) (i j : Nat) : Int := if h : j < bs.length then (bs[j].toNat : Int) else if j < i then 201 else 0

theorem lentF_in (bs : List UInt8) (i j : Nat) (h : j < bs.length) : lentF bs i j = (bs[j].toNat : Int) := by simp [lentF, h]
theorem lentF_mark (bs : List UInt8) (i j : Nat) (h : bs.length ≤ j) (h2 : j < i) : lentF bs i j = 201 := by simp [lentF, h2, Nat.not_lt.2 h]

theorem Tryz.size5 : (Tryz.prog.info? 5).map (·.size) = some 1 := by kernel_rfl

def Lent (w : World) (bs : List UInt8) (g : Nat) (w' : World) : Prop :=
  Fr (fun _ => False) w w' ∧ w.heap.size ≤ g ∧ ∀ j, j < bs.length + 3 → w'.cell? ⟨g, j, none⟩ = some (.int .u8 (lentF bs (bs.length + 3) j)) ∧ w'.frozen? ⟨g, j, none⟩ = false

theorem Fr.setCells2 {S : Nat → Prop} {a : World} {b : Nat} (hb : b < a.heap.size → S b) : ∀ (vs : List Value) (o : Nat) (w : World), Fr S a w → Fr S a (w.setCells b o vs)
  | [], _, _, h => h
  | v :: r, o, _, h => Fr.setCells2 hb r (o + 1) _ (h.setCell (p := ⟨b, o, none⟩) hb v)

set_option maxHeartbeats 1000000 in
set_option maxRecDepth 20000 in
theorem lent_any (w : World) (ao : Option Addr) (cap : Nat) (bs : List UInt8) (hB : BAt w ao cap bs) :
    Calls Tryz.prog 45 #[.slice ao bs.length cap] w fun e w' => ∃ g, e = .returned (.slice (some ⟨g, 0, none⟩) bs.length (bs.length + 3)) ∧ Lent w bs g w' := by
  have hsm := hB.2.2
  have hmk := fun w' => run_make_row' (P := Tryz.prog) 28 5 (.int .u8 0) 1 Tryz.underlying28 Tryz.info5 rfl .i64 .i64 (bs.length + 3) (by omega) (by omega) w'
  have hcast : ((bs.length + 3 : Nat) : Int) = (bs.length : Int) + 3 := by omega
  rw [hcast] at hmk
  clear hcast
  obtain ⟨w1, Hw1⟩ : ∃ w1, Hid (w.alloc (.cells (madeCells #[.int .u8 0] (bs.length + 3)) 5) = w1) := ⟨_, rfl⟩
  obtain ⟨w2, hcp, H2⟩ : ∃ w2, (Builtin.copy_ #[28, 28] 3 #[.slice (some ⟨w.heap.size, 0, none⟩) (bs.length + 3) (bs.length + 3), .slice ao bs.length cap]).run Tryz.prog (w.alloc (.cells (madeCells #[.int .u8 0] (bs.length + 3)) 5)) = .ok (goInt bs.length) w2 ∧
      Hid (Fr (fun _ => False) w w2 ∧ w.heap.size < w2.heap.size ∧ ∀ j, j < bs.length + 3 → w2.cell? ⟨w.heap.size, j, none⟩ = some (.int .u8 (lentF bs bs.length j)) ∧ w2.frozen? ⟨w.heap.size, j, none⟩ = false) := by
    have hcell : ∀ j, j < bs.length + 3 → (w.alloc (.cells (madeCells #[.int .u8 0] (bs.length + 3)) 5)).cell? ⟨w.heap.size, j, none⟩ = some (.int .u8 0) := fun j hj => by
      rw [World.cell?_alloc_new]
      simp [madeCells, hj, Nat.mod_one]
    have hfz : ∀ j, (w.alloc (.cells (madeCells #[.int .u8 0] (bs.length + 3)) 5)).frozen? ⟨w.heap.size, j, none⟩ = false := fun j => World.frozen?_alloc_new _ _ _ _
    have hF0 := (Fr.refl (fun _ => False) w).alloc (.cells (madeCells #[.int .u8 0] (bs.length + 3)) 5)
    by_cases h0 : 0 < bs.length
    · obtain ⟨b, off, e, hc⟩ := hB.2.1 h0
      subst e
      have hl : (bytesV bs).length = bs.length := by simp [bytesV]
      have hmin : Nat.min bs.length (bs.length + 3) = bs.length := Nat.min_eq_left (by omega)
      have hcp := run_copy_cells (P := Tryz.prog) (w.alloc (.cells (madeCells #[.int .u8 0] (bs.length + 3)) 5)) 28 28 3 5 w.heap.size 0 (bs.length + 3) (bs.length + 3) ⟨b, off, none⟩ bs.length cap (bytesV bs)
        Tryz.underlying28 Tryz.size5 (by rw [hl, hmin]) (fun j v hv => by
          have hj : j < bs.length := by
            rw [← hl]; exact (List.getElem?_eq_some_iff.1 hv).1
          have hv2 : v = .int .u8 (bs[j].toNat) := by
            have := (List.getElem?_eq_some_iff.1 hv).2
            rw [← this]; simp [bytesV]
          rw [show (⟨b, off, none⟩ : Addr).add j = ⟨b, off + j, none⟩ from Addr.add_lit .., hv2, World.cell?_alloc_lt _ _ _ (World.block_lt_of_cell? _ _ (hc j hj))]
          exact hc j hj) (fun j hj => by rw [Nat.zero_add, hcell j (by omega)]; rfl) (fun j hj => hfz _) (fun v hv => by
          simp [bytesV] at hv
          obtain ⟨x, _, rfl⟩ := hv
          rfl)
      rw [hl] at hcp
      refine ⟨_, hcp, Fr.setCells2 (fun t => absurd t (Nat.lt_irrefl _)) _ _ _ hF0, ?_, fun j hj => ⟨?_, ?_⟩⟩
      · have := (Fr.setCells2 (S := fun _ => True) (a := (w.alloc (.cells (madeCells #[.int .u8 0] (bs.length + 3)) 5))) (b := w.heap.size) (fun _ => trivial) (bytesV bs) 0 _ (Fr.refl _ _)).size
        simp at this
        omega
      · by_cases hjl : j < bs.length
        · have := World.cell?_setCells_in w.heap.size (bytesV bs) 0 (w.alloc (.cells (madeCells #[.int .u8 0] (bs.length + 3)) 5)) (fun i hi => by rw [Nat.zero_add, hcell i (by omega)]; rfl) j (by omega)
          rw [Nat.zero_add] at this
          rw [this, lentF_in _ _ _ hjl]
          simp [bytesV]
        · rw [World.cell?_setCells_out _ _ _ _ _ (fun _ _ => .inr (by simp only []; omega)), hcell j hj]
          simp [lentF, hjl]
      · rw [World.frozen?_setCells]; exact hfz j
    · have hb : bs = [] := List.eq_nil_of_length_eq_zero (by omega)
      subst hb
      have hcp := run_copy_none (P := Tryz.prog) (w.alloc (.cells (madeCells #[.int .u8 0] (0 + 3)) 5)) 28 28 3 5 (some ⟨w.heap.size, 0, none⟩) ao (0 + 3) (0 + 3) 0 cap Tryz.underlying28 Tryz.size5 rfl
      exact ⟨_, hcp, hF0, by simp, fun j hj => ⟨(hcell j hj).trans (by simp [lentF]), hfz j⟩⟩
  clear Hw1 w1 hB
  go_enter Tryz.func45, Tryz.ntmps45
  go_wp2
  go_loopw [4] (fun iv wr => ∃ i : Nat, bs.length ≤ i ∧ i ≤ bs.length + 3 ∧ iv = .int .i64 i ∧ Hid (Fr (fun _ => False) w wr ∧ w.heap.size < wr.heap.size ∧ ∀ j, j < bs.length + 3 → wr.cell? ⟨w.heap.size, j, none⟩ = some (.int .u8 (lentF bs i j)) ∧ wr.frozen? ⟨w.heap.size, j, none⟩ = false)) (fun iv _ => bs.length + 3 - (intOf iv).toNat)
  case atStart => exact ⟨bs.length, Nat.le_refl _, by omega, rfl, unhide H2⟩
  case round =>
    obtain ⟨i, hi1, hi2, rfl, HI⟩ := hrel
    by_cases hlt : i < bs.length + 3
    · have ci := ((unhide HI).2.2 i hlt).1
      have fi := ((unhide HI).2.2 i hlt).2
      go_wp2
      refine ⟨⟨i + 1, by omega, by omega, by go_num, (unhide HI).1.setCell (p := ⟨w.heap.size, i, none⟩) (fun t => absurd t (Nat.lt_irrefl _)) _, by simp [World.setCell]; exact (unhide HI).2.1, fun j hj => ⟨?_, by rw [World.frozen?_setCell]; exact ((unhide HI).2.2 j hj).2⟩⟩, by simp [intOf]; omega⟩
      by_cases e : j = i
      · subst e
        rw [World.cell?_setCell_same _ _ _ ci, lentF_mark _ _ _ hi1 (by omega)]
      · rw [World.cell?_setCell_other _ _ _ _ (by intro h; injection h with h1 h2; exact e h2.symm), ((unhide HI).2.2 j hj).1]
        unfold lentF
        split
        · rfl
        · by_cases h2 : j < i
          · rw [if_pos h2, if_pos (by omega)]
          · rw [if_neg h2, if_neg (by omega)]
    · obtain rfl : i = bs.length + 3 := by omega
      go_wp2
      go_ret
      exact ⟨w.heap.size, rfl, (unhide HI).1, Nat.le_refl _, (unhide HI).2.2⟩

set_option maxHeartbeats 1000000 in
set_option maxRecDepth 20000 in
theorem back_any (w : World) (ao : Option Addr) (cap : Nat) (bs : List UInt8) (hB : BAt w ao cap bs) (g : Nat) (hg : ∀ b off, ao = some ⟨b, off, none⟩ → 0 < bs.length → g ≠ b)
    (hl : ∀ j, j < bs.length + 3 → w.cell? ⟨g, j, none⟩ = some (.int .u8 (lentF bs (bs.length + 3) j)) ∧ w.frozen? ⟨g, j, none⟩ = false) :
    Calls Tryz.prog 46 #[.slice (some ⟨g, 0, none⟩) bs.length (bs.length + 3), .slice ao bs.length cap] w fun e w' => e = .returned (.bool true) ∧ Fr (· = g) w w' := by
  have hsm := hB.2.2
  have HB := hide (And.intro hB hg)
  have HL := hide hl
  clear hB hg hl
  go_enter Tryz.func46, Tryz.ntmps46
  go_wp2
  go_loopw [6, 7, 8] (fun ok iv _ wr => ∃ i : Nat, i ≤ bs.length + 3 ∧ iv = .int .i64 i ∧ ok = .bool true ∧ Hid (Fr (· = g) w wr ∧ ∀ j, i ≤ j → j < bs.length + 3 → wr.cell? ⟨g, j, none⟩ = some (.int .u8 (lentF bs (bs.length + 3) j)) ∧ wr.frozen? ⟨g, j, none⟩ = false)) (fun _ iv _ _ => bs.length + 3 - (intOf iv).toNat)
  case atStart => exact ⟨0, Nat.zero_le _, rfl, rfl, Fr.refl _ _, fun j _ hj => unhide HL j hj⟩
  case round =>
    obtain ⟨i, hi, rfl, rfl, HI⟩ := hrel
    by_cases hlt : i < bs.length + 3
    · have ci := ((unhide HI).2 i (Nat.le_refl _) hlt).1
      have fi := ((unhide HI).2 i (Nat.le_refl _) hlt).2
      have hend : ∀ v, Fr (· = g) w (wr.setCell ⟨g, i, none⟩ v) ∧ ∀ j, i + 1 ≤ j → j < bs.length + 3 → (wr.setCell ⟨g, i, none⟩ v).cell? ⟨g, j, none⟩ = some (.int .u8 (lentF bs (bs.length + 3) j)) ∧ (wr.setCell ⟨g, i, none⟩ v).frozen? ⟨g, j, none⟩ = false := fun v =>
        ⟨(unhide HI).1.setCell (p := ⟨g, i, none⟩) (fun _ => rfl) v, fun j h1 h2 => ⟨(World.cell?_setCell_other _ _ _ _ (by intro h; injection h with h1 h2; omega)).trans ((unhide HI).2 j (by omega) h2).1, by rw [World.frozen?_setCell]; exact ((unhide HI).2 j (by omega) h2).2⟩⟩
      have HE := hide hend
      clear hend
      by_cases hin : i < bs.length
      · have hd : decide ((i : Int) < (bs.length : Int)) = true := by simp; omega
        obtain ⟨b, off, rfl, hc⟩ := (unhide HB).1.2.1 (by omega)
        have hgb := (unhide HB).2 b off rfl (by omega)
        have cb := ((unhide HI).1.cell (a := ⟨b, off + i, none⟩) (World.block_lt_of_cell? _ _ (hc i hin)) (fun t => hgb t.symm)).trans (hc i hin)
        rw [lentF_in _ _ _ hin] at ci
        have hself : (((bs[i].toNat : Nat) : Int) == ((bs[i].toNat : Nat) : Int)) = true := by simp
        clear hc
        go_wp2
        exact ⟨⟨i + 1, by omega, by go_num, rfl, unhide HE _⟩, by simp [intOf]; omega⟩
      · have hd : decide ((i : Int) < (bs.length : Int)) = false := by simp; omega
        rw [lentF_mark _ _ _ (by omega) hlt] at ci
        go_wp2
        exact ⟨⟨i + 1, by omega, by go_num, rfl, unhide HE _⟩, by simp [intOf]; omega⟩
    · go_wp2
      go_ret
      exact ⟨rfl, (unhide HI).1⟩

end Go.Proofs.YtjkghgcdkfkekaaGreatDoor

/- What lies beside a queue in QueuePlays: blocks of a client ('Bsd'), the three that a world names ('DY'), bytes that were lent ('DZ'); the document's queue refuses. -/
namespace Go.Proofs.YtjkghgcdkfkekaaGreatDoor
open Go.RowKit

/-- A block of a client, of which P holds, and what lies beside it. -/
def Bsd (g : Nat) (P : World → Prop) (Sd : World → (Nat → Prop) → Prop) (w : World) (F : Nat → Prop) : Prop := (P w ∧ F g ∧ g < w.heap.size) ∧ Sd w (fun k => F k ∧ k ≠ g)

/-- P tells of that block alone. -/
def Of (g : Nat) (P : World → Prop) : Prop := ∀ w w' : World, P w → w'.heap[g]? = w.heap[g]? → P w'

theorem Bsd.stable {g : Nat} {P : World → Prop} {Sd : World → (Nat → Prop) → Prop} (hP : Of g P) (hS : Stable Sd) : Stable (Bsd g P Sd) := by
  rintro w w' F F' ⟨⟨h1, h2, h3⟩, h4⟩ hF hm
  exact ⟨⟨hP w w' h1 (hF.block g h3 (fun t => t h2)), hm g h3 h2, Nat.lt_of_lt_of_le h3 hF.size⟩, hS _ _ _ _ h4 (hF.mono (fun k _ t h => t h.1)) (fun k hk t => ⟨hm k hk t.1, t.2⟩)⟩

theorem Bsd.turn {g : Nat} {P : World → Prop} {Sd Sd' : World → (Nat → Prop) → Prop} {w w' : World} {F S : Nat → Prop} (hP : Of g P) (h : Bsd g P Sd w F) (hF : Fr S w w') (hS : ¬ S g) (h' : Sd' w' (fun k => F k ∧ k ≠ g)) : Bsd g P Sd' w' F :=
  ⟨⟨hP w w' h.1.1 (hF.block g h.1.2.2 hS), h.1.2.1, Nat.lt_of_lt_of_le h.1.2.2 hF.size⟩, h'⟩

theorem QW.refs {w0 w : World} {hp b qb n lim : Nat} {q : Qr} {sf : Bool} {B C N : Nat} {Sd : World → (Nat → Prop) → Prop} (hT : TabAt w0) (h : QW w0 w hp b qb n lim q sf B C N Sd) :
    ∃ F : Nat → Prop, (∀ k, w.heap.size ≤ k → F k) ∧ Sd w F ∧ ∀ (w' : World) (S : Nat → Prop) (Sd' : World → (Nat → Prop) → Prop), Fr S w w' → (∀ k, k < w.heap.size → S k → F k ∧ w0.heap.size ≤ k) → Sd' w' F → QW w0 w' hp b qb n lim q sf B C N Sd' := by
  obtain ⟨R, O, p, l, d, G, k, a, rs, s, num, h1, h2, h3, h4, L, h5, h6, h7, h8⟩ := h
  have hz : ∀ k, w.heap.size ≤ k → R k = 0 ∧ ¬ O k := fun k hk => ⟨L.ls.dn.dk.zero k hk, fun t => by have := (L.qm.own k t).1; omega⟩
  have hp4 := hT.pos
  exact ⟨_, hz, h8, fun w' S Sd' hF k1 k2 => ⟨R, O, p, l, d, G, k, a, rs, s, num, h1, h2, h3, h4, L.own hF (fun k hk t => ⟨(k1 k hk t).1.1, by have := (k1 k hk t).2; omega, (k1 k hk t).1.2⟩), h5, h6.trans hF (fun k hk t => by have := (k1 k (Nat.lt_of_lt_of_le hk h6.size) t).2; omega), h7, k2⟩⟩

theorem QW.asks {w0 w : World} {hp b qb n lim : Nat} {q : Qr} {sf : Bool} {B C N : Nat} {Sd : World → (Nat → Prop) → Prop} (hl : Lim lim n) (h : QW w0 w hp b qb n lim q sf B C N Sd) : Asks w qb q := by
  obtain ⟨R, O, p, l, d, G, k, a, rs, s, num, h1, h2, h3, h4, L, h5, h6, h7, h8⟩ := h
  refine ⟨fun u hu => ?_, fun u hu => ((L.keep hu).qm.len).mono (fun e w' t => ⟨t.1, by rw [t.2]; exact Fr.refl _ _⟩), fun u hu => (L.keep hu).qm.last L.ok, fun u hu => ((L.keep hu).qm.acked).mono (fun e w' t => ⟨t.1, by rw [t.2]; exact Fr.refl _ _⟩)⟩
  have hk := (L.keep hu).qm.peek (L.ok.mono hl.le) 4096
  have e : q.items.take ((4096 : Int).toNat) = q.items := List.take_of_length_le (by have := (L.ok.mono hl.le).many; show _ ≤ 4096; exact this)
  rw [e] at hk
  exact hk

set_option maxHeartbeats 1000000 in
set_option maxRecDepth 20000 in
theorem rputNo_any {M E : Nat → Prop} (w : World) (rb lim : Nat) (q : Qr) (hR : Rf M E w rb lim q) (hl : q.last ≤ 4294967295) (bo : Option Addr) (bc : Nat) (bs : Bs) (hB : bs.length ≤ 140737488355328) (he : putE q lim bs ≠ 0) :
    Calls Tryz.prog 47 #[.pointer (some ⟨rb, 0, none⟩), .slice bo bs.length bc] w fun e w' => e = .returned (.tuple #[.int .i64 0, .int .i64 (putE q lim bs)]) ∧ Fr (fun _ => False) w w' := by
  have LA := hide (fun u (hu : Fr (fun _ => False) w u) => rlast_any u rb lim q (hR.keep hu) hl)
  obtain ⟨io, cap, g, off, hb, h2, h3, h4⟩ := hR.ex
  have c0 : w.cell? ⟨rb, 0, none⟩ = some (.int .i64 (lim : Int)) := hb.cell 0
  have c2 : w.cell? ⟨rb, 2, none⟩ = some (.slice io q.items.length cap) := hb.cell 2
  have hle : q.last = q.acked + q.items.length := rfl
  by_cases h256 : 256 < bs.length
  · have e : putE q lim bs = 2 := by unfold putE; rw [if_pos h256]
    rw [e]
    have hI : (bs.length : Int) > 256 := by omega
    have hI2 : decide ((bs.length : Int) > 256) = true := by simp; omega
    have hI3 : decide (256 < bs.length) = true := by simp; omega
    clear he e h256 hR hb h2 h3 h4 hl hle LA c0 c2
    go_enter Tryz.func47, Tryz.ntmps47
    go_wp2
    go_ret2
    exact ⟨rfl, Fr.refl _ _⟩
  · have hI : decide ((bs.length : Int) > 256) = false := by simp; omega
    have hI3 : decide (256 < bs.length) = false := by simp; omega
    by_cases hful : lim ≤ q.items.length
    · have e : putE q lim bs = 4 := by unfold putE; rw [if_neg h256, if_pos hful]
      rw [e]
      have h2I : decide ((q.items.length : Int) ≥ (lim : Int)) = true := by simp; omega
      have h2d : decide (lim ≤ q.items.length) = true := by simp; omega
      clear he e h256 hful hR hb h2 h3 h4 hl hle LA
      go_enter Tryz.func47, Tryz.ntmps47
      go_wp2
      go_region_held3 (fun w' => w'.cell? ⟨rb, 0, none⟩ = some (.int .i64 (lim : Int)) ∧ w'.cell? ⟨rb, 2, none⟩ = some (.slice io q.items.length cap)) (first | exact ⟨c0, c2⟩) (fail)
      go_wp2
      go_ret2
      exact ⟨rfl, (Fr.refl _ _).drew⟩
    · have h2I : decide ((q.items.length : Int) ≥ (lim : Int)) = false := by simp; omega
      have h2d : decide (lim ≤ q.items.length) = false := by simp; omega
      have hbig : 4294967295 ≤ q.last := by
        refine Classical.byContradiction (fun h => he ?_)
        unfold putE
        rw [if_neg h256, if_neg hful, if_neg h]
      have e : putE q lim bs = 3 := by unfold putE; rw [if_neg h256, if_neg hful, if_pos hbig]
      rw [e]
      generalize q.last = la at *
      have h3d : decide ((la : Int) ≥ 4294967295) = true := by simp; omega
      have h3e : decide (4294967295 ≤ la) = true := by simp; omega
      clear he e h256 hful hR hb h2 h3 h4 hl hle hbig
      go_enter Tryz.func47, Tryz.ntmps47
      go_wp2
      go_region_held3 (fun w' => w'.cell? ⟨rb, 0, none⟩ = some (.int .i64 (lim : Int)) ∧ w'.cell? ⟨rb, 2, none⟩ = some (.slice io q.items.length cap)) (first | exact ⟨c0, c2⟩) (fail)
      go_wp2_with fail
      refine (unhide LA _ ((Fr.refl _ _).drew)).mono ?_
      rintro e w1 ⟨rfl, hF1⟩
      clear LA
      go_wp2
      go_ret2
      exact ⟨rfl, ((Fr.refl _ _).drew).trans hF1 (fun _ _ t => t)⟩

set_option maxHeartbeats 1000000 in
set_option maxRecDepth 20000 in
theorem rackNo_any {M E : Nat → Prop} (w : World) (rb lim : Nat) (q : Qr) (hR : Rf M E w rb lim q) (hl : q.last ≤ 4294967295) (s : Int) (hs : s < 0 ∨ (q.last : Int) < s) :
    Calls Tryz.prog 48 #[.pointer (some ⟨rb, 0, none⟩), .int .i64 s] w fun e w' => e = .returned (.int .i64 1) ∧ Fr (fun _ => False) w w' := by
  have LA := hide (rlast_any w rb lim q hR hl)
  clear hR hl
  generalize q.last = la at *
  by_cases h0 : s < 0
  · have h1 : decide (s < 0) = true := by simp; omega
    clear hs
    go_enter Tryz.func48, Tryz.ntmps48
    go_wp2_with fail
    refine (unhide LA).mono ?_
    rintro e w1 ⟨rfl, hF1⟩
    clear LA
    go_wp2
    go_ret
    exact ⟨rfl, hF1⟩
  · have h1 : decide (s < 0) = false := by simp; omega
    have h2 : decide (s > (la : Int)) = true := by simp; omega
    have h3 : decide ((la : Int) < s) = true := by simp; omega
    clear hs
    go_enter Tryz.func48, Tryz.ntmps48
    go_wp2_with fail
    refine (unhide LA).mono ?_
    rintro e w1 ⟨rfl, hF1⟩
    clear LA
    go_wp2
    go_ret
    exact ⟨rfl, hF1⟩

/-- What a world names. -/
def WB (wb hp qx rb : Nat) (u : World) : Prop := Bx u wb #[.pointer (some ⟨hp, 0, none⟩), .pointer (some ⟨qx, 0, none⟩), .pointer (some ⟨rb, 0, none⟩)] 51
theorem WB.of (wb hp qx rb : Nat) : Of wb (WB wb hp qx rb) := fun _ _ h e => e.trans h

/-- Bytes that were lent. -/
def LP (g : Nat) (bs : Bs) (u : World) : Prop := ∀ j, j < bs.length + 3 → u.cell? ⟨g, j, none⟩ = some (.int .u8 (lentF bs (bs.length + 3) j)) ∧ u.frozen? ⟨g, j, none⟩ = false
theorem LP.of (g : Nat) (bs : Bs) : Of g (LP g bs) := fun _ _ h e j hj => ⟨(World.cell?_of_block (a := ⟨g, j, none⟩) e).trans (h j hj).1, (World.frozen?_of_block (a := ⟨g, j, none⟩) e).trans (h j hj).2⟩
theorem LP.bat {g : Nat} {bs : Bs} {u : World} (h : LP g bs u) (hs : bs.length ≤ 140737488355328) : BAt u (some ⟨g, 0, none⟩) (bs.length + 3) bs :=
  ⟨fun e => (by cases e), fun _ => ⟨g, 0, rfl, fun j hj => by rw [Nat.zero_add, (h j (by omega)).1, lentF_in _ _ _ hj]⟩, hs⟩

/-- A queue with power, the document's beside it, and what names them. -/
def DY (w0 w : World) (hp b qb n lim rb wb : Nat) (q : Qr) (qx : Nat) (q' : Qr) (sf : Bool) (B C N : Nat) (bx : List (Nat × Array Value × TypeId)) : Prop :=
  QW w0 w hp b qb n lim q sf B C N (Bsd wb (WB wb hp qx rb) (PS w0 rb lim q' none 0 [] bx []))

/-- The same with bytes that were lent. -/
def DZ (w0 w : World) (hp b qb n lim rb wb : Nat) (q : Qr) (qx : Nat) (q' : Qr) (sf : Bool) (B C N : Nat) (bx : List (Nat × Array Value × TypeId)) (g : Nat) (bs : Bs) : Prop :=
  QW w0 w hp b qb n lim q sf B C N (Bsd g (LP g bs) (Bsd wb (WB wb hp qx rb) (PS w0 rb lim q' none 0 [] bx []))) ∧ w0.heap.size ≤ g

section
variable {w0 w w' : World} {hp b qb n lim rb wb : Nat} {q : Qr} {qx : Nat} {q' : Qr} {sf : Bool} {B C N : Nat} {bx : List (Nat × Array Value × TypeId)} {g : Nat} {bs : Bs}

theorem ds_stable : Stable (Bsd wb (WB wb hp qx rb) (PS w0 rb lim q' none 0 [] bx [])) := Bsd.stable (WB.of _ _ _ _) PS.stable
theorem dl_stable : Stable (Bsd g (LP g bs) (Bsd wb (WB wb hp qx rb) (PS w0 rb lim q' none 0 [] bx []))) := Bsd.stable (LP.of _ _) ds_stable

theorem DY.refs (hT : TabAt w0) (h : DY w0 w hp b qb n lim rb wb q qx q' sf B C N bx) : ∃ F : Nat → Prop, (∀ k, w.heap.size ≤ k → F k) ∧ PS w0 rb lim q' none 0 [] bx [] w F ∧ ∀ (w' : World) (S : Nat → Prop) (q'' : Qr) (bx' : List (Nat × Array Value × TypeId)), Fr S w w' → (∀ k, k < w.heap.size → S k → F k ∧ w0.heap.size ≤ k) → PS w0 rb lim q'' none 0 [] bx' [] w' F → DY w0 w' hp b qb n lim rb wb q qx q'' sf B C N bx' := by
  obtain ⟨F, h1, h2, h3⟩ := QW.refs hT h
  refine ⟨fun k => F k ∧ k ≠ wb, fun k hk => ⟨h1 k hk, by have := h2.1.2.2; omega⟩, h2.2, fun w' S q'' bx' hF hS hP => h3 w' S _ hF (fun k hk t => ⟨(hS k hk t).1.1, (hS k hk t).2⟩) (h2.turn (WB.of _ _ _ _) hF (fun t => (hS wb h2.1.2.2 t).1.2 rfl) hP)⟩

theorem DY.fr (h : DY w0 w hp b qb n lim rb wb q qx q' sf B C N bx) : Fr (fun _ => False) w0 w := QW.fr h
theorem DY.keep (h : DY w0 w hp b qb n lim rb wb q qx q' sf B C N bx) (hF : Fr (fun _ => False) w w') : DY w0 w' hp b qb n lim rb wb q qx q' sf B C N bx := QW.keep ds_stable h hF
theorem DY.mono {B' C' N' : Nat} (h : DY w0 w hp b qb n lim rb wb q qx q' sf B C N bx) (hB : B ≤ B') (hC : C ≤ C') (hN : N ≤ N') : DY w0 w hp b qb n lim rb wb q qx q' sf B' C' N' bx := QW.mono h hB hC hN
theorem DY.named (h : DY w0 w hp b qb n lim rb wb q qx q' sf B C N bx) : WB wb hp qx rb w := by
  obtain ⟨F, h1⟩ := QW.side h
  exact h1.1.1
theorem DY.ps (h : DY w0 w hp b qb n lim rb wb q qx q' sf B C N bx) : ∃ F, PS w0 rb lim q' none 0 [] bx [] w F := by
  obtain ⟨F, h1⟩ := QW.side h
  exact ⟨_, h1.2⟩
theorem DY.box {x : Nat × Array Value × TypeId} (h : DY w0 w hp b qb n lim rb wb q qx q' sf B C N bx) (hx : x ∈ bx) : Bx w x.1 x.2.1 x.2.2 := by
  obtain ⟨F, h1⟩ := h.ps
  exact h1.boxAt hx
theorem DZ.fr (h : DZ w0 w hp b qb n lim rb wb q qx q' sf B C N bx g bs) : Fr (fun _ => False) w0 w := QW.fr h.1
theorem DZ.named (h : DZ w0 w hp b qb n lim rb wb q qx q' sf B C N bx g bs) : WB wb hp qx rb w := by
  obtain ⟨F, h1⟩ := QW.side h.1
  exact h1.2.1.1
theorem DZ.lp (h : DZ w0 w hp b qb n lim rb wb q qx q' sf B C N bx g bs) : LP g bs w := by
  obtain ⟨F, h1⟩ := QW.side h.1
  exact h1.1.1
theorem DZ.box {x : Nat × Array Value × TypeId} (h : DZ w0 w hp b qb n lim rb wb q qx q' sf B C N bx g bs) (hx : x ∈ bx) : Bx w x.1 x.2.1 x.2.2 := by
  obtain ⟨F, h1⟩ := QW.side h.1
  exact h1.2.2.boxAt hx

theorem DY.more (hT : TabAt w0) (h : DY w0 w hp b qb n lim rb wb q qx q' sf B C N bx) (cs : Array Value) (T : TypeId) : DY w0 (w.alloc (.cells cs T)) hp b qb n lim rb wb q qx q' sf B C N ((w.heap.size, cs, T) :: bx) := by
  obtain ⟨F, h1, h2, h3⟩ := h.refs hT
  exact h3 _ (fun _ => False) _ _ ((Fr.refl _ _).alloc _) (fun k _ t => t.elim) (h2.box h1 _ _)
theorem DY.less {y : Nat × Array Value × TypeId} (hT : TabAt w0) (h : DY w0 w hp b qb n lim rb wb q qx q' sf B C N (y :: bx)) : DY w0 w hp b qb n lim rb wb q qx q' sf B C N bx := by
  obtain ⟨F, h1, h2, h3⟩ := h.refs hT
  exact h3 _ (fun _ => False) _ _ (Fr.refl _ _) (fun k _ t => t.elim) h2.less

/-- The world names the queue anew. -/
theorem DY.set (hT : TabAt w0) (hw : w0.heap.size ≤ wb) (h : DY w0 w hp b qb n lim rb wb q qx q' sf B C N bx) : DY w0 (w.setCell ⟨wb, 1, none⟩ (.pointer (some ⟨qb, 0, none⟩))) hp b qb n lim rb wb q qb q' sf B C N bx := by
  obtain ⟨F, h1, h2, h3⟩ := QW.refs hT h
  have hF : Fr (fun k => k = wb) w (w.setCell ⟨wb, 1, none⟩ (.pointer (some ⟨qb, 0, none⟩))) := (Fr.refl (fun k => k = wb) _).setCell (fun _ => rfl) _
  refine h3 _ (fun k => k = wb) _ hF (fun k _ t => by rw [t]; exact ⟨h2.1.2.1, hw⟩) ⟨⟨?_, h2.1.2.1, by have := h2.1.2.2; simpa using this⟩, PS.stable _ _ _ _ h2.2 (hF.mono (fun k _ t h => h.2 t)) (fun _ _ t => t)⟩
  have hb := Bx.setCell h2.1.1 1 (.pointer (some ⟨qb, 0, none⟩))
  exact hb

theorem DY.rput (hT : TabAt w0) (h : DY w0 w hp b qb n lim rb wb q qx q' sf B C N bx) (hl : q'.last ≤ 4294967295) (hli : lim ≤ 4096) (bo : Option Addr) (bc : Nat) (bs : Bs) (hB : BAt w bo bc bs) (he : putE q' lim bs = 0) :
    Calls Tryz.prog 47 #[.pointer (some ⟨rb, 0, none⟩), .slice bo bs.length bc] w fun e w' => e = .returned (.tuple #[.int .i64 ((q'.last + 1 : Nat) : Int), .int .i64 0]) ∧ Hid (DY w0 w' hp b qb n lim rb wb q qx ⟨q'.acked, q'.items ++ [bs]⟩ sf B C N bx) := by
  obtain ⟨F, h1, h2, h3⟩ := h.refs hT
  refine (h2.put h1 h.fr.size hl hli bo bc bs hB he).mono ?_
  rintro e w' ⟨he, hq⟩
  obtain ⟨S, k1, k2, k3⟩ := unhide hq
  exact ⟨he, hide (h3 w' S _ _ k1 k2 k3)⟩
theorem DY.rputNo (h : DY w0 w hp b qb n lim rb wb q qx q' sf B C N bx) (hl : q'.last ≤ 4294967295) (bo : Option Addr) (bc : Nat) (bs : Bs) (hB : bs.length ≤ 140737488355328) (he : putE q' lim bs ≠ 0) :
    Calls Tryz.prog 47 #[.pointer (some ⟨rb, 0, none⟩), .slice bo bs.length bc] w fun e w' => e = .returned (.tuple #[.int .i64 0, .int .i64 (putE q' lim bs)]) ∧ Hid (DY w0 w' hp b qb n lim rb wb q qx q' sf B C N bx) := by
  obtain ⟨F, h1⟩ := h.ps
  obtain ⟨M, E, hR⟩ := h1.rf
  exact (rputNo_any w rb lim q' hR hl bo bc bs hB he).mono (fun e w' t => ⟨t.1, hide (h.keep t.2)⟩)
theorem DY.rack (hT : TabAt w0) (h : DY w0 w hp b qb n lim rb wb q qx q' sf B C N bx) (hl : q'.last ≤ 4294967295) (s : Nat) (hs : s ≤ q'.last) :
    Calls Tryz.prog 48 #[.pointer (some ⟨rb, 0, none⟩), .int .i64 (s : Int)] w fun e w' => e = .returned (.int .i64 0) ∧ Hid (DY w0 w' hp b qb n lim rb wb q qx (q'.ack s) sf B C N bx) := by
  obtain ⟨F, h1, h2, h3⟩ := h.refs hT
  refine (h2.ack h1 h.fr.size hl s hs).mono ?_
  rintro e w' ⟨he, hq⟩
  obtain ⟨S, k1, k2, k3⟩ := unhide hq
  exact ⟨he, hide (h3 w' S _ _ k1 k2 k3)⟩
theorem DY.rackNo (h : DY w0 w hp b qb n lim rb wb q qx q' sf B C N bx) (hl : q'.last ≤ 4294967295) (s : Int) (hs : s < 0 ∨ (q'.last : Int) < s) :
    Calls Tryz.prog 48 #[.pointer (some ⟨rb, 0, none⟩), .int .i64 s] w fun e w' => e = .returned (.int .i64 1) ∧ Hid (DY w0 w' hp b qb n lim rb wb q qx q' sf B C N bx) := by
  obtain ⟨F, h1⟩ := h.ps
  obtain ⟨M, E, hR⟩ := h1.rf
  exact (rackNo_any w rb lim q' hR hl s hs).mono (fun e w' t => ⟨t.1, hide (h.keep t.2)⟩)

/-- Bytes are lent, and come back. -/
theorem DY.lent (hT : TabAt w0) (h : DY w0 w hp b qb n lim rb wb q qx q' sf B C N bx) (bo : Option Addr) (bc : Nat) (bs : Bs) (hB : BAt w bo bc bs) :
    Calls Tryz.prog 45 #[.slice bo bs.length bc] w fun e w' => ∃ g, e = .returned (.slice (some ⟨g, 0, none⟩) bs.length (bs.length + 3)) ∧ Hid (DZ w0 w' hp b qb n lim rb wb q qx q' sf B C N bx g bs) := by
  refine (lent_any w bo bc bs hB).mono ?_
  rintro e w' ⟨g, he, k1, k2, k3⟩
  obtain ⟨F, h1, h2, h3⟩ := QW.refs hT h
  have hs := (DY.fr h).size
  exact ⟨g, he, hide ⟨h3 w' (fun _ => False) _ k1 (fun k _ t => t.elim) ⟨⟨k3, h1 g k2, World.block_lt_of_cell? _ _ (k3 0 (by omega)).1⟩, ds_stable _ _ _ _ h2 (k1.mono (fun _ _ t => t.elim)) (fun k hk t => ⟨t, by omega⟩)⟩, by omega⟩⟩
theorem DZ.back (hT : TabAt w0) (h : DZ w0 w hp b qb n lim rb wb q qx q' sf B C N bx g bs) (bo : Option Addr) (bc : Nat) (hB : BAt w0 bo bc bs) :
    Calls Tryz.prog 46 #[.slice (some ⟨g, 0, none⟩) bs.length (bs.length + 3), .slice bo bs.length bc] w fun e w' => e = .returned (.bool true) ∧ Hid (DY w0 w' hp b qb n lim rb wb q qx q' sf B C N bx) := by
  have hg := h.2
  refine (back_any w bo bc bs (hB.later h.fr) g (fun x off e h0 => ?_) h.lp).mono ?_
  · obtain ⟨x', o', e', hc⟩ := hB.2.1 h0
    rw [e'] at e
    injection e with e
    injection e with e1 e2
    have := World.block_lt_of_cell? _ _ (hc 0 h0)
    simp at this
    omega
  · rintro e w' ⟨he, hF⟩
    obtain ⟨F, h1, h2, h3⟩ := QW.refs hT h.1
    exact ⟨he, hide (h3 w' (fun k => k = g) _ hF (fun k _ t => by rw [t]; exact ⟨h2.1.2.1, hg⟩) (ds_stable _ _ _ _ h2.2 (hF.mono (fun k _ t h => h.2 t)) (fun k _ t => t.1)))⟩
theorem DZ.putNo (h : DZ w0 w hp b qb n lim rb wb q qx q' sf B C N bx g bs) (hs : bs.length ≤ 140737488355328) (hE : putE q lim bs ≠ 0) :
    Calls Tryz.prog 23 #[.pointer (some ⟨qb, 0, none⟩), .slice (some ⟨g, 0, none⟩) bs.length (bs.length + 3)] w fun e w' => e = .returned (.tuple #[.int .i64 0, errV (putE q lim bs)]) ∧ Hid (DZ w0 w' hp b qb n lim rb wb q qx q' sf B C N bx g bs) :=
  (QW.putNo dl_stable h.1 _ _ bs (h.lp.bat hs) hE).mono (fun _ _ t => ⟨t.1, hide ⟨unhide t.2, h.2⟩⟩)
theorem DZ.putOk (hl : Lim lim n) (h : DZ w0 w hp b qb n lim rb wb q qx q' sf B C N bx g bs) (hB' : B + 180 * hlf n + 600000 < 576460752303423488) (hC' : C ≤ 140737488355328) (hN' : N < 4611686018427387904) (hs : bs.length ≤ 140737488355328) (hE : putE q lim bs = 0) :
    Calls Tryz.prog 23 #[.pointer (some ⟨qb, 0, none⟩), .slice (some ⟨g, 0, none⟩) bs.length (bs.length + 3)] w fun e w' => e = .returned (.tuple #[.int .i64 ((q.last + 1 : Nat) : Int), .nilIface]) ∧ Hid (DZ w0 w' hp b qb n lim rb wb ⟨q.acked, q.items ++ [bs]⟩ qx q' false (B + 180 * hlf n + 6) (C + 1 + hlf n) (N + 1) bx g bs) :=
  (QW.putOk dl_stable hl h.1 hB' hC' hN' _ _ bs (h.lp.bat hs) hE).mono (fun _ _ t => ⟨t.1, hide ⟨unhide t.2, h.2⟩⟩)

end

end Go.Proofs.YtjkghgcdkfkekaaGreatDoor

/- What each step of QueuePlays makes of the two queues ('DY'), whether it is refused or not. -/
namespace Go.Proofs.YtjkghgcdkfkekaaGreatDoor
open Go.RowKit

/-- An error as a value. -/
def evOf (n : Int) : Value := if n = 0 then .nilIface else errV n

theorem number_any (w : World) (hE : ErrT w) (n : Int) : Calls Tryz.prog 24 #[evOf n] w fun e w' => e = .returned (.int .i64 n) ∧ Fr (fun _ => False) w w' := by
  unfold evOf
  by_cases h : n = 0
  · rw [if_pos h, h]; exact number_nil w
  · rw [if_neg h]; exact number_err w hE n

def putI (q : Qr) (lim : Nat) (bs : Bs) : Int := if putE q lim bs = 0 then ((q.last + 1 : Nat) : Int) else 0
def putQ (q : Qr) (lim : Nat) (bs : Bs) : Qr := if putE q lim bs = 0 then ⟨q.acked, q.items ++ [bs]⟩ else q
def ackE (q : Qr) (s : Int) : Int := if s < 0 ∨ (q.last : Int) < s then 1 else 0
def ackQ (q : Qr) (s : Int) : Qr := if s < 0 ∨ (q.last : Int) < s then q else q.ack s.toNat

/-- A disk of a queue, the document's queue beside it. -/
def DK (w0 w : World) (hp b n lim rb wb : Nat) (q : Qr) (qx : Nat) (q' : Qr) (B C : Nat) (bx : List (Nat × Array Value × TypeId)) (p : Nat) : Prop :=
  ∃ R d, d.armed = false ∧ d.down = false ∧ d.wait = [] ∧ d.pot ≤ B ∧ Dn w R hp b n d ∧ Fnd n d C (TlOf (fun l => qOf l = some q)) ∧ q.Ok lim ∧ Fr (fun _ => False) w0 w ∧ (∀ k, k < w0.heap.size → R k = 0) ∧ Bsd wb (WB wb hp qx rb) (PS w0 rb lim q' none 0 [] bx []) w (fun k => R k = 0) ∧ Dsk w R p b n

section
variable {w0 w w' : World} {hp b qb n lim rb wb : Nat} {q : Qr} {qx : Nat} {q' : Qr} {sf : Bool} {B C N : Nat} {bx : List (Nat × Array Value × TypeId)} {g : Nat} {bs : Bs}

theorem DZ.mono {B' C' N' : Nat} (h : DZ w0 w hp b qb n lim rb wb q qx q' sf B C N bx g bs) (hB : B ≤ B') (hC : C ≤ C') (hN : N ≤ N') : DZ w0 w hp b qb n lim rb wb q qx q' sf B' C' N' bx g bs := ⟨QW.mono h.1 hB hC hN, h.2⟩
theorem DY.unsafe' (h : DY w0 w hp b qb n lim rb wb q qx q' sf B C N bx) : DY w0 w hp b qb n lim rb wb q qx q' false B C N bx := QW.unsafe' h
theorem DY.ok (h : DY w0 w hp b qb n lim rb wb q qx q' sf B C N bx) : q.Ok lim := QW.ok h

theorem DZ.put (hl : Lim lim n) (h : DZ w0 w hp b qb n lim rb wb q qx q' sf B C N bx g bs) (hB' : B + 180 * hlf n + 600000 < 576460752303423488) (hC' : C ≤ 140737488355328) (hN' : N < 4611686018427387904) (hs : bs.length ≤ 140737488355328) :
    Calls Tryz.prog 23 #[.pointer (some ⟨qb, 0, none⟩), .slice (some ⟨g, 0, none⟩) bs.length (bs.length + 3)] w fun e w' => e = .returned (.tuple #[.int .i64 (putI q lim bs), evOf (putE q lim bs)]) ∧ Hid (DZ w0 w' hp b qb n lim rb wb (putQ q lim bs) qx q' false (B + 180 * hlf n + 6) (C + 1 + hlf n) (N + 1) bx g bs) := by
  unfold putI putQ evOf
  by_cases hE : putE q lim bs = 0
  · rw [if_pos hE, if_pos hE, if_pos hE]
    exact h.putOk hl hB' hC' hN' hs hE
  · rw [if_neg hE, if_neg hE, if_neg hE]
    refine (h.putNo hs hE).mono (fun _ _ t => ⟨t.1, hide ?_⟩)
    have h2 := unhide t.2
    exact DZ.mono ⟨QW.unsafe' h2.1, h2.2⟩ (by omega) (by omega) (by omega)
theorem DY.rputs (hT : TabAt w0) (h : DY w0 w hp b qb n lim rb wb q qx q' sf B C N bx) (hl : q'.last ≤ 4294967295) (hli : lim ≤ 4096) (bo : Option Addr) (bc : Nat) (bs : Bs) (hB : BAt w bo bc bs) :
    Calls Tryz.prog 47 #[.pointer (some ⟨rb, 0, none⟩), .slice bo bs.length bc] w fun e w' => e = .returned (.tuple #[.int .i64 (putI q' lim bs), .int .i64 (putE q' lim bs)]) ∧ Hid (DY w0 w' hp b qb n lim rb wb q qx (putQ q' lim bs) sf B C N bx) := by
  unfold putI putQ
  by_cases hE : putE q' lim bs = 0
  · rw [if_pos hE, if_pos hE, hE]
    exact h.rput hT hl hli bo bc bs hB hE
  · rw [if_neg hE, if_neg hE]
    exact h.rputNo hl bo bc bs hB.2.2 hE

theorem DY.ack (hl : Lim lim n) (h : DY w0 w hp b qb n lim rb wb q qx q' sf B C N bx) (hB' : B + 180 * hlf n + 600000 < 576460752303423488) (hC' : C ≤ 140737488355328) (hN' : N < 4611686018427387904) (s : Int) :
    Calls Tryz.prog 44 #[.pointer (some ⟨qb, 0, none⟩), .int .i64 s] w fun e w' => e = .returned (evOf (ackE q s)) ∧ Hid (DY w0 w' hp b qb n lim rb wb (ackQ q s) qx q' false (B + 180 * hlf n + 6) (C + 1 + hlf n) (N + 1) bx) := by
  unfold ackE ackQ evOf
  by_cases hE : s < 0 ∨ (q.last : Int) < s
  · rw [if_pos hE, if_pos hE, if_neg (by decide)]
    exact (QW.ackNo ds_stable h s hE).mono (fun _ _ t => ⟨t.1, hide (DY.mono (DY.unsafe' (unhide t.2)) (by omega) (by omega) (by omega))⟩)
  · rw [if_neg hE, if_neg hE, if_pos rfl]
    obtain ⟨m, rfl⟩ : ∃ m : Nat, s = (m : Int) := ⟨s.toNat, by omega⟩
    rw [Int.toNat_natCast]
    exact QW.ackYes ds_stable hl h hB' hC' hN' m (by omega)
theorem DY.racks (hT : TabAt w0) (h : DY w0 w hp b qb n lim rb wb q qx q' sf B C N bx) (hl : q'.last ≤ 4294967295) (s : Int) :
    Calls Tryz.prog 48 #[.pointer (some ⟨rb, 0, none⟩), .int .i64 s] w fun e w' => e = .returned (.int .i64 (ackE q' s)) ∧ Hid (DY w0 w' hp b qb n lim rb wb q qx (ackQ q' s) sf B C N bx) := by
  unfold ackE ackQ
  by_cases hE : s < 0 ∨ (q'.last : Int) < s
  · rw [if_pos hE, if_pos hE]
    exact h.rackNo hl s hE
  · rw [if_neg hE, if_neg hE]
    obtain ⟨m, rfl⟩ : ∃ m : Nat, s = (m : Int) := ⟨s.toNat, by omega⟩
    rw [Int.toNat_natCast]
    exact h.rack hT hl m (by omega)

theorem DY.sync (h : DY w0 w hp b qb n lim rb wb q qx q' sf B C N bx) (hB' : B + 600000 < 576460752303423488) :
    Calls Tryz.prog 21 #[.pointer (some ⟨qb, 0, none⟩)] w fun e w' => e = .returned .nilIface ∧ Hid (DY w0 w' hp b qb n lim rb wb q qx q' true (B + 2) C N bx) := QW.sync ds_stable h hB'
theorem DY.disk (h : DY w0 w hp b qb n lim rb wb q qx q' true B C N bx) : Calls Tryz.prog 11 #[.pointer (some ⟨hp, 0, none⟩)] w fun e w' => ∃ p, e = .returned (.pointer (some ⟨p, 0, none⟩)) ∧ Hid (DK w0 w' hp b n lim rb wb q qx q' B C bx p) := QD.disk ds_stable (QW.qd ds_stable h)
theorem DK.open {p : Nat} (hl : Lim lim n) (h : DK w0 w hp b n lim rb wb q qx q' B C bx p) (hB' : B + 180 * hlf n + 600000 < 576460752303423488) (hC' : C ≤ 140737488355328) :
    Calls Tryz.prog 26 #[.pointer (some ⟨p, 0, none⟩), .int .i64 (lim : Int)] w fun e w' => ∃ qb', e = .returned (.tuple #[.pointer (some ⟨qb', 0, none⟩), .nilIface]) ∧ Hid (DY w0 w' hp b qb' n lim rb wb q qx q' false (B + 180 * hlf n + 6) (C + 1 + hlf n) 1 bx) := by
  obtain ⟨R, d, h1, h2, h3, h4, h5, h6, h7, h8, h9, h10, h11⟩ := h
  exact QD.open ds_stable hl h1 h2 h3 h4 h5 h6 h7 h8 h9 h10 h11 hB' hC'
theorem DK.named {p : Nat} (h : DK w0 w hp b n lim rb wb q qx q' B C bx p) : WB wb hp qx rb w := by
  obtain ⟨R, d, h1, h2, h3, h4, h5, h6, h7, h8, h9, h10, h11⟩ := h
  exact h10.1.1
theorem PS.heads {so : Option Addr} {sc : Nat} {stood : List Qr} {cl : List (Nat × Qr)} {F : Nat → Prop} (h : PS w0 rb lim q so sc stood bx cl w F) : w.cell? ⟨rb, 0, none⟩ = some (.int .i64 (lim : Int)) ∧ w.cell? ⟨rb, 1, none⟩ = some (.int .i64 (q.acked : Int)) := by
  obtain ⟨M, E, hr⟩ := h.rf
  obtain ⟨io, cap, g, off, hb, _⟩ := hr.ex
  exact ⟨hb.cell 0, hb.cell 1⟩
theorem DK.heads {p : Nat} (h : DK w0 w hp b n lim rb wb q qx q' B C bx p) : w.cell? ⟨rb, 0, none⟩ = some (.int .i64 (lim : Int)) := by
  obtain ⟨R, d, h1, h2, h3, h4, h5, h6, h7, h8, h9, h10, h11⟩ := h
  exact h10.2.heads.1
theorem DY.heads (h : DY w0 w hp b qb n lim rb wb q qx q' sf B C N bx) : w.cell? ⟨rb, 0, none⟩ = some (.int .i64 (lim : Int)) ∧ w.cell? ⟨rb, 1, none⟩ = some (.int .i64 (q'.acked : Int)) := by
  obtain ⟨F, hp⟩ := h.ps
  exact hp.heads

theorem DY.peek (hl : Lim lim n) (h : DY w0 w hp b qb n lim rb wb q qx q' sf B C N bx) (most : Int) : Calls Tryz.prog 30 #[.pointer (some ⟨qb, 0, none⟩), .int .i64 most] w (PeekPost w q.acked (q.items.take most.toNat)) :=
  (QW.peek ds_stable hl h most).mono (fun _ _ t => t.1)
theorem DY.rpeek (hl : Lim lim n) (h : DY w0 w hp b qb n lim rb wb q qx q sf B C N bx) (most : Int) {u : World} (hu : Fr (fun _ => False) w u) : Calls Tryz.prog 50 #[.pointer (some ⟨rb, 0, none⟩), .int .i64 most] u (RPeek u q.acked (q.items.take most.toNat)) := by
  obtain ⟨F, h1⟩ := (h.keep hu).ps
  obtain ⟨M, E, hR⟩ := h1.rf
  exact rpeekm_any u rb lim q hR (h.ok.mono hl.le) most

end

/-- The bytes of items. -/
def valsOf (vs : List Value) (m : Nat) : List Value := (List.range m).map fun j => (vs[j * 2 + 1]?).getD (.bool false)
theorem valsOf_length (vs : List Value) (m : Nat) : (valsOf vs m).length = m := by simp [valsOf]
theorem valsOf_get {vs : List Value} {m j : Nat} {v : Value} (hj : j < m) (h : vs[j * 2 + 1]? = some v) : (valsOf vs m)[j]? = some v := by
  simp [valsOf, hj, h]
theorem valsOf_take (vs : List Value) (m i : Nat) (h : i ≤ m) : (valsOf vs m).take i = valsOf vs i := by
  unfold valsOf
  rw [← List.map_take, List.take_range, Nat.min_eq_left h]
theorem valsOf_succ {vs : List Value} {i : Nat} {v : Value} (h : vs[i * 2 + 1]? = some v) : valsOf vs (i + 1) = valsOf vs i ++ [v] := by
  simp [valsOf, List.range_succ, h]

/-- Items that came out, as what Owned takes. -/
theorem handed_of {Q : Nat → Prop} {w : World} {ao lo : Option Addr} {cap g' gl lc ga z a : Nat} {vs : List Value} {l : List Bs} (hK : KRow w lo lc gl 2 vs) (hP : PkEls Q w vs a l) (hO : PkOne w z vs ga l) (hz : z ≤ w.heap.size) (hV : VRow w ao cap g' (valsOf vs l.length)) (hgl : 0 < l.length → gl ≠ g') (hga : 0 < l.length → ga < z → ga ≠ g') (hfew : l.length ≤ 4096) (hs : ∀ b ∈ l, b.length ≤ 256) :
    ∃ g rb ds, (g = gl ∨ g = ga) ∧ (0 < l.length → rb = g') ∧ Handed1 w rb l.length g ds := by
  have hL := hP.1
  have hap : ∀ j k (hjk : j < k) (hk : k < l.length), (flatB (l.take j)).length + (l[j]'(Nat.lt_trans hjk hk)).length ≤ (flatB (l.take k)).length := fun j k hjk hk => by
    have h1 := flatB_snoc l j (by omega)
    have h2 := flatB_le (l.take k) (j + 1)
    rw [List.take_take, Nat.min_eq_left (by omega), h1, List.length_append] at h2
    exact h2
  by_cases h0 : 0 < l.length
  · have hlc : 0 < lc := by have := hK.le; omega
    have hgll : gl < w.heap.size := hK.lt (by omega) hlc
    have hds : ∀ j (hj : j < l.length), ∃ bo, vs[j * 2 + 1]? = some (.slice bo l[j].length l[j].length) ∧ (0 < l[j].length → ga < z ∧ bo = some ⟨ga, (flatB (l.take j)).length, none⟩ ∧ (∀ i, i < l[j].length → w.frozen? ⟨ga, (flatB (l.take j)).length + i, none⟩ = false) ∧ ∀ i (hi : i < l[j].length), w.cell? ⟨ga, (flatB (l.take j)).length + i, none⟩ = some (.int .u8 (l[j][i].toNat))) := fun j hj => by
      obtain ⟨bo, h1, h2⟩ := hO j hj
      refine ⟨bo, h1, fun hp => ?_⟩
      obtain ⟨k1, k2, k3⟩ := h2 hp
      refine ⟨k1, k2, k3, fun i hi => ?_⟩
      obtain ⟨_, bo', bc', e1, e2, _⟩ := hP.2 j hj
      rw [h1] at e1
      injection e1 with e1
      injection e1 with e1 _ _
      subst e1
      obtain ⟨x, off, e3, e4⟩ := e2.2.1 hp
      rw [k2] at e3
      injection e3 with e3
      injection e3 with e3 e5
      subst e3 e5
      exact e4 i hi
    obtain ⟨ds, hds'⟩ : ∃ ds : Nat → RO, ∀ j (hj : j < l.length), vs[j * 2 + 1]? = some (ds j).val ∧ (ds j).n = l[j].length ∧ (ds j).o = (flatB (l.take j)).length ∧ (0 < l[j].length → ga < z ∧ (ds j).ao = some ⟨ga, (flatB (l.take j)).length, none⟩ ∧ (∀ i, i < l[j].length → w.frozen? ⟨ga, (flatB (l.take j)).length + i, none⟩ = false) ∧ ∀ i (hi : i < l[j].length), w.cell? ⟨ga, (flatB (l.take j)).length + i, none⟩ = some (.int .u8 (l[j][i].toNat))) := by
      obtain ⟨ds, hd⟩ : ∃ ds : Nat → RO, ∀ j (hj : j < l.length), ds j = ⟨Classical.choose (hds j hj), l[j].length, (flatB (l.take j)).length⟩ := ⟨fun j => if hj : j < l.length then ⟨Classical.choose (hds j hj), l[j].length, (flatB (l.take j)).length⟩ else ⟨none, 0, 0⟩, fun j hj => dif_pos hj⟩
      refine ⟨ds, fun j hj => ?_⟩
      have hc := Classical.choose_spec (hds j hj)
      rw [hd j hj]
      exact ⟨hc.1, rfl, rfl, hc.2⟩
    have hdr : ∀ j, j < l.length → w.cell? ⟨g', j, none⟩ = some (ds j).val := fun j hj => by
      have h1 := hV.cells j (by rw [valsOf_length]; exact hj)
      have h2 := valsOf_get hj (hds' j hj).1
      rw [List.getElem?_eq_getElem (by rw [valsOf_length]; exact hj)] at h2
      injection h2 with h2
      rw [h1, h2]
    have hapd : ∀ j k, j < k → k < l.length → (ds j).o + (ds j).n ≤ (ds k).o := fun j k hjk hk => by
      rw [(hds' j (by omega)).2.1, (hds' j (by omega)).2.2.1, (hds' k hk).2.2.1]
      exact hap j k hjk hk
    have hfit : ∀ j, j < l.length → (ds j).n + 9 ≤ 140737488355328 := fun j hj => by
      rw [(hds' j hj).2.1]
      have := hs _ (List.getElem_mem hj)
      omega
    by_cases hex : ∃ i, ∃ h : i < l.length, 0 < l[i].length
    · obtain ⟨i0, hi0, hp0⟩ := hex
      have hg := ((hds' i0 hi0).2.2.2 hp0).1
      refine ⟨ga, g', ds, .inr rfl, fun _ => rfl, hdr, fun j hj => ?_, hapd, hga h0 hg, fun _ => by omega, hfit, by omega⟩
      obtain ⟨e1, e2, e3, e4⟩ := hds' j hj
      refine ⟨bytesV l[j], by rw [bytesV_length, e2], fun hn => ?_, fun i hi => ?_, fun i hi => ?_, bytesV_one _⟩
      · rw [e3]; exact (e4 (by omega)).2.1
      · rw [bytesV_length] at hi
        rw [e3, (e4 (by omega)).2.2.2 i hi]
        simp [bytesV]
      · rw [bytesV_length] at hi
        rw [e3]; exact (e4 (by omega)).2.2.1 i hi
    · have hz0 : ∀ j (hj : j < l.length), l[j].length = 0 := fun j hj => Classical.byContradiction (fun t => hex ⟨j, hj, by omega⟩)
      refine ⟨gl, g', ds, .inl rfl, fun _ => rfl, hdr, fun j hj => ?_, hapd, hgl h0, fun _ => hgll, hfit, by omega⟩
      have e2 := (hds' j hj).2.1
      rw [hz0 j hj] at e2
      exact ⟨[], by rw [e2]; rfl, fun hn => by omega, fun i hi => absurd hi (by simp), fun i hi => absurd hi (by simp), fun u hu => by cases hu⟩
  · exact ⟨gl, gl + 1, fun _ => ⟨none, 0, 0⟩, .inl rfl, fun t => absurd t h0, fun j hj => by omega, fun j hj => by omega, fun j k _ hk => by omega, by omega, fun t => absurd t h0, fun j hj => by omega, by omega⟩

end Go.Proofs.YtjkghgcdkfkekaaGreatDoor

/- Contract: does, one step of QueuePlays' script on both queues. -/
namespace Go.Proofs.YtjkghgcdkfkekaaGreatDoor
open Go.RowKit

/-- What does leaves. -/
def DoesR (w0 : World) (hp b n lim rb wb B C N : Nat) (e : Ending) (w' : World) : Prop :=
  e = .returned (.bool true) ∧ ∃ qb q, Hid (DY w0 w' hp b qb n lim rb wb q qb q false B C N [])

theorem DoesR.of {w0 w' : World} {hp b n lim rb wb B C N qb B' C' N' : Nat} {q q' : Qr} {y : Nat × Array Value × TypeId} (hT : TabAt w0) (h : DY w0 w' hp b qb n lim rb wb q qb q' false B' C' N' [y]) (e : q' = q) (hB : B' ≤ B) (hC : C' ≤ C) (hN : N' ≤ N) : DoesR w0 hp b n lim rb wb B C N (.returned (.bool true)) w' := by
  subst e
  exact ⟨rfl, qb, q', hide ((h.less hT).mono hB hC hN)⟩

set_option maxHeartbeats 4000000 in
set_option maxRecDepth 20000 in
theorem does_any (w0 w : World) {hp b qb n lim rb wb : Nat} {q : Qr} {B C N : Nat} (hT : TabAt w0) (hE : ErrT w0) (hl : Lim lim n) (hw : w0.heap.size ≤ wb) (x : OpQ) (hx : x.ok w0) (h : DY w0 w hp b qb n lim rb wb q qb q false B C N []) (hB' : B + 180 * hlf n + 700000 < 576460752303423488) (hC' : C ≤ 140737488355328) (hN' : N < 4611686018427387904) :
    Calls Tryz.prog 16 #[.pointer (some ⟨wb, 0, none⟩), .agg #[.int .i64 x.kind, .int .i64 x.num, .slice x.bo x.bs.length x.bc]] w (DoesR w0 hp b n lim rb wb (B + 180 * hlf n + 8) (C + 1 + hlf n) (N + 1)) := by
  have HV := hide (h.more hT #[.int .i64 x.kind, .int .i64 x.num, .slice x.bo x.bs.length x.bc] 54)
  have HH := hide (And.intro hT (And.intro hE (And.intro hl (And.intro hx (And.intro hw (And.intro hB' (And.intro hC' (And.intro hN' h.ok))))))))
  have HF : Hid (∀ u, Fr (fun _ => False) w0 u → ErrT u) := hide (fun u hu => hE.later hu)
  have hbi : (x.bs.length : Int) ≤ 140737488355328 := by have := hx.bytes.2.2; omega
  have hla : (q.last : Int) ≤ 4294967295 := by have := h.ok.last; omega
  clear h hT hE hl hx hB' hC' hN' hw
  go_enter Tryz.func16, Tryz.ntmps16
  go_upto_region 1 with (fail)
  generalize w.alloc (.cells #[.int .i64 x.kind, .int .i64 x.num, .slice x.bo x.bs.length x.bc] 54) = v at *
  generalize w.heap.size = og at *
  have d0 : v.cell? ⟨og, 0, none⟩ = some (.int .i64 x.kind) := ((unhide HV).box (List.mem_cons_self)).cell 0
  by_cases hk0 : x.kind = 0
  · have d2 : v.cell? ⟨og, 2, none⟩ = some (.slice x.bo x.bs.length x.bc) := ((unhide HV).box (List.mem_cons_self)).cell 2
    have LN := hide ((unhide HV).lent (unhide HH).1 x.bo x.bc x.bs ((unhide HH).2.2.2.1.bytes.later (unhide HV).fr))
    go_wp2_with fail
    refine (unhide LN).mono ?_
    rintro e w1 ⟨g, rfl, H1⟩
    clear LN HV d0 d2
    have c1 : w1.cell? ⟨wb, 1, none⟩ = some (.pointer (some ⟨qb, 0, none⟩)) := (unhide H1).named.cell 1
    have PU : Hid (Calls Tryz.prog 23 #[.pointer (some ⟨qb, 0, none⟩), .slice (some ⟨g, 0, none⟩) x.bs.length (x.bs.length + 3)] w1 fun e w' => e = .returned (.tuple #[.int .i64 (putI q lim x.bs), evOf (putE q lim x.bs)]) ∧ Hid (DZ w0 w' hp b qb n lim rb wb (putQ q lim x.bs) qb q false (B + 180 * hlf n + 6) (C + 1 + hlf n) (N + 1) [(og, #[.int .i64 x.kind, .int .i64 x.num, .slice x.bo x.bs.length x.bc], 54)] g x.bs)) := by
      obtain ⟨hT, hE, hl, hx, hw, hB', hC', hN', hok⟩ := unhide HH
      exact hide ((unhide H1).put hl (by omega) hC' hN' (by omega))
    have RP : Hid (∀ u sf B C N, DY w0 u hp b qb n lim rb wb (putQ q lim x.bs) qb q sf B C N [(og, #[.int .i64 x.kind, .int .i64 x.num, .slice x.bo x.bs.length x.bc], 54)] → Calls Tryz.prog 47 #[.pointer (some ⟨rb, 0, none⟩), .slice x.bo x.bs.length x.bc] u fun e w' => e = .returned (.tuple #[.int .i64 (putI q lim x.bs), .int .i64 (putE q lim x.bs)]) ∧ Hid (DY w0 w' hp b qb n lim rb wb (putQ q lim x.bs) qb (putQ q lim x.bs) sf B C N [(og, #[.int .i64 x.kind, .int .i64 x.num, .slice x.bo x.bs.length x.bc], 54)])) := by
      obtain ⟨hT, hE, hl, hx, hw, hB', hC', hN', hok⟩ := unhide HH
      exact hide (fun u sf B C N hu => hu.rputs hT (by omega) hl.le x.bo x.bc x.bs (hx.bytes.later hu.fr))
    generalize putI q lim x.bs = iv at *
    generalize putE q lim x.bs = pe at *
    generalize putQ q lim x.bs = q2 at *
    go_wp2_with fail
    refine (unhide PU).mono ?_
    rintro e w2 ⟨rfl, H2⟩
    clear PU H1 c1
    have d2 : w2.cell? ⟨og, 2, none⟩ = some (.slice x.bo x.bs.length x.bc) := ((unhide H2).box (List.mem_cons_self)).cell 2
    have BK := hide ((unhide H2).back (unhide HH).1 x.bo x.bc (unhide HH).2.2.2.1.bytes)
    go_wp2_with fail
    refine (unhide BK).mono ?_
    rintro e w3 ⟨rfl, H3⟩
    clear BK H2 d2
    have HC : Hid (∀ u sf B C N q', DY w0 u hp b qb n lim rb wb q2 qb q' sf B C N [(og, #[.int .i64 x.kind, .int .i64 x.num, .slice x.bo x.bs.length x.bc], 54)] → u.cell? ⟨wb, 2, none⟩ = some (.pointer (some ⟨rb, 0, none⟩)) ∧ u.cell? ⟨og, 2, none⟩ = some (.slice x.bo x.bs.length x.bc)) := hide (fun u sf B C N q' hu => ⟨hu.named.cell 2, (hu.box (List.mem_cons_self)).cell 2⟩)
    have H3d := hide ((unhide H3).keep (Fr.refl _ _).drew)
    go_upto_region 6 with (fail)
    go_region_held3 (fun u => u.cell? ⟨wb, 2, none⟩ = some (.pointer (some ⟨rb, 0, none⟩)) ∧ u.cell? ⟨og, 2, none⟩ = some (.slice x.bo x.bs.length x.bc)) (first | exact unhide HC _ _ _ _ _ _ (unhide H3) | exact unhide HC _ _ _ _ _ _ (unhide H3d) | exact unhide HC _ _ _ _ _ _ (unhide H4)) (first | (go_at_call 47; refine (unhide RP _ _ _ _ _ (unhide H3d)).mono ?_; rintro e w4 ⟨rfl, H4⟩))
    have NU := hide (number_any w4 (unhide HF _ (unhide H4).fr) pe)
    have hii : (iv == iv) = true := by simp
    have hpp : (pe == pe) = true := by simp
    clear H3 H3d RP HC
    go_wp2_with fail
    refine (unhide NU).mono ?_
    rintro e w5 ⟨rfl, hf5⟩
    have H5 := hide ((unhide H4).keep hf5)
    clear NU H4 hf5
    go_wp2
    go_ret
    exact DoesR.of (unhide HH).1 (unhide H5) rfl (by omega) (Nat.le_refl _) (Nat.le_refl _)
  · have hk0b : (x.kind == 0) = false := by simpa using hk0
    by_cases hk1 : x.kind = 1
    · have HC : Hid (∀ u sf B C N q2 q', DY w0 u hp b qb n lim rb wb q2 qb q' sf B C N [(og, #[.int .i64 x.kind, .int .i64 x.num, .slice x.bo x.bs.length x.bc], 54)] → u.cell? ⟨wb, 1, none⟩ = some (.pointer (some ⟨qb, 0, none⟩)) ∧ u.cell? ⟨wb, 2, none⟩ = some (.pointer (some ⟨rb, 0, none⟩)) ∧ u.cell? ⟨og, 1, none⟩ = some (.int .i64 x.num)) := hide (fun u sf B C N q2 q' hu => ⟨hu.named.cell 1, hu.named.cell 2, (hu.box (List.mem_cons_self)).cell 1⟩)
      have HVd := hide ((unhide HV).keep (Fr.refl _ _).drew)
      have AK : Hid (Calls Tryz.prog 44 #[.pointer (some ⟨qb, 0, none⟩), .int .i64 x.num] v.drew fun e w' => e = .returned (evOf (ackE q x.num)) ∧ Hid (DY w0 w' hp b qb n lim rb wb (ackQ q x.num) qb q false (B + 180 * hlf n + 6) (C + 1 + hlf n) (N + 1) [(og, #[.int .i64 x.kind, .int .i64 x.num, .slice x.bo x.bs.length x.bc], 54)])) := by
        obtain ⟨hT, hE, hl, hx, hw, hB', hC', hN', hok⟩ := unhide HH
        exact hide ((unhide HVd).ack hl (by omega) hC' hN' x.num)
      have RA : Hid (∀ u sf B C N q2, DY w0 u hp b qb n lim rb wb q2 qb q sf B C N [(og, #[.int .i64 x.kind, .int .i64 x.num, .slice x.bo x.bs.length x.bc], 54)] → Calls Tryz.prog 48 #[.pointer (some ⟨rb, 0, none⟩), .int .i64 x.num] u fun e w' => e = .returned (.int .i64 (ackE q x.num)) ∧ Hid (DY w0 w' hp b qb n lim rb wb q2 qb (ackQ q x.num) sf B C N [(og, #[.int .i64 x.kind, .int .i64 x.num, .slice x.bo x.bs.length x.bc], 54)])) := by
        obtain ⟨hT, hE, hl, hx, hw, hB', hC', hN', hok⟩ := unhide HH
        exact hide (fun u sf B C N q2 hu => hu.racks hT (by omega) x.num)
      generalize ackE q x.num = ae at *
      generalize ackQ q x.num = q2 at *
      go_upto_region 9 with (fail)
      go_region_held3 (fun u => u.cell? ⟨wb, 1, none⟩ = some (.pointer (some ⟨qb, 0, none⟩)) ∧ u.cell? ⟨og, 1, none⟩ = some (.int .i64 x.num)) (first | exact ⟨(unhide HC _ _ _ _ _ _ _ (unhide HV)).1, (unhide HC _ _ _ _ _ _ _ (unhide HV)).2.2⟩ | exact ⟨(unhide HC _ _ _ _ _ _ _ (unhide HVd)).1, (unhide HC _ _ _ _ _ _ _ (unhide HVd)).2.2⟩ | exact ⟨(unhide HC _ _ _ _ _ _ _ (unhide H1)).1, (unhide HC _ _ _ _ _ _ _ (unhide H1)).2.2⟩) (first | (go_at_call 44; refine (unhide AK).mono ?_; rintro e w1 ⟨rfl, H1⟩))
      clear AK HV HVd d0
      have H1d := hide ((unhide H1).keep (Fr.refl _ _).drew)
      have haa : (ae == ae) = true := by simp
      have NU : Hid (∀ u sf B C N q2 q', DY w0 u hp b qb n lim rb wb q2 qb q' sf B C N [(og, #[.int .i64 x.kind, .int .i64 x.num, .slice x.bo x.bs.length x.bc], 54)] → Calls Tryz.prog 24 #[evOf ae] u fun e w' => e = .returned (.int .i64 ae) ∧ Hid (DY w0 w' hp b qb n lim rb wb q2 qb q' sf B C N [(og, #[.int .i64 x.kind, .int .i64 x.num, .slice x.bo x.bs.length x.bc], 54)])) := hide (fun u sf B C N q2 q' hu => (number_any u (unhide HF _ hu.fr) ae).mono (fun _ _ t => ⟨t.1, hide (hu.keep t.2)⟩))
      go_upto_region 10 with (fail)
      go_region_held3 (fun u => u.cell? ⟨wb, 2, none⟩ = some (.pointer (some ⟨rb, 0, none⟩)) ∧ u.cell? ⟨og, 1, none⟩ = some (.int .i64 x.num)) (first | exact (unhide HC _ _ _ _ _ _ _ (unhide H1)).2 | exact (unhide HC _ _ _ _ _ _ _ (unhide H1d)).2 | exact (unhide HC _ _ _ _ _ _ _ (unhide H2)).2 | exact (unhide HC _ _ _ _ _ _ _ (unhide H3)).2) (first | (go_at_call 24; first | (refine (unhide NU _ _ _ _ _ _ _ (unhide H1d)).mono ?_; rintro e w2 ⟨rfl, H2⟩) | (refine (unhide NU _ _ _ _ _ _ _ (unhide H2)).mono ?_; rintro e w3 ⟨rfl, H3⟩)) | (go_at_call 48; first | (refine (unhide RA _ _ _ _ _ _ (unhide H1d)).mono ?_; rintro e w2 ⟨rfl, H2⟩) | (refine (unhide RA _ _ _ _ _ _ (unhide H2)).mono ?_; rintro e w3 ⟨rfl, H3⟩)))
      all_goals
        go_wp2
        go_ret
        exact DoesR.of (unhide HH).1 (unhide H3) rfl (by omega) (Nat.le_refl _) (Nat.le_refl _)
    · have hk1b : (x.kind == 1) = false := by simpa using hk1
      by_cases hk2 : x.kind = 2
      · have c1 : v.cell? ⟨wb, 1, none⟩ = some (.pointer (some ⟨qb, 0, none⟩)) := (unhide HV).named.cell 1
        have SY := hide ((unhide HV).sync (by have := (unhide HH).2.2.2.2.2.1; omega))
        go_wp2_with fail
        refine (unhide SY).mono ?_
        rintro e w1 ⟨rfl, H1⟩
        clear SY HV d0 c1
        go_wp2
        go_ret
        exact DoesR.of (unhide HH).1 (unhide H1).unsafe' rfl (by omega) (by omega) (by omega)
      · have hk2b : (x.kind == 2) = false := by simpa using hk2
        have HC : Hid (∀ u, Fr (fun _ => False) v u → u.cell? ⟨wb, 1, none⟩ = some (.pointer (some ⟨qb, 0, none⟩)) ∧ u.cell? ⟨wb, 2, none⟩ = some (.pointer (some ⟨rb, 0, none⟩)) ∧ u.cell? ⟨og, 1, none⟩ = some (.int .i64 x.num)) := hide (fun u hu => ⟨((unhide HV).keep hu).named.cell 1, ((unhide HV).keep hu).named.cell 2, (((unhide HV).keep hu).box (List.mem_cons_self)).cell 1⟩)
        by_cases hk3 : x.kind = 3
        · obtain ⟨L, hL⟩ : ∃ L, L = q.items.take x.num.toNat := ⟨_, rfl⟩
          have HL : Hid (L.length ≤ 4096 ∧ (∀ y ∈ L, y.length ≤ 256) ∧ q.acked ≤ 4294967295) := by
            have hok := (unhide HH).2.2.2.2.2.2.2.2.mono (unhide HH).2.2.1.le
            have h1 := hok.many
            have h2 := hok.last
            have h3 : q.last = q.acked + q.items.length := rfl
            exact hide ⟨by rw [hL, List.length_take]; omega, fun y hy => hok.it y (by rw [hL] at hy; exact List.mem_of_mem_take hy), by omega⟩
          have hLI : (L.length : Int) ≤ 4096 := by have := (unhide HL).1; omega
          have PK : Hid (Calls Tryz.prog 30 #[.pointer (some ⟨qb, 0, none⟩), .int .i64 x.num] v.drew fun e w' => ∃ lo lc, e = .returned (.slice lo L.length lc) ∧ ∃ gl ga vs, Hid (KRow w' lo lc gl 2 vs ∧ PkEls (fun k => k = ga) w' vs q.acked L ∧ PkOne w' w'.heap.size vs ga L ∧ Fr (fun _ => False) v w' ∧ v.heap.size ≤ gl ∧ v.heap.size ≤ ga)) := by
            have h := ((unhide HV).keep (Fr.refl _ _).drew).peek (unhide HH).2.2.1 x.num
            rw [← hL] at h
            refine hide (h.mono ?_)
            rintro e w' ⟨lo, lc, gl, ga, vs, h1, h2, h3, h4, h5, h6, h7, h8⟩
            exact ⟨lo, lc, h1, gl, ga, vs, hide ⟨h2, h3, h8, ((Fr.refl _ _).drew).trans h4 (fun _ _ t => t), h5, h6⟩⟩
          have RP : Hid (∀ u, Fr (fun _ => False) v u → Calls Tryz.prog 50 #[.pointer (some ⟨rb, 0, none⟩), .int .i64 x.num] u fun e w' => ∃ ro rc, e = .returned (.slice ro L.length rc) ∧ ∃ gr vr, Hid (KRow w' ro rc gr 2 vr ∧ PkEls (fun k => u.heap.size ≤ k) w' vr q.acked L ∧ Fr (fun _ => False) u w')) := by
            refine hide (fun u hu => ?_)
            have h := (unhide HV).rpeek (unhide HH).2.2.1 x.num hu
            rw [← hL] at h
            refine h.mono ?_
            rintro e w' ⟨ro, rc, gr, vr, h1, h2, h3, h4⟩
            exact ⟨ro, rc, h1, gr, vr, hide ⟨h2, h3, h4⟩⟩
          obtain ⟨i2, hi2, hz20, hz21, hz22⟩ := info_parts Tryz.info28
          have HI := hide hi2
          clear hL hi2
          go_upto_region 15 with (fail)
          go_region_held3 (fun u => u.cell? ⟨wb, 1, none⟩ = some (.pointer (some ⟨qb, 0, none⟩)) ∧ u.cell? ⟨og, 1, none⟩ = some (.int .i64 x.num)) (first | exact ⟨(unhide HC _ (Fr.refl _ _)).1, (unhide HC _ (Fr.refl _ _)).2.2⟩ | exact ⟨(unhide HC _ (Fr.refl _ _).drew).1, (unhide HC _ (Fr.refl _ _).drew).2.2⟩ | exact ⟨(unhide HC _ (unhide H1).2.2.2.1).1, (unhide HC _ (unhide H1).2.2.2.1).2.2⟩) (first | (go_at_call 30; refine (unhide PK).mono ?_; rintro e w1 ⟨lo, lc, rfl, gl, ga, vs, H1⟩))
          clear PK d0
          have RPd := hide (unhide RP _ ((unhide H1).2.2.2.1.drew))
          have SM : Hid (∀ w2 ro rc gr vr, (KRow w2 ro rc gr 2 vr ∧ PkEls (fun k => w1.drew.heap.size ≤ k) w2 vr q.acked L ∧ Fr (fun _ => False) w1.drew w2) → Calls Tryz.prog 49 #[.slice lo L.length lc, .slice ro L.length rc] w2 fun e w' => e = .returned (.bool true) ∧ Hid (Fr (fun _ => False) w1 w')) := by
            refine hide (fun w2 ro rc gr vr h => ?_)
            obtain ⟨j1, j2, j3⟩ := h
            obtain ⟨k1, k2, k3, k4, k5, k6⟩ := unhide H1
            obtain ⟨l1, l2, l3⟩ := unhide HL
            have f2 : Fr (fun _ => False) w1 w2 := ((Fr.refl _ _).drew).trans j3 (fun _ _ t => t)
            refine (isame_any w2 lo ro lc rc gl gr vs vr q.acked q.acked L L (k1.keep (by omega) f2) (k2.frame f2 (fun _ _ t => t)) j1 j2 l1 l1 ⟨l3, l3⟩).mono ?_
            rintro e w' ⟨r, h1, h2, h3⟩
            rw [h2 rfl rfl] at h1
            exact ⟨h1, hide (f2.trans h3 (fun _ _ t => t))⟩
          clear RP
          go_upto_region 16 with (fail)
          go_region_held3 (fun u => u.cell? ⟨wb, 2, none⟩ = some (.pointer (some ⟨rb, 0, none⟩)) ∧ u.cell? ⟨og, 1, none⟩ = some (.int .i64 x.num)) (first | exact (unhide HC _ (unhide H1).2.2.2.1).2 | exact (unhide HC _ (unhide H1).2.2.2.1.drew).2 | exact (unhide HC _ ((unhide H1).2.2.2.1.drew.trans (unhide H2).2.2 (fun _ _ t => t))).2 | exact (unhide HC _ ((unhide H1).2.2.2.1.trans (unhide H3) (fun _ _ t => t))).2) (first | (go_at_call 50; refine (unhide RPd).mono ?_; rintro e w2 ⟨ro, rc, rfl, gr, vr, H2⟩) | (go_at_call 49; refine (unhide SM _ _ _ _ _ (unhide H2)).mono ?_; rintro e w3 ⟨rfl, H3⟩))
          clear RPd SM H2
          go_wp2
          go_loopw [15, 16] (fun av iv wr => ∃ i : Nat, i ≤ L.length ∧ iv = .int .i64 i ∧ ∃ ao cap g', av = .slice ao i cap ∧ Hid (VRow wr ao cap g' (valsOf vs i) ∧ (0 < cap → w3.heap.size ≤ g') ∧ Fr (fun _ => False) w3 wr)) (fun _ iv _ => L.length - (intOf iv).toNat)
          case atStart => exact ⟨0, Nat.zero_le _, rfl, none, 0, 0, rfl, hide ⟨VRow.nil _ 0, fun h => absurd h (by omega), Fr.refl _ _⟩⟩
          case round =>
            obtain ⟨i, hi, rfl, ao, cap, g', rfl, HS⟩ := hrel
            by_cases hlt : i < L.length
            · have hiI : (i : Int) < (L.length : Int) := by omega
              obtain ⟨bo, hb1, _⟩ := (unhide H1).2.2.1 i hlt
              have hvl := (unhide H1).2.1.1
              have hkl := (unhide H1).1.le
              obtain rfl : lo = some ⟨gl, 0, none⟩ := (unhide H1).1.ad (by omega)
              have F1 := hide ((unhide H3).trans (unhide HS).2.2 (fun _ _ t => t))
              have cx : wr.cell? ⟨gl, i * 2 + 1, none⟩ = some (.slice bo L[i].length L[i].length) := by
                have h := ((unhide H1).1.keep (by omega) (unhide F1)).cells (i * 2 + 1) (by omega)
                rw [h, ← hb1, List.getElem?_eq_getElem (by omega)]
              have HSU := hide (valsOf_succ hb1)
              clear hb1 hvl hkl
              generalize L[i].length = X at *
              go_wp2_with (at_builtin; refine wpList_append_vrow _ rfl (.tmp 117) (.tmp 123) 23 23 rfl 28 i2 (.slice none 0 0) Tryz.underlying23 (unhide HI) hz20 rfl hz21 (ao := ao) (cap := cap) (g := g') (n := i) (vs := valsOf vs i) rfl ((unhide HS).1.stay (fun hc => Below.heap_alloc _ _ _ ((unhide HS).1.lt hc))) (valsOf_length _ _) _ [.slice bo X X] 1 rfl rfl (src_one (P := Tryz.prog) wr [.slice bo X X] 23 28 1 Tryz.underlying23 rfl (fun u hu => by simp at hu; subst hu; rfl) (fun j => ((Bx.new wr #[.slice bo X X] 28).cell j).trans (by simp))) (by rw [hz22]; omega) (by omega) ?_)
              intro ao' cap' w4 g2 hrow hgr
              rw [← unhide HSU] at hrow
              have hN : VRow w4 ao' cap' g2 (valsOf vs (i + 1)) ∧ (0 < cap' → w3.heap.size ≤ g2) ∧ Fr (fun _ => False) w3 w4 := by
                obtain ⟨s1, s2, s3⟩ := unhide HS
                have hsz := s3.size
                refine ⟨hrow, fun hc => ?_, ?_⟩
                · rcases hgr with ⟨e1, e2, _⟩ | ⟨e1, _, _⟩
                  · rw [e1]; exact s2 (by omega)
                  · simp at e1; omega
                · have f0 := s3.alloc (.cells #[.slice bo X X] 28)
                  rcases hgr with ⟨_, _, hf⟩ | ⟨_, _, hf⟩
                  · exact f0.trans hf (fun k hk t => by have := s2 t.2; have := t.1; omega)
                  · exact f0.trans hf (fun _ _ t => t.elim)
              have HN := hide hN
              clear hrow hgr hN HSU F1 cx
              go_wp2
              exact ⟨⟨i + 1, by omega, by go_num, ao', cap', g2, rfl, HN⟩, by simp [intOf]; omega⟩
            · obtain rfl : i = L.length := by omega
              have hiI : decide ((L.length : Int) < (L.length : Int)) = false := by simp
              have hiN : decide (L.length < L.length) = false := by simp
              have OW : Hid (Calls Tryz.prog 51 #[.slice ao L.length cap] wr fun e w' => e = .returned (.bool true) ∧ Hid (Fr (fun _ => False) v w')) := by
                obtain ⟨k1, k2, k3, k4, k5, k6⟩ := unhide H1
                obtain ⟨l1, l2, l3⟩ := unhide HL
                obtain ⟨s1, s2, s3⟩ := unhide HS
                have f3 := (unhide H3).trans s3 (fun _ _ t => t)
                have hz1 := (unhide H3).size
                have hz2 := f3.size
                have hle := s1.le
                rw [valsOf_length] at hle
                have hvl := k2.1
                have hkl := k1.le
                obtain ⟨g, rb2, ds, hg, hrb, hH⟩ := handed_of (k1.keep (by omega) f3) (k2.frame f3 (fun _ _ t => t)) (k3.frame (Nat.le_refl _) f3 (fun _ t => t)) hz2 s1 (fun h0 => by have := k1.lt (by omega) (by omega); have := s2 (by omega); omega) (fun h0 hz => by have := s2 (by omega); omega) l1 l2
                refine hide ((owned_one wr ao rb2 L.length cap g (fun h0 => by rw [hrb h0]; exact s1.ad (by omega)) ds hH).mono ?_)
                rintro e w' ⟨he, hF⟩
                exact ⟨he, hide ((k4.trans f3 (fun _ _ t => t)).trans hF (fun k hk t => by have e : k = g := t; rcases hg with e2 | e2 <;> omega))⟩
              go_wp2_with fail
              refine (unhide OW).mono ?_
              rintro e w4 ⟨rfl, H4⟩
              clear OW
              go_wp2
              go_ret
              exact DoesR.of (unhide HH).1 ((unhide HV).keep (unhide H4)) rfl (by omega) (by omega) (by omega)
        · have hk3b : (x.kind == 3) = false := by simpa using hk3
          by_cases hk4 : x.kind = 4
          · have c1 := (unhide HC v (Fr.refl _ _)).1
            have SY := hide ((unhide HV).sync (by have := (unhide HH).2.2.2.2.2.1; omega))
            go_wp2_with fail
            refine (unhide SY).mono ?_
            rintro e w1 ⟨rfl, H1⟩
            clear SY HV d0 c1 HC
            have H1d := hide ((unhide H1).keep (Fr.refl _ _).drew)
            have HCY : Hid (∀ u qb2 sf B C N q2 q', DY w0 u hp b qb2 n lim rb wb q2 qb q' sf B C N [(og, #[.int .i64 x.kind, .int .i64 x.num, .slice x.bo x.bs.length x.bc], 54)] → u.cell? ⟨wb, 0, none⟩ = some (.pointer (some ⟨hp, 0, none⟩)) ∧ u.cell? ⟨wb, 2, none⟩ = some (.pointer (some ⟨rb, 0, none⟩)) ∧ u.cell? ⟨rb, 0, none⟩ = some (.int .i64 (lim : Int))) := hide (fun u qb2 sf B C N q2 q' hu => ⟨hu.named.cell 0, hu.named.cell 2, hu.heads.1⟩)
            have HCK : Hid (∀ u p q2 q' B C, DK w0 u hp b n lim rb wb q2 qb q' B C [(og, #[.int .i64 x.kind, .int .i64 x.num, .slice x.bo x.bs.length x.bc], 54)] p → u.cell? ⟨wb, 0, none⟩ = some (.pointer (some ⟨hp, 0, none⟩)) ∧ u.cell? ⟨wb, 2, none⟩ = some (.pointer (some ⟨rb, 0, none⟩)) ∧ u.cell? ⟨rb, 0, none⟩ = some (.int .i64 (lim : Int))) := hide (fun u p q2 q' B C hu => ⟨hu.named.cell 0, hu.named.cell 2, hu.heads⟩)
            have DSK := hide ((unhide H1d).disk)
            have OPN : Hid (∀ u p, DK w0 u hp b n lim rb wb q qb q (B + 2) C [(og, #[.int .i64 x.kind, .int .i64 x.num, .slice x.bo x.bs.length x.bc], 54)] p → Calls Tryz.prog 26 #[.pointer (some ⟨p, 0, none⟩), .int .i64 (lim : Int)] u fun e w' => ∃ qb', e = .returned (.tuple #[.pointer (some ⟨qb', 0, none⟩), .nilIface]) ∧ Hid (DY w0 w' hp b qb' n lim rb wb q qb q false (B + 2 + 180 * hlf n + 6) (C + 1 + hlf n) 1 [(og, #[.int .i64 x.kind, .int .i64 x.num, .slice x.bo x.bs.length x.bc], 54)])) := by
              obtain ⟨hT, hE, hl, hx, hw, hB', hC', hN', hok⟩ := unhide HH
              exact hide (fun u p hu => hu.open hl (by omega) hC')
            go_upto_region 26 with (fail)
            go_region_held3 (fun u => u.cell? ⟨wb, 0, none⟩ = some (.pointer (some ⟨hp, 0, none⟩)) ∧ u.cell? ⟨wb, 2, none⟩ = some (.pointer (some ⟨rb, 0, none⟩)) ∧ u.cell? ⟨rb, 0, none⟩ = some (.int .i64 (lim : Int))) (first | exact unhide HCY _ _ _ _ _ _ _ _ (unhide H1) | exact unhide HCY _ _ _ _ _ _ _ _ (unhide H1d) | exact unhide HCK _ _ _ _ _ _ (unhide H2) | exact unhide HCY _ _ _ _ _ _ _ _ (unhide H3)) (first | (go_at_call 11; refine (unhide DSK).mono ?_; rintro e w2 ⟨p, rfl, H2⟩) | (go_at_call 26; refine (unhide OPN _ _ (unhide H2)).mono ?_; rintro e w3 ⟨qb', rfl, H3⟩))
            have c1 : w3.cell? ⟨wb, 1, none⟩ = some (.pointer (some ⟨qb, 0, none⟩)) := (unhide H3).named.cell 1
            have z1 : w3.frozen? ⟨wb, 1, none⟩ = false := (unhide H3).named.frozen 1
            have H4 := hide ((unhide H3).set (unhide HH).1 (unhide HH).2.2.2.2.1)
            clear H1 H1d H2 H3 HCY HCK DSK OPN
            go_wp2
            go_ret
            exact DoesR.of (unhide HH).1 (unhide H4) rfl (by omega) (by omega) (by omega)
          · have hk4b : (x.kind == 4) = false := by simpa using hk4
            by_cases hk5 : x.kind = 5
            · obtain ⟨m, hm⟩ : ∃ m : Nat, (m : Int) = x.num % 16 := ⟨(x.num % 16).toNat, by omega⟩
              obtain ⟨z, hz⟩ : ∃ z, z = q.acked + m := ⟨_, rfl⟩
              have hwn : bits .and .i64 x.num 15 = (m : Int) := by rw [i64_and15, ← hm]
              have hm15 : (m : Int) ≤ 15 := by omega
              have hack := (unhide HH).2.2.2.2.2.2.2.2.last
              have hle : q.last = q.acked + q.items.length := rfl
              have hwr : IntKind.i64.wrap ((q.acked : Int) + (m : Int)) = (z : Int) := by rw [IntKind.wrap_i64]; omega
              have hw64 : wrap64 ((q.acked : Int) + (m : Int)) = (z : Int) := by unfold wrap64; omega
              have cr : v.cell? ⟨rb, 1, none⟩ = some (.int .i64 (q.acked : Int)) := (unhide HV).heads.2
              have cw := (unhide HC v (Fr.refl _ _)).2
              clear hack hle hz hm
              go_upto_region 31 with (fail)
              go_region_held3 (fun u => u.cell? ⟨wb, 2, none⟩ = some (.pointer (some ⟨rb, 0, none⟩)) ∧ u.cell? ⟨rb, 1, none⟩ = some (.int .i64 (q.acked : Int)) ∧ u.cell? ⟨og, 1, none⟩ = some (.int .i64 x.num)) (first | exact ⟨cw.1, cr, cw.2⟩) (fail)
              have HVd := hide ((unhide HV).keep (Fr.refl _ _).drew)
              clear HC HV cr cw d0
              have AK : Hid (Calls Tryz.prog 44 #[.pointer (some ⟨qb, 0, none⟩), .int .i64 (z : Int)] v.drew fun e w' => e = .returned (evOf (ackE q (z : Int))) ∧ Hid (DY w0 w' hp b qb n lim rb wb (ackQ q (z : Int)) qb q false (B + 180 * hlf n + 6) (C + 1 + hlf n) (N + 1) [(og, #[.int .i64 x.kind, .int .i64 x.num, .slice x.bo x.bs.length x.bc], 54)])) := by
                obtain ⟨hT, hE, hl, hx, hw, hB', hC', hN', hok⟩ := unhide HH
                exact hide ((unhide HVd).ack hl (by omega) hC' hN' (z : Int))
              have RA : Hid (∀ u sf B C N q2, DY w0 u hp b qb n lim rb wb q2 qb q sf B C N [(og, #[.int .i64 x.kind, .int .i64 x.num, .slice x.bo x.bs.length x.bc], 54)] → Calls Tryz.prog 48 #[.pointer (some ⟨rb, 0, none⟩), .int .i64 (z : Int)] u fun e w' => e = .returned (.int .i64 (ackE q (z : Int))) ∧ Hid (DY w0 w' hp b qb n lim rb wb q2 qb (ackQ q (z : Int)) sf B C N [(og, #[.int .i64 x.kind, .int .i64 x.num, .slice x.bo x.bs.length x.bc], 54)])) := by
                obtain ⟨hT, hE, hl, hx, hw, hB', hC', hN', hok⟩ := unhide HH
                exact hide (fun u sf B C N q2 hu => hu.racks hT (by omega) (z : Int))
              generalize ackE q (z : Int) = ae at *
              generalize ackQ q (z : Int) = q2 at *
              have c1 : v.drew.cell? ⟨wb, 1, none⟩ = some (.pointer (some ⟨qb, 0, none⟩)) := (unhide HVd).named.cell 1
              go_wp2_with fail
              refine (unhide AK).mono ?_
              rintro e w1 ⟨rfl, H1⟩
              clear AK HVd c1
              have H1d := hide ((unhide H1).keep (Fr.refl _ _).drew)
              have haa : (ae == ae) = true := by simp
              have HC : Hid (∀ u sf B C N q2 q', DY w0 u hp b qb n lim rb wb q2 qb q' sf B C N [(og, #[.int .i64 x.kind, .int .i64 x.num, .slice x.bo x.bs.length x.bc], 54)] → u.cell? ⟨wb, 2, none⟩ = some (.pointer (some ⟨rb, 0, none⟩))) := hide (fun u sf B C N q2 q' hu => hu.named.cell 2)
              have NU : Hid (∀ u sf B C N q2 q', DY w0 u hp b qb n lim rb wb q2 qb q' sf B C N [(og, #[.int .i64 x.kind, .int .i64 x.num, .slice x.bo x.bs.length x.bc], 54)] → Calls Tryz.prog 24 #[evOf ae] u fun e w' => e = .returned (.int .i64 ae) ∧ Hid (DY w0 w' hp b qb n lim rb wb q2 qb q' sf B C N [(og, #[.int .i64 x.kind, .int .i64 x.num, .slice x.bo x.bs.length x.bc], 54)])) := hide (fun u sf B C N q2 q' hu => (number_any u (unhide HF _ hu.fr) ae).mono (fun _ _ t => ⟨t.1, hide (hu.keep t.2)⟩))
              go_upto_region 33 with (fail)
              go_region_held3 (fun u => u.cell? ⟨wb, 2, none⟩ = some (.pointer (some ⟨rb, 0, none⟩))) (first | exact (unhide HC _ _ _ _ _ _ _ (unhide H1)) | exact (unhide HC _ _ _ _ _ _ _ (unhide H1d)) | exact (unhide HC _ _ _ _ _ _ _ (unhide H2)) | exact (unhide HC _ _ _ _ _ _ _ (unhide H3))) (first | (go_at_call 24; first | (refine (unhide NU _ _ _ _ _ _ _ (unhide H1d)).mono ?_; rintro e w2 ⟨rfl, H2⟩) | (refine (unhide NU _ _ _ _ _ _ _ (unhide H2)).mono ?_; rintro e w3 ⟨rfl, H3⟩)) | (go_at_call 48; first | (refine (unhide RA _ _ _ _ _ _ (unhide H1d)).mono ?_; rintro e w2 ⟨rfl, H2⟩) | (refine (unhide RA _ _ _ _ _ _ (unhide H2)).mono ?_; rintro e w3 ⟨rfl, H3⟩)))
              all_goals
                go_wp2
                go_ret
                exact DoesR.of (unhide HH).1 (unhide H3) rfl (by omega) (Nat.le_refl _) (Nat.le_refl _)
            · have hk5b : (x.kind == 5) = false := by simpa using hk5
              clear HC
              go_wp2
              go_ret
              exact DoesR.of (unhide HH).1 (unhide HV) rfl (by omega) (by omega) (by omega)

end Go.Proofs.YtjkghgcdkfkekaaGreatDoor

/- The walk of QueuePlays. -/
namespace Go.Proofs.YtjkghgcdkfkekaaGreatDoor
open Go.RowKit

theorem DY.first {w0 w : World} {hp b qb n lim : Nat} {sf : Bool} {B C N : Nat} (hT : TabAt w0) (h : QW w0 w hp b qb n lim ⟨0, []⟩ sf B C N (fun _ _ => True)) :
    DY w0 ((w.alloc (.cells #[.int .i64 (lim : Int), .int .i64 0, .slice none 0 0] 49)).alloc (.cells #[.pointer (some ⟨hp, 0, none⟩), .pointer (some ⟨qb, 0, none⟩), .pointer (some ⟨w.heap.size, 0, none⟩)] 51)) hp b qb n lim w.heap.size (w.heap.size + 1) ⟨0, []⟩ qb ⟨0, []⟩ sf B C N [] := by
  obtain ⟨F, h1, _, h3⟩ := h.refs hT
  have hs0 := h.fr.size
  have fa : Fr (fun _ => False) w (w.alloc (.cells #[.int .i64 (lim : Int), .int .i64 0, .slice none 0 0] 49)) := (Fr.refl _ _).alloc _
  have ha := h3 _ (fun _ => False) (PS w0 w.heap.size lim ⟨0, []⟩ none 0 [] [] []) fa (fun _ _ t => t.elim) ⟨fun k => k = w.heap.size, fun _ => False, 0, [], fun k t => ⟨by simp [t], by omega, h1 k (by omega)⟩, fun k t => t.elim, fun k _ t => t, ⟨none, 0, 0, 0, Bx.new _ _ _, rfl, fun hc => absurd hc (by omega), Its.nil _ _ _ _⟩, KRow.nil _ _ _, rfl, fun i hi => absurd hi (by simp), fun hc => absurd hc (by omega), fun x hx => absurd hx (by simp), fun c hc => absurd hc (by simp)⟩
  obtain ⟨F2, k1, k2, k3⟩ := ha.refs hT
  have hz : (w.alloc (.cells #[.int .i64 (lim : Int), .int .i64 0, .slice none 0 0] 49)).heap.size = w.heap.size + 1 := by simp
  rw [hz] at k1
  have hb := Bx.new (w.alloc (.cells #[.int .i64 (lim : Int), .int .i64 0, .slice none 0 0] 49)) #[.pointer (some ⟨hp, 0, none⟩), .pointer (some ⟨qb, 0, none⟩), .pointer (some ⟨w.heap.size, 0, none⟩)] 51
  rw [hz] at hb
  have fb : Fr (fun _ => False) (w.alloc (.cells #[.int .i64 (lim : Int), .int .i64 0, .slice none 0 0] 49)) ((w.alloc (.cells #[.int .i64 (lim : Int), .int .i64 0, .slice none 0 0] 49)).alloc (.cells #[.pointer (some ⟨hp, 0, none⟩), .pointer (some ⟨qb, 0, none⟩), .pointer (some ⟨w.heap.size, 0, none⟩)] 51)) := (Fr.refl _ _).alloc _
  exact k3 _ (fun _ => False) _ fb (fun _ _ t => t.elim) ⟨⟨hb, k1 _ (Nat.le_refl _), hb.lt⟩, PS.stable _ _ _ _ k2 (fb.mono (fun _ _ t => t.elim)) (fun k hk t => ⟨t, by omega⟩)⟩

set_option maxHeartbeats 2000000 in
set_option maxRecDepth 20000 in
theorem plays_walk (w : World) (hT : TabAt w) (hE : ErrT w) (n0 m0 : Int) (ao : Option Addr) (ac : Nat) (ps : List OpQ) (hO : OpqAt w ao ps) :
    Calls Tryz.prog 4 #[.int .i64 n0, .int .i64 m0, .slice ao ps.length ac] w fun e w' => e = .returned (.bool true) ∧ Fr (fun _ => False) w w' := by
  have A := hide (awake10_any w hT hE)
  obtain ⟨k, hk⟩ : ∃ k : Nat, (k : Int) = n0 % 16 := ⟨(n0 % 16).toNat, by omega⟩
  have hk15 : k ≤ 15 := by omega
  have hand : bits .and .i64 n0 15 = (k : Int) := by rw [i64_and15, hk]
  have hkI : (k : Int) ≤ 15 := by omega
  obtain ⟨m, hm⟩ : ∃ m : Nat, (m : Int) = m0 % 8 := ⟨(m0 % 8).toNat, by omega⟩
  have hm7 : m ≤ 7 := by omega
  have hand2 : bits .and .i64 m0 7 = (m : Int) := by rw [i64_and7, hm]
  obtain ⟨N, hN⟩ : ∃ N, N = 2 + 2 * qH (1 + k) + m := ⟨_, rfl⟩
  have hL : Lim (1 + k) N ∧ hlf N ≤ 15 := by rw [hN]; have h := lim_fresh (1 + k) m (by omega) (by omega) (by omega); exact ⟨h.1, h.2.2⟩
  have HFR : Hid (∀ u, Fr (fun _ => False) w u → Calls Tryz.prog 15 #[.int .i64 (1 + (k : Int)), .int .i64 (m : Int)] u fun e w' => ∃ hp qb, e = .returned (.tuple #[.pointer (some ⟨hp, 0, none⟩), .pointer (some ⟨qb, 0, none⟩)]) ∧ Hid (w.heap.size ≤ w'.heap.size + 1 ∧ ∃ b, DY w ((w'.alloc (.cells #[.int .i64 (1 + (k : Int)), .int .i64 0, .slice none 0 0] 49)).alloc (.cells #[.pointer (some ⟨hp, 0, none⟩), .pointer (some ⟨qb, 0, none⟩), .pointer (some ⟨w'.heap.size, 0, none⟩)] 51)) hp b qb N (1 + k) w'.heap.size (w'.heap.size + 1) ⟨0, []⟩ qb ⟨0, []⟩ false 3000 16 1 [])) := by
    refine hide (fun u hu => ?_)
    have h := fresh_any u (hT.later hu) (1 + k) m (by omega) (by omega) (by omega)
    rw [← hN, show ((1 + k : Nat) : Int) = 1 + (k : Int) by omega] at h
    refine h.mono ?_
    rintro e w' ⟨hp, qb, he, hq⟩
    obtain ⟨b, hq⟩ := unhide hq
    have h1 := QW.whence hu hq
    have h2 := DY.first hT h1
    rw [show ((1 + k : Nat) : Int) = 1 + (k : Int) by omega] at h2
    exact ⟨hp, qb, he, hide ⟨Nat.le_succ_of_le h1.fr.size, b, h2⟩⟩
  have HH := hide (And.intro hT (And.intro hE (And.intro hO (And.intro hL.1 (And.intro hL.2 hk15)))))
  have hps : (ps.length : Int) ≤ 140737488355328 := by have := hO.small; omega
  clear hT hE hO hL hN hk hk15 hm hm7
  go_enter Tryz.func4, Tryz.ntmps4
  go_wp2_with fail
  refine (unhide A).mono ?_
  rintro e w1 ⟨rfl, hF1⟩
  have HF1 := hide hF1
  clear A hF1
  go_wp2_with fail
  refine (unhide HFR _ (unhide HF1)).mono ?_
  rintro e w2 ⟨hp, qb, rfl, HD⟩
  clear HFR HF1 hand hand2
  go_upto_region 8 with (fail)
  obtain ⟨b, HD⟩ : ∃ b, Hid (w.heap.size ≤ w2.heap.size + 1 ∧ DY w ((w2.alloc (.cells #[.int .i64 (1 + (k : Int)), .int .i64 0, .slice none 0 0] 49)).alloc (.cells #[.pointer (some ⟨hp, 0, none⟩), .pointer (some ⟨qb, 0, none⟩), .pointer (some ⟨w2.heap.size, 0, none⟩)] 51)) hp b qb N (1 + k) w2.heap.size (w2.heap.size + 1) ⟨0, []⟩ qb ⟨0, []⟩ false 3000 16 1 []) := by
    obtain ⟨h1, b, h2⟩ := unhide HD
    exact ⟨b, hide ⟨h1, h2⟩⟩
  generalize (w2.alloc (.cells #[.int .i64 (1 + (k : Int)), .int .i64 0, .slice none 0 0] 49)).alloc (.cells #[.pointer (some ⟨hp, 0, none⟩), .pointer (some ⟨qb, 0, none⟩), .pointer (some ⟨w2.heap.size, 0, none⟩)] 51) = w3 at *
  generalize w2.heap.size + 1 = wb at *
  generalize w2.heap.size = rb at *
  go_loopw [11, 12, 13] (fun iv _ _ wr => ∃ (i qb : Nat) (q : Qr), i ≤ ps.length ∧ iv = .int .i64 (i : Nat) ∧ Hid (DY w wr hp b qb N (1 + k) rb wb q qb q false (3000 + 2720 * i) (16 + 16 * i) (i + 1) [])) (fun iv _ _ _ => ps.length - (intOf iv).toNat)
  case atStart => exact ⟨0, qb, ⟨0, []⟩, Nat.zero_le _, rfl, hide (unhide HD).2⟩
  case round =>
    obtain ⟨i, qb, q, hi, rfl, HR⟩ := hrel
    by_cases hlt : i < ps.length
    · have hI1 : (i : Int) < (ps.length : Int) := by omega
      obtain ⟨pb, po, hpa, hpc⟩ := (unhide HH).2.2.1.cells (by omega)
      subst hpa
      have hcl : ∀ j, j < 3 → wr.cell? ⟨pb, po + i * 3 + j, none⟩ = (ps[i].vals)[j]? := fun j hj => by
        have h := hpc i hlt j hj
        have hlt : pb < w.heap.size := by
          have hs : ((ps[i].vals)[j]?).isSome = true := by
            have : j < ps[i].vals.length := by simpa [OpQ.vals] using hj
            simp [this]
          rw [← h] at hs
          obtain ⟨u, hu⟩ := Option.isSome_iff_exists.1 hs
          exact World.block_lt_of_cell? _ _ hu
        exact ((unhide HR).fr.cell (a := ⟨pb, po + i * 3 + j, none⟩) hlt (fun t => t)).trans h
      obtain ⟨x, hx⟩ : ∃ x, x = ps[i] := ⟨_, rfl⟩
      rw [← hx] at hcl
      have HQ : Hid (x.ok w) := by rw [hx]; exact hide ((unhide HH).2.2.1.ok i hlt)
      clear hx hpc
      have c0 : wr.cell? ⟨pb, po + i * 3, none⟩ = some (.int .i64 x.kind) := hcl 0 (by omega)
      have c1 : wr.cell? ⟨pb, po + i * 3 + 1, none⟩ = some (.int .i64 x.num) := hcl 1 (by omega)
      have c2 : wr.cell? ⟨pb, po + i * 3 + 2, none⟩ = some (.slice x.bo x.bs.length x.bc) := hcl 2 (by omega)
      clear hcl
      have DO : Hid (Calls Tryz.prog 16 #[.pointer (some ⟨wb, 0, none⟩), .agg #[.int .i64 x.kind, .int .i64 x.num, .slice x.bo x.bs.length x.bc]] wr fun e w' => e = .returned (.bool true) ∧ ∃ qb q, Hid (DY w w' hp b qb N (1 + k) rb wb q qb q false (3000 + 2720 * (i + 1)) (16 + 16 * (i + 1)) (i + 1 + 1) [])) := by
        obtain ⟨hT, hE, hO, hl, hh, hk15⟩ := unhide HH
        have hsm := hO.small
        refine hide ((does_any w wr hT hE hl (unhide HD).1 x (unhide HQ) (unhide HR) (by omega) (by omega) (by omega)).mono ?_)
        rintro e w' ⟨he, qb', q', hq⟩
        exact ⟨he, qb', q', hide ((unhide hq).mono (by omega) (by omega) (by omega))⟩
      go_wp2_with fail
      refine (unhide DO).mono ?_
      rintro e w4 ⟨rfl, qb', q', H4⟩
      clear DO HR c0 c1 c2
      have H4d := hide ((unhide H4).keep (Fr.refl _ _).drew)
      have HC : Hid (∀ u, Fr (fun _ => False) w4 u → u.cell? ⟨wb, 1, none⟩ = some (.pointer (some ⟨qb', 0, none⟩)) ∧ u.cell? ⟨wb, 2, none⟩ = some (.pointer (some ⟨rb, 0, none⟩))) := hide (fun u hu => ⟨((unhide H4).keep hu).named.cell 1, ((unhide H4).keep hu).named.cell 2⟩)
      have AL : Hid (Calls Tryz.prog 17 #[.pointer (some ⟨qb', 0, none⟩), .pointer (some ⟨rb, 0, none⟩)] w4.drew fun e w' => e = .returned (.bool true) ∧ Hid (Fr (fun _ => False) w4 w')) := by
        obtain ⟨hT, hE, hO, hl, hh, hk15⟩ := unhide HH
        obtain ⟨F, hp1⟩ := (unhide H4d).ps
        obtain ⟨M, E, hR⟩ := hp1.rf
        have hok := (unhide H4d).ok.mono hl.le
        refine hide ((alike_any w4.drew qb' rb (1 + k) q' q' (QW.asks hl (unhide H4d)) hR hok hok).mono ?_)
        rintro e w' ⟨r, h1, h2, h3⟩
        rw [h2 rfl] at h1
        exact ⟨h1, hide (((Fr.refl _ _).drew).trans h3 (fun _ _ t => t))⟩
      go_upto_region 11 with (fail)
      go_region_held3 (fun u => u.cell? ⟨wb, 1, none⟩ = some (.pointer (some ⟨qb', 0, none⟩)) ∧ u.cell? ⟨wb, 2, none⟩ = some (.pointer (some ⟨rb, 0, none⟩))) (first | exact unhide HC _ (Fr.refl _ _) | exact unhide HC _ (Fr.refl _ _).drew | exact unhide HC _ (unhide H5)) (first | (go_at_call 17; refine (unhide AL).mono ?_; rintro e w5 ⟨rfl, H5⟩))
      have H6 := hide ((unhide H4).keep (unhide H5))
      clear AL HC H4 H4d H5
      go_wp2
      exact ⟨⟨i + 1, qb', q', by omega, by go_num, H6⟩, by simp [intOf]; omega⟩
    · have hI1 : decide ((i : Int) < (ps.length : Int)) = false := by simp; omega
      have hI3 : decide (i < ps.length) = false := by simp; omega
      go_wp2
      go_ret
      exact ⟨rfl, (unhide HR).fr⟩

end Go.Proofs.YtjkghgcdkfkekaaGreatDoor

