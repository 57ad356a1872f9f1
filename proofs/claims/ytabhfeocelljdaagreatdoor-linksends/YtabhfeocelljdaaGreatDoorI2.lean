import Derived.Test.YtabhfeocelljdaaGreatDoorI1
import Derived.Test.YtabhfeocelljdaaGreatDoorWX
/- The law's own function Owned: what it is handed (rows, each its owner's), what it has come to behind each of them. -/
namespace Go.Proofs.YtabhfeocelljdaaGreatDoor
open Go.RowKit

theorem Tryz.info23 : (Tryz.prog.info? 23).map (fun i => (i.zero, i.size, i.bytes)) = some (some (.slice none 0 0), 1, 24) := by kernel_rfl

/-- A row that is handed over: where it lies, how long it is, how much room it has. -/
structure RD where
  ao : Option Addr
  n : Nat
  cap : Nat
  g : Nat

def RD.val (d : RD) : Value := .slice d.ao d.n d.cap

/-- It is its owner's. -/
def Own (w : World) (d : RD) : Prop := ∃ vs : List Value, vs.length = d.n ∧ VRow w d.ao d.cap d.g vs

theorem Own.stay {w w' : World} {d : RD} (h : Own w d) (hb : 0 < d.cap → w'.heap[d.g]? = w.heap[d.g]?) : Own w' d := by
  obtain ⟨vs, h1, h2⟩ := h
  exact ⟨vs, h1, h2.stay hb⟩

theorem Row.own {w : World} {ao : Option Addr} {cap g : Nat} {bs : List UInt8} (h : Row w (.slice ao bs.length cap) g bs) : Own w ⟨ao, bs.length, cap, g⟩ :=
  ⟨bytesV bs, bytesV_length bs, h.vrow⟩

/-- What Owned may take for granted. -/
structure Handed (w : World) (rb N : Nat) (ds : Nat → RD) : Prop where
  hdr : ∀ j, j < N → w.cell? ⟨rb, j, none⟩ = some (ds j).val
  own : ∀ j, j < N → Own w (ds j)
  apart : ∀ j k, j < N → k < N → j ≠ k → 0 < (ds j).cap → 0 < (ds k).cap → (ds j).g ≠ (ds k).g
  hd : ∀ j, j < N → 0 < (ds j).cap → (ds j).g ≠ rb
  fit : ∀ j, j < N → (ds j).n + 9 ≤ 140737488355328
  few : N ≤ 1048576

theorem Own.lt {w : World} {d : RD} (h : Own w d) (hc : 0 < d.cap) : d.g < w.heap.size := by
  obtain ⟨vs, _, h2⟩ := h
  exact h2.lt hc

theorem Own.le {w : World} {d : RD} (h : Own w d) : d.n ≤ d.cap := by
  obtain ⟨vs, h1, h2⟩ := h
  have := h2.le
  omega

/-- The mark of a row. -/
def mI (i : Nat) : Int := 1 + (i : Int) % 250

/-- A row that was laid by: all its bytes are that mark, and nothing later turns them. -/
def Seen (w wr : World) (ds : Nat → RD) (i lg lcap : Nat) (v : Value) (m : Int) : Prop :=
  ∃ ao n cap g, v = .slice ao n cap ∧ n ≤ 140737488355328 ∧ (0 < n → ao = some ⟨g, 0, none⟩) ∧ (∀ j, j < n → wr.cell? ⟨g, j, none⟩ = some (.int .u8 m)) ∧
    (0 < n → (0 < lcap → g ≠ lg) ∧ ((∃ j, j < i ∧ 0 < (ds j).cap ∧ g = (ds j).g) ∨ w.heap.size ≤ g))

theorem Seen.on {w wr wr' : World} {ds : Nat → RD} {i lg lcap lg' lcap' : Nat} {v : Value} {m : Int} {S : Nat → Prop} (h : Seen w wr ds i lg lcap v m) (hF : Fr S wr wr')
    (hS : ∀ g, g < wr.heap.size → (0 < lcap → g ≠ lg) → ((∃ j, j < i ∧ 0 < (ds j).cap ∧ g = (ds j).g) ∨ w.heap.size ≤ g) → ¬ S g)
    (hl : (lg' = lg ∧ lcap' = lcap) ∨ wr.heap.size ≤ lg') : Seen w wr' ds (i + 1) lg' lcap' v m := by
  obtain ⟨ao, n, cap, g, h1, h2, h3, h4, h5⟩ := h
  refine ⟨ao, n, cap, g, h1, h2, h3, fun j hj => ?_, fun hn => ?_⟩
  · have hlt : g < wr.heap.size := World.block_lt_of_cell? _ _ (h4 j hj)
    have h6 := h5 (by omega)
    rw [hF.cell (a := ⟨g, j, none⟩) hlt (hS g hlt h6.1 h6.2)]
    exact h4 j hj
  · have h6 := h5 hn
    have hlt : g < wr.heap.size := World.block_lt_of_cell? _ _ (h4 0 hn)
    refine ⟨fun hc => ?_, ?_⟩
    · rcases hl with ⟨e1, e2⟩ | hl
      · rw [e1]; exact h6.1 (by omega)
      · omega
    · rcases h6.2 with ⟨j, hj, hc, e⟩ | h7
      · exact .inl ⟨j, by omega, hc, e⟩
      · exact .inr h7

/-- Where Owned has come to: the rows behind are as they were, those ahead are laid by. -/
structure OSt (w wr : World) (ds : Nat → RD) (N i : Nat) (lo : Option Addr) (lcap lg : Nat) (vs : List Value) : Prop where
  fr : Fr (fun k => ∃ j, j < N ∧ 0 < (ds j).cap ∧ k = (ds j).g) w wr
  own : ∀ j, i ≤ j → j < N → Own wr (ds j)
  lrow : VRow wr lo lcap lg vs
  len : vs.length = 2 * i
  lnew : 0 < lcap → w.heap.size ≤ lg
  seen : ∀ k (hk : k < vs.length), Seen w wr ds i lg lcap vs[k] (mI (k / 2))

theorem VRow.set {w : World} {ao : Option Addr} {cap g : Nat} {vs : List Value} (h : VRow w ao cap g vs) (j : Nat) (hj : j < vs.length) (v : Value) (hv : v.oneCell' = true) : VRow (w.setCell ⟨g, j, none⟩ v) ao cap g (vs.set j v) := by
  refine ⟨by rw [List.length_set]; exact h.le, h.max, h.ad, fun i hi => ⟨?_, by rw [World.frozen?_setCell]; exact (h.room i hi).2⟩, fun i hi => ?_, fun u hu => ?_⟩
  · by_cases e : i = j
    · subst e
      rw [World.cell?_setCell_same _ _ _ (h.cells i hj)]; rfl
    · rw [World.cell?_setCell_other _ _ _ _ (by intro t; injection t with t1 t2; exact e t2.symm)]
      exact (h.room i hi).1
  · rw [List.length_set] at hi
    by_cases e : i = j
    · subst e
      rw [World.cell?_setCell_same _ _ _ (h.cells i hj), List.getElem_set_self]
    · rw [World.cell?_setCell_other _ _ _ _ (by intro t; injection t with t1 t2; exact e t2.symm), h.cells i hi, List.getElem_set_ne (fun t => e t.symm)]
  · rcases List.mem_or_eq_of_mem_set hu with h1 | h1
    · exact h.one u h1
    · rw [h1]; exact hv

theorem marks_set (vs : List Value) (k : Nat) (hk : k < vs.length) (v : Value) : (List.replicate k v ++ vs.drop k).set k v = List.replicate (k + 1) v ++ vs.drop (k + 1) := by
  apply List.ext_getElem?
  intro j
  rw [List.getElem?_set]
  by_cases e : k = j
  · subst e
    rw [if_pos rfl, if_pos (by simp; omega), List.getElem?_append_left (by simp), List.getElem?_replicate, if_pos (by omega)]
  · rw [if_neg e]
    by_cases h1 : j < k
    · rw [List.getElem?_append_left (by simpa using h1), List.getElem?_append_left (by simp; omega), List.getElem?_replicate, List.getElem?_replicate, if_pos h1, if_pos (by omega)]
    · rw [List.getElem?_append_right (by simp; omega), List.getElem?_append_right (by simp; omega), List.getElem?_drop, List.getElem?_drop]
      congr 1
      simp
      omega

theorem marks_more (k : Nat) (v : Value) : List.replicate k v ++ [v] = List.replicate (k + 1) v := by
  rw [List.replicate_succ']

theorem src_mark (w : World) (m : Int) : Src Tryz.prog 1 23 (.slice (some ⟨w.heap.size, 0, none⟩) 1 1) 1 [.int .u8 m] (w.alloc (.cells #[.int .u8 m] 5)) := by
  refine Src.ofSlice _ Tryz.underlying23 ⟨w.heap.size, 0, none⟩ 1 1 [.int .u8 m] rfl (fun j u hj => ?_) (fun u hu => ?_)
  · match j, hj with
    | 0, hj =>
      cases hj
      rw [Addr.add_lit, World.cell?_alloc_new]
      rfl
    | j + 1, hj => simp at hj
  · cases List.mem_singleton.1 hu
    rfl

theorem src_pair (w : World) (a b : Value) (ha : a.oneCell' = true) (hb : b.oneCell' = true) : Src Tryz.prog 1 22 (.slice (some ⟨w.heap.size, 0, none⟩) 2 2) 2 [a, b] (w.alloc (.cells #[a, b] 23)) := by
  refine Src.ofSlice _ Tryz.underlying22 ⟨w.heap.size, 0, none⟩ 2 2 [a, b] rfl (fun j u hj => ?_) (fun u hu => ?_)
  · match j, hj with
    | 0, hj =>
      cases hj
      rw [Addr.add_lit, World.cell?_alloc_new]
      rfl
    | 1, hj =>
      cases hj
      rw [Addr.add_lit, World.cell?_alloc_new]
      rfl
    | j + 2, hj => simp at hj
  · rcases List.mem_cons.1 hu with h | h
    · rw [h]; exact ha
    · cases List.mem_singleton.1 h
      exact hb

/-- Behind the marks: the row itself, and the longer one that was made of it. -/
structure Grown9 (wr wb : World) (d : RD) (m : Int) (go : Option Addr) (gcap gg k : Nat) : Prop where
  fr : Fr (fun x => x = d.g ∧ 0 < d.cap) wr wb
  row : VRow wb go gcap gg (List.replicate (d.n + k) (.int .u8 m))
  marks : ∀ j, j < d.n → wb.cell? ⟨d.g, j, none⟩ = some (.int .u8 m)
  where_ : (gg = d.g ∧ gcap = d.cap) ∨ (wr.heap.size ≤ gg ∧ 0 < gcap)
  old : 0 < d.n → d.g < wr.heap.size

theorem Grown9.start {wr wa : World} {d : RD} {m : Int} (hF : Fr (fun x => x = d.g ∧ 0 < d.cap) wr wa) (h : VRow wa d.ao d.cap d.g (List.replicate d.n (.int .u8 m))) (ho : 0 < d.n → d.g < wr.heap.size) : Grown9 wr wa d m d.ao d.cap d.g 0 :=
  ⟨hF, h, fun j hj => by
    have := h.cells j (by simpa using hj)
    rw [this, List.getElem_replicate], .inl ⟨rfl, rfl⟩, ho⟩

theorem Grown9.next {wr wb w' : World} {d : RD} {m : Int} {go go' : Option Addr} {gcap gg k gcap' gg' : Nat} (h : Grown9 wr wb d m go gcap gg k) (o : Obj) (hr : VRow w' go' gcap' gg' (List.replicate (d.n + k) (.int .u8 m) ++ [.int .u8 m])) (hg : Grew (wb.alloc o) gg gcap w' gg' gcap') :
    Grown9 wr w' d m go' gcap' gg' (k + 1) := by
  rw [marks_more] at hr
  have hFa := h.fr.alloc o
  rcases hg with ⟨e1, e2, hf⟩ | ⟨hn, hc, hf⟩
  · subst e1 e2
    refine ⟨?_, hr, fun j hj => ?_, h.where_, h.old⟩
    · refine hFa.trans hf (fun x hx t => ?_)
      rcases h.where_ with ⟨e1, e2⟩ | ⟨e1, _⟩
      · exact ⟨t.1.trans e1, by rw [← e2]; exact t.2⟩
      · have := t.1; omega
    · rcases h.where_ with ⟨e1, e2⟩ | ⟨e1, e2⟩
      · have := hr.cells j (by simp; omega)
        rw [List.getElem_replicate, e1] at this
        exact this
      · have hc := h.marks j hj
        have hlt : d.g < wb.heap.size := World.block_lt_of_cell? _ _ hc
        have hne : d.g ≠ gg' := by have := h.old (by omega); omega
        rw [hf.cell (a := ⟨d.g, j, none⟩) (by simp; omega) (fun t => hne t.1), World.cell?_alloc_lt _ _ _ hlt]
        exact hc
  · refine ⟨hFa.trans hf (fun _ _ t => t.elim), hr, fun j hj => ?_, .inr ⟨Nat.le_trans hFa.size hn, hc⟩, h.old⟩
    have hc := h.marks j hj
    have hlt : d.g < wb.heap.size := World.block_lt_of_cell? _ _ hc
    rw [hf.cell (a := ⟨d.g, j, none⟩) (by simp; omega) (fun t => t), World.cell?_alloc_lt _ _ _ hlt]
    exact hc

theorem Handed.low {w : World} {rb N : Nat} {ds : Nat → RD} (h : Handed w rb N ds) {j : Nat} (hj : j < N) (hc : 0 < (ds j).cap) : (ds j).g < w.heap.size := (h.own j hj).lt hc

/-- A round of Owned. -/
theorem OSt.next {w wr wb wc : World} {ds : Nat → RD} {rb N i lcap lg lcap' lg' : Nat} {lo lo' : Option Addr} {vs : List Value} {go : Option Addr} {gcap gg : Nat} (hH : Handed w rb N ds) (h : OSt w wr ds N i lo lcap lg vs) (hi : i < N)
    (hG : Grown9 wr wb (ds i) (mI i) go gcap gg 9) (o : Obj) (hr : VRow wc lo' lcap' lg' (vs ++ [.slice go ((ds i).n + 9) gcap, (ds i).val])) (hg : Grew (wb.alloc o) lg lcap wc lg' lcap') :
    OSt w wc ds N (i + 1) lo' lcap' lg' (vs ++ [.slice go ((ds i).n + 9) gcap, (ds i).val]) := by
  have hsz := h.fr.size
  have hszb := hG.fr.size
  have hlt : 0 < lcap → lg < wr.heap.size := h.lrow.lt
  have hFb : Fr (fun k => k = lg ∧ 0 < lcap) wb wc := by
    rcases hg with ⟨_, _, hf⟩ | ⟨_, _, hf⟩
    · exact ((Fr.refl _ wb).alloc o).trans hf (fun _ _ t => t)
    · exact ((Fr.refl _ wb).alloc o).trans hf (fun _ _ t => t.elim)
  have hFc : Fr (fun k => (k = (ds i).g ∧ 0 < (ds i).cap) ∨ (k = lg ∧ 0 < lcap)) wr wc :=
    (hG.fr.mono (fun _ _ t => .inl t)).trans hFb (fun _ _ t => .inr t)
  have hll : (lg' = lg ∧ lcap' = lcap) ∨ wb.heap.size ≤ lg' := by
    rcases hg with ⟨e1, e2, _⟩ | ⟨hn, _, _⟩
    · exact .inl ⟨e1, e2⟩
    · refine .inr ?_
      simp at hn
      omega
  have hown := h.own i (Nat.le_refl _) hi
  have hnc := hown.le
  refine ⟨?_, fun j h1 h2 => ?_, hr, by rw [List.length_append, h.len]; simp; omega, fun hc => ?_, fun k hk => ?_⟩
  · refine h.fr.trans hFc (fun k hk t => ?_)
    rcases t with ⟨e, hc⟩ | ⟨e, hc⟩
    · exact ⟨i, hi, hc, e⟩
    · have := h.lnew hc; omega
  · refine (h.own j (by omega) h2).stay (fun hc => ?_)
    have hlow := hH.low h2 hc
    refine hFc.block _ (by omega) (fun t => ?_)
    rcases t with ⟨e, hc2⟩ | ⟨e, hc2⟩
    · exact hH.apart j i h2 hi (by omega) hc hc2 e
    · have := h.lnew hc2; omega
  · rcases hll with ⟨e1, e2⟩ | e
    · rw [e1]; exact h.lnew (by omega)
    · omega
  · by_cases hk1 : k < vs.length
    · rw [List.getElem_append_left hk1]
      refine (h.seen k hk1).on hFc (fun g _ h1 h2 t => ?_) (hll.imp id (fun e => by omega))
      rcases t with ⟨e, hc⟩ | ⟨e, hc⟩
      · rcases h2 with ⟨j, hj, hcj, ej⟩ | h2
        · exact hH.apart j i (by omega) hi (by omega) hcj hc (ej.symm.trans e)
        · have := hH.low hi hc; omega
      · exact h1 hc e
    · have hlen := h.len
      rw [List.length_append] at hk
      simp only [List.length_cons, List.length_nil] at hk
      rw [List.getElem_append_right (by omega)]
      by_cases hk2 : k = vs.length
      · subst hk2
        rw [show vs.length / 2 = i by omega]
        simp only [Nat.sub_self, List.getElem_cons_zero]
        have hgc := hG.row.le
        rw [List.length_replicate] at hgc
        have hggl : gg < wb.heap.size := hG.row.lt (by omega)
        have hne : 0 < lcap → gg ≠ lg := by
          intro hc e
          have h1 := h.lnew hc
          have h2 := hlt hc
          rcases hG.where_ with ⟨e1, e2⟩ | ⟨e1, _⟩
          · have := hH.low hi (by omega); omega
          · omega
        refine ⟨go, (ds i).n + 9, gcap, gg, rfl, hH.fit i hi, fun _ => hG.row.ad (by omega), fun j hj => ?_, fun _ => ⟨fun hc => ?_, ?_⟩⟩
        · rw [hFb.cell (a := ⟨gg, j, none⟩) hggl (fun t => hne t.2 t.1)]
          have := hG.row.cells j (by simpa using hj)
          rw [this, List.getElem_replicate]
        · rcases hll with ⟨e1, e2⟩ | e
          · rw [e1]; exact hne (by omega)
          · omega
        · rcases hG.where_ with ⟨e1, e2⟩ | ⟨e1, _⟩
          · exact .inl ⟨i, by omega, by omega, e1⟩
          · exact .inr (by omega)
      · have hk3 : k - vs.length = 1 := by omega
        rw [show k / 2 = i by omega]
        simp only [hk3, List.getElem_cons_succ, List.getElem_cons_zero]
        refine ⟨(ds i).ao, (ds i).n, (ds i).cap, (ds i).g, rfl, by have := hH.fit i hi; omega, fun hn => ?_, fun j hj => ?_, fun hn => ⟨fun hc => ?_, .inl ⟨i, by omega, by omega, rfl⟩⟩⟩
        · obtain ⟨_, _, hv⟩ := hown
          exact hv.ad (by omega)
        · have hm := hG.marks j hj
          have hlow := hH.low hi (by omega)
          rw [hFb.cell (a := ⟨(ds i).g, j, none⟩) (World.block_lt_of_cell? _ _ hm) (fun t => by have := h.lnew t.2; have := t.1; simp only [] at this; omega)]
          exact hm
        · have hlow := hH.low hi (by omega)
          rcases hll with ⟨e1, e2⟩ | e
          · have := h.lnew (by omega); omega
          · omega

theorem OSt.start {w : World} {rb N : Nat} {ds : Nat → RD} (hH : Handed w rb N ds) : OSt w w ds N 0 none 0 0 [] :=
  ⟨Fr.refl _ _, fun j _ hj => hH.own j hj, VRow.nil w 0, rfl, fun h => absurd h (by omega), fun k hk => absurd hk (by simp)⟩

/-- The rows' own list stands. -/
theorem OSt.hdr {w wr : World} {rb N i lcap lg : Nat} {ds : Nat → RD} {lo : Option Addr} {vs : List Value} (hH : Handed w rb N ds) (h : OSt w wr ds N i lo lcap lg vs) {j : Nat} (hj : j < N) : wr.cell? ⟨rb, j, none⟩ = some (ds j).val := by
  have h0 := hH.hdr j hj
  rw [h.fr.cell (a := ⟨rb, j, none⟩) (World.block_lt_of_cell? _ _ h0) (fun t => by
    obtain ⟨k, hk, hc, e⟩ := t
    exact hH.hd k hk hc e.symm)]
  exact h0

end Go.Proofs.YtabhfeocelljdaaGreatDoor

