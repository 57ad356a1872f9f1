import Derived.Test.YtabhfeocelljdaaGreatDoorZFA
import Derived.Test.YtabhfeocelljdaaGreatDoorZSB
import Derived.Test.YtabhfeocelljdaaGreatDoorI2
import Derived.Deep.RegionHeld3
/- readFrame under way: its boxes, its reader, its items. -/
namespace Go.Proofs.YtabhfeocelljdaaGreatDoor
open Go.RowKit

/-- readFrame under way: the answer's box, the frame's box, the reader. -/
structure RF (w wk : World) (q p g B : Nat) (bs : List UInt8) (s : RS) (cs : Array Value) : Prop where
  fr : Fr (fun _ => False) w wk
  bq : Bx wk q #[.int .i64 0, .int .i64 0, .int .i64 0, .slice none 0 0, .slice none 0 0] 25
  bf : Bx wk B cs 25
  rd : s.At wk p g bs
  lo : w.heap.size ≤ q ∧ q < p ∧ p < B ∧ (0 < bs.length → q < g ∧ g < B)

theorem RF.read {w wk w' : World} {q p g B : Nat} {bs : List UInt8} {s s' : RS} {cs : Array Value} (h : RF w wk q p g B bs s cs) (k1 : s'.At w' p g bs) (k2 : Fr (· = p) wk w') : RF w w' q p g B bs s' cs := by
  have hl := h.lo
  exact ⟨h.fr.trans k2 (fun i hi t => by omega), h.bq.frame k2 (by show ¬ q = p; omega), h.bf.frame k2 (by show ¬ B = p; omega), k1, h.lo⟩
theorem RF.put {w wk : World} {q p g B : Nat} {bs : List UInt8} {s : RS} {cs : Array Value} (h : RF w wk q p g B bs s cs) (i : Nat) (v : Value) : RF w (wk.setCell ⟨B, i, none⟩ v) q p g B bs s (cs.setIfInBounds i v) := by
  have hl := h.lo
  exact ⟨h.fr.setCell (p := ⟨B, i, none⟩) (fun t => by have t : B < w.heap.size := t; omega) v, h.bq.setOther (by omega) i v, h.bf.setCell i v, RAt.setOther h.rd (by omega) (fun h0 => by have := hl.2.2.2 h0; omega) v, h.lo⟩
theorem RF.more {S : Nat → Prop} {w wk w' : World} {q p g B : Nat} {bs : List UInt8} {s : RS} {cs : Array Value} (h : RF w wk q p g B bs s cs) (k : Fr S wk w') (hS : ∀ i, S i → B < i) (h0 : 0 < bs.length) : RF w w' q p g B bs s cs := by
  have hl := h.lo
  have hg := hl.2.2.2 h0
  exact ⟨h.fr.trans k (fun i hi t => by have := hS i t; omega), h.bq.frame k (fun t => by have := hS _ t; omega), h.bf.frame k (fun t => by have := hS _ t; omega), RAt.frame h.rd k (fun t => by have := hS _ t; omega) (fun t => by have := hS _ t; omega), h.lo⟩
theorem RF.keep {w wk w' : World} {q p g B : Nat} {bs : List UInt8} {s : RS} {cs : Array Value} (h : RF w wk q p g B bs s cs) (k : Fr (fun _ => False) wk w') : RF w w' q p g B bs s cs :=
  ⟨h.fr.trans k (fun _ _ t => t), h.bq.keep k, h.bf.keep k, RAt.frame h.rd k (fun t => t) (fun t => t), h.lo⟩

/-- Rows of bytes in a row of one's own, each in a block of its own. -/
structure IL (M : Nat) (wk : World) (io : Option Addr) (ic ib : Nat) (ds : List RD) (its : List (List UInt8)) : Prop where
  row : KRow wk io ic ib 1 (ds.map RD.val)
  n1 : ds.length = its.length
  it : ∀ (i : Nat) (d : RD) (b : List UInt8), ds[i]? = some d → its[i]? = some b → Row wk d.val d.g b ∧ d.n = b.length ∧ (0 < d.cap → M ≤ d.g ∧ (0 < ic → d.g ≠ ib))
  up : ds.Pairwise (fun d e : RD => 0 < d.cap → 0 < e.cap → d.g < e.g)
  ib : 0 < ic → M ≤ ib
  len : ∀ b ∈ its, b.length ≤ 140737488355328

theorem IL.nil (M : Nat) (wk : World) (ib : Nat) : IL M wk none 0 ib [] [] :=
  ⟨KRow.nil _ _ _, rfl, fun i d b h => by simp at h, List.Pairwise.nil, fun h => absurd h (by omega), fun b h => by cases h⟩
theorem Row.below {w : World} {d : RD} {b : List UInt8} (h : Row w d.val d.g b) (hc : 0 < d.cap) : d.g < w.heap.size := by
  obtain ⟨ao, cap, hv, _, _, _, hr⟩ := h.shape
  injection hv with e1 e2 e3
  obtain ⟨u, hu⟩ := Option.isSome_iff_exists.1 (hr 0 (by omega)).1
  exact World.block_lt_of_cell? _ _ hu
/-- What lies elsewhere turns: the row stands. -/
theorem Row.other {S : Nat → Prop} {w w' : World} {d : RD} {b : List UInt8} (h : Row w d.val d.g b) (k : Fr S w w') (hS : 0 < d.cap → ¬ S d.g) : Row w' d.val d.g b := by
  obtain ⟨ao, n, cap, g⟩ := d
  exact Row.elsewhere h (fun hc => k.block g (Row.below h hc) (hS hc))
theorem IL.frame {S : Nat → Prop} {M : Nat} {wk w' : World} {io : Option Addr} {ic ib : Nat} {ds : List RD} {its : List (List UInt8)} (h : IL M wk io ic ib ds its) (k : Fr S wk w') (hb : 0 < ic → ¬ S ib) (hd : ∀ d ∈ ds, 0 < d.cap → ¬ S d.g) : IL M w' io ic ib ds its := by
  refine ⟨h.row.stay (fun hc => k.block ib (h.row.lt (by omega) hc) (hb hc)), h.n1, fun i d b e1 e2 => ?_, h.up, h.ib, h.len⟩
  obtain ⟨r1, r2, r3⟩ := h.it i d b e1 e2
  exact ⟨r1.other k (hd d (List.mem_of_getElem? e1)), r2, r3⟩
theorem IL.in' {M : Nat} {wk : World} {io : Option Addr} {ic ib : Nat} {ds : List RD} {its : List (List UInt8)} (h : IL M wk io ic ib ds its) {d : RD} (hd : d ∈ ds) (hc : 0 < d.cap) : M ≤ d.g ∧ d.g < wk.heap.size ∧ (0 < ic → d.g ≠ ib) := by
  obtain ⟨i, hi⟩ := List.getElem?_of_mem hd
  have hl : i < its.length := by rw [← h.n1]; exact (List.getElem?_eq_some_iff.1 hi).1
  obtain ⟨r1, r2, r3⟩ := h.it i d _ hi (List.getElem?_eq_getElem hl)
  exact ⟨(r3 hc).1, r1.below hc, (r3 hc).2⟩
theorem IL.stay {S : Nat → Prop} {M : Nat} {wk w' : World} {io : Option Addr} {ic ib : Nat} {ds : List RD} {its : List (List UInt8)} (h : IL M wk io ic ib ds its) (k : Fr S wk w') (hS : ∀ i, S i → i < M) : IL M w' io ic ib ds its :=
  h.frame k (fun hc t => by have := hS _ t; have := h.ib hc; omega) (fun d hd hc t => by have := hS _ t; have := h.in' hd hc; omega)

/-- One item more. -/
theorem IL.next {M : Nat} {wk w' : World} {io io' : Option Addr} {ic ib ic' ib' : Nat} {ds : List RD} {its : List (List UInt8)} (h : IL M wk io ic ib ds its) {d : RD} {x : List UInt8} (hx : x.length ≤ 140737488355328)
    (hr : Row wk d.val d.g x) (hn : d.n = x.length) (hM : 0 < d.cap → M ≤ d.g ∧ (0 < ic → ib ≠ d.g) ∧ ∀ e ∈ ds, 0 < e.cap → e.g < d.g) (k1 : KRow w' io' ic' ib' 1 (ds.map RD.val ++ [d.val])) (k2 : Grew wk ib ic w' ib' ic') (hMs : M ≤ wk.heap.size) : IL M w' io' ic' ib' (ds ++ [d]) (its ++ [x]) := by
  have hst : ∀ (e : RD) (y : List UInt8), Row wk e.val e.g y → (0 < e.cap → 0 < ic → e.g ≠ ib) → Row w' e.val e.g y := by
    intro e y hy hb
    rcases k2 with ⟨_, _, f⟩ | ⟨_, _, f⟩
    · exact hy.other f (fun hc t => hb hc t.2 t.1)
    · exact hy.other f (fun _ t => t)
  have hne : ∀ b, b < wk.heap.size → (0 < ic → b ≠ ib) → (0 < ic' → b ≠ ib') := by
    intro b hb h1 h2
    rcases k2 with ⟨e1, e2, _⟩ | ⟨e1, _, _⟩
    · subst e1 e2; exact h1 h2
    · omega
  refine ⟨by rw [List.map_append]; exact k1, by simp [h.n1], fun i e b e1 e2 => ?_, ?_, fun h2 => ?_, fun b hb => ?_⟩
  · by_cases hil : i < its.length
    · rw [List.getElem?_append_left (by rw [h.n1]; exact hil)] at e1
      rw [List.getElem?_append_left hil] at e2
      obtain ⟨r1, r2, r3⟩ := h.it i e b e1 e2
      exact ⟨hst e b r1 (fun hc => (r3 hc).2), r2, fun hc => ⟨(r3 hc).1, hne _ (r1.below hc) (r3 hc).2⟩⟩
    · have hi1 := (List.getElem?_eq_some_iff.1 e1).1
      rw [List.length_append, List.length_singleton, h.n1] at hi1
      obtain rfl : i = its.length := by omega
      have e1' : d = e := by rw [← h.n1] at e1; simpa using e1
      have e2' : x = b := by simpa using e2
      subst e1' e2'
      exact ⟨hst d x hr (fun hc h2 t => (hM hc).2.1 h2 t.symm), hn, fun hc => ⟨(hM hc).1, hne _ (hr.below hc) (fun h2 t => (hM hc).2.1 h2 t.symm)⟩⟩
  · rw [List.pairwise_append]
    exact ⟨h.up, List.pairwise_singleton _ _, fun a ha b hb hc1 hc2 => by rw [List.mem_singleton] at hb; subst hb; exact (hM hc2).2.2 a ha hc1⟩
  · rcases k2 with ⟨e1, e2, _⟩ | ⟨e1, _, _⟩
    · subst e1 e2; exact h.ib h2
    · omega
  · rw [List.mem_append, List.mem_singleton] at hb
    rcases hb with hb | rfl
    · exact h.len b hb
    · exact hx

theorem IL.rows {M : Nat} {wk : World} {io : Option Addr} {ic ib : Nat} {ds : List RD} {its : List (List UInt8)} (h : IL M wk io ic ib ds its) (hs : its.length ≤ 140737488355328) : RowsAt wk io its := by
  refine ⟨fun h0 => ?_, hs⟩
  have hle := h.row.le
  rw [List.length_map, h.n1] at hle
  refine ⟨ib, 0, h.row.ad (by omega), fun i hi => ?_⟩
  have hi' : i < ds.length := by rw [h.n1]; exact hi
  obtain ⟨e2, e3, _⟩ := h.it i ds[i] its[i] (List.getElem?_eq_getElem hi') (List.getElem?_eq_getElem hi)
  have hv := h.row.cells i (by rw [List.length_map]; exact hi')
  rw [List.getElem_map] at hv
  generalize ds[i] = d at *
  obtain ⟨ao, n, cap, g⟩ := d
  have e3 : n = its[i].length := e3
  subst e3
  exact ⟨ao, cap, by rw [Nat.zero_add]; exact hv, (Row.bat e2 (h.len _ (List.getElem_mem hi))).2⟩
theorem IL.low {M M' : Nat} {wk : World} {io : Option Addr} {ic ib : Nat} {ds : List RD} {its : List (List UInt8)} (h : IL M wk io ic ib ds its) (hM : M' ≤ M) : IL M' wk io ic ib ds its :=
  ⟨h.row, h.n1, fun i d b e1 e2 => by obtain ⟨r1, r2, r3⟩ := h.it i d b e1 e2; exact ⟨r1, r2, fun hc => ⟨by have := (r3 hc).1; omega, (r3 hc).2⟩⟩, h.up, fun hc => by have := h.ib hc; omega, h.len⟩

end Go.Proofs.YtabhfeocelljdaaGreatDoor

