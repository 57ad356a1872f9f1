import Derived.Test.YtmhljehkodhggaaGreatU5
import Derived.Test.YtmhljehkodhggaaGreatX0
import Derived.Sort.OwnSorted
import Derived.Lib.SliceRun
/- Package risk: a list's texts in order, each once. -/
namespace Go.Proofs.YtmhljehkodhggaaGreat
open Go.RowKit

theorem CAt.srcU {w : World} {ao : Option Addr} {vs : List Value} (h : CAt w ao vs) (tx e : TypeId) (k n cap : Nat) (hk : 0 < k) (ht : Tryz.prog.underlying tx = some (.slice e)) (hn : vs.length = n * k) (h1 : ∀ u ∈ vs, u.oneCell' = true) : Src Tryz.prog k tx (.slice ao n cap) n vs w := by
  by_cases hm : 0 < vs.length
  · obtain ⟨b, off, rfl, hc⟩ := h hm
    refine Src.ofSlice w ht ⟨b, off, none⟩ n cap vs hn (fun j u hj => ?_) h1
    have hjl := (List.getElem?_eq_some_iff.1 hj).1
    rw [Addr.add_lit, hc j hjl, ← hj, List.getElem?_eq_getElem hjl]
  · have e0 : vs = [] := List.eq_nil_of_length_eq_zero (by omega)
    subst e0
    obtain rfl : n = 0 := by
      rcases Nat.eq_zero_or_pos n with h0 | h0
      · exact h0
      · have := Nat.mul_pos h0 hk; simp at hn; omega
    cases ao with
    | none => exact Src.ofNil w ht cap
    | some b => exact Src.ofSlice w ht b 0 cap [] (by simp) (fun j u hj => by simp at hj) (fun u hu => by cases hu)
theorem tkV_oneU (l : List ByteArray) : ∀ u ∈ tkV l, u.oneCell' = true := fun u hu => by
  obtain ⟨x, _, hx⟩ := List.mem_flatMap.1 hu
  simp only [tkC, List.mem_cons, List.not_mem_nil, or_false] at hx
  subst hx
  rfl
theorem SAt.src {w : World} {ao : Option Addr} {l : List ByteArray} (h : SAt w ao l) (cap : Nat) : Src Tryz.prog 1 22 (.slice ao l.length cap) l.length (tkV l) w :=
  (sat_cat h).srcU 22 9 1 l.length cap (by omega) Tryz.underlying22 (by rw [tkV_len, Nat.mul_one]) (tkV_oneU l)
theorem tkV_at (l : List ByteArray) {j : Nat} (hj : j < l.length) (hj' : j < (tkV l).length) : (tkV l)[j] = .string l[j] := by
  have h2 := flat_get tkC 1 (fun _ => rfl) l j hj 0 (by omega)
  rw [Nat.mul_one, Nat.add_zero] at h2
  have h3 : (tkV l)[j]? = (tkC l[j])[0]? := h2
  rw [List.getElem?_eq_getElem hj'] at h3
  simpa [tkC] using h3

set_option maxRecDepth 20000 in
theorem cloneS_any (w : World) (ao : Option Addr) (cap : Nat) (l : List ByteArray) (h : SAt w ao l) (hl : l.length * 16 ≤ 140737488355328) :
    Calls Tryz.prog 48 #[.slice ao l.length cap] w fun e w' => ∃ ao' cap' g, e = .returned (.slice ao' l.length cap') ∧ LO w w' ao' cap' g l ∧ Fr (fun _ => False) w w' := by
  cases ao with
  | none =>
    have e0 : l = [] := by
      cases l with
      | nil => rfl
      | cons x l => obtain ⟨b, off, e, _⟩ := h (by simp); cases e
    subst e0
    clear h
    rw [List.length_nil]
    have heq := @Lib.run_eql_slice_nil Tryz.prog
    go_enter Tryz.func48, Tryz.ntmps48
    go_wp2
    go_ret
    exact ⟨none, 0, 0, rfl, LO.nil _ _, Fr.refl _ _⟩
  | some A =>
    obtain ⟨info, hi, hzz⟩ := Option.map_eq_some_iff.1 Token_info
    simp only [Prod.mk.injEq] at hzz
    have HI := hide (And.intro hi hzz)
    obtain ⟨W, hW⟩ : ∃ W : World → World, ∀ w, W w = w.alloc (.cells #[] 9) := ⟨fun w => w.alloc (.cells #[] 9), fun _ => rfl⟩
    have hA : Fr (fun _ => False) w (w.alloc (.cells #[] 9)) := (Fr.refl _ _).alloc _
    have HS := hide ((h.keep hA).src cap)
    have HA := hide hA
    have HK : Hid (KRow (w.alloc (.cells #[] 9)) (some ⟨w.heap.size, 0, none⟩) 0 0 1 []) := hide ⟨Nat.zero_le _, Nat.zero_le _, fun h => absurd h (by omega), fun j hj => absurd hj (by omega), fun j hj => absurd hj (by simp), fun u hu => by cases hu⟩
    have hb : (0 + l.length) * 16 ≤ 140737488355328 := by omega
    clear h hA hi hzz hW W
    have heq := @Lib.run_eql_slice_nil Tryz.prog
    go_enter Tryz.func48, Tryz.ntmps48
    go_wp2_with (at_builtin; refine wpList_append_krow _ rfl (.tmp 5) (.tmp 6) 22 22 rfl 9 info _ 1 (by omega) Tryz.underlying22 (unhide HI).1 (unhide HI).2.1 rfl (unhide HI).2.2.1 rfl (unhide HK) rfl _ _ l.length rfl (unhide HS) (by rw [(unhide HI).2.2.2]; exact hb) (by omega) ?_)
    intro ao' cap' w' g' hrow hgr
    have HC : Hid (LO w w' ao' cap' g' l ∧ Fr (fun _ => False) w w') := hide (by
      refine ⟨⟨hrow, fun hc => ?_⟩, ?_⟩
      · rcases hgr with ⟨_, e2, _⟩ | ⟨e1, _, _⟩
        · omega
        · exact Nat.le_trans (unhide HA).size e1
      · rcases hgr with ⟨_, _, hF⟩ | ⟨_, _, hF⟩
        · exact (unhide HA).trans hF (fun _ _ t => by omega)
        · exact (unhide HA).trans hF (fun _ _ t => t))
    clear hrow hgr
    go_wp2
    go_ret
    exact ⟨ao', cap', g', by simp, (unhide HC).1, (unhide HC).2⟩

/-- A text of its bytes. -/
def mkS (t : List UInt8) : ByteArray := ⟨t.toArray⟩
theorem mkS_toList (t : List UInt8) : (mkS t).toList = t := by unfold mkS; rw [ByteArray.toList_eq]
theorem toList_mkS (x : ByteArray) : mkS x.toList = x := toList_same (mkS_toList _)

theorem LO.holds {w0 w : World} {ao : Option Addr} {cap g : Nat} {l : List ByteArray} (h : LO w0 w ao cap g l) : Sort.Holds encStr w g 0 (l.map ByteArray.toList).toArray := by
  intro j hj
  have hj' : j < l.length := by simpa using hj
  have hle := h.row.le
  rw [tkV_len] at hle
  rw [Nat.zero_add]
  refine ⟨?_, (h.row.room j (by omega)).2⟩
  rw [h.row.cells j (by rw [tkV_len]; exact hj'), tkV_at l hj']
  have e := toList_mkS l[j]
  unfold mkS at e
  simp [hj', encStr, e]

/-- The row of a list, written over by as many texts. -/
theorem LO.put {w0 w : World} {ao : Option Addr} {cap g : Nat} {l : List ByteArray} (h : LO w0 w ao cap g l) (hl : 0 < l.length) (ts : List (List UInt8)) (ht : ts.length = l.length) (n : Nat) (os : Array Obj) :
    LO w0 (Sort.grow (Sort.putRow encStr (Sort.ahead w n) g 0 ts.toArray) os) ao cap g (ts.map mkS) ∧ Fr (fun k => k = g) w (Sort.grow (Sort.putRow encStr (Sort.ahead w n) g 0 ts.toArray) os) := by
  have hgr := grownBy_sorted (w := w) (g := g) (n := n) (os := os) ts.toArray
  have hc : 0 < cap := by have := h.len; omega
  have hlt := h.lt hc
  have hblk : (Sort.grow (Sort.putRow encStr (Sort.ahead w n) g 0 ts.toArray) os).heap[g]? = (Sort.putRow encStr (Sort.ahead w n) g 0 ts.toArray).heap[g]? := Sort.heap_grow_old _ _ (by simpa using hlt)
  have hcell : ∀ j, (Sort.grow (Sort.putRow encStr (Sort.ahead w n) g 0 ts.toArray) os).cell? ⟨g, j, none⟩ = (Sort.putRow encStr (Sort.ahead w n) g 0 ts.toArray).cell? ⟨g, j, none⟩ := fun j => World.cell?_of_block (a := ⟨g, j, none⟩) hblk
  have hin : ∀ j (hj : j < ts.length), (Sort.grow (Sort.putRow encStr (Sort.ahead w n) g 0 ts.toArray) os).cell? ⟨g, j, none⟩ = some (.string (mkS ts[j])) := fun j hj => by
    have h1 := Sort.cell?_putRow encStr (Sort.ahead w n) g 0 (l.map ByteArray.toList).toArray ts.toArray (Sort.holds_ahead encStr w n g 0 _ h.holds) (by simp [ht]) j (by simpa using hj)
    rw [Nat.zero_add] at h1
    rw [hcell j, h1]
    simp [encStr, mkS, hj]
  have hout : ∀ j, ts.length ≤ j → (Sort.grow (Sort.putRow encStr (Sort.ahead w n) g 0 ts.toArray) os).cell? ⟨g, j, none⟩ = w.cell? ⟨g, j, none⟩ := fun j hj => by
    rw [hcell j, Sort.cell?_putRow_other encStr (Sort.ahead w n) g 0 ts.toArray ⟨g, j, none⟩ (.inr (.inr (by simpa using hj)))]
    rfl
  refine ⟨⟨⟨?_, h.row.max, h.row.ad, fun j hj => ⟨?_, ?_⟩, fun j hj => ?_, tkV_oneU _⟩, h.new⟩, ⟨hgr.os, hgr.tape, hgr.output, hgr.size, fun k hk hne => hgr.block k hk (fun e => hne (by injection e))⟩⟩
  · rw [tkV_len, List.length_map, ht]
    have := h.len
    omega
  · by_cases hj2 : j < ts.length
    · rw [hin j hj2]; rfl
    · rw [hout j (by omega)]; exact (h.row.room j hj).1
  · rw [World.frozen?_of_block (a := ⟨g, j, none⟩) hblk, Sort.frozen?_putRow]
    exact (h.row.room j hj).2
  · have hj2 : j < (ts.map mkS).length := by rw [tkV_len] at hj; exact hj
    rw [tkV_at _ hj2, hin j (by simpa using hj2)]
    simp
theorem LO.front {w0 w : World} {ao : Option Addr} {cap g : Nat} {l m : List ByteArray} (h : LO w0 w ao cap g (l ++ m)) : LO w0 w ao cap g l := by
  have hr : KRow w ao cap g 1 (tkV (l ++ m)) := h.row
  rw [tkV_app] at hr
  refine ⟨⟨?_, hr.max, hr.ad, hr.room, fun j hj => ?_, tkV_oneU _⟩, h.new⟩
  · have := hr.le
    rw [List.length_append] at this
    omega
  · rw [hr.cells j (by rw [List.length_append]; omega), List.getElem_append_left hj]

theorem leB_iff (x y : List UInt8) : decide (x ≤ y) = !Op.bytesLess y x := by
  rw [bytesLess_eq]
  by_cases h : y < x
  · rw [decide_eq_true h, decide_eq_false (fun k => k h)]; rfl
  · rw [decide_eq_false h, decide_eq_true (show x ≤ y from h)]; rfl

/-- Sorted texts, of each run one: rising, the same texts. -/
theorem compact_up (d : Array (List UInt8)) (hs : ∀ i j, i < j → j < d.size → Op.bytesLess d[j]! d[i]! = false) : ∀ m, m ≤ d.size →
    ((Lib.compactUpTo d m).Pairwise (fun a b => Op.bytesLess a b = true) ∧ ∀ x, x ∈ Lib.compactUpTo d m ↔ ∃ j, j < m ∧ d[j]! = x)
  | 0, _ => by simp [Lib.compactUpTo]
  | m + 1, hm => by
    obtain ⟨h1, h2⟩ := compact_up d hs m (by omega)
    rw [Lib.compactUpTo_succ]
    by_cases hk : m = 0 ∨ d[m]! ≠ d[m - 1]!
    · have hk' : Lib.keeps d m = true := by unfold Lib.keeps; exact decide_eq_true hk
      rw [hk', if_pos rfl]
      refine ⟨List.pairwise_append.2 ⟨h1, by simp, fun a ha b hb => ?_⟩, fun x => ?_⟩
      · obtain ⟨j, hj, rfl⟩ := (h2 a).1 ha
        obtain rfl : b = d[m]! := by simpa using hb
        have n1 : d[m]! ≠ d[m - 1]! := hk.resolve_left (by omega)
        have k1 : Op.bytesLess d[m]! d[m - 1]! = false := hs (m - 1) m (by omega) (by omega)
        have k2 : Op.bytesLess d[m - 1]! d[m]! = true := by
          rcases less_total d[m - 1]! d[m]! with k | k | k
          · exact k
          · exact absurd k.symm n1
          · rw [k1] at k; cases k
        by_cases e : j = m - 1
        · rw [e]; exact k2
        · have k3 : Op.bytesLess d[m - 1]! d[j]! = false := hs j (m - 1) (by omega) (by omega)
          rcases less_total d[j]! d[m - 1]! with k | k | k
          · exact less_trans _ _ _ k k2
          · rw [k]; exact k2
          · rw [k3] at k; cases k
      · rw [List.mem_append, h2]
        constructor
        · rintro (⟨j, hj, e⟩ | e)
          · exact ⟨j, by omega, e⟩
          · exact ⟨m, by omega, (List.mem_singleton.1 e).symm⟩
        · rintro ⟨j, hj, e⟩
          by_cases c : j = m
          · subst c; exact Or.inr (by simp [e])
          · exact Or.inl ⟨j, by omega, e⟩
    · have hk' : Lib.keeps d m = false := by unfold Lib.keeps; exact decide_eq_false hk
      rw [hk', if_neg (by simp), List.append_nil]
      refine ⟨h1, fun x => ?_⟩
      rw [h2]
      have hm0 : ¬ m = 0 := fun e => hk (Or.inl e)
      have hm1 : d[m]! = d[m - 1]! := Classical.not_not.1 (fun e => hk (Or.inr e))
      constructor
      · rintro ⟨j, hj, e⟩
        exact ⟨j, by omega, e⟩
      · rintro ⟨j, hj, e⟩
        by_cases c : j = m
        · exact ⟨m - 1, by omega, by rw [← e, c, hm1]⟩
        · exact ⟨j, by omega, e⟩

/-- A list's texts in order, each once. -/
def riseL (l : List ByteArray) : List ByteArray := putsL [] l

theorem sorted_compact (l : List ByteArray) : (Lib.compact ((l.map ByteArray.toList).mergeSort fun x y => decide (x ≤ y))).map mkS = riseL l := by
  have hp := List.mergeSort_perm (l.map ByteArray.toList) (fun x y => decide (x ≤ y))
  have hso : ((l.map ByteArray.toList).mergeSort fun x y => decide (x ≤ y)).Pairwise (fun x y => decide (x ≤ y) = true) := by
    refine List.pairwise_mergeSort (fun a b c h1 h2 => ?_) (fun a b => ?_) _
    · rw [leB_iff] at h1 h2 ⊢
      rw [Bool.not_eq_true'] at h1 h2 ⊢
      cases k : Op.bytesLess c a with
      | false => rfl
      | true =>
        rcases less_total b c with m | m | m
        · rw [less_trans _ _ _ m k] at h1; cases h1
        · subst m; rw [k] at h1; cases h1
        · rw [m] at h2; cases h2
    · rw [leB_iff, leB_iff]
      rcases less_total a b with m | m | m
      · cases k : Op.bytesLess b a with
        | false => rfl
        | true => exact absurd (less_trans _ _ _ m k) (by rw [less_irrefl]; simp)
      · subst m; rw [less_irrefl]; rfl
      · cases k : Op.bytesLess a b with
        | false => simp
        | true => exact absurd (less_trans _ _ _ m k) (by rw [less_irrefl]; simp)
  generalize (l.map ByteArray.toList).mergeSort (fun x y => decide (x ≤ y)) = ss at *
  have hc := compact_up ss.toArray (fun i j hij hj => by
    have hj' : j < ss.length := by simpa using hj
    have := List.pairwise_iff_getElem.1 hso i j (by omega) hj' hij
    rw [leB_iff, Bool.not_eq_true'] at this
    simpa [show i < ss.length by omega, hj'] using this) ss.length (by simp)
  have hr : Ris ((Lib.compact ss).map mkS) := by
    unfold Ris Lib.compact
    rw [List.pairwise_map]
    exact hc.1.imp (fun {a b} h => by unfold ltS; rw [mkS_toList, mkS_toList]; exact h)
  refine hr.ext (putsL_ris _ _ Ris.nil) (fun x => ?_)
  unfold riseL
  rw [putsL_mem, List.mem_map]
  constructor
  · rintro ⟨t, ht, rfl⟩
    obtain ⟨j, hj, e⟩ := (hc.2 t).1 ht
    have h1 : t ∈ ss := by
      rw [← e]
      simp [hj]
    have h2 := hp.mem_iff.1 h1
    obtain ⟨y, hy, e2⟩ := List.mem_map.1 h2
    right
    rw [← e2, toList_mkS]
    exact hy
  · rintro (h | h)
    · cases h
    · refine ⟨x.toList, (hc.2 _).2 ?_, toList_mkS x⟩
      have h2 := hp.mem_iff.2 (List.mem_map.2 ⟨x, h, rfl⟩)
      obtain ⟨j, hj, e⟩ := List.mem_iff_getElem.1 h2
      exact ⟨j, hj, by simpa [hj] using e⟩

theorem compact_len (zs : List (List UInt8)) : (Lib.compact zs).length ≤ zs.length := by
  unfold Lib.compact Lib.compactUpTo
  rw [List.length_map]
  exact Nat.le_trans (List.length_filter_le _ _) (by simp)

set_option maxRecDepth 20000 in
theorem riseS_any (w : World) (ao : Option Addr) (cap : Nat) (l : List ByteArray) (h : SAt w ao l) (hl : l.length * 16 ≤ 140737488355328) :
    Calls Tryz.prog 35 #[.slice ao l.length cap] w fun e w' => ∃ ao' cap' g, e = .returned (.slice ao' (riseL l).length cap') ∧ LO w w' ao' cap' g (riseL l) ∧ Fr (fun _ => False) w w' := by
  have R := hide (cloneS_any w ao cap l h hl)
  clear h
  by_cases h0 : 0 < l.length
  · have HS : Hid (∀ w1 ao1 cap1 g1, LO w w1 ao1 cap1 g1 l → Fr (fun _ => False) w w1 → Calls Tryz.prog 49 #[.slice ao1 l.length cap1] w1 fun e w2 => e = .returned (.tuple #[]) ∧ LO w w2 ao1 cap1 g1 (((l.map ByteArray.toList).mergeSort fun x y => decide (x ≤ y)).map mkS) ∧ Fr (fun _ => False) w w2) := hide (fun w1 ao1 cap1 g1 hL hF => by
      have hc : 0 < cap1 := by have := hL.len; omega
      have had := hL.row.ad hc
      subst had
      have SC := Tryz.slices_Sort_string g1 0 cap1 (l.map ByteArray.toList) w1 hL.holds (hL.lt hc) (by rw [List.length_map]; omega)
      rw [List.length_map] at SC
      refine SC.mono ?_
      rintro e w2 ⟨rfl, n, os, rfl⟩
      obtain ⟨k1, k2⟩ := hL.put h0 ((l.map ByteArray.toList).mergeSort fun x y => decide (x ≤ y)) (by rw [(List.mergeSort_perm _ _).length_eq, List.length_map]) n os
      exact ⟨rfl, k1, hF.trans k2 (fun i hi t => by have := hL.new hc; omega)⟩)
    have HC : Hid (∀ w2 ao1 cap1 g1, LO w w2 ao1 cap1 g1 (((l.map ByteArray.toList).mergeSort fun x y => decide (x ≤ y)).map mkS) → Fr (fun _ => False) w w2 → Calls Tryz.prog 50 #[.slice ao1 l.length cap1] w2 fun e w3 => ∃ ao' cap' g, e = .returned (.slice ao' (riseL l).length cap') ∧ LO w w3 ao' cap' g (riseL l) ∧ Fr (fun _ => False) w w3) := hide (fun w2 ao1 cap1 g1 hL hF => by
      have hlen : ((l.map ByteArray.toList).mergeSort fun x y => decide (x ≤ y)).length = l.length := by rw [(List.mergeSort_perm _ _).length_eq, List.length_map]
      have hc : 0 < cap1 := by have := hL.len; rw [List.length_map] at this; omega
      have had := hL.row.ad hc
      subst had
      rw [← sorted_compact]
      generalize (l.map ByteArray.toList).mergeSort (fun x y => decide (x ≤ y)) = ss at *
      have hh : Sort.Holds encStr w2 g1 0 ss.toArray := by
        have := hL.holds
        rw [List.map_map, show (ByteArray.toList ∘ mkS) = id from funext mkS_toList, List.map_id] at this
        exact this
      have SC := Tryz.slices_Compact_string g1 0 cap1 ss w2 hh (by omega) (by have := hL.len; rw [List.length_map] at this; omega)
      rw [hlen] at SC
      refine SC.mono ?_
      rintro e w3 ⟨rfl, q, rfl⟩
      have hcl := compact_len ss
      obtain ⟨k1, k2⟩ := hL.put (by rw [List.length_map]; omega) (Lib.compact ss ++ List.replicate (l.length - (Lib.compact ss).length) []) (by rw [List.length_append, List.length_replicate, List.length_map]; omega) q #[]
      rw [Sort.grow_empty] at k1 k2
      rw [List.map_append] at k1
      exact ⟨_, cap1, g1, by rw [List.length_map], k1.front, hF.trans k2 (fun i hi t => by have := hL.new hc; omega)⟩)
    generalize riseL l = r at *
    generalize l.length = n at *
    go_enter Tryz.func35, Tryz.ntmps35
    go_wp2_with fail
    refine (unhide R).mono ?_
    rintro e w1 ⟨ao1, cap1, g1, rfl, hL, hF⟩
    have H1 := hide (And.intro hL hF)
    clear hL hF R
    go_wp2_with fail
    refine (unhide HS w1 ao1 cap1 g1 (unhide H1).1 (unhide H1).2).mono ?_
    rintro e w2 ⟨rfl, hL, hF⟩
    have H2 := hide (And.intro hL hF)
    clear hL hF H1
    go_wp2_with fail
    refine (unhide HC w2 ao1 cap1 g1 (unhide H2).1 (unhide H2).2).mono ?_
    rintro e w3 ⟨ao3, cap3, g3, rfl, hL, hF⟩
    have H3 := hide (And.intro hL hF)
    clear hL hF H2
    go_wp2
    go_ret
    exact ⟨ao3, cap3, g3, rfl, (unhide H3).1, (unhide H3).2⟩
  · have e0 : l = [] := List.eq_nil_of_length_eq_zero (by omega)
    subst e0
    have er : riseL [] = [] := rfl
    rw [er]
    rw [List.length_nil] at R ⊢
    clear er h0 hl
    go_enter Tryz.func35, Tryz.ntmps35
    go_wp2_with fail
    refine (unhide R).mono ?_
    rintro e w1 ⟨ao1, cap1, g1, rfl, hL, hF⟩
    have H1 := hide (And.intro hL hF)
    clear hL hF R
    go_wp2_with fail
    refine (Tryz.slices_Sort_string_none ao1 cap1 w1).mono ?_
    rintro e w2 ⟨rfl, hq⟩
    obtain rfl := hq.symm
    clear hq
    go_wp2_with fail
    refine (Tryz.slices_Compact_string_empty ao1 cap1 _).mono ?_
    rintro e w3 ⟨rfl, hq⟩
    obtain rfl := hq.symm
    clear hq
    go_wp2
    go_ret
    exact ⟨ao1, cap1, g1, rfl, (unhide H1).1, (unhide H1).2⟩

end Go.Proofs.YtmhljehkodhggaaGreat

