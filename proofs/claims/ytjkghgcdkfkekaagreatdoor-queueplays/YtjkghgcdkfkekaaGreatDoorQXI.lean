import Derived.Test.YtjkghgcdkfkekaaGreatDoorQXF
/- The document's own queue in memory ('Rf'): its Last, Put, Ack and Clone. -/
namespace Go.Proofs.YtjkghgcdkfkekaaGreatDoor
open Go.RowKit

/-- The document's queue: its box and its row lie in blocks of which M holds, its items' bytes in blocks of which E holds. -/
structure Rf (M E : Nat → Prop) (w : World) (rb lim : Nat) (q : Qr) : Prop where
  ex : ∃ io cap g off, Bx w rb #[.int .i64 (lim : Int), .int .i64 (q.acked : Int), .slice io q.items.length cap] 49 ∧ M rb ∧ (0 < cap → M g ∧ g ≠ rb) ∧ Its E w io cap g off q.items

theorem Rf.frame {M E S : Nat → Prop} {w w' : World} {rb lim : Nat} {q : Qr} (h : Rf M E w rb lim q) (hF : Fr S w w') (hM : ∀ k, M k → ¬ S k) (hE : ∀ k, E k → ¬ S k) : Rf M E w' rb lim q := by
  obtain ⟨io, cap, g, off, h1, h2, h3, h4⟩ := h.ex
  exact ⟨io, cap, g, off, h1.frame hF (hM _ h2), h2, h3, h4.frame hF (fun hc => hM _ (h3 hc).1) hE⟩

theorem Rf.keep {M E : Nat → Prop} {w w' : World} {rb lim : Nat} {q : Qr} (h : Rf M E w rb lim q) (hF : Fr (fun _ => False) w w') : Rf M E w' rb lim q := h.frame hF (fun _ _ t => t) (fun _ _ t => t)

theorem Rf.mono {M E M' E' : Nat → Prop} {w : World} {rb lim : Nat} {q : Qr} (h : Rf M E w rb lim q) (hM : ∀ k, k < w.heap.size → M k → M' k) (hE : ∀ k, k < w.heap.size → E k → E' k) : Rf M' E' w rb lim q := by
  obtain ⟨io, cap, g, off, h1, h2, h3, h4⟩ := h.ex
  exact ⟨io, cap, g, off, h1, hM _ h1.lt h2, fun hc => ⟨hM _ (h4.lt hc) (h3 hc).1, (h3 hc).2⟩, h4.mono hE⟩

set_option maxHeartbeats 1000000 in
set_option maxRecDepth 20000 in
theorem rlast_any {M E : Nat → Prop} (w : World) (rb lim : Nat) (q : Qr) (hR : Rf M E w rb lim q) (hl : q.last ≤ 4294967295) :
    Calls Tryz.prog 52 #[.pointer (some ⟨rb, 0, none⟩)] w fun e w' => e = .returned (.int .i64 (q.last : Int)) ∧ Fr (fun _ => False) w w' := by
  obtain ⟨io, cap, g, off, hb, h2, h3, h4⟩ := hR.ex
  have c1 : w.cell? ⟨rb, 1, none⟩ = some (.int .i64 (q.acked : Int)) := hb.cell 1
  have c2 : w.cell? ⟨rb, 2, none⟩ = some (.slice io q.items.length cap) := hb.cell 2
  have hle : q.last = q.acked + q.items.length := rfl
  have hwr : IntKind.i64.wrap ((q.acked : Int) + (q.items.length : Int)) = (q.last : Int) := by rw [IntKind.wrap_i64]; omega
  clear hb h2 h3 h4 hR hl hle
  go_enter Tryz.func52, Tryz.ntmps52
  go_wp2
  go_region_held3 (fun w' => w'.cell? ⟨rb, 1, none⟩ = some (.int .i64 (q.acked : Int)) ∧ w'.cell? ⟨rb, 2, none⟩ = some (.slice io q.items.length cap)) (first | exact ⟨c1, c2⟩) (fail)
  go_wp2
  go_ret
  exact ⟨rfl, (Fr.refl _ _).drew⟩

/-- Blocks known so far keep what they are; no block is both. -/
structure Agr (w w' : World) (M E M' E' : Nat → Prop) : Prop where
  m : ∀ k, k < w.heap.size → (M' k ↔ M k)
  e : ∀ k, k < w.heap.size → (E' k ↔ E k)
  ml : ∀ k, M' k → k < w'.heap.size
  el : ∀ k, E' k → k < w'.heap.size
  dj : ∀ k, M' k → ¬ E' k

set_option maxHeartbeats 1000000 in
set_option maxRecDepth 20000 in
theorem rput_any {M E : Nat → Prop} (w : World) (rb lim : Nat) (q : Qr) (hR : Rf M E w rb lim q) (hM : ∀ k, M k → k < w.heap.size) (hE : ∀ k, E k → k < w.heap.size) (hD : ∀ k, M k → ¬ E k) (hl : q.last ≤ 4294967295) (hli : lim ≤ 4096) (bo : Option Addr) (bc : Nat) (bs : Bs) (hB : BAt w bo bc bs) (he : putE q lim bs = 0) :
    Calls Tryz.prog 47 #[.pointer (some ⟨rb, 0, none⟩), .slice bo bs.length bc] w fun e w' => e = .returned (.tuple #[.int .i64 ((q.last + 1 : Nat) : Int), .int .i64 0]) ∧ ∃ M' E', Agr w w' M E M' E' ∧ Fr M w w' ∧ Rf M' E' w' rb lim ⟨q.acked, q.items ++ [bs]⟩ := by
  have hE' : bs.length ≤ 256 ∧ q.items.length < lim ∧ q.last < 4294967295 := by
    unfold putE at he
    split at he
    · cases he
    · split at he
      · cases he
      · split at he
        · cases he
        · omega
  obtain ⟨hbl, hil, hll⟩ := hE'
  have LA := hide (fun u (hu : Fr (fun _ => False) w u) => rlast_any u rb lim q (hR.keep hu) hl)
  obtain ⟨io, cap, g, off, hb, h2, h3, h4⟩ := hR.ex
  have HH := hide (And.intro hb (And.intro h2 (And.intro h3 (And.intro h4 (And.intro hM (And.intro hE (And.intro hD hB)))))))
  have c0 : w.cell? ⟨rb, 0, none⟩ = some (.int .i64 (lim : Int)) := hb.cell 0
  have c2 : w.cell? ⟨rb, 2, none⟩ = some (.slice io q.items.length cap) := hb.cell 2
  have hlast : q.last = q.acked + q.items.length := rfl
  have HL := hide (And.intro hlast (And.intro hbl (And.intro hil (And.intro hll hli))))
  have hbI : (bs.length : Int) ≤ 256 := by omega
  have h2I : decide ((q.items.length : Int) ≥ (lim : Int)) = false := by simp; omega
  have h2d : decide (lim ≤ q.items.length) = false := by simp; omega
  have h3I : (q.last : Int) < 4294967295 := by omega
  clear hR hM hE hD hl hb h2 h3 h4 hB hlast hbl hil hll hli he
  generalize q.last = la at *
  have h3d : decide ((la : Int) ≥ 4294967295) = false := by simp; omega
  have h3e : decide (4294967295 ≤ la) = false := by simp; omega
  have hlw : IntKind.i64.wrap ((la : Int) + 1) = (la : Int) + 1 := by rw [IntKind.wrap_i64]; omega
  clear h3I
  go_enter Tryz.func47, Tryz.ntmps47
  go_wp2
  go_region_held3 (fun w' => w'.cell? ⟨rb, 0, none⟩ = some (.int .i64 (lim : Int)) ∧ w'.cell? ⟨rb, 2, none⟩ = some (.slice io q.items.length cap)) (first | exact ⟨c0, c2⟩) (fail)
  go_wp2_with fail
  refine (unhide LA _ ((Fr.refl _ _).drew)).mono ?_
  rintro e w1 ⟨rfl, hF1⟩
  have hF1 : Fr (fun _ => False) w w1 := ((Fr.refl _ _).drew).trans hF1 (fun _ _ t => t)
  have HF1 := hide hF1
  clear hF1 c0 c2 LA
  obtain ⟨i5, hi5, hz50, hz51, hz52⟩ := info_parts Tryz.info5
  obtain ⟨xo, xc, w2, g2, hrun1, HR1⟩ : ∃ xo xc w2 g2, Hid ((Builtin.append_ #[28, 28] 28 #[.slice (some ⟨w1.heap.size, 0, none⟩) 0 0, .slice bo bs.length bc]).run Tryz.prog (w1.alloc (.cells #[] 5)).drew = .ok (.slice xo bs.length xc) w2) ∧ Hid (Row w2 (.slice xo bs.length xc) g2 bs ∧ Fr (fun _ => False) w1 w2 ∧ w1.heap.size ≤ g2) := by
    have hF0 : Fr (fun _ => False) w1 (w1.alloc (.cells #[] 5)).drew := ((Fr.refl _ _).alloc _).drew
    have hrow : Row (w1.alloc (.cells #[] 5)).drew (.slice (some ⟨w1.heap.size, 0, none⟩) (([] : Bs).length) 0) w1.heap.size [] := ⟨⟨_, 0, rfl, Nat.le_refl _, Nat.zero_le _, fun h => absurd h (by omega), fun j hj => absurd hj (by omega)⟩, fun j hj => absurd hj (by simp)⟩
    have hBB := ((unhide HH).2.2.2.2.2.2.2.later (unhide HF1)).later hF0
    have hsrc : Src Tryz.prog 1 28 (.slice bo bs.length bc) bs.length (bytesV bs) (w1.alloc (.cells #[] 5)).drew := src_slice Tryz.underlying28 _ bo bc bs hBB.2.1
    obtain ⟨xo, xc, w2, g2, r0, r1, r2, r3⟩ := append_row (P := Tryz.prog) 28 28 28 5 i5 Tryz.underlying28 hi5 hz50 hz51 hz52 hrow (.slice bo bs.length bc) bs hsrc (by simp; omega)
    rw [List.nil_append] at r0 r1
    exact ⟨xo, xc, w2, g2, hide r0, hide ⟨r1, hF0.trans r2 (fun k _ t => by omega), by rcases r3 with ⟨e, _⟩ | e; (· omega); (· simp at e; omega)⟩⟩
  obtain ⟨yo, yc, w3, g3, o3, hrun2, HR2⟩ : ∃ yo yc w3 g3 o3, Hid ((Builtin.append_ #[23, 23] 23 #[.slice io q.items.length cap, .slice (some ⟨w2.heap.size, 0, none⟩) 1 1]).run Tryz.prog (w2.alloc (.cells #[.slice xo bs.length xc] 28)) = .ok (.slice yo (q.items.length + 1) yc) w3) ∧ Hid (Its (fun k => E k ∨ (k = g2 ∧ k < w2.heap.size)) w3 yo yc g3 o3 (q.items ++ [bs]) ∧ Fr (fun k => k = g ∧ 0 < cap) w1 w3 ∧ ((g3 = g ∧ yc = cap) ∨ w2.heap.size ≤ g3) ∧ w2.heap.size < w3.heap.size) := by
    obtain ⟨hb, h2, h3, h4, hM, hE, hD, hB⟩ := unhide HH
    obtain ⟨r1, r2, r3⟩ := unhide HR1
    obtain ⟨l1, l2, l3, l4, l5⟩ := unhide HL
    have hFa : Fr (fun _ => False) w2 (w2.alloc (.cells #[.slice xo bs.length xc] 28)) := (Fr.refl _ _).alloc _
    have hF := ((unhide HF1).trans r2 (fun _ _ t => t)).trans hFa (fun _ _ t => t)
    have hsz := (unhide HF1).size
    have hx0 : IEl (fun k => (E k ∨ (k = g2 ∧ k < w2.heap.size)) ∨ bs.length = 0) w2 (.slice xo bs.length xc) bs := (row_iel r1 (by omega) (by
      rcases Nat.eq_zero_or_pos bs.length with h0 | h0
      · exact .inr h0
      · exact .inl (.inr ⟨rfl, row_lt r1 h0⟩))).2
    have hx : IEl (fun k => E k ∨ (k = g2 ∧ k < w2.heap.size)) w2 (.slice xo bs.length xc) bs := by
      obtain ⟨ao, cc, e, hbt, hk⟩ := hx0
      exact ⟨ao, cc, e, hbt, fun k off h0 e => (hk k off h0 e).elim id (fun t => by omega)⟩
    have hsrc : Src Tryz.prog 1 23 (.slice (some ⟨w2.heap.size, 0, none⟩) 1 1) 1 [.slice xo bs.length xc] (w2.alloc (.cells #[.slice xo bs.length xc] 28)) :=
      src_one (P := Tryz.prog) w2 [.slice xo bs.length xc] 23 28 1 Tryz.underlying23 rfl (fun u hu => by simp at hu; subst hu; rfl) (fun j => ((Bx.new w2 #[.slice xo bs.length xc] 28).cell j).trans (by simp))
    obtain ⟨yo, yc, w3, g3, o3, q1, q2, q3, q4, q5⟩ := append_its (E := fun k => E k ∨ (k = g2 ∧ k < w2.heap.size)) ((h4.keep hF).mono (fun _ _ t => .inl t)) (fun hc t => by
      have := hM _ (h3 hc).1
      rcases t with t | t
      · exact hD _ (h3 hc).1 t
      · omega) _ _ bs (hx.frame hFa (fun _ _ t => t)) hsrc (by omega) 23
    have hs4 := q4.size
    rw [heap_alloc] at hs4
    exact ⟨yo, yc, w3, g3, o3, hide q1, hide ⟨q2, (((r2.trans hFa (fun _ _ t => t)).mono (fun _ _ t => t.elim)).trans q4 (fun _ _ t => t)), q5.imp id (fun t => by rw [heap_alloc] at t; omega), by omega⟩⟩
  have HC : Hid (∀ u, Fr (fun k => k = g ∧ 0 < cap) w1 u → u.cell? ⟨rb, 2, none⟩ = some (.slice io q.items.length cap) ∧ u.frozen? ⟨rb, 2, none⟩ = false) := hide (fun u hu => by
    obtain ⟨hb, h2, h3, h4, hM, hE, hD, hB⟩ := unhide HH
    have b := (hb.keep (unhide HF1)).frame hu (fun t => (h3 t.2).2 t.1.symm)
    exact ⟨b.cell 2, b.frozen 2⟩)
  have a0 := (unhide HC w1 (Fr.refl _ _)).1
  have a1 := (unhide HC (w1.alloc (.cells #[] 5)) ((Fr.refl _ _).alloc _)).1
  have a2 := (unhide HC w2 ((unhide HR1).2.1.mono (fun _ _ t => t.elim))).1
  have a3 := (unhide HC (w2.alloc (.cells #[.slice xo bs.length xc] 28)) (((unhide HR1).2.1.mono (fun _ _ t => t.elim)).alloc _)).1
  have a4 := unhide HC w3 (unhide HR2).2.1
  obtain ⟨a4, a5⟩ := a4
  have HP : Hid (∃ M' E', Agr w (w3.setCell ⟨rb, 2, none⟩ (.slice yo (q.items.length + 1) yc)) M E M' E' ∧ Fr M w (w3.setCell ⟨rb, 2, none⟩ (.slice yo (q.items.length + 1) yc)) ∧ Rf M' E' (w3.setCell ⟨rb, 2, none⟩ (.slice yo (q.items.length + 1) yc)) rb lim ⟨q.acked, q.items ++ [bs]⟩) := by
    obtain ⟨hb, h2, h3, h4, hM, hE, hD, hB⟩ := unhide HH
    obtain ⟨r1, r2, r3⟩ := unhide HR1
    obtain ⟨k1, k2, k3, k4⟩ := unhide HR2
    have hs1 := (unhide HF1).size
    have hs2 := r2.size
    have hs3 := k2.size
    have b3 := ((hb.keep (unhide HF1)).frame k2 (fun t => (h3 t.2).2 t.1.symm)).setCell 2 (.slice yo (q.items.length + 1) yc)
    have hrl := hb.lt
    have hFs : Fr (fun k => k = rb) w3 (w3.setCell ⟨rb, 2, none⟩ (.slice yo (q.items.length + 1) yc)) := (Fr.refl (fun k => k = rb) _).setCell (fun _ => rfl) _
    have hsz : (w3.setCell ⟨rb, 2, none⟩ (.slice yo (q.items.length + 1) yc)).heap.size = w3.heap.size := by simp
    refine hide ⟨fun k => M k ∨ (k = g3 ∧ 0 < yc), fun k => E k ∨ (k = g2 ∧ k < w2.heap.size), ⟨fun k hk => ⟨fun t => ?_, .inl⟩, fun k hk => ⟨fun t => ?_, .inl⟩, fun k t => ?_, fun k t => ?_, fun k t t' => ?_⟩, ?_, ⟨yo, yc, g3, o3, ?_, .inl h2, fun hc => ⟨.inr ⟨rfl, hc⟩, ?_⟩, k1.frame hFs (fun hc t => ?_) (fun k t t' => ?_)⟩⟩
    · rcases t with t | ⟨t, hc⟩
      · exact t
      · rcases k3 with ⟨e1, e2⟩ | e
        · rw [t, e1]; exact (h3 (by omega)).1
        · omega
    · rcases t with t | t
      · exact t
      · omega
    · rw [hsz]
      rcases t with t | ⟨t, hc⟩
      · have := hM k t; omega
      · rw [t]; exact k1.lt hc
    · rw [hsz]
      rcases t with t | t
      · have := hE k t; omega
      · omega
    · rcases t with t | ⟨t, hc⟩
      · rcases t' with t' | t'
        · exact hD k t t'
        · have := hM k t; omega
      · rcases k3 with ⟨e1, e2⟩ | e
        · have hg := (h3 (by omega)).1
          have := hM _ hg
          rcases t' with t' | t'
          · rw [t, e1] at t'; exact hD _ hg t'
          · omega
        · rcases t' with t' | t'
          · have := hE _ t'; omega
          · omega
    · exact (((unhide HF1).mono (fun _ _ t => t.elim)).trans k2 (fun k _ t => by rw [t.1]; exact (h3 t.2).1)).trans hFs (fun k _ t => by rw [t]; exact h2)
    · have e : (q.items ++ [bs]).length = q.items.length + 1 := by simp
      simp only [e]
      exact b3
    · rcases k3 with ⟨e1, e2⟩ | e
      · rw [e1]; exact (h3 (by omega)).2
      · omega
    · rcases k3 with ⟨e1, e2⟩ | e
      · rw [e1] at t; exact (h3 (by omega)).2 t
      · omega
    · rcases t with t | t
      · rw [t'] at t; exact hD _ h2 t
      · omega
  clear HC
  go_wp2
  go_region_law (first | refine step_append_run rfl (.tmp 29) (.tmp 30) 28 28 rfl rfl rfl (unhide hrun1) ?_ | refine step_append_run rfl (.tmp 28) (.tmp 32) 23 23 rfl rfl rfl (unhide hrun2) ?_)
  all_goals
    clear a0 a1 a2 a3
    go_wp2
    go_ret2
    exact ⟨by go_num, unhide HP⟩

end Go.Proofs.YtjkghgcdkfkekaaGreatDoor

/- The document's own queue: its Ack and its Clone. -/
namespace Go.Proofs.YtjkghgcdkfkekaaGreatDoor
open Go.RowKit

theorem IRow.src {w : World} {ao : Option Addr} {cap g off : Nat} {vs : List Value} (h : IRow w ao cap g off vs) (n : Nat) (hn : vs.length = n) : Src Tryz.prog 1 23 (.slice ao n cap) n vs w := by
  have hle := h.le
  subst hn
  by_cases h0 : 0 < vs.length
  · rw [h.ad (by omega)]
    refine Src.ofSlice w Tryz.underlying23 ⟨g, off, none⟩ vs.length cap vs (by simp) (fun j u hj => ?_) h.one
    have hjl := (List.getElem?_eq_some_iff.1 hj).1
    rw [Addr.add_lit, ← hj, List.getElem?_eq_getElem hjl]
    exact h.cells j hjl
  · have : vs = [] := List.eq_nil_of_length_eq_zero (by omega)
    subst this
    cases ao with
    | none => exact Src.ofNil w Tryz.underlying23 cap
    | some b => exact Src.ofSlice w Tryz.underlying23 b 0 cap [] (by simp) (fun j u hj => by simp at hj) (fun u hu => by cases hu)

/-- A row of items, copied: 'append([][]byte{}, l...)'. -/
theorem copy_its {E : Nat → Prop} {w : World} {ao : Option Addr} {cap g off : Nat} {l : List Bs} (h : Its E w ao cap g off l) (hl : l.length ≤ 1099511627776) :
    ∃ yo yc w' g' off', (Builtin.append_ #[23, 23] 23 #[.slice (some ⟨w.heap.size, 0, none⟩) 0 0, .slice ao l.length cap]).run Tryz.prog (w.alloc (.cells #[] 28)).drew = .ok (.slice yo l.length yc) w' ∧ Its E w' yo yc g' off' l ∧ Fr (fun _ => False) w w' ∧ w.heap.size < w'.heap.size ∧ (0 < yc → w.heap.size < g') := by
  obtain ⟨i0, hi, hzz⟩ := Option.map_eq_some_iff.1 infoS
  simp only [Prod.mk.injEq] at hzz
  obtain ⟨hz0, hz1, hz2⟩ := hzz
  have hF0 : Fr (fun _ => False) w (w.alloc (.cells #[] 28)).drew := ((Fr.refl _ _).alloc _).drew
  obtain ⟨vs, h1, h2, h3⟩ := (h.keep hF0).ex
  have hrow : IRow (w.alloc (.cells #[] 28)).drew (some ⟨w.heap.size, 0, none⟩) 0 w.heap.size 0 [] := ⟨Nat.le_refl _, Nat.zero_le _, fun h => absurd h (by omega), fun j hj => absurd hj (by omega), fun j hj => absurd hj (by simp), fun u hu => by cases hu⟩
  obtain ⟨ao', cap', w', g', off', hrun, r1, r2, r3, r4⟩ := append_irow (P := Tryz.prog) 23 23 23 28 i0 (.slice none 0 0) Tryz.underlying23 hi hz0 rfl hz1 (n := 0) hrow rfl (.slice ao l.length cap) vs l.length h2 (h1.src l.length h2) (by rw [hz2]; omega) (by omega)
  rw [Nat.zero_add] at hrun
  rw [List.nil_append] at r1
  have hs := r3.size
  have hsz : (w.alloc (.cells #[] 28)).drew.heap.size = w.heap.size + 1 := by simp
  rw [hsz] at hs r4
  exact ⟨ao', cap', w', g', off', hrun, ⟨vs, r1, h2, fun i a c => (h3 i a c).frame r3 (fun k _ t => by omega)⟩, hF0.trans r3 (fun k _ t => by omega), by omega, fun hc => by omega⟩

set_option maxHeartbeats 1000000 in
set_option maxRecDepth 20000 in
theorem rack_any {M E : Nat → Prop} (w : World) (rb lim : Nat) (q : Qr) (hR : Rf M E w rb lim q) (hM : ∀ k, M k → k < w.heap.size) (hE : ∀ k, E k → k < w.heap.size) (hD : ∀ k, M k → ¬ E k) (hl : q.last ≤ 4294967295) (s : Nat) (hs : s ≤ q.last) :
    Calls Tryz.prog 48 #[.pointer (some ⟨rb, 0, none⟩), .int .i64 (s : Int)] w fun e w' => e = .returned (.int .i64 0) ∧ ∃ M' E', Agr w w' M E M' E' ∧ Fr M w w' ∧ Rf M' E' w' rb lim (q.ack s) := by
  have LA := hide (fun u (hu : Fr (fun _ => False) w u) => rlast_any u rb lim q (hR.keep hu) hl)
  have hRR := hide (And.intro hR (And.intro hM (And.intro hE hD)))
  obtain ⟨io, cap, g, off, hb, h2, h3, h4⟩ := hR.ex
  have HH := hide (And.intro hb (And.intro h2 (And.intro h3 (And.intro h4 (And.intro hM (And.intro hE hD))))))
  have hlast : q.last = q.acked + q.items.length := rfl
  have HL := hide (And.intro hlast (And.intro hl hs))
  have hsI : (s : Int) ≤ (q.last : Int) := by omega
  have hsd : decide ((s : Int) > (q.last : Int)) = false := by simp; omega
  have hsd' : decide ((q.last : Int) < (s : Int)) = false := by simp; omega
  have hsd2 : decide (q.last < s) = false := by simp; omega
  clear hR hM hE hD hl hb h2 h3 h4 hlast hs
  generalize hla : q.last = la at *
  have HLA := hide hla
  clear hla
  by_cases hle : s ≤ q.acked
  · have hld : decide ((s : Int) > (q.acked : Int)) = false := by simp; omega
    have hld2 : decide ((q.acked : Int) < (s : Int)) = false := by simp; omega
    have hld3 : decide (q.acked < s) = false := by simp; omega
    have HE : Hid (q.ack s = q) := hide (by rw [Qr.ack, if_pos hle])
    clear hle
    go_enter Tryz.func48, Tryz.ntmps48
    go_wp2_with fail
    refine (unhide LA _ (Fr.refl _ _)).mono ?_
    rintro e w1 ⟨rfl, hF1⟩
    have HF1 := hide hF1
    have c1 : w1.cell? ⟨rb, 1, none⟩ = some (.int .i64 (q.acked : Int)) := ((unhide HH).1.keep hF1).cell 1
    clear hF1 LA
    go_wp2
    go_ret
    obtain ⟨hR, hM, hE, hD⟩ := unhide hRR
    have hsz := (unhide HF1).size
    exact ⟨rfl, M, E, ⟨fun _ _ => Iff.rfl, fun _ _ => Iff.rfl, fun k t => by have := hM k t; omega, fun k t => by have := hE k t; omega, hD⟩, (unhide HF1).mono (fun _ _ t => t.elim), by rw [unhide HE]; exact hR.keep (unhide HF1)⟩
  · have hld : decide ((s : Int) > (q.acked : Int)) = true := by simp; omega
    have hld2 : decide ((q.acked : Int) < (s : Int)) = true := by simp; omega
    have hld3 : decide (q.acked < s) = true := by simp; omega
    obtain ⟨k, hk⟩ : ∃ k, k = s - q.acked := ⟨_, rfl⟩
    have HE : Hid (q.ack s = ⟨s, q.items.drop k⟩) := hide (by rw [Qr.ack, if_neg hle, hk])
    have hlas := unhide HLA
    obtain ⟨l1, l2, l3⟩ := unhide HL
    have hwr : IntKind.i64.wrap ((s : Int) - (q.acked : Int)) = (k : Int) := by rw [show (s : Int) - (q.acked : Int) = (k : Int) by omega, IntKind.wrap_i64]; omega
    have hkn : k ≤ q.items.length := by omega
    obtain ⟨hb, h2, h3, h4, hM, hE, hD⟩ := unhide HH
    have hcap := h4.le
    have had : 0 < cap → io = some ⟨g, off, none⟩ := by obtain ⟨vs, q1, q2, q3⟩ := h4.ex; exact q1.ad
    obtain ⟨io', hio, had'⟩ : ∃ io', sliced io k q.items.length cap 1 = .slice io' (q.items.length - k) (cap - k) ∧ (0 < cap - k → io' = some ⟨g, off + k, none⟩) := by
      refine ⟨_, rfl, fun hc => ?_⟩
      rw [if_neg (by omega), had (by omega)]
      simp [Addr.add_lit]
    have hsl : ∀ u : World, (Instr.slice 23 (.slice io q.items.length cap) (some (.int .i64 (k : Int))) none none).run Tryz.prog u = .ok (.slice io' (q.items.length - k) (cap - k)) u := fun u => by
      rw [run_slice_l (P := Tryz.prog) (w := u) 23 io q.items.length cap Tryz.underlying23 .i64 (k : Int) (by omega) (by omega), ← hio]; rfl
    have hIt := h4.drop k hkn io' had'
    have hdl : (q.items.drop k).length = q.items.length - k := by simp
    have CP : Hid (∀ u, Fr (fun _ => False) w u → ∃ yo yc w' g' off', (Builtin.append_ #[23, 23] 23 #[.slice (some ⟨u.heap.size, 0, none⟩) 0 0, .slice io' (q.items.length - k) (cap - k)]).run Tryz.prog (u.alloc (.cells #[] 28)).drew = .ok (.slice yo (q.items.length - k) yc) w' ∧ Its E w' yo yc g' off' (q.items.drop k) ∧ Fr (fun _ => False) u w' ∧ u.heap.size < w'.heap.size ∧ (0 < yc → u.heap.size < g')) := hide (fun u hu => by
      have h := copy_its (hIt.keep hu) (by rw [hdl]; omega)
      rw [hdl] at h
      exact h)
    clear hlas l1 l2 l3 hkn hb h2 h3 h4 hM hE hD hcap had hio had' hIt hle hk
    go_enter Tryz.func48, Tryz.ntmps48
    go_wp2_with fail
    refine (unhide LA _ (Fr.refl _ _)).mono ?_
    rintro e w1 ⟨rfl, hF1⟩
    have HF1 := hide hF1
    obtain ⟨yo, yc, w2, g2, o2, hrun, k1, k2, k3, k4⟩ := unhide CP w1 hF1
    have b0 := (unhide HH).1.keep hF1
    have b2 := b0.keep k2
    have b1 := b0.keep ((Fr.refl (fun _ => False) w1).alloc (.cells #[] 28))
    have c1 : w1.cell? ⟨rb, 1, none⟩ = some (.int .i64 (q.acked : Int)) := b0.cell 1
    have c2 : w1.cell? ⟨rb, 2, none⟩ = some (.slice io q.items.length cap) := b0.cell 2
    have d1 : (w1.alloc (.cells #[] 28)).cell? ⟨rb, 1, none⟩ = some (.int .i64 (q.acked : Int)) := b1.cell 1
    have d2 : (w1.alloc (.cells #[] 28)).cell? ⟨rb, 2, none⟩ = some (.slice io q.items.length cap) := b1.cell 2
    have e1 : w2.cell? ⟨rb, 1, none⟩ = some (.int .i64 (q.acked : Int)) := b2.cell 1
    have e2 : w2.cell? ⟨rb, 2, none⟩ = some (.slice io q.items.length cap) := b2.cell 2
    have f1 := b2.frozen 1
    have f2 := b2.frozen 2
    have HRUN := hide hrun
    have HK := hide (And.intro k1 (And.intro k2 (And.intro k3 (And.intro k4 b2))))
    clear hF1 CP LA hrun k1 k2 k3 k4 b0 b1 b2
    go_wp2
    go_region_law (refine step_append_run rfl (.tmp 22) (.tmp 33) 23 23 rfl rfl rfl (unhide HRUN) ?_)
    all_goals
      clear c1 c2 d1 d2
      go_wp2
      go_ret
      obtain ⟨hb, h2, h3, h4, hM, hE, hD⟩ := unhide HH
      obtain ⟨k1, k2, k3, k4, b2⟩ := unhide HK
      have hs1 := (unhide HF1).size
      have hrl := hb.lt
      have b4 := (b2.setCell 2 (.slice yo (q.items.length - k) yc)).setCell 1 (.int .i64 (s : Int))
      have hFs : Fr (fun k => k = rb) w2 ((w2.setCell ⟨rb, 2, none⟩ (.slice yo (q.items.length - k) yc)).setCell ⟨rb, 1, none⟩ (.int .i64 (s : Int))) := ((Fr.refl (fun k => k = rb) _).setCell (fun _ => rfl) _).setCell (fun _ => rfl) _
      have hsz : ((w2.setCell ⟨rb, 2, none⟩ (.slice yo (q.items.length - k) yc)).setCell ⟨rb, 1, none⟩ (.int .i64 (s : Int))).heap.size = w2.heap.size := by simp
      refine ⟨rfl, fun k => M k ∨ (k = g2 ∧ 0 < yc), E, ⟨fun k hk => ⟨fun t => ?_, .inl⟩, fun k hk => Iff.rfl, fun k t => ?_, fun k t => ?_, fun k t t' => ?_⟩, ?_, ?_⟩
      · rcases t with t | ⟨t, hc⟩
        · exact t
        · have := k4 hc; omega
      · rw [hsz]
        rcases t with t | ⟨t, hc⟩
        · have := hM _ t; omega
        · rw [t]; exact k1.lt hc
      · rw [hsz]; have := hE _ t; omega
      · rcases t with t | ⟨t, hc⟩
        · exact hD _ t t'
        · have := k4 hc; have := hE _ t'; omega
      · exact (((unhide HF1).trans k2 (fun _ _ t => t)).mono (fun _ _ t => t.elim)).trans hFs (fun k _ t => by rw [t]; exact h2)
      · rw [unhide HE]
        refine ⟨yo, yc, g2, o2, ?_, .inl h2, fun hc => ⟨.inr ⟨rfl, hc⟩, by have := k4 hc; omega⟩, k1.frame hFs (fun hc t => by have := k4 hc; omega) (fun k t t' => by rw [t'] at t; exact hD _ h2 t)⟩
        simp only [hdl]
        exact b4

set_option maxHeartbeats 1000000 in
set_option maxRecDepth 20000 in
theorem rclone_any {M E : Nat → Prop} (w : World) (rb lim : Nat) (q : Qr) (hR : Rf M E w rb lim q) (hl : q.items.length ≤ 4096) :
    Calls Tryz.prog 18 #[.pointer (some ⟨rb, 0, none⟩)] w fun e w' => ∃ cb, e = .returned (.pointer (some ⟨cb, 0, none⟩)) ∧ w.heap.size ≤ cb ∧ Fr (fun _ => False) w w' ∧ Rf (fun k => w.heap.size ≤ k) E w' cb lim q := by
  obtain ⟨io, cap, g, off, hb, h2, h3, h4⟩ := hR.ex
  obtain ⟨yo, yc, w2, g2, o2, hrun, k1, k2, k3, k4⟩ := copy_its h4 (by omega)
  have b2 := hb.keep k2
  have b1 := hb.keep ((Fr.refl (fun _ => False) w).alloc (.cells #[] 28))
  have c0 : w.cell? ⟨rb, 0, none⟩ = some (.int .i64 (lim : Int)) := hb.cell 0
  have c1 : w.cell? ⟨rb, 1, none⟩ = some (.int .i64 (q.acked : Int)) := hb.cell 1
  have c2 : w.cell? ⟨rb, 2, none⟩ = some (.slice io q.items.length cap) := hb.cell 2
  have d0 : (w.alloc (.cells #[] 28)).cell? ⟨rb, 0, none⟩ = some (.int .i64 (lim : Int)) := b1.cell 0
  have d1 : (w.alloc (.cells #[] 28)).cell? ⟨rb, 1, none⟩ = some (.int .i64 (q.acked : Int)) := b1.cell 1
  have d2 : (w.alloc (.cells #[] 28)).cell? ⟨rb, 2, none⟩ = some (.slice io q.items.length cap) := b1.cell 2
  have e0 : w2.cell? ⟨rb, 0, none⟩ = some (.int .i64 (lim : Int)) := b2.cell 0
  have e1 : w2.cell? ⟨rb, 1, none⟩ = some (.int .i64 (q.acked : Int)) := b2.cell 1
  have HS : Hid (∀ u, Fr (fun _ => False) w u → u.cell? ⟨rb, 0, none⟩ = some (.int .i64 (lim : Int)) ∧ u.cell? ⟨rb, 1, none⟩ = some (.int .i64 (q.acked : Int)) ∧ u.cell? ⟨rb, 2, none⟩ = some (.slice io q.items.length cap)) := hide (fun u hu => ⟨(hb.keep hu).cell 0, (hb.keep hu).cell 1, (hb.keep hu).cell 2⟩)
  have HRUN := hide hrun
  have HK := hide (And.intro k1 (And.intro k2 (And.intro k3 k4)))
  clear hrun k1 k2 k3 k4 b1 b2 hb h2 h3 h4 hR hl c0 c1 c2 d0 d1 d2 e0 e1
  go_enter Tryz.func18, Tryz.ntmps18
  go_wp2
  go_region_held3 (fun w' => w'.cell? ⟨rb, 0, none⟩ = some (.int .i64 (lim : Int)) ∧ w'.cell? ⟨rb, 1, none⟩ = some (.int .i64 (q.acked : Int)) ∧ w'.cell? ⟨rb, 2, none⟩ = some (.slice io q.items.length cap)) (first | exact unhide HS _ (Fr.refl _ _) | exact unhide HS _ ((Fr.refl _ _).drew) | exact unhide HS _ (((Fr.refl _ _).alloc _).drew) | exact unhide HS _ (((Fr.refl _ _).drew).alloc _) | exact unhide HS _ (unhide HK).2.1 | exact unhide HS _ ((unhide HK).2.1.alloc _)) (refine step_append_run rfl (.tmp 11) (.tmp 15) 23 23 rfl rfl rfl (unhide HRUN) ?_)
  go_wp2
  go_ret
  obtain ⟨k1, k2, k3, k4⟩ := unhide HK
  refine ⟨w2.heap.size, rfl, k2.size, k2.alloc _, ⟨yo, yc, g2, o2, Bx.new _ _ _, k2.size, fun hc => ⟨by have := k4 hc; omega, by have := k1.lt hc; omega⟩, k1.keep ((Fr.refl _ _).alloc _)⟩⟩

end Go.Proofs.YtjkghgcdkfkekaaGreatDoor

/- The document's own queue: its Peek. -/
namespace Go.Proofs.YtjkghgcdkfkekaaGreatDoor
open Go.RowKit

/-- What the document's Peek answers. -/
def RPeek (w : World) (a : Nat) (l : List Bs) (e : Ending) (w' : World) : Prop := ∃ lo lc gl vs, e = .returned (.slice lo l.length lc) ∧ KRow w' lo lc gl 2 vs ∧ PkEls (fun k => w.heap.size ≤ k) w' vs a l ∧ Fr (fun _ => False) w w'

theorem PkEls.mono' {Q Q' : Nat → Prop} {w : World} {vs : List Value} {a : Nat} {l : List Bs} (h : PkEls Q w vs a l) (hQ : ∀ k, k < w.heap.size → Q k → Q' k) : PkEls Q' w vs a l := by
  refine ⟨h.1, fun i hi => ?_⟩
  obtain ⟨h1, bo, bc, h2, h3, h4⟩ := h.2 i hi
  refine ⟨h1, bo, bc, h2, h3, fun k off h0 e => hQ k ?_ (h4 k off h0 e)⟩
  obtain ⟨b, o, e', hc⟩ := h3.2.1 h0
  rw [e'] at e
  injection e with e
  injection e with q1 q2
  rw [← q1]
  exact World.block_lt_of_cell? _ _ (hc 0 h0)

set_option maxHeartbeats 1000000 in
set_option maxRecDepth 20000 in
theorem rpeekm_any {M E : Nat → Prop} (w : World) (rb lim : Nat) (q : Qr) (hR : Rf M E w rb lim q) (hok : q.Ok 4096) (most : Int) :
    Calls Tryz.prog 50 #[.pointer (some ⟨rb, 0, none⟩), .int .i64 most] w (RPeek w q.acked (q.items.take most.toNat)) := by
  obtain ⟨io, cap, g, off, hb, h2, h3, h4⟩ := hR.ex
  have hlen := hok.many
  have hlast := hok.last
  have hle : q.last = q.acked + q.items.length := rfl
  have hits := hok.it
  obtain ⟨L, hL⟩ : ∃ L, L = q.items := ⟨_, rfl⟩
  rw [← hL] at h4 hb hits hlen hle ⊢
  obtain ⟨n, hn⟩ : ∃ n, n = L.length := ⟨_, rfl⟩
  rw [← hn] at hb hlen hle
  obtain ⟨m, hmn, hmm, hml⟩ : ∃ m : Nat, m ≤ n ∧ m ≤ most.toNat ∧ (m < n → m = most.toNat) := by
    by_cases h : n ≤ most.toNat
    · exact ⟨n, Nat.le_refl _, h, fun t => absurd t (Nat.lt_irrefl _)⟩
    · exact ⟨most.toNat, by omega, Nat.le_refl _, fun _ => rfl⟩
  have hmI : (m : Int) ≤ 4096 := by omega
  have HMM := hide (And.intro hmn (And.intro hmm hml))
  clear hmn hmm hml
  have hnI : (n : Int) ≤ 4096 := by omega
  have HA : Hid ((q.acked : Int) + (n : Int) ≤ 4294967295) := hide (by omega)
  obtain ⟨i0, hi, hzz⟩ := Option.map_eq_some_iff.1 infoIt
  simp only [Prod.mk.injEq] at hzz
  obtain ⟨hz0, hz1, hz2⟩ := hzz
  have HI := hide (And.intro hi (And.intro hz0 (And.intro hz1 hz2)))
  obtain ⟨i5, hi5, hz50, hz51, hz52⟩ := info_parts Tryz.info5
  have HI5 := hide (And.intro hi5 (And.intro hz50 (And.intro hz51 hz52)))
  have HH := hide (And.intro hb (And.intro h4 (And.intro hn hits)))
  clear hi hz0 hz1 hz2 hi5 hz50 hz51 hz52 hb h2 h3 h4 hR hok hlen hlast hle hn hits hL
  go_enter Tryz.func50, Tryz.ntmps50
  go_wp2
  go_loopw [5, 6] (fun lv iv wr => ∃ i : Nat, i ≤ m ∧ iv = .int .i64 i ∧ ∃ lo lc gl vs, lv = .slice lo i lc ∧ Hid (KRow wr lo lc gl 2 vs ∧ PkEls (fun k => w.heap.size ≤ k ∧ (0 < lc → k ≠ gl)) wr vs q.acked (L.take i) ∧ Fr (fun _ => False) w wr ∧ (0 < lc → w.heap.size ≤ gl))) (fun _ iv _ => m - (intOf iv).toNat)
  case atStart => exact ⟨0, Nat.zero_le _, rfl, none, 0, 0, [], rfl, hide ⟨KRow.nil _ _ _, PkEls.nil _ _ _, Fr.refl _ _, fun h => absurd h (by omega)⟩⟩
  case round =>
    obtain ⟨i, hi, rfl, lo, lc, gl, vs, rfl, HS⟩ := hrel
    have c2 : wr.cell? ⟨rb, 2, none⟩ = some (.slice io n cap) := ((unhide HH).1.keep (unhide HS).2.2.1).cell 2
    by_cases hltm : i < m
    · have hlt : i < n := by have := (unhide HMM).1; omega
      have hiI : (i : Int) < (n : Int) := by omega
      have hi4 : (i : Int) < most := by have := (unhide HMM).2.1; omega
      obtain ⟨hb, h4, hn, hits⟩ := unhide HH
      obtain ⟨hK, hP, hFr, hgl⟩ := unhide HS
      obtain ⟨us, q1, q2, q3⟩ := (h4.keep hFr).ex
      have hcp := q1.le
      have eio := q1.ad (by omega)
      obtain ⟨xo, xc, ex, hxb, hxe⟩ := q3 i (by omega) (by omega)
      have htk : L.take (i + 1) = L.take i ++ [L[i]'(by omega)] := List.take_succ_eq_append_getElem (by omega)
      have hti : (L.take i).length = i := by simp; omega
      have hX256 := hits _ (List.getElem_mem (l := L) (n := i) (by omega))
      obtain ⟨X, hX⟩ : ∃ X, X = L[i]'(by omega) := ⟨_, rfl⟩
      rw [← hX] at htk ex hxb hX256
      subst eio
      have HS0 : Hid (∀ u, Fr (fun k => 0 < lc ∧ k = gl) wr u → u.cell? ⟨rb, 1, none⟩ = some (.int .i64 (q.acked : Int)) ∧ u.cell? ⟨rb, 2, none⟩ = some (.slice (some ⟨g, off, none⟩) n cap) ∧ u.cell? ⟨g, off + i, none⟩ = some (.slice xo X.length xc)) := hide (fun u hu => by
        have hbr := hb.lt
        have hgr := h4.lt (by omega)
        have b := (hb.keep hFr).frame hu (fun t => by have := hgl t.1; omega)
        refine ⟨b.cell 1, b.cell 2, ?_⟩
        rw [hu.cell (a := ⟨g, off + i, none⟩) (by have := hFr.size; show g < _; omega) (fun t => by have := hgl t.1; have e : g = gl := t.2; omega), q1.cells i (by omega), ex])
      obtain ⟨yo, yc, w2, g2, hrun1, HR1⟩ : ∃ yo yc w2 g2, Hid ((Builtin.append_ #[28, 28] 28 #[.slice (some ⟨wr.heap.size, 0, none⟩) 0 0, .slice xo X.length xc]).run Tryz.prog (wr.alloc (.cells #[] 5)).drew = .ok (.slice yo X.length yc) w2) ∧ Hid (Row w2 (.slice yo X.length yc) g2 X ∧ Fr (fun _ => False) wr w2 ∧ wr.heap.size ≤ g2) := by
        obtain ⟨hi5, hz50, hz51, hz52⟩ := unhide HI5
        have hF0 : Fr (fun _ => False) wr (wr.alloc (.cells #[] 5)).drew := ((Fr.refl _ _).alloc _).drew
        have hrow : Row (wr.alloc (.cells #[] 5)).drew (.slice (some ⟨wr.heap.size, 0, none⟩) (([] : Bs).length) 0) wr.heap.size [] := ⟨⟨_, 0, rfl, Nat.le_refl _, Nat.zero_le _, fun h => absurd h (by omega), fun j hj => absurd hj (by omega)⟩, fun j hj => absurd hj (by simp)⟩
        have hsrc : Src Tryz.prog 1 28 (.slice xo X.length xc) X.length (bytesV X) (wr.alloc (.cells #[] 5)).drew := src_slice Tryz.underlying28 _ xo xc X (hxb.later hF0).2.1
        obtain ⟨yo, yc, w2, g2, r0, r1, r2, r3⟩ := append_row (P := Tryz.prog) 28 28 28 5 i5 Tryz.underlying28 hi5 hz50 hz51 hz52 hrow (.slice xo X.length xc) X hsrc (by simp; omega)
        rw [List.nil_append] at r0 r1
        exact ⟨yo, yc, w2, g2, hide r0, hide ⟨r1, hF0.trans r2 (fun k _ t => by omega), by rcases r3 with ⟨e, _⟩ | e; (· omega); (· simp at e; omega)⟩⟩
      obtain ⟨lo', lc', w3, gl', hrun2, HR2⟩ : ∃ lo' lc' w3 gl', Hid ((Builtin.append_ #[76, 76] 76 #[.slice lo i lc, .slice (some ⟨w2.heap.size, 0, none⟩) 1 1]).run Tryz.prog (w2.alloc (.cells #[.int .i64 ((q.acked : Int) + 1 + (i : Int)), .slice yo X.length yc] 107)) = .ok (.slice lo' (i + 1) lc') w3) ∧ Hid (KRow w3 lo' lc' gl' 2 (vs ++ [.int .i64 ((q.acked : Int) + 1 + (i : Int)), .slice yo X.length yc]) ∧ Grew (w2.alloc (.cells #[.int .i64 ((q.acked : Int) + 1 + (i : Int)), .slice yo X.length yc] 107)) gl lc w3 gl' lc') := by
        obtain ⟨hi0, hz0, hz1, hz2⟩ := unhide HI
        obtain ⟨r1, r2, r3⟩ := unhide HR1
        have hFn : Fr (fun _ => False) wr (w2.alloc (.cells #[.int .i64 ((q.acked : Int) + 1 + (i : Int)), .slice yo X.length yc] 107)) := r2.alloc _
        have hsrc : Src Tryz.prog 2 76 (.slice (some ⟨w2.heap.size, 0, none⟩) 1 1) 1 [.int .i64 ((q.acked : Int) + 1 + (i : Int)), .slice yo X.length yc] (w2.alloc (.cells #[.int .i64 ((q.acked : Int) + 1 + (i : Int)), .slice yo X.length yc] 107)) :=
          src_one (P := Tryz.prog) w2 _ 76 107 2 Tryz.underlying76 rfl (fun u hu => by simp at hu; rcases hu with rfl | rfl <;> rfl) (fun j => ((Bx.new w2 #[.int .i64 ((q.acked : Int) + 1 + (i : Int)), .slice yo X.length yc] 107).cell j).trans (by simp))
        obtain ⟨a1, a2, a3, a4, a5, a6, a7⟩ := append_krow (P := Tryz.prog) 76 76 76 107 i0 (.agg #[.int .i64 0, .slice none 0 0]) 2 (by omega) Tryz.underlying76 hi0 hz0 rfl hz1 (hK.keep (by omega) hFn) (by rw [hP.1, hti]) _ _ 1 hsrc (by rw [hz2]; omega) (by omega)
        exact ⟨a1, a2, a3, a4, hide a5, hide ⟨a6, a7⟩⟩
      have HG : Hid (Fr (fun k => 0 < lc ∧ k = gl) wr w3) := by
        refine hide ?_
        have f0 : Fr (fun k => 0 < lc ∧ k = gl) wr (w2.alloc (.cells #[.int .i64 ((q.acked : Int) + 1 + (i : Int)), .slice yo X.length yc] 107)) := (Fr.mono (T := fun k => 0 < lc ∧ k = gl) (unhide HR1).2.1 (fun _ _ t => t.elim)).alloc _
        rcases (unhide HR2).2 with ⟨_, _, hf⟩ | ⟨_, _, hf⟩
        · exact f0.trans hf (fun x _ t => ⟨t.2, t.1⟩)
        · exact f0.trans hf (fun x _ t => t.elim)
      have hwr1 : IntKind.i64.wrap ((q.acked : Int) + 1) = (q.acked : Int) + 1 := by have := unhide HA; rw [IntKind.wrap_i64]; omega
      have hwr2 : IntKind.i64.wrap ((q.acked : Int) + 1 + (i : Int)) = (q.acked : Int) + 1 + (i : Int) := by have := unhide HA; rw [IntKind.wrap_i64]; omega
      have HX := hide (And.intro htk (And.intro hti (And.intro hX256 hlt)))
      clear hb h4 hn hits hK hP hFr hgl q1 q2 q3 hcp ex hxb hxe htk hti hX256 hX
      go_wp2
      go_region_held3 (fun u => u.cell? ⟨rb, 1, none⟩ = some (.int .i64 (q.acked : Int)) ∧ u.cell? ⟨rb, 2, none⟩ = some (.slice (some ⟨g, off, none⟩) n cap) ∧ u.cell? ⟨g, off + i, none⟩ = some (.slice xo X.length xc)) (first | exact unhide HS0 _ (Fr.refl _ _) | exact unhide HS0 _ ((Fr.refl _ _).drew) | exact unhide HS0 _ (((Fr.refl _ _).alloc _).drew) | exact unhide HS0 _ (((Fr.refl _ _).drew).alloc _) | exact unhide HS0 _ ((unhide HR1).2.1.mono (fun _ _ t => t.elim)) | exact unhide HS0 _ (((unhide HR1).2.1.mono (fun _ _ t => t.elim)).alloc _) | exact unhide HS0 _ (unhide HG)) (first | refine step_append_run rfl (.tmp 29) (.tmp 36) 28 28 rfl rfl rfl (unhide hrun1) ?_ | refine step_append_run rfl (.tmp 21) (.tmp 39) 76 76 rfl rfl rfl (unhide hrun2) ?_)
      go_wp2
      obtain ⟨htk, hti, hX256, hlt⟩ := unhide HX
      obtain ⟨r1, r2, r3⟩ := unhide HR1
      obtain ⟨k1, k2⟩ := unhide HR2
      obtain ⟨hK, hP, hFr, hgl⟩ := unhide HS
      have hsr := hFr.size
      have hs2 := r2.size
      have hs3 := (unhide HG).size
      have hgk : 0 < lc → gl < wr.heap.size := fun hc => hK.lt (by omega) hc
      have hP2 := (hP.mono' (Q' := fun k => (w.heap.size ≤ k ∧ (0 < lc → k ≠ gl)) ∧ k < wr.heap.size) (fun k hk t => ⟨t, hk⟩)).frame (unhide HG) (fun k hk t => hk.1.2 t.1 t.2)
      have hbX : BAt w2 yo yc X := (r1.bat (by omega)).2
      have hko : ∀ k o, 0 < X.length → yo = some ⟨k, o, none⟩ → k = g2 := fun k o h0 e => by
        obtain ⟨ao, cc, e1, q1, q2, q3, q4⟩ := r1.shape
        injection e1 with e1 e2 e3
        subst e1 e3
        rw [q3 (by omega)] at e
        injection e with e
        injection e with e1 e2
        exact e1.symm
      have fW : Fr (fun k => 0 < lc ∧ k = gl) w2 w3 := by
        have f0 : Fr (fun k => 0 < lc ∧ k = gl) w2 (w2.alloc (.cells #[.int .i64 ((q.acked : Int) + 1 + (i : Int)), .slice yo X.length yc] 107)) := (Fr.refl _ _).alloc _
        rcases k2 with ⟨_, _, hf⟩ | ⟨_, _, hf⟩
        · exact f0.trans hf (fun x _ t => ⟨t.2, t.1⟩)
        · exact f0.trans hf (fun x _ t => t.elim)
      have hb2 : BAt w3 yo yc X := hbX.stay (fun x o e h0 hlt2 => fW.block x hlt2 (fun t => by have := hko x o h0 e; have := hgk t.1; omega))
      have hg2 : 0 < X.length → g2 < w2.heap.size := fun h0 => row_lt r1 h0
      have hgl' : 0 < lc' → (0 < lc ∧ gl' = gl) ∨ w2.heap.size < gl' := fun hc => by
        rcases k2 with ⟨e1, e2, _⟩ | ⟨e1, _, _⟩
        · exact .inl ⟨by omega, e1⟩
        · rw [heap_alloc] at e1; exact .inr (by omega)
      have hP3 := (hP2.mono' (Q' := fun k => w.heap.size ≤ k ∧ (0 < lc' → k ≠ gl')) (fun k _ t => ⟨t.1.1, fun hc e => by
        rcases hgl' hc with ⟨c1, c2⟩ | c1
        · exact t.1.2 c1 (by omega)
        · omega⟩)).snoc X yo yc hb2 (fun k o h0 e => ⟨by have := hko k o h0 e; omega, fun hc e' => by
        have h5 := hko k o h0 e
        have h6 := hg2 h0
        rcases hgl' hc with ⟨c1, c2⟩ | c1
        · have := hgk c1; omega
        · omega⟩)
      rw [← htk, hti, show ((q.acked + 1 + i : Nat) : Int) = (q.acked : Int) + 1 + (i : Int) by omega] at hP3
      refine ⟨⟨i + 1, by omega, by go_num, lo', lc', gl', _, rfl, hide ⟨k1, hP3, (hFr.mono (fun _ _ t => t.elim)).trans (unhide HG) (fun k hk t => by have := hgl t.1; omega), fun hc => ?_⟩⟩, by simp [intOf]; omega⟩
      rcases hgl' hc with ⟨c1, c2⟩ | c1
      · have := hgl c1; omega
      · omega
    · obtain rfl : i = m := by omega
      have HE : Hid (RPeek w q.acked (L.take most.toNat) (.returned (.slice lo i lc)) wr) := by
        obtain ⟨hb, h4, hn, hits⟩ := unhide HH
        obtain ⟨hK, hP, hFr, hgl⟩ := unhide HS
        obtain ⟨k1, k2, k3⟩ := unhide HMM
        have ht : L.take i = L.take most.toNat := by
          by_cases h : i < n
          · rw [k3 h]
          · rw [List.take_of_length_le (by omega), List.take_of_length_le (by omega)]
        have hl : (L.take most.toNat).length = i := by rw [← ht, List.length_take]; omega
        rw [ht] at hP
        exact hide ⟨lo, lc, gl, vs, by rw [hl], hK, hP.mono (fun k t => t.1), hFr⟩
      by_cases hin : i < n
      · have hiI : (i : Int) < (n : Int) := by omega
        have hi4 : decide ((i : Int) < most) = false := by have := (unhide HMM).2.2 hin; simp; omega
        clear HMM
        go_wp2
        go_ret
        exact unhide HE
      · have hiI : decide ((i : Int) < (n : Int)) = false := by simp; omega
        have hiN : decide (i < n) = false := by simp; omega
        clear HMM
        go_wp2
        go_ret
        exact unhide HE

theorem rpeek_any {M E : Nat → Prop} (w : World) (rb lim : Nat) (q : Qr) (hR : Rf M E w rb lim q) (hok : q.Ok 4096) :
    Calls Tryz.prog 50 #[.pointer (some ⟨rb, 0, none⟩), .int .i64 4096] w (RPeek w q.acked q.items) := by
  have h := rpeekm_any w rb lim q hR hok 4096
  have e : q.items.take ((4096 : Int).toNat) = q.items := List.take_of_length_le (by have := hok.many; show _ ≤ 4096; exact this)
  rw [e] at h
  exact h

end Go.Proofs.YtjkghgcdkfkekaaGreatDoor

/- Items held against each other: same, alike. -/
namespace Go.Proofs.YtjkghgcdkfkekaaGreatDoor
open Go.RowKit

/-- What same answers. -/
def SameR (w : World) (a b : Nat) (la lb : List Bs) (e : Ending) (w' : World) : Prop := ∃ r : Bool, e = .returned (.bool r) ∧ (a = b → la = lb → r = true) ∧ Fr (fun _ => False) w w'

set_option maxHeartbeats 1000000 in
set_option maxRecDepth 20000 in
theorem isame_any (w : World) {P Q : Nat → Prop} (ao bo : Option Addr) (ac bc ga gb : Nat) (va vb : List Value) (a b : Nat) (la lb : List Bs) (hKa : KRow w ao ac ga 2 va) (hPa : PkEls P w va a la) (hKb : KRow w bo bc gb 2 vb) (hPb : PkEls Q w vb b lb) (hla : la.length ≤ 4096) (hlb : lb.length ≤ 4096) (hab : a ≤ 4294967295 ∧ b ≤ 4294967295) :
    Calls Tryz.prog 49 #[.slice ao la.length ac, .slice bo lb.length bc] w (SameR w a b la lb) := by
  by_cases hlen : la.length = lb.length
  · have hlI : ((la.length : Int) != (lb.length : Int)) = false := by simp [hlen]
    have HH := hide (And.intro hKa (And.intro hPa (And.intro hKb (And.intro hPb (And.intro hlen hab)))))
    have hlb : (la.length : Int) ≤ 4096 := by omega
    clear hKa hPa hKb hPb hla hlen hab
    go_enter Tryz.func49, Tryz.ntmps49
    go_wp2
    go_loopw [5] (fun iv wr => ∃ i : Nat, i ≤ la.length ∧ iv = .int .i64 i ∧ Hid (Fr (fun _ => False) w wr)) (fun iv _ => la.length - (intOf iv).toNat)
    case atStart => exact ⟨0, Nat.zero_le _, rfl, hide (Fr.refl _ _)⟩
    case round =>
      obtain ⟨i, hi, rfl, HR⟩ := hrel
      by_cases hlt : i < la.length
      · obtain ⟨hKa, hPa, hKb, hPb, hlen, hab⟩ := unhide HH
        have hF := unhide HR
        have hKa' := hKa.keep (by omega) hF
        have hKb' := hKb.keep (by omega) hF
        have hPa' := hPa.frame hF (fun _ _ t => t)
        have hPb' := hPb.frame hF (fun _ _ t => t)
        obtain ⟨p1, x1, y1, p2, p3, p4⟩ := hPa'.2 i hlt
        obtain ⟨q1, x2, y2, q2, q3, q4⟩ := hPb'.2 i (by omega)
        obtain ⟨u1, u1e⟩ := List.getElem?_eq_some_iff.1 p1
        obtain ⟨u2, u2e⟩ := List.getElem?_eq_some_iff.1 p2
        obtain ⟨v1, v1e⟩ := List.getElem?_eq_some_iff.1 q1
        obtain ⟨v2, v2e⟩ := List.getElem?_eq_some_iff.1 q2
        have ea := hKa'.ad (by have := hKa'.le; have := hPa.1; omega)
        have eb := hKb'.ad (by have := hKb'.le; have := hPb.1; omega)
        subst ea eb
        obtain ⟨X1, hX1⟩ : ∃ X, X = la[i] := ⟨_, rfl⟩
        obtain ⟨X2, hX2⟩ : ∃ X, X = lb[i]'(by omega) := ⟨_, rfl⟩
        rw [← hX1] at p2 p3 u2e
        rw [← hX2] at q2 q3 v2e
        have hilt : (i : Int) < (la.length : Int) := by omega
        have hilt2 : (i : Int) < (lb.length : Int) := by omega
        have ca : wr.cell? ⟨ga, i * 2, none⟩ = some (.int .i64 ((a + 1 + i : Nat) : Int)) := by rw [hKa'.cells (i * 2) u1, u1e]
        have ca' : wr.cell? ⟨ga, i * 2 + 1, none⟩ = some (.slice x1 X1.length y1) := by rw [hKa'.cells (i * 2 + 1) u2, u2e]
        have cb : wr.cell? ⟨gb, i * 2, none⟩ = some (.int .i64 ((b + 1 + i : Nat) : Int)) := by rw [hKb'.cells (i * 2) v1, v1e]
        have cb' : wr.cell? ⟨gb, i * 2 + 1, none⟩ = some (.slice x2 X2.length y2) := by rw [hKb'.cells (i * 2 + 1) v2, v2e]
        have hX1' : la[i]? = some X1 := by rw [hX1]; exact List.getElem?_eq_getElem hlt
        have hX2' : lb[i]? = some X2 := by rw [hX2]; exact List.getElem?_eq_getElem (by omega)
        have HX := hide (And.intro hX1' (And.intro hX2' (And.intro hlt (And.intro hF hlen))))
        clear hX1' hX2'
        have HS : Hid (∀ w', Fr (fun _ => False) wr w' → w'.cell? ⟨ga, i * 2, none⟩ = some (.int .i64 ((a + 1 + i : Nat) : Int)) ∧ w'.cell? ⟨ga, i * 2 + 1, none⟩ = some (.slice x1 X1.length y1) ∧ w'.cell? ⟨gb, i * 2, none⟩ = some (.int .i64 ((b + 1 + i : Nat) : Int)) ∧ w'.cell? ⟨gb, i * 2 + 1, none⟩ = some (.slice x2 X2.length y2) ∧ (convert 28 9 (.slice x1 X1.length y1)).run Tryz.prog w' = .ok (.string ⟨X1.toArray⟩) w' ∧ (convert 28 9 (.slice x2 X2.length y2)).run Tryz.prog w' = .ok (.string ⟨X2.toArray⟩) w') :=
          hide (fun w' hf => ⟨(hf.cell (World.block_lt_of_cell? _ _ ca) (fun t => t)).trans ca, (hf.cell (World.block_lt_of_cell? _ _ ca') (fun t => t)).trans ca', (hf.cell (World.block_lt_of_cell? _ _ cb) (fun t => t)).trans cb, (hf.cell (World.block_lt_of_cell? _ _ cb') (fun t => t)).trans cb', conv_bat (p3.later hf), conv_bat (q3.later hf)⟩)
        have hneI : (((a + 1 + i : Nat) : Int) != ((b + 1 + i : Nat) : Int)) = decide (a ≠ b) := by
          by_cases e : a = b
          · subst e; simp
          · rw [decide_eq_true e]; simp; omega
        generalize hm1 : a + 1 + i = m1 at *
        generalize hm2 : b + 1 + i = m2 at *
        clear hm1 hm2
        clear hX1 hX2 hKa hPa hKb hPb hlen hab hF hKa' hKb' hPa' hPb' p1 p2 p3 p4 q1 q2 q3 q4 u1 u1e u2 u2e v1 v1e v2 v2e
        by_cases hseq : a = b
        · have hne : ((m1 : Int) != (m2 : Int)) = false := by rw [hneI]; simp [hseq]
          have hee : m1 = m2 := by have h : (m1 : Int) = (m2 : Int) := (by simpa using hne); omega
          subst hee
          have HSQ := hide hseq
          clear hneI hne hseq ca ca' cb cb'
          by_cases hX : X1 = X2
          · subst hX
            go_upto_region 6 with (fail)
            go_region_held3 (fun w' => w'.cell? ⟨ga, i * 2, none⟩ = some (.int .i64 (m1 : Int)) ∧ w'.cell? ⟨ga, i * 2 + 1, none⟩ = some (.slice x1 X1.length y1) ∧ w'.cell? ⟨gb, i * 2, none⟩ = some (.int .i64 (m1 : Int)) ∧ w'.cell? ⟨gb, i * 2 + 1, none⟩ = some (.slice x2 X1.length y2) ∧ (convert 28 9 (.slice x1 X1.length y1)).run Tryz.prog w' = .ok (.string ⟨X1.toArray⟩) w' ∧ (convert 28 9 (.slice x2 X1.length y2)).run Tryz.prog w' = .ok (.string ⟨X1.toArray⟩) w') (exact unhide HS _ ((Fr.refl _ _).drew)) (fail)
            go_wp2
            obtain ⟨hX1, hX2, hlt, hF, hlen⟩ := unhide HX
            exact ⟨⟨i + 1, by omega, by go_num, hide hF.drew⟩, by simp [intOf]; omega⟩
          · have hXb : (X1 == X2) = false := by simpa using hX
            have HXX := hide hX
            clear hX
            go_upto_region 6 with (fail)
            go_region_held3 (fun w' => w'.cell? ⟨ga, i * 2, none⟩ = some (.int .i64 (m1 : Int)) ∧ w'.cell? ⟨ga, i * 2 + 1, none⟩ = some (.slice x1 X1.length y1) ∧ w'.cell? ⟨gb, i * 2, none⟩ = some (.int .i64 (m1 : Int)) ∧ w'.cell? ⟨gb, i * 2 + 1, none⟩ = some (.slice x2 X2.length y2) ∧ (convert 28 9 (.slice x1 X1.length y1)).run Tryz.prog w' = .ok (.string ⟨X1.toArray⟩) w' ∧ (convert 28 9 (.slice x2 X2.length y2)).run Tryz.prog w' = .ok (.string ⟨X2.toArray⟩) w') (exact unhide HS _ ((Fr.refl _ _).drew)) (fail)
            go_wp2
            go_ret
            obtain ⟨hX1, hX2, hlt, hF, hlen⟩ := unhide HX
            exact ⟨_, rfl, fun _ e => by subst e; rw [hX1] at hX2; injection hX2 with hX2; exact absurd hX2 (unhide HXX), hF.drew⟩
        · have hne : ((m1 : Int) != (m2 : Int)) = true := by rw [hneI]; simp [hseq]
          have hnb : (m1 == m2) = false := by have h : ¬ (m1 : Int) = (m2 : Int) := (by simpa using hne); simp; omega
          have HSQ := hide hseq
          clear hneI hseq
          go_upto_region 6 with (fail)
          have X0 := fun d os => cell_regrown ca d os
          have X3 := fun d os => cell_regrown cb d os
          clear ca ca' cb cb' HS
          refine wp_region_quiet_below (by kernel_rfl) (by kernel_rfl) ?_
          repeat (first | go_big_quiet_skip | (go_big_quiet_want; go_big_quiet_op; go_big_quiet_on))
          refine wpQuiet_nil ?_
          intro _ hw'
          obtain ⟨⟨dq, osq⟩, hw''⟩ := hw'
          subst hw''
          have HB := hide ((unhide HR).trans (below_fr' (below_regrown wr dq osq)) (fun _ _ t => t))
          go_wp2
          go_ret
          exact ⟨_, rfl, fun e _ => absurd e (unhide HSQ), unhide HB⟩
      · obtain rfl : i = la.length := by omega
        go_wp2
        go_ret
        exact ⟨_, rfl, fun _ _ => rfl, unhide HR⟩
  · have hlI : ((la.length : Int) != (lb.length : Int)) = true := by simp; omega
    have hf := hide hlen
    clear hKa hPa hKb hPb hlen
    go_enter Tryz.func49, Tryz.ntmps49
    go_wp2
    go_ret
    exact ⟨_, rfl, fun _ e => absurd (by rw [e]) (unhide hf), Fr.refl _ _⟩

end Go.Proofs.YtjkghgcdkfkekaaGreatDoor

/- A queue held against the document's. -/
namespace Go.Proofs.YtjkghgcdkfkekaaGreatDoor
open Go.RowKit

/-- What alike answers. -/
def AlikeR (w : World) (q q' : Qr) (e : Ending) (w' : World) : Prop := ∃ r : Bool, e = .returned (.bool r) ∧ (q = q' → r = true) ∧ Fr (fun _ => False) w w'

/-- What can be asked of a queue. -/
structure Asks (w : World) (qb : Nat) (q : Qr) : Prop where
  peek : ∀ u, Fr (fun _ => False) w u → Calls Tryz.prog 30 #[.pointer (some ⟨qb, 0, none⟩), .int .i64 4096] u (PeekPost u q.acked q.items)
  len : ∀ u, Fr (fun _ => False) w u → Calls Tryz.prog 29 #[.pointer (some ⟨qb, 0, none⟩)] u fun e w' => e = .returned (.int .i64 (q.items.length : Int)) ∧ Fr (fun _ => False) u w'
  last : ∀ u, Fr (fun _ => False) w u → Calls Tryz.prog 31 #[.pointer (some ⟨qb, 0, none⟩)] u fun e w' => e = .returned (.int .i64 (q.last : Int)) ∧ Fr (fun _ => False) u w'
  acked : ∀ u, Fr (fun _ => False) w u → Calls Tryz.prog 32 #[.pointer (some ⟨qb, 0, none⟩)] u fun e w' => e = .returned (.int .i64 (q.acked : Int)) ∧ Fr (fun _ => False) u w'

set_option maxHeartbeats 2000000 in
set_option maxRecDepth 20000 in
theorem alike_any {M E : Nat → Prop} (w : World) (qb rb lim : Nat) (q q' : Qr) (hA : Asks w qb q) (hR : Rf M E w rb lim q') (hok : q.Ok 4096) (hok' : q'.Ok 4096) :
    Calls Tryz.prog 17 #[.pointer (some ⟨qb, 0, none⟩), .pointer (some ⟨rb, 0, none⟩)] w (AlikeR w q q') := by
  have hm := hok.many
  have hm' := hok'.many
  have hl := hok.last
  have hl' := hok'.last
  have hle : q.last = q.acked + q.items.length := rfl
  have hle' : q'.last = q'.acked + q'.items.length := rfl
  have PK : Hid (Calls Tryz.prog 30 #[.pointer (some ⟨qb, 0, none⟩), .int .i64 4096] w fun e w' => ∃ lo lc, e = .returned (.slice lo q.items.length lc) ∧ Hid (∃ gl ga vs, KRow w' lo lc gl 2 vs ∧ PkEls (fun k => k = ga) w' vs q.acked q.items ∧ Fr (fun _ => False) w w')) := hide ((hA.peek w (Fr.refl _ _)).mono (by
    rintro e w' ⟨lo, lc, gl, ga, vs, h1, h2, h3, h4, _⟩
    exact ⟨lo, lc, h1, hide ⟨gl, ga, vs, h2, h3, h4⟩⟩))
  have RP : Hid (∀ u, Fr (fun _ => False) w u → Calls Tryz.prog 50 #[.pointer (some ⟨rb, 0, none⟩), .int .i64 4096] u fun e w' => ∃ lo lc, e = .returned (.slice lo q'.items.length lc) ∧ Hid (∃ gl vs, KRow w' lo lc gl 2 vs ∧ PkEls (fun k => u.heap.size ≤ k) w' vs q'.acked q'.items ∧ Fr (fun _ => False) u w')) := hide (fun u hu => (rpeek_any u rb lim q' (hR.keep hu) hok').mono (by
    rintro e w' ⟨lo, lc, gl, vs, h1, h2, h3, h4⟩
    exact ⟨lo, lc, h1, hide ⟨gl, vs, h2, h3, h4⟩⟩))
  have LN : Hid (∀ u, Fr (fun _ => False) w u → Calls Tryz.prog 29 #[.pointer (some ⟨qb, 0, none⟩)] u fun e w' => e = .returned (.int .i64 (q.items.length : Int)) ∧ Fr (fun _ => False) u w') := hide hA.len
  have LA : Hid (∀ u, Fr (fun _ => False) w u → Calls Tryz.prog 31 #[.pointer (some ⟨qb, 0, none⟩)] u fun e w' => e = .returned (.int .i64 (q.last : Int)) ∧ Fr (fun _ => False) u w') := hide hA.last
  have AK : Hid (∀ u, Fr (fun _ => False) w u → Calls Tryz.prog 32 #[.pointer (some ⟨qb, 0, none⟩)] u fun e w' => e = .returned (.int .i64 (q.acked : Int)) ∧ Fr (fun _ => False) u w') := hide hA.acked
  have RL : Hid (∀ u, Fr (fun _ => False) w u → Calls Tryz.prog 52 #[.pointer (some ⟨rb, 0, none⟩)] u fun e w' => e = .returned (.int .i64 (q'.last : Int)) ∧ Fr (fun _ => False) u w') := hide (fun u hu => rlast_any u rb lim q' (hR.keep hu) hl')
  obtain ⟨io, cap, g, off, hb, h2, h3, h4⟩ := hR.ex
  have HB := hide hb
  have HM := hide (And.intro hm (And.intro hm' (And.intro hl (And.intro hl' (And.intro hle hle')))))
  clear hA hR hok hok' hb h2 h3 h4 hm hm' hl hl' hle hle'
  go_enter Tryz.func17, Tryz.ntmps17
  go_wp2_with fail
  refine (unhide PK).mono ?_
  rintro e w1 ⟨lo, lc, rfl, H1⟩
  clear PK
  go_wp2_with fail
  obtain ⟨gl, ga, vs, k1, k2, k3⟩ := unhide H1
  have K3 := hide k3
  clear k1 k2 k3
  refine (unhide RP _ (unhide K3)).mono ?_
  rintro e w2 ⟨ro, rc, rfl, H2⟩
  clear RP
  have SM : Hid (Calls Tryz.prog 49 #[.slice lo q.items.length lc, .slice ro q'.items.length rc] w2 fun e w' => ∃ r : Bool, e = .returned (.bool r) ∧ Hid ((q.acked = q'.acked → q.items = q'.items → r = true) ∧ Fr (fun _ => False) w w')) := by
    obtain ⟨gl, ga, vs, k1, k2, k3⟩ := unhide H1
    obtain ⟨gr, vr, j1, j2, j3⟩ := unhide H2
    obtain ⟨hm, hm', hl, hl', hle, hle'⟩ := unhide HM
    refine hide ((isame_any w2 lo ro lc rc gl gr vs vr q.acked q'.acked q.items q'.items (k1.keep (by omega) j3) (k2.frame j3 (fun _ _ t => t)) j1 j2 hm hm' ⟨by omega, by omega⟩).mono ?_)
    rintro e w' ⟨r, h1, h2, h3⟩
    exact ⟨r, h1, hide ⟨h2, (k3.trans j3 (fun _ _ t => t)).trans h3 (fun _ _ t => t)⟩⟩
  go_wp2_with fail
  refine (unhide SM).mono ?_
  rintro e W ⟨r, rfl, H3⟩
  clear SM H1 H2 K3
  have hF := (unhide H3).2
  have c1 : W.cell? ⟨rb, 1, none⟩ = some (.int .i64 (q'.acked : Int)) := ((unhide HB).keep hF).cell 1
  have c2 : W.cell? ⟨rb, 2, none⟩ = some (.slice io q'.items.length cap) := ((unhide HB).keep hF).cell 2
  have X1 := fun d os => cell_regrown c1 d os
  have X2 := fun d os => cell_regrown c2 d os
  have FW := hide (fun (d : Nat) (os : Array Obj) => hF.trans (below_fr' (below_regrown W d os)) (fun _ _ t => t))
  clear c1 c2 hF
  have HEQ : Hid (q = q' → q.acked = q'.acked ∧ q.items = q'.items ∧ q.items.length = q'.items.length ∧ q.last = q'.last) := hide (fun e => by subst e; exact ⟨rfl, rfl, rfl, rfl⟩)
  clear HM HB
  generalize q.items.length = n at *
  generalize q'.items.length = n' at *
  generalize q.last = z at *
  generalize q'.last = z' at *
  generalize q.acked = a at *
  generalize q'.acked = a' at *
  go_upto_region 2 with (fail)
  cases r
  · refine wp_region_quiet_below (by kernel_rfl) (by kernel_rfl) ?_
    repeat (first | go_big_quiet_skip | (go_big_quiet_want; go_big_quiet_op; first | go_big_quiet_on | go_big_quiet_call (first | exact Calls.regrown_of ((unhide LN _ (unhide FW _ _)).mono fun _ _ h => ⟨h.1, fr_below' h.2⟩) | exact Calls.regrown_of ((unhide LA _ (unhide FW _ _)).mono fun _ _ h => ⟨h.1, fr_below' h.2⟩) | exact Calls.regrown_of ((unhide RL _ (unhide FW _ _)).mono fun _ _ h => ⟨h.1, fr_below' h.2⟩) | exact Calls.regrown_of ((unhide AK _ (unhide FW _ _)).mono fun _ _ h => ⟨h.1, fr_below' h.2⟩))))
    refine wpQuiet_nil ?_
    intro _ hw'
    obtain ⟨⟨dq, osq⟩, hw''⟩ := hw'
    subst hw''
    have FF := hide (unhide FW dq osq)
    go_wp2
    go_ret
    exact ⟨_, rfl, fun e => by have := (unhide H3).1 (unhide HEQ e).1 (unhide HEQ e).2.1; exact absurd this (by decide), unhide FF⟩
  · by_cases hn : n = n'
    · subst hn
      by_cases hz : z = z'
      · subst hz
        by_cases ha : a = a'
        · subst ha
          refine wp_region_quiet_below (by kernel_rfl) (by kernel_rfl) ?_
          repeat (first | go_big_quiet_skip | (go_big_quiet_want; go_big_quiet_op; first | go_big_quiet_on | go_big_quiet_call (first | exact Calls.regrown_of ((unhide LN _ (unhide FW _ _)).mono fun _ _ h => ⟨h.1, fr_below' h.2⟩) | exact Calls.regrown_of ((unhide LA _ (unhide FW _ _)).mono fun _ _ h => ⟨h.1, fr_below' h.2⟩) | exact Calls.regrown_of ((unhide RL _ (unhide FW _ _)).mono fun _ _ h => ⟨h.1, fr_below' h.2⟩) | exact Calls.regrown_of ((unhide AK _ (unhide FW _ _)).mono fun _ _ h => ⟨h.1, fr_below' h.2⟩))))
          refine wpQuiet_nil ?_
          intro _ hw'
          obtain ⟨⟨dq, osq⟩, hw''⟩ := hw'
          subst hw''
          have FF := hide (unhide FW dq osq)
          go_wp2
          go_ret
          exact ⟨_, rfl, fun e => by simp, unhide FF⟩
        · have ha1 : ((a : Int) == (a' : Int)) = false := by simp; omega
          have ha2 : (a == a') = false := by simp; omega
          have ha3 : decide (a = a') = false := by simp; omega
          have ha4 : decide ((a : Int) = (a' : Int)) = false := by simp; omega
          have HN := hide ha
          clear ha
          refine wp_region_quiet_below (by kernel_rfl) (by kernel_rfl) ?_
          repeat (first | go_big_quiet_skip | (go_big_quiet_want; go_big_quiet_op; first | go_big_quiet_on | go_big_quiet_call (first | exact Calls.regrown_of ((unhide LN _ (unhide FW _ _)).mono fun _ _ h => ⟨h.1, fr_below' h.2⟩) | exact Calls.regrown_of ((unhide LA _ (unhide FW _ _)).mono fun _ _ h => ⟨h.1, fr_below' h.2⟩) | exact Calls.regrown_of ((unhide RL _ (unhide FW _ _)).mono fun _ _ h => ⟨h.1, fr_below' h.2⟩) | exact Calls.regrown_of ((unhide AK _ (unhide FW _ _)).mono fun _ _ h => ⟨h.1, fr_below' h.2⟩))))
          refine wpQuiet_nil ?_
          intro _ hw'
          obtain ⟨⟨dq, osq⟩, hw''⟩ := hw'
          subst hw''
          have FF := hide (unhide FW dq osq)
          go_wp2
          go_ret
          exact ⟨_, rfl, fun e => absurd (unhide HEQ e).1 (unhide HN), unhide FF⟩
      · have hz1 : ((z : Int) == (z' : Int)) = false := by simp; omega
        have hz2 : (z == z') = false := by simp; omega
        have hz3 : decide (z = z') = false := by simp; omega
        have hz4 : decide ((z : Int) = (z' : Int)) = false := by simp; omega
        have HN := hide hz
        clear hz
        refine wp_region_quiet_below (by kernel_rfl) (by kernel_rfl) ?_
        repeat (first | go_big_quiet_skip | (go_big_quiet_want; go_big_quiet_op; first | go_big_quiet_on | go_big_quiet_call (first | exact Calls.regrown_of ((unhide LN _ (unhide FW _ _)).mono fun _ _ h => ⟨h.1, fr_below' h.2⟩) | exact Calls.regrown_of ((unhide LA _ (unhide FW _ _)).mono fun _ _ h => ⟨h.1, fr_below' h.2⟩) | exact Calls.regrown_of ((unhide RL _ (unhide FW _ _)).mono fun _ _ h => ⟨h.1, fr_below' h.2⟩) | exact Calls.regrown_of ((unhide AK _ (unhide FW _ _)).mono fun _ _ h => ⟨h.1, fr_below' h.2⟩))))
        refine wpQuiet_nil ?_
        intro _ hw'
        obtain ⟨⟨dq, osq⟩, hw''⟩ := hw'
        subst hw''
        have FF := hide (unhide FW dq osq)
        go_wp2
        go_ret
        exact ⟨_, rfl, fun e => absurd (unhide HEQ e).2.2.2 (unhide HN), unhide FF⟩
    · have hn1 : ((n : Int) == (n' : Int)) = false := by simp; omega
      have hn2 : (n == n') = false := by simp; omega
      have hn3 : decide (n = n') = false := by simp; omega
      have hn4 : decide ((n : Int) = (n' : Int)) = false := by simp; omega
      have HN := hide hn
      clear hn
      refine wp_region_quiet_below (by kernel_rfl) (by kernel_rfl) ?_
      repeat (first | go_big_quiet_skip | (go_big_quiet_want; go_big_quiet_op; first | go_big_quiet_on | go_big_quiet_call (first | exact Calls.regrown_of ((unhide LN _ (unhide FW _ _)).mono fun _ _ h => ⟨h.1, fr_below' h.2⟩) | exact Calls.regrown_of ((unhide LA _ (unhide FW _ _)).mono fun _ _ h => ⟨h.1, fr_below' h.2⟩) | exact Calls.regrown_of ((unhide RL _ (unhide FW _ _)).mono fun _ _ h => ⟨h.1, fr_below' h.2⟩) | exact Calls.regrown_of ((unhide AK _ (unhide FW _ _)).mono fun _ _ h => ⟨h.1, fr_below' h.2⟩))))
      refine wpQuiet_nil ?_
      intro _ hw'
      obtain ⟨⟨dq, osq⟩, hw''⟩ := hw'
      subst hw''
      have FF := hide (unhide FW dq osq)
      go_wp2
      go_ret
      exact ⟨_, rfl, fun e => absurd (unhide HEQ e).2.2.1 (unhide HN), unhide FF⟩

end Go.Proofs.YtjkghgcdkfkekaaGreatDoor

/- A queue while the power may go ('QA'), a disk of which only logs are found that meet OK ('QZ', 'QY'): what each call makes of them. -/
namespace Go.Proofs.YtjkghgcdkfkekaaGreatDoor
open Go.RowKit

/-- A log that tells one of the queues that stood, from the safe one on. -/
def OKs (stood : List Qr) (safe : Nat) (l : List Bs) : Prop := ∃ i q, safe ≤ i ∧ stood[i]? = some q ∧ qOf l = some q

/-- A queue that lives, whether its disk is armed or not. -/
def QA (w0 w : World) (hp b qb n lim : Nat) (q : Qr) (OK : List Bs → Prop) (B C N : Nat) (Sd : World → (Nat → Prop) → Prop) : Prop :=
  ∃ R O p l d G h a rs s num, d.pot ≤ B ∧ G ≤ C ∧ num ≤ N ∧ LQ w R O hp b p l qb n lim d G h a rs s num q ∧ TlOf OK rs s ∧ Fr (fun _ => False) w0 w ∧ (∀ k, k < w0.heap.size → R k = 0 ∧ ¬ O k) ∧ Sd w (fun k => R k = 0 ∧ ¬ O k)

/-- A disk of which only logs are found that meet OK, whichever writes stay. -/
def QZ (w0 w : World) (hp b n : Nat) (OK : List Bs → Prop) (B C : Nat) (dn : Bool) (Sd : World → (Nat → Prop) → Prop) : Prop :=
  ∃ R d, d.pot ≤ B ∧ d.down = dn ∧ Dn w R hp b n d ∧ Fnd n d C (TlOf OK) ∧ Fr (fun _ => False) w0 w ∧ (∀ k, k < w0.heap.size → R k = 0) ∧ Sd w (fun k => R k = 0)

/-- The same behind a loss of power; af: nothing was armed since. -/
def QY (w0 w : World) (hp b n : Nat) (OK : List Bs → Prop) (B C : Nat) (af : Bool) (Sd : World → (Nat → Prop) → Prop) (p : Option Nat) : Prop :=
  ∃ R d, d.pot ≤ B ∧ d.down = false ∧ d.wait = [] ∧ (af = true → d.armed = false) ∧ Dn w R hp b n d ∧ Fnd n d C (TlOf OK) ∧ Fr (fun _ => False) w0 w ∧ (∀ k, k < w0.heap.size → R k = 0) ∧ Sd w (fun k => R k = 0) ∧ ∀ x, p = some x → Dsk w R x b n

/-- A dead queue beside a disk. -/
def Ded (qb : Nat) (Sd : World → (Nat → Prop) → Prop) (w : World) (F : Nat → Prop) : Prop := (∃ cs, Bx w qb cs 120 ∧ cs[3]? = some (.bool true) ∧ F qb) ∧ Sd w (fun k => F k ∧ k ≠ qb)

theorem Ded.stable {qb : Nat} {Sd : World → (Nat → Prop) → Prop} (hS : Stable Sd) : Stable (Ded qb Sd) := by
  rintro w w' F F' ⟨⟨cs, h1, h2, h3⟩, h4⟩ hF hm
  refine ⟨⟨cs, h1.frame hF (fun t => t h3), h2, hm _ h1.lt h3⟩, hS _ _ _ _ h4 (hF.mono (fun k _ t h => t h.1)) (fun k hk t => ⟨hm k hk t.1, t.2⟩)⟩

section
variable {w0 w w' : World} {hp b qb n lim : Nat} {q : Qr} {OK OK' : List Bs → Prop} {B C N : Nat} {Sd : World → (Nat → Prop) → Prop} {dn af : Bool} {po : Option Nat}

theorem QA.mono {B' C' N' : Nat} (h : QA w0 w hp b qb n lim q OK B C N Sd) (hB : B ≤ B') (hC : C ≤ C') (hN : N ≤ N') (hO : ∀ l, OK l → OK' l) : QA w0 w hp b qb n lim q OK' B' C' N' Sd := by
  obtain ⟨R, O, p, l, d, G, k, a, rs, s, num, h1, h2, h3, L, t, h6⟩ := h
  exact ⟨R, O, p, l, d, G, k, a, rs, s, num, by omega, by omega, by omega, L, t.mono hO, h6⟩
theorem QA.keep (hS : Stable Sd) (h : QA w0 w hp b qb n lim q OK B C N Sd) (hF : Fr (fun _ => False) w w') : QA w0 w' hp b qb n lim q OK B C N Sd := by
  obtain ⟨R, O, p, l, d, G, k, a, rs, s, num, h1, h2, h3, L, t, h6, h7, h8⟩ := h
  exact ⟨R, O, p, l, d, G, k, a, rs, s, num, h1, h2, h3, L.keep hF, t, h6.trans hF (fun _ _ t => t), h7, hS _ _ _ _ h8 (hF.mono (fun _ _ t => t.elim)) (fun _ _ t => t)⟩
theorem QZ.mono {B' C' : Nat} (h : QZ w0 w hp b n OK B C dn Sd) (hB : B ≤ B') (hC : C ≤ C') (hO : ∀ l, OK l → OK' l) : QZ w0 w hp b n OK' B' C' dn Sd := by
  obtain ⟨R, d, h1, h2, D, f, h6⟩ := h
  exact ⟨R, d, by omega, h2, D, f.mono hC (fun _ _ t => t.mono hO), h6⟩
theorem QZ.keep (hS : Stable Sd) (h : QZ w0 w hp b n OK B C dn Sd) (hF : Fr (fun _ => False) w w') : QZ w0 w' hp b n OK B C dn Sd := by
  obtain ⟨R, d, h1, h2, D, f, h6, h7, h8⟩ := h
  exact ⟨R, d, h1, h2, D.keep hF, f, h6.trans hF (fun _ _ t => t), h7, hS _ _ _ _ h8 (hF.mono (fun _ _ t => t.elim)) (fun _ _ t => t)⟩
theorem QY.mono {B' C' : Nat} (h : QY w0 w hp b n OK B C af Sd po) (hB : B ≤ B') (hC : C ≤ C') : QY w0 w hp b n OK B' C' af Sd po := by
  obtain ⟨R, d, h1, h2, h3, h4, D, f, h6⟩ := h
  exact ⟨R, d, by omega, h2, h3, h4, D, f.mono hC (fun _ _ t => t), h6⟩
theorem QA.fr (h : QA w0 w hp b qb n lim q OK B C N Sd) : Fr (fun _ => False) w0 w := by
  obtain ⟨R, O, p, l, d, G, k, a, rs, s, num, h1, h2, h3, L, t, h6, h7, h8⟩ := h
  exact h6
theorem QZ.fr (h : QZ w0 w hp b n OK B C dn Sd) : Fr (fun _ => False) w0 w := by
  obtain ⟨R, d, h1, h2, D, f, h6, h7, h8⟩ := h
  exact h6
theorem QY.fr (h : QY w0 w hp b n OK B C af Sd po) : Fr (fun _ => False) w0 w := by
  obtain ⟨R, d, h1, h2, h3, h4, D, f, h6, h7, h8⟩ := h
  exact h6
theorem QA.ok (h : QA w0 w hp b qb n lim q OK B C N Sd) : q.Ok lim := by
  obtain ⟨R, O, p, l, d, G, k, a, rs, s, num, h1, h2, h3, L, t, h6, h7, h8⟩ := h
  exact L.ok
theorem QA.side (h : QA w0 w hp b qb n lim q OK B C N Sd) : ∃ F, Sd w F := by
  obtain ⟨R, O, p, l, d, G, k, a, rs, s, num, h1, h2, h3, L, t, h6, h7, h8⟩ := h
  exact ⟨_, h8⟩
theorem QZ.side (h : QZ w0 w hp b n OK B C dn Sd) : ∃ F, Sd w F := by
  obtain ⟨R, d, h1, h2, D, f, h6, h7, h8⟩ := h
  exact ⟨_, h8⟩

/-- A client turns blocks of its own. -/
theorem QA.own {S : Nat → Prop} {Sd' : World → (Nat → Prop) → Prop} (hT : TabAt w0) (h : QA w0 w hp b qb n lim q OK B C N Sd) (hF : Fr S w w') (hSd : ∀ F : Nat → Prop, (∀ k, w.heap.size ≤ k → F k) → Sd w F → (∀ k, k < w.heap.size → S k → F k ∧ w0.heap.size ≤ k) ∧ Sd' w' F) : QA w0 w' hp b qb n lim q OK B C N Sd' := by
  obtain ⟨R, O, p, l, d, G, k, a, rs, s, num, h1, h2, h3, L, t, h6, h7, h8⟩ := h
  have hz : ∀ k, w.heap.size ≤ k → R k = 0 ∧ ¬ O k := fun k hk => ⟨L.ls.dn.dk.zero k hk, fun t => by have := (L.qm.own k t).1; omega⟩
  obtain ⟨k1, k2⟩ := hSd _ hz h8
  have hp4 := hT.pos
  exact ⟨R, O, p, l, d, G, k, a, rs, s, num, h1, h2, h3, L.own hF (fun k hk t => ⟨(k1 k hk t).1.1, by have := (k1 k hk t).2; omega, (k1 k hk t).1.2⟩), t, h6.trans hF (fun k hk t => by have := (k1 k (Nat.lt_of_lt_of_le hk h6.size) t).2; omega), h7, k2⟩
theorem QZ.own {S : Nat → Prop} {Sd' : World → (Nat → Prop) → Prop} (hT : TabAt w0) (h : QZ w0 w hp b n OK B C dn Sd) (hF : Fr S w w') (hSd : ∀ F : Nat → Prop, (∀ k, w.heap.size ≤ k → F k) → Sd w F → (∀ k, k < w.heap.size → S k → F k ∧ w0.heap.size ≤ k) ∧ Sd' w' F) : QZ w0 w' hp b n OK B C dn Sd' := by
  obtain ⟨R, d, h1, h2, D, f, h6, h7, h8⟩ := h
  obtain ⟨k1, k2⟩ := hSd _ (fun k hk => D.dk.zero k hk) h8
  have hp4 := hT.pos
  exact ⟨R, d, h1, h2, D.own hF (fun k hk t => ⟨(k1 k hk t).1, by have := (k1 k hk t).2; omega⟩), f, h6.trans hF (fun k hk t => by have := (k1 k (Nat.lt_of_lt_of_le hk h6.size) t).2; omega), h7, k2⟩

theorem QA.asks (hl : Lim lim n) (h : QA w0 w hp b qb n lim q OK B C N Sd) : Asks w qb q := by
  obtain ⟨R, O, p, l, d, G, k, a, rs, s, num, h1, h2, h3, L, t, h6, h7, h8⟩ := h
  refine ⟨fun u hu => ?_, fun u hu => ((L.keep hu).qm.len).mono (fun e w' t => ⟨t.1, by rw [t.2]; exact Fr.refl _ _⟩), fun u hu => (L.keep hu).qm.last L.ok, fun u hu => ((L.keep hu).qm.acked).mono (fun e w' t => ⟨t.1, by rw [t.2]; exact Fr.refl _ _⟩)⟩
  have hk := (L.keep hu).qm.peek (L.ok.mono hl.le) 4096
  have e : q.items.take ((4096 : Int).toNat) = q.items := List.take_of_length_le (by have := (L.ok.mono hl.le).many; show _ ≤ 4096; exact this)
  rw [e] at hk
  exact hk

theorem QA.down (h : QA w0 w hp b qb n lim q OK B C N Sd) : Calls Tryz.prog 20 #[.pointer (some ⟨hp, 0, none⟩)] w fun e w' => e = .returned (.bool false) ∧ w' = w := by
  obtain ⟨R, O, p, l, d, G, k, a, rs, s, num, h1, h2, h3, L, t, h6, h7, h8⟩ := h
  have := L.ls.dn.down
  rw [L.ls.up] at this
  exact this
theorem QZ.down (h : QZ w0 w hp b n OK B C dn Sd) : Calls Tryz.prog 20 #[.pointer (some ⟨hp, 0, none⟩)] w fun e w' => e = .returned (.bool dn) ∧ w' = w := by
  obtain ⟨R, d, h1, h2, D, f, h6, h7, h8⟩ := h
  have := D.down
  rw [h2] at this
  exact this

theorem QA.qz (hS : Stable Sd) (h : QA w0 w hp b qb n lim q OK B C N Sd) : QZ w0 w hp b n OK B C false Sd := by
  obtain ⟨R, O, p, l, d, G, k, a, rs, s, num, h1, h2, h3, L, t, h6, h7, h8⟩ := h
  exact ⟨R, d, h1, L.ls.up, L.ls.dn, (L.ls.fnd t).mono h2 (fun _ _ t => t), h6, fun k hk => (h7 k hk).1, hS _ _ _ _ h8 (Fr.refl _ _) (fun _ _ t => t.1)⟩
theorem QZ.undead (hS : Stable Sd) (h : QZ w0 w hp b n OK B C dn (Ded qb Sd)) : QZ w0 w hp b n OK B C dn Sd := by
  obtain ⟨R, d, h1, h2, D, f, h6, h7, h8, h9⟩ := h
  exact ⟨R, d, h1, h2, D, f, h6, h7, hS _ _ _ _ h9 (Fr.refl _ _) (fun _ _ t => t.1)⟩

/-- Behind a change, done or refused. -/
theorem QA.did {q' : Qr} {fail : Bool} {R : Nat → Nat} {O : Nat → Prop} {p l : Nat} {d : Dk} {G num : Nat} (hS : Stable Sd) (hqb : O qb) (hB : d.pot ≤ B) (hC : G ≤ C) (hN : num ≤ N) (hF : Fr (fun _ => False) w0 w) (h7 : ∀ k, k < w0.heap.size → R k = 0 ∧ ¬ O k) (h8 : Sd w (fun k => R k = 0 ∧ ¬ O k)) (P : DoPost w R O hp b p l qb n lim d G num q' (TlOf OK) fail w') :
    (fail = false → QA w0 w' hp b qb n lim q' OK (B + 180 * hlf n + 6) (C + 1 + hlf n) (N + 1) Sd) ∧ (fail = true → QZ w0 w' hp b n OK (B + 180 * hlf n + 6) (C + 1 + hlf n) true (Ded qb Sd)) := by
  obtain ⟨d', R', u1, f1, D1, st, fnd, ar, k1, k2⟩ := P
  have hpt := st.pot
  have hfr : Fr (fun _ => False) w0 w' := hF.trans f1 (fun k hk t => by have := h7 k hk; rcases t with t | t; (· exact t this.1); (· exact this.2 t))
  refine ⟨fun hf => ?_, fun hf => ?_⟩
  · obtain ⟨G', h', a', rs', s', num', O', e1, e2, e3, e4, e5⟩ := k2 hf
    refine ⟨R', O', p, l, d', G', h', a', rs', s', num', by omega, by omega, by omega, e3, e4, hfr, fun k hk => ?_, hS _ _ _ _ h8 (f1.mono (fun k _ t h => by rcases t with t | t; (· exact t h.1); (· exact h.2 t))) (fun k hk t => ?_)⟩
    · have hlt := Nat.lt_of_lt_of_le hk hF.size
      exact ⟨by rw [u1 k hlt]; exact (h7 k hk).1, fun t => (h7 k hk).2 (e5 k hlt t)⟩
    · exact ⟨by rw [u1 k hk]; exact t.1, fun t' => t.2 (e5 k hk t')⟩
  · obtain ⟨cs, c1, c2, c3⟩ := k1 hf
    have hdn := st.down
    rw [hf, if_pos rfl] at hdn
    refine ⟨R', d', by omega, hdn, D1, fnd.mono (by omega) (fun _ _ t => t), hfr, fun k hk => by rw [u1 k (Nat.lt_of_lt_of_le hk hF.size)]; exact (h7 k hk).1, ⟨cs, c1, c2, c3⟩, hS _ _ _ _ h8 (f1.mono (fun k _ t h => by rcases t with t | t; (· exact t h.1); (· exact h.2 t))) (fun k hk t => ⟨(u1 k hk).trans t.1, fun e => t.2 (by rw [e]; exact hqb)⟩)⟩

theorem QA.putNo (hS : Stable Sd) (h : QA w0 w hp b qb n lim q OK B C N Sd) (bo : Option Addr) (bc : Nat) (bs : Bs) (hB : BAt w bo bc bs) (hE : putE q lim bs ≠ 0) :
    Calls Tryz.prog 23 #[.pointer (some ⟨qb, 0, none⟩), .slice bo bs.length bc] w fun e w' => e = .returned (.tuple #[.int .i64 0, errV (putE q lim bs)]) ∧ Hid (QA w0 w' hp b qb n lim q OK B C N Sd) := by
  have h' := h
  obtain ⟨R, O, p, l, d, G, k, a, rs, s, num, h1, h2, h3, L, t, h6, h7, h8⟩ := h
  exact (L.putNo bo bc bs hB hE).mono (fun e w' t => ⟨t.1, hide (h'.keep hS t.2)⟩)

theorem QA.putOk {stood : List Qr} {safe : Nat} (hS : Stable Sd) (hl : Lim lim n) (h : QA w0 w hp b qb n lim q (OKs stood safe) B C N Sd) (hs : safe ≤ stood.length) (hB' : B + 180 * hlf n + 600000 < 576460752303423488) (hC' : C ≤ 140737488355328) (hN' : N < 4611686018427387904) (bo : Option Addr) (bc : Nat) (bs : Bs) (hB : BAt w bo bc bs) (hE : putE q lim bs = 0) :
    Calls Tryz.prog 23 #[.pointer (some ⟨qb, 0, none⟩), .slice bo bs.length bc] w fun e w' => ∃ fail : Bool, e = .returned (if fail then .tuple #[.int .i64 0, errV 5] else .tuple #[.int .i64 ((q.last + 1 : Nat) : Int), .nilIface]) ∧ Hid ((fail = false → QA w0 w' hp b qb n lim ⟨q.acked, q.items ++ [bs]⟩ (OKs (stood ++ [⟨q.acked, q.items ++ [bs]⟩]) safe) (B + 180 * hlf n + 6) (C + 1 + hlf n) (N + 1) Sd) ∧ (fail = true → QZ w0 w' hp b n (OKs (stood ++ [⟨q.acked, q.items ++ [bs]⟩]) safe) (B + 180 * hlf n + 6) (C + 1 + hlf n) true (Ded qb Sd))) := by
  obtain ⟨R, O, p, l, d, G, k, a, rs, s, num, h1, h2, h3, L, t, h6, h7, h8⟩ := h
  have hE' : bs.length ≤ 256 ∧ q.items.length < lim ∧ q.last < 4294967295 := by
    unfold putE at hE
    split at hE
    · cases hE
    · split at hE
      · cases hE
      · split at hE
        · cases hE
        · omega
  obtain ⟨p1, p2, p3, p4⟩ := Qr.put_ok L.ok hl.le bs hE'.1 hE'.2.1 hE'.2.2
  have hq := qOf_snoc_ok L.told p1 p2
  rw [p3] at hq
  have t0 : Told rs s stood safe := t
  have t1 : TlOf (OKs (stood ++ [⟨q.acked, q.items ++ [bs]⟩]) safe) rs s := t0.more [⟨q.acked, q.items ++ [bs]⟩]
  have t2 : TlOf (OKs (stood ++ [⟨q.acked, q.items ++ [bs]⟩]) safe) (rs ++ [qraw 2 (q.last + 1) bs]) s := t0.put _ _ hq hs
  have t3 : TlOf (OKs (stood ++ [⟨q.acked, q.items ++ [bs]⟩]) safe) (qrecs ⟨q.acked, q.items ++ [bs]⟩) (qrecs ⟨q.acked, q.items ++ [bs]⟩).length := Told.all (i := stood.length) (qOf_recs _ (p4.mono hl.le)) hs (by simp)
  refine (L.putOk hl (by omega) (by omega) (by omega) bo bc bs hB hE _ t1 t2 t3).mono ?_
  rintro e w' ⟨fail, he, P⟩
  have hq' := QA.did hS L.qm.oq h1 h2 h3 h6 h7 h8 P
  have : (⟨q.acked, q.items ++ [bs]⟩ : Qr).last = q.last + 1 := by simp [Qr.last]; omega
  rw [this] at he
  exact ⟨fail, he, hide hq'⟩

theorem QA.ackNo (hS : Stable Sd) (h : QA w0 w hp b qb n lim q OK B C N Sd) (seq : Int) (hs : seq < 0 ∨ (q.last : Int) < seq) :
    Calls Tryz.prog 44 #[.pointer (some ⟨qb, 0, none⟩), .int .i64 seq] w fun e w' => e = .returned (errV 1) ∧ Hid (QA w0 w' hp b qb n lim q OK B C N Sd) := by
  have h' := h
  obtain ⟨R, O, p, l, d, G, k, a, rs, s, num, h1, h2, h3, L, t, h6, h7, h8⟩ := h
  exact (L.ackNo seq hs).mono (fun e w' t => ⟨t.1, hide (h'.keep hS t.2)⟩)

theorem QA.ackYes {stood : List Qr} {safe : Nat} (hS : Stable Sd) (hl : Lim lim n) (h : QA w0 w hp b qb n lim q (OKs stood safe) B C N Sd) (hs : safe ≤ stood.length) (hB' : B + 180 * hlf n + 600000 < 576460752303423488) (hC' : C ≤ 140737488355328) (hN' : N < 4611686018427387904) (s' : Nat) (hs' : s' ≤ q.last) :
    Calls Tryz.prog 44 #[.pointer (some ⟨qb, 0, none⟩), .int .i64 (s' : Int)] w fun e w' => ∃ fail : Bool, e = .returned (if fail then errV 5 else .nilIface) ∧ Hid ((fail = false → QA w0 w' hp b qb n lim (q.ack s') (OKs (stood ++ [q.ack s']) safe) (B + 180 * hlf n + 6) (C + 1 + hlf n) (N + 1) Sd) ∧ (fail = true → QZ w0 w' hp b n (OKs (stood ++ [q.ack s']) safe) (B + 180 * hlf n + 6) (C + 1 + hlf n) true (Ded qb Sd))) := by
  have h' := h
  obtain ⟨R, O, p, l, d, G, k, a, rs, s, num, h1, h2, h3, L, t, h6, h7, h8⟩ := h
  have t0 : Told rs s stood safe := t
  by_cases hle : s' ≤ q.acked
  · rw [Qr.ack, if_pos hle]
    refine (L.ackNil s' hle).mono (fun e w' t => ⟨false, t.1, hide ⟨fun _ => (h'.keep hS t.2).mono (by omega) (by omega) (by omega) (fun l hl => ?_), fun h => absurd h (by decide)⟩⟩)
    obtain ⟨i, q2, j1, j2, j3⟩ := hl
    exact ⟨i, q2, j1, by rw [List.getElem?_append_left (List.getElem?_eq_some_iff.1 j2).1]; exact j2, j3⟩
  · rw [Qr.ack, if_neg hle]
    obtain ⟨p1, p2, p3, p4, p5⟩ := Qr.ack_ok L.ok s' (by omega) hs'
    have hq0 := qOf_snoc_ok L.told p1 p2
    rw [p3] at hq0
    have hq : qOf (rs ++ [qraw 3 s' []]) = some ⟨s', q.items.drop (s' - q.acked)⟩ := hq0
    refine (L.ackOk hl (by omega) (by omega) (by omega) s' (by omega) hs' (TlOf (OKs (stood ++ [⟨s', q.items.drop (s' - q.acked)⟩]) safe)) (t0.more _) (t0.put _ _ hq hs) (Told.all (i := stood.length) (qOf_recs _ (p4.mono hl.le)) hs (by simp))).mono ?_
    rintro e w' ⟨fail, he, P⟩
    exact ⟨fail, he, hide (QA.did hS L.qm.oq h1 h2 h3 h6 h7 h8 P)⟩

theorem QA.sync {stood : List Qr} {safe i : Nat} (hS : Stable Sd) (h : QA w0 w hp b qb n lim q (OKs stood safe) B C N Sd) (hi : stood[i]? = some q) (hB' : B + 600000 < 576460752303423488) :
    Calls Tryz.prog 21 #[.pointer (some ⟨qb, 0, none⟩)] w fun e w' => ∃ fail : Bool, e = .returned (if fail then errV 5 else .nilIface) ∧ Hid ((fail = false → QA w0 w' hp b qb n lim q (OKs stood i) (B + 2) C N Sd) ∧ (fail = true → QZ w0 w' hp b n (OKs stood safe) (B + 2) C true (Ded qb Sd))) := by
  obtain ⟨R, O, p, l, d, G, k, a, rs, s, num, h1, h2, h3, L, t, h6, h7, h8⟩ := h
  refine (L.sync (by omega) (TlOf (OKs stood safe)) t).mono ?_
  rintro e w' ⟨fail, d', R', he, u1, f1, D1, st, fnd, ar, k1, k2⟩
  have hpt := st.pot
  have hqb := L.qm.oq
  have hfr : Fr (fun _ => False) w0 w' := h6.trans f1 (fun k hk t => by have := h7 k hk; rcases t with t | t; (· exact t this.1); (· exact this.2 t))
  refine ⟨fail, he, hide ⟨fun hf => ?_, fun hf => ?_⟩⟩
  · obtain ⟨L2, hw2⟩ := k2 hf
    exact ⟨R', O, p, l, d', G, k, a, rs, rs.length, num, by omega, h2, h3, L2, Told.all L.told (Nat.le_refl _) hi, hfr, fun k hk => ⟨by rw [u1 k (Nat.lt_of_lt_of_le hk h6.size)]; exact (h7 k hk).1, (h7 k hk).2⟩, hS _ _ _ _ h8 (f1.mono (fun k _ t h => by rcases t with t | t; (· exact t h.1); (· exact h.2 t))) (fun k hk t => ⟨by rw [u1 k hk]; exact t.1, t.2⟩)⟩
  · obtain ⟨cs, c1, c2, c3⟩ := k1 hf
    have hdn := st.down
    rw [hf, if_pos rfl] at hdn
    exact ⟨R', d', by omega, hdn, D1, fnd.mono h2 (fun _ _ t => t), hfr, fun k hk => by rw [u1 k (Nat.lt_of_lt_of_le hk h6.size)]; exact (h7 k hk).1, ⟨cs, c1, c2, c3⟩, hS _ _ _ _ h8 (f1.mono (fun k _ t h => by rcases t with t | t; (· exact t h.1); (· exact h.2 t))) (fun k hk t => ⟨(u1 k hk).trans t.1, fun e => t.2 (by rw [e]; exact hqb)⟩)⟩

/-- A dead queue is asked. -/
theorem QZ.syncDead (h : QZ w0 w hp b n OK B C dn (Ded qb Sd)) : Calls Tryz.prog 21 #[.pointer (some ⟨qb, 0, none⟩)] w fun e w' => e = .returned (errV 101) ∧ w' = w := by
  obtain ⟨R, d, h1, h2, D, f, h6, h7, ⟨cs, c1, c2, c3⟩, h9⟩ := h
  exact qsync_dead w qb cs _ c1 c2
theorem QZ.putDead (h : QZ w0 w hp b n OK B C dn (Ded qb Sd)) (bo : Option Addr) (bn bc : Nat) : Calls Tryz.prog 23 #[.pointer (some ⟨qb, 0, none⟩), .slice bo bn bc] w fun e w' => e = .returned (.tuple #[.int .i64 0, errV 101]) ∧ w' = w := by
  obtain ⟨R, d, h1, h2, D, f, h6, h7, ⟨cs, c1, c2, c3⟩, h9⟩ := h
  exact qput_dead w qb cs _ c1 c2 bo bn bc

theorem QA.arm (hS : Stable Sd) (h : QA w0 w hp b qb n lim q OK B C N Sd) (k : Int) (hk : k < 9223372036854775808) (x : Bool) : Calls Tryz.prog 19 #[.pointer (some ⟨hp, 0, none⟩), .int .i64 k, .bool x] w fun e w' => e = .returned (.tuple #[]) ∧ Hid (QA w0 w' hp b qb n lim q OK B C N Sd) := by
  obtain ⟨R, O, p, l, d, G, k', a, rs, s, num, h1, h2, h3, L, t, h6, h7, h8⟩ := h
  refine (L.ls.arm k hk x).mono ?_
  rintro e w' ⟨he, j1, j2⟩
  exact ⟨he, hide ⟨R, O, p, l, d.arm k x, G, k', a, rs, s, num, h1, h2, h3, ⟨j1, L.qm.frame j2 (fun k hk t => t (L.qm.own k hk).2.1) (UpR.refl _ _), L.told, L.ok, L.sle⟩, t, h6.trans j2 (fun k hk t => t (h7 k hk).1), h7, hS _ _ _ _ h8 (j2.mono (fun k _ t h => t h.1)) (fun _ _ t => t)⟩⟩

theorem QZ.loss (hS : Stable Sd) (h : QZ w0 w hp b n OK B C dn Sd) (hB : B + 600000 < 1099511627776) (ko : Option Addr) (kc : Nat) (ks : List Bool) (hK : KeepAt w0 ko kc ks) :
    Calls Tryz.prog 25 #[.pointer (some ⟨hp, 0, none⟩), .slice ko ks.length kc] w fun e w' => e = .returned (.tuple #[]) ∧ Hid (QY w0 w' hp b n OK B C true Sd none) := by
  obtain ⟨R, d, h1, h2, D, f, h6, h7, h8⟩ := h
  refine (D.crash (by omega) ko kc ks (hK.frame h6 (fun _ _ _ _ t => t)) (fun e0 k off e => ?_)).mono ?_
  · obtain ⟨kb, koff, e1, hc⟩ := hK.cells e0
    have hlt : kb < w0.heap.size := World.block_lt_of_cell? _ _ (hc 0 e0)
    rw [e1] at e
    injection e with e
    injection e with q1 q2
    subst q1
    exact h7 kb hlt
  · rintro e w' ⟨he, R', j1, j2, j3⟩
    refine ⟨he, hide ⟨R', d.crash ks, by rw [Dk.crash_pot]; exact h1, rfl, rfl, fun _ => rfl, j1, fun sub hsub => ?_, h6.trans j3 (fun k hk t => t (h7 k hk)), fun k hk => by rw [j2 k (Nat.lt_of_lt_of_le hk h6.size)]; exact h7 k hk, hS _ _ _ _ h8 (j3.mono (fun k _ t h => t h)) (fun k hk t => by rw [j2 k hk]; exact t), fun x hx => by cases hx⟩⟩
    have e0 : sub = [] := List.eq_nil_of_sublist_nil hsub
    subst e0
    exact f _ (kept_sub _ _)

theorem QY.arm (hS : Stable Sd) (h : QY w0 w hp b n OK B C af Sd none) (k : Int) (hk : k < 9223372036854775808) (x : Bool) : Calls Tryz.prog 19 #[.pointer (some ⟨hp, 0, none⟩), .int .i64 k, .bool x] w fun e w' => e = .returned (.tuple #[]) ∧ Hid (QY w0 w' hp b n OK B C false Sd none) := by
  obtain ⟨R, d, h1, h2, h3, h4, D, f, h6, h7, h8, h9⟩ := h
  refine (D.arm k hk x).mono ?_
  rintro e w' ⟨he, j1, j2⟩
  exact ⟨he, hide ⟨R, d.arm k x, h1, h2, h3, fun t => absurd t (by decide), j1, f, h6.trans j2 (fun k hk t => t (h7 k hk)), h7, hS _ _ _ _ h8 (j2.mono (fun k _ t h => t h)) (fun _ _ t => t), fun x hx => by cases hx⟩⟩

theorem QY.disk (hS : Stable Sd) (h : QY w0 w hp b n OK B C af Sd none) : Calls Tryz.prog 11 #[.pointer (some ⟨hp, 0, none⟩)] w fun e w' => ∃ p, e = .returned (.pointer (some ⟨p, 0, none⟩)) ∧ Hid (QY w0 w' hp b n OK B C af Sd (some p)) := by
  obtain ⟨R, d, h1, h2, h3, h4, D, f, h6, h7, h8, h9⟩ := h
  refine D.disk.mono ?_
  rintro e w' ⟨R', p, he, k1, k2, k3, k4⟩
  exact ⟨p, he, hide ⟨R', d, h1, h2, h3, h4, k2, f, h6.trans k4 (fun _ _ t => t), fun k hk => by rw [k3 k (Nat.lt_of_lt_of_le hk h6.size)]; exact h7 k hk, hS _ _ _ _ h8 (k4.mono (fun _ _ t => t.elim)) (fun k hk t => by rw [k3 k hk]; exact t), fun x hx => by injection hx with hx; subst hx; exact k1⟩⟩

/-- Open: refused, or a queue that meets OK. -/
theorem QY.open {p : Nat} (hS : Stable Sd) (hl : Lim lim n) (hOK : ∀ l, OK l → ∃ q, qOf l = some q ∧ q.Ok lim) (h : QY w0 w hp b n OK B C af Sd (some p)) (hB' : B + 180 * hlf n + 600000 < 576460752303423488) (hC' : C ≤ 140737488355328) :
    Calls Tryz.prog 26 #[.pointer (some ⟨p, 0, none⟩), .int .i64 (lim : Int)] w fun e w' => (af = false ∧ e = .returned (.tuple #[.pointer none, errV 5]) ∧ Hid (QZ w0 w' hp b n OK (B + 180 * hlf n + 6) (C + 1 + hlf n) true Sd)) ∨ ∃ qb, e = .returned (.tuple #[.pointer (some ⟨qb, 0, none⟩), .nilIface]) ∧ Hid (∃ q l, OK l ∧ qOf l = some q ∧ QA w0 w' hp b qb n lim q OK (B + 180 * hlf n + 6) (C + 1 + hlf n) 1 Sd) := by
  obtain ⟨R, d, h1, h2, h3, h4, D, f, h6, h7, h8, h9⟩ := h
  have hk := h9 p rfl
  have HO := wopen_re D hk h2 h3 hl.four hl.max (by omega) f (by omega)
  refine (qopen_of hk hl hOK D.tab.1.pos HO).mono ?_
  rintro e w' ⟨fail, d', R', u1, f1, D1, st, fnd, ar, e1, e2⟩
  have hpt := st.pot
  have hfr : Fr (fun _ => False) w0 w' := h6.trans f1 (fun k hk t => t (h7 k hk))
  have h7' : ∀ k, k < w0.heap.size → R' k = 0 := fun k hk => by rw [u1 k (Nat.lt_of_lt_of_le hk h6.size)]; exact h7 k hk
  cases hf : fail with
  | true =>
    have hdn := st.down
    rw [hf, if_pos rfl] at hdn
    refine .inl ⟨?_, e1 hf, hide ⟨R', d', by omega, hdn, D1, fnd, hfr, h7', hS _ _ _ _ h8 (f1.mono (fun k _ t h => t h)) (fun k hk t => by rw [u1 k hk]; exact t)⟩⟩
    cases af with
    | false => rfl
    | true => have := ar (h4 rfl); rw [hf] at this; cases this
  | false =>
    obtain ⟨qb, l, G', h', a', rs', q, O, he, hG, L, hok, hO⟩ := e2 hf
    have hT : TlOf OK rs' rs'.length := fun m m1 m2 => by
      obtain rfl : m = rs'.length := by omega
      rw [List.take_length]; exact hok
    refine .inr ⟨qb, he, hide ⟨q, rs', hok, L.told, R', O, p, l, d', G', h', a', rs', rs'.length, 1, by omega, hG, Nat.le_refl _, L, hT, hfr, fun k hk => ⟨h7' k hk, fun t => by have := hO k t; have := h6.size; omega⟩, hS _ _ _ _ h8 (f1.mono (fun k _ t h => t h)) (fun k hk t => ⟨by rw [u1 k hk]; exact t, fun t' => by have := hO k t'; omega⟩)⟩⟩

end

end Go.Proofs.YtjkghgcdkfkekaaGreatDoor

/- What lies beside a queue in QueuePower: the document's queue, the row of its clones, boxes ('PS'). -/
namespace Go.Proofs.YtjkghgcdkfkekaaGreatDoor
open Go.RowKit

theorem QA.refs {w0 w : World} {hp b qb n lim : Nat} {q : Qr} {OK : List Bs → Prop} {B C N : Nat} {Sd : World → (Nat → Prop) → Prop} (hT : TabAt w0) (h : QA w0 w hp b qb n lim q OK B C N Sd) :
    ∃ F : Nat → Prop, (∀ k, w.heap.size ≤ k → F k) ∧ Sd w F ∧ ∀ (w' : World) (S : Nat → Prop) (Sd' : World → (Nat → Prop) → Prop), Fr S w w' → (∀ k, k < w.heap.size → S k → F k ∧ w0.heap.size ≤ k) → Sd' w' F → QA w0 w' hp b qb n lim q OK B C N Sd' := by
  obtain ⟨R, O, p, l, d, G, k, a, rs, s, num, h1, h2, h3, L, t, h6, h7, h8⟩ := h
  have hz : ∀ k, w.heap.size ≤ k → R k = 0 ∧ ¬ O k := fun k hk => ⟨L.ls.dn.dk.zero k hk, fun t => by have := (L.qm.own k t).1; omega⟩
  have hp4 := hT.pos
  exact ⟨_, hz, h8, fun w' S Sd' hF k1 k2 => ⟨R, O, p, l, d, G, k, a, rs, s, num, h1, h2, h3, L.own hF (fun k hk t => ⟨(k1 k hk t).1.1, by have := (k1 k hk t).2; omega, (k1 k hk t).1.2⟩), t, h6.trans hF (fun k hk t => by have := (k1 k (Nat.lt_of_lt_of_le hk h6.size) t).2; omega), h7, k2⟩⟩

theorem QZ.refs {w0 w : World} {hp b n : Nat} {OK : List Bs → Prop} {B C : Nat} {dn : Bool} {Sd : World → (Nat → Prop) → Prop} (hT : TabAt w0) (h : QZ w0 w hp b n OK B C dn Sd) :
    ∃ F : Nat → Prop, (∀ k, w.heap.size ≤ k → F k) ∧ Sd w F ∧ ∀ (w' : World) (S : Nat → Prop) (Sd' : World → (Nat → Prop) → Prop), Fr S w w' → (∀ k, k < w.heap.size → S k → F k ∧ w0.heap.size ≤ k) → Sd' w' F → QZ w0 w' hp b n OK B C dn Sd' := by
  obtain ⟨R, d, h1, h2, D, f, h6, h7, h8⟩ := h
  have hp4 := hT.pos
  exact ⟨_, fun k hk => D.dk.zero k hk, h8, fun w' S Sd' hF k1 k2 => ⟨R, d, h1, h2, D.own hF (fun k hk t => ⟨(k1 k hk t).1, by have := (k1 k hk t).2; omega⟩), f, h6.trans hF (fun k hk t => by have := (k1 k (Nat.lt_of_lt_of_le hk h6.size) t).2; omega), h7, k2⟩⟩

/-- The document's queue in blocks of a client, the row of its clones, boxes, clones beside the row. -/
def PS (w0 : World) (rb lim : Nat) (q : Qr) (so : Option Addr) (sc : Nat) (stood : List Qr) (bx : List (Nat × Array Value × TypeId)) (cl : List (Nat × Qr)) (w : World) (F : Nat → Prop) : Prop :=
  ∃ (M E : Nat → Prop) (gs : Nat) (cbs : List Nat), (∀ k, M k → k < w.heap.size ∧ w0.heap.size ≤ k ∧ F k) ∧ (∀ k, E k → k < w.heap.size ∧ F k) ∧ (∀ k, M k → ¬ E k) ∧ Rf M E w rb lim q ∧
    KRow w so sc gs 1 (cbs.map fun c => Value.pointer (some ⟨c, 0, none⟩)) ∧ cbs.length = stood.length ∧ (∀ i (h1 : i < cbs.length) (h2 : i < stood.length), Rf E E w cbs[i] lim stood[i]) ∧
    (0 < sc → w0.heap.size ≤ gs ∧ F gs ∧ ¬ M gs ∧ ¬ E gs) ∧ (∀ x ∈ bx, Bx w x.1 x.2.1 x.2.2 ∧ F x.1 ∧ ¬ M x.1 ∧ (0 < sc → x.1 ≠ gs)) ∧ ∀ c ∈ cl, Rf E E w c.1 lim c.2

section
variable {w0 w : World} {rb lim : Nat} {q : Qr} {so : Option Addr} {sc : Nat} {stood : List Qr} {bx : List (Nat × Array Value × TypeId)} {cl : List (Nat × Qr)} {F : Nat → Prop}

theorem PS.stable : Stable (PS w0 rb lim q so sc stood bx cl) := by
  rintro w w' F F' ⟨M, E, gs, cbs, h1, h2, h3, h4, h5, h6, h7, h8, h9, h10⟩ hF hm
  have hsz := hF.size
  have hM : ∀ k, M k → ¬ ¬ F k := fun k hk t => t (h1 k hk).2.2
  have hE : ∀ k, E k → ¬ ¬ F k := fun k hk t => t (h2 k hk).2
  exact ⟨M, E, gs, cbs, fun k t => ⟨by have := (h1 k t).1; omega, (h1 k t).2.1, hm k (h1 k t).1 (h1 k t).2.2⟩, fun k t => ⟨by have := (h2 k t).1; omega, hm k (h2 k t).1 (h2 k t).2⟩, h3, h4.frame hF hM hE, h5.stay (fun hc => hF.block gs (h5.lt (by omega) hc) (fun t => t (h8 hc).2.1)), h6, fun i a c => (h7 i a c).frame hF hE hE, fun hc => ⟨(h8 hc).1, hm _ (h5.lt (by omega) hc) (h8 hc).2.1, (h8 hc).2.2⟩, fun x hx => ⟨(h9 x hx).1.frame hF (fun t => t (h9 x hx).2.1), hm _ (h9 x hx).1.lt (h9 x hx).2.1, (h9 x hx).2.2⟩, fun c hc => (h10 c hc).frame hF hE hE⟩

/-- The document's queue changed. -/
theorem PS.turn {w' : World} {q' : Qr} {M E M' E' : Nat → Prop} {gs : Nat} {cbs : List Nat} (hN : ∀ k, w.heap.size ≤ k → F k) (hF0 : w0.heap.size ≤ w.heap.size) (h1 : ∀ k, M k → k < w.heap.size ∧ w0.heap.size ≤ k ∧ F k) (h2 : ∀ k, E k → k < w.heap.size ∧ F k) (h3 : ∀ k, M k → ¬ E k)
    (h5 : KRow w so sc gs 1 (cbs.map fun c => Value.pointer (some ⟨c, 0, none⟩))) (h6 : cbs.length = stood.length) (h7 : ∀ i (h1 : i < cbs.length) (h2 : i < stood.length), Rf E E w cbs[i] lim stood[i]) (h8 : 0 < sc → w0.heap.size ≤ gs ∧ F gs ∧ ¬ M gs ∧ ¬ E gs) (h9 : ∀ x ∈ bx, Bx w x.1 x.2.1 x.2.2 ∧ F x.1 ∧ ¬ M x.1 ∧ (0 < sc → x.1 ≠ gs)) (h10 : ∀ c ∈ cl, Rf E E w c.1 lim c.2)
    (A : Agr w w' M E M' E') (hF : Fr M w w') (hR : Rf M' E' w' rb lim q') : (∀ k, k < w.heap.size → M k → F k ∧ w0.heap.size ≤ k) ∧ PS w0 rb lim q' so sc stood bx cl w' F := by
  have hsz := hF.size
  have hE : ∀ k, E k → ¬ M k := fun k hk t => h3 k t hk
  refine ⟨fun k _ t => ⟨(h1 k t).2.2, (h1 k t).2.1⟩, M', E', gs, cbs, fun k t => ⟨A.ml k t, ?_⟩, fun k t => ⟨A.el k t, ?_⟩, A.dj, hR, h5.stay (fun hc => hF.block gs (h5.lt (by omega) hc) (h8 hc).2.2.1), h6, fun i a c => ((h7 i a c).frame hF hE hE).mono ?_ ?_, fun hc => ⟨(h8 hc).1, (h8 hc).2.1, fun t => (h8 hc).2.2.1 ((A.m _ (h5.lt (by omega) hc)).1 t), fun t => (h8 hc).2.2.2 ((A.e _ (h5.lt (by omega) hc)).1 t)⟩, fun x hx => ⟨(h9 x hx).1.frame hF (h9 x hx).2.2.1, (h9 x hx).2.1, fun t => (h9 x hx).2.2.1 ((A.m _ (h9 x hx).1.lt).1 t), (h9 x hx).2.2.2⟩, fun c hc => ((h10 c hc).frame hF hE hE).mono ?_ ?_⟩
  · by_cases hk : k < w.heap.size
    · exact (h1 k ((A.m k hk).1 t)).2
    · exact ⟨by omega, hN k (by omega)⟩
  · by_cases hk : k < w.heap.size
    · exact (h2 k ((A.e k hk).1 t)).2
    · exact hN k (by omega)
  all_goals exact fun k _ t => (A.e k (h2 k t).1).2 t

/-- What a call of the document's queue leaves. -/
def Turned (w0 w : World) (rb lim : Nat) (q' : Qr) (so : Option Addr) (sc : Nat) (stood : List Qr) (bx : List (Nat × Array Value × TypeId)) (cl : List (Nat × Qr)) (F : Nat → Prop) (w' : World) : Prop :=
  ∃ S : Nat → Prop, Fr S w w' ∧ (∀ k, k < w.heap.size → S k → F k ∧ w0.heap.size ≤ k) ∧ PS w0 rb lim q' so sc stood bx cl w' F

theorem PS.put (hN : ∀ k, w.heap.size ≤ k → F k) (hF0 : w0.heap.size ≤ w.heap.size) (h : PS w0 rb lim q so sc stood bx cl w F) (hl : q.last ≤ 4294967295) (hli : lim ≤ 4096) (bo : Option Addr) (bc : Nat) (bs : Bs) (hB : BAt w bo bc bs) (he : putE q lim bs = 0) :
    Calls Tryz.prog 47 #[.pointer (some ⟨rb, 0, none⟩), .slice bo bs.length bc] w fun e w' => e = .returned (.tuple #[.int .i64 ((q.last + 1 : Nat) : Int), .int .i64 0]) ∧ Hid (Turned w0 w rb lim ⟨q.acked, q.items ++ [bs]⟩ so sc stood bx cl F w') := by
  obtain ⟨M, E, gs, cbs, h1, h2, h3, h4, h5, h6, h7, h8, h9, h10⟩ := h
  refine (rput_any w rb lim q h4 (fun k t => (h1 k t).1) (fun k t => (h2 k t).1) h3 hl hli bo bc bs hB he).mono ?_
  rintro e w' ⟨he, M', E', A, hF, hR⟩
  exact ⟨he, hide ⟨M, hF, PS.turn hN hF0 h1 h2 h3 h5 h6 h7 h8 h9 h10 A hF hR⟩⟩

theorem PS.ack (hN : ∀ k, w.heap.size ≤ k → F k) (hF0 : w0.heap.size ≤ w.heap.size) (h : PS w0 rb lim q so sc stood bx cl w F) (hl : q.last ≤ 4294967295) (s : Nat) (hs : s ≤ q.last) :
    Calls Tryz.prog 48 #[.pointer (some ⟨rb, 0, none⟩), .int .i64 (s : Int)] w fun e w' => e = .returned (.int .i64 0) ∧ Hid (Turned w0 w rb lim (q.ack s) so sc stood bx cl F w') := by
  obtain ⟨M, E, gs, cbs, h1, h2, h3, h4, h5, h6, h7, h8, h9, h10⟩ := h
  refine (rack_any w rb lim q h4 (fun k t => (h1 k t).1) (fun k t => (h2 k t).1) h3 hl s hs).mono ?_
  rintro e w' ⟨he, M', E', A, hF, hR⟩
  exact ⟨he, hide ⟨M, hF, PS.turn hN hF0 h1 h2 h3 h5 h6 h7 h8 h9 h10 A hF hR⟩⟩

theorem PS.clone (hN : ∀ k, w.heap.size ≤ k → F k) (h : PS w0 rb lim q so sc stood bx cl w F) (hl : q.items.length ≤ 4096) :
    Calls Tryz.prog 18 #[.pointer (some ⟨rb, 0, none⟩)] w fun e w' => ∃ cb, e = .returned (.pointer (some ⟨cb, 0, none⟩)) ∧ Hid (Fr (fun _ => False) w w' ∧ PS w0 rb lim q so sc stood bx ((cb, q) :: cl) w' F) := by
  obtain ⟨M, E, gs, cbs, h1, h2, h3, h4, h5, h6, h7, h8, h9, h10⟩ := h
  refine (rclone_any w rb lim q h4 hl).mono ?_
  rintro e w' ⟨cb, he, hcb, hF, hR⟩
  have hsz := hF.size
  refine ⟨cb, he, hide ⟨hF, M, fun k => E k ∨ (w.heap.size ≤ k ∧ k < w'.heap.size), gs, cbs, fun k t => ⟨by have := (h1 k t).1; omega, (h1 k t).2⟩, fun k t => ?_, fun k t t' => ?_, (h4.keep hF).mono (fun _ _ t => t) (fun _ _ t => .inl t), h5.keep (by omega) hF, h6, fun i a c => ((h7 i a c).keep hF).mono (fun _ _ t => .inl t) (fun _ _ t => .inl t), fun hc => ⟨(h8 hc).1, (h8 hc).2.1, (h8 hc).2.2.1, fun t => ?_⟩, fun x hx => ⟨(h9 x hx).1.keep hF, (h9 x hx).2⟩, fun c hc => ?_⟩⟩
  · rcases t with t | t
    · exact ⟨by have := (h2 k t).1; omega, (h2 k t).2⟩
    · exact ⟨t.2, hN k t.1⟩
  · rcases t' with t' | t'
    · exact h3 k t t'
    · have := (h1 k t).1; omega
  · rcases t with t | t
    · exact (h8 hc).2.2.2 t
    · have := h5.lt (by omega) hc; omega
  · rcases List.mem_cons.1 hc with rfl | hc
    · exact hR.mono (fun k hk t => .inr ⟨t, hk⟩) (fun _ _ t => .inl t)
    · exact ((h10 c hc).keep hF).mono (fun _ _ t => .inl t) (fun _ _ t => .inl t)

theorem infoPt : (Tryz.prog.info? 47).map (fun i => (i.zero, i.size, i.bytes)) = some (some (.pointer none), 1, 8) := by kernel_rfl

/-- append of a clone to the row: a run. -/
theorem PS.app {cb : Nat} {qc : Qr} (hN : ∀ k, w.heap.size ≤ k → F k) (hF0 : w0.heap.size ≤ w.heap.size) (h : PS w0 rb lim q so sc stood bx ((cb, qc) :: cl) w F) (hl : stood.length ≤ 1000000) :
    ∃ so' sc' w', (Builtin.append_ #[61, 61] 61 #[.slice so stood.length sc, .slice (some ⟨w.heap.size, 0, none⟩) 1 1]).run Tryz.prog (w.alloc (.cells #[.pointer (some ⟨cb, 0, none⟩)] 47)) = .ok (.slice so' (stood.length + 1) sc') w' ∧ Turned w0 w rb lim q so' sc' (stood ++ [qc]) bx cl F w' := by
  obtain ⟨i0, hi, hzz⟩ := Option.map_eq_some_iff.1 infoPt
  simp only [Prod.mk.injEq] at hzz
  obtain ⟨hz0, hz1, hz2⟩ := hzz
  obtain ⟨M, E, gs, cbs, h1, h2, h3, h4, h5, h6, h7, h8, h9, h10⟩ := h
  have hFa : Fr (fun _ => False) w (w.alloc (.cells #[.pointer (some ⟨cb, 0, none⟩)] 47)) := (Fr.refl _ _).alloc _
  have hsrc : Src Tryz.prog 1 61 (.slice (some ⟨w.heap.size, 0, none⟩) 1 1) 1 [.pointer (some ⟨cb, 0, none⟩)] (w.alloc (.cells #[.pointer (some ⟨cb, 0, none⟩)] 47)) :=
    src_one (P := Tryz.prog) w _ 61 47 1 Tryz.underlying61 rfl (fun u hu => by simp at hu; subst hu; rfl) (fun j => ((Bx.new w #[.pointer (some ⟨cb, 0, none⟩)] 47).cell j).trans (by simp))
  obtain ⟨so', sc', w', gs', hrun, r1, r2⟩ := append_krow (P := Tryz.prog) 61 61 61 47 i0 (.pointer none) 1 (by omega) Tryz.underlying61 hi hz0 rfl hz1 (n := stood.length) (h5.keep (by omega) hFa) (by rw [List.length_map, h6, Nat.mul_one]) (.slice (some ⟨w.heap.size, 0, none⟩) 1 1) [.pointer (some ⟨cb, 0, none⟩)] 1 hsrc (by rw [hz2]; omega) (by omega)
  have hfr : Fr (fun k => k = gs ∧ 0 < sc) w w' := by
    have f0 : Fr (fun k => k = gs ∧ 0 < sc) w (w.alloc (.cells #[.pointer (some ⟨cb, 0, none⟩)] 47)) := (Fr.refl _ w).alloc _
    rcases r2 with ⟨_, _, hf⟩ | ⟨_, _, hf⟩
    · exact f0.trans hf (fun _ _ t => t)
    · exact f0.trans hf (fun _ _ t => t.elim)
  have hsz := hfr.size
  have hM : ∀ k, M k → ¬ (k = gs ∧ 0 < sc) := fun k hk t => (h8 t.2).2.2.1 (by rw [← t.1]; exact hk)
  have hE : ∀ k, E k → ¬ (k = gs ∧ 0 < sc) := fun k hk t => (h8 t.2).2.2.2 (by rw [← t.1]; exact hk)
  have hgs : 0 < sc' → (0 < sc ∧ gs' = gs) ∨ w.heap.size < gs' := fun hc => by
    rcases r2 with ⟨e1, e2, _⟩ | ⟨e1, _, _⟩
    · exact .inl ⟨by omega, e1⟩
    · rw [heap_alloc] at e1; exact .inr (by omega)
  refine ⟨so', sc', w', hrun, fun k => k = gs ∧ 0 < sc, hfr, fun k _ t => by rw [t.1]; exact ⟨(h8 t.2).2.1, (h8 t.2).1⟩, M, E, gs', cbs ++ [cb], fun k t => ⟨by have := (h1 k t).1; omega, (h1 k t).2⟩, fun k t => ⟨by have := (h2 k t).1; omega, (h2 k t).2⟩, h3, h4.frame hfr hM hE, by simpa using r1, by simp [h6], fun i a c => ?_, fun hc => ?_, fun x hx => ⟨(h9 x hx).1.frame hfr (fun t => (h9 x hx).2.2.2 t.2 t.1), (h9 x hx).2.1, (h9 x hx).2.2.1, fun hc => ?_⟩, fun c hc => (h10 c (List.mem_cons_of_mem _ hc)).frame hfr hE hE⟩
  · by_cases hi' : i < cbs.length
    · rw [List.getElem_append_left hi', List.getElem_append_left (by omega)]
      exact (h7 i hi' (by omega)).frame hfr hE hE
    · have hil : i = cbs.length := by simp at a; omega
      have e1 : (cbs ++ [cb])[i] = cb := by rw [List.getElem_append_right (by omega)]; simp
      have e2 : (stood ++ [qc])[i] = qc := by rw [List.getElem_append_right (by omega)]; simp
      rw [e1, e2]
      exact (h10 (cb, qc) (List.mem_cons_self)).frame hfr hE hE
  · rcases hgs hc with ⟨c1, c2⟩ | c1
    · rw [c2]; exact h8 c1
    · exact ⟨by omega, hN _ (by omega), fun t => by have := (h1 _ t).1; omega, fun t => by have := (h2 _ t).1; omega⟩
  · rcases hgs hc with ⟨c1, c2⟩ | c1
    · rw [c2]; exact (h9 x hx).2.2.2 c1
    · have := (h9 x hx).1.lt; omega

/-- One box more; one box less. -/
theorem PS.box (hN : ∀ k, w.heap.size ≤ k → F k) (h : PS w0 rb lim q so sc stood bx cl w F) (cs : Array Value) (T : TypeId) : PS w0 rb lim q so sc stood ((w.heap.size, cs, T) :: bx) cl (w.alloc (.cells cs T)) F := by
  have hF : Fr (fun _ => False) w (w.alloc (.cells cs T)) := (Fr.refl _ w).alloc _
  obtain ⟨M, E, gs, cbs, h1, h2, h3, h4, h5, h6, h7, h8, h9, h10⟩ := h
  have hsz := hF.size
  refine ⟨M, E, gs, cbs, fun k t => ⟨by have := (h1 k t).1; omega, (h1 k t).2⟩, fun k t => ⟨by have := (h2 k t).1; omega, (h2 k t).2⟩, h3, h4.keep hF, h5.keep (by omega) hF, h6, fun i a c => (h7 i a c).keep hF, h8, fun x hx => ?_, fun c hc => (h10 c hc).keep hF⟩
  rcases List.mem_cons.1 hx with rfl | hx
  · exact ⟨Bx.new w cs T, hN _ (Nat.le_refl _), fun t => by have := (h1 _ t).1; omega, fun hc => by have := h5.lt (by omega) hc; show w.heap.size ≠ gs; omega⟩
  · exact ⟨(h9 x hx).1.keep hF, (h9 x hx).2⟩
theorem PS.less {y : Nat × Array Value × TypeId} (h : PS w0 rb lim q so sc stood (y :: bx) cl w F) : PS w0 rb lim q so sc stood bx cl w F := by
  obtain ⟨M, E, gs, cbs, h1, h2, h3, h4, h5, h6, h7, h8, h9, h10⟩ := h
  exact ⟨M, E, gs, cbs, h1, h2, h3, h4, h5, h6, h7, h8, fun x hx => h9 x (List.mem_cons_of_mem _ hx), h10⟩
theorem PS.boxAt {x : Nat × Array Value × TypeId} (h : PS w0 rb lim q so sc stood bx cl w F) (hx : x ∈ bx) : Bx w x.1 x.2.1 x.2.2 := by
  obtain ⟨M, E, gs, cbs, h1, h2, h3, h4, h5, h6, h7, h8, h9, h10⟩ := h
  exact (h9 x hx).1

/-- A clone of the row. -/
theorem PS.at (h : PS w0 rb lim q so sc stood bx cl w F) (i : Nat) (hi : i < stood.length) : ∃ gs cb E, so = some ⟨gs, 0, none⟩ ∧ w.cell? ⟨gs, i, none⟩ = some (.pointer (some ⟨cb, 0, none⟩)) ∧ Rf E E w cb lim stood[i] := by
  obtain ⟨M, E, gs, cbs, h1, h2, h3, h4, h5, h6, h7, h8, h9, h10⟩ := h
  have hl := h5.le
  simp at hl
  refine ⟨gs, cbs[i]'(by omega), E, h5.ad (by omega), ?_, h7 i (by omega) hi⟩
  rw [h5.cells i (by simp; omega)]
  simp
theorem PS.rf (h : PS w0 rb lim q so sc stood bx cl w F) : ∃ M E, Rf M E w rb lim q := by
  obtain ⟨M, E, gs, cbs, h1, h2, h3, h4, h5, h6, h7, h8, h9, h10⟩ := h
  exact ⟨M, E, h4⟩

end

end Go.Proofs.YtjkghgcdkfkekaaGreatDoor

