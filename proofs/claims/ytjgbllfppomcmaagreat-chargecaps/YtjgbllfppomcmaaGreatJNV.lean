import Derived.Test.YtjgbllfppomcmaaGreatJNY
/- A walk's begun and changes. -/
namespace Go.Proofs.YtjgbllfppomcmaaGreat
open Go.RowKit

/-- What a tariff tells a walk. -/
def tmOf (t : Tf) : Tm := ⟨fun q => (stationOf t q).isSome, fun q => ((stationOf t q).getD ⟨0, 0, 0⟩).group, t.hopper, t.change, t.longest⟩

theorem jV_cell {w : World} {ao : Option Addr} {cap g : Nat} {l : List Jn} (h : KRow w ao cap g 6 (jV l)) {k : Nat} {b : Jn} (hb : l[k]? = some b) :
    ao = some ⟨g, 0, none⟩ ∧ 0 < cap ∧ ∀ c (_ : c < 6) v, (jL b)[c]? = some v → w.cell? ⟨g, k * 6 + c, none⟩ = some v := by
  have hk := get_lt hb
  have hl := jV_length l
  have hle := h.le
  have hcap : 0 < cap := by
    rcases Nat.eq_zero_or_pos cap with rfl | h0
    · omega
    · exact h0
  refine ⟨h.ad hcap, hcap, fun c hc v hv => ?_⟩
  have h1 := h.cells (k * 6 + c) (by omega)
  have h2 := flat_get jL 6 (fun _ => rfl) l k hk c hc
  have h3 : l[k] = b := by rw [List.getElem?_eq_getElem hk] at hb; exact Option.some.inj hb
  rw [h3, hv] at h2
  rw [h1]
  have h4 : (jV l)[k * 6 + c]? = some v := h2
  rw [List.getElem?_eq_getElem (by omega)] at h4
  exact h4

theorem Fr.setB {B : Nat} {a w : World} (h : Fr (fun k => k = B) a w) (o : Nat) (u : Value) : Fr (fun k => k = B) a (w.setCell ⟨B, o, none⟩ u) := Fr.setCell h (fun _ => rfl) u
theorem Fr.setN {B : Nat} {S : Nat → Prop} {a w : World} (hB : ¬ B < a.heap.size) (h : Fr S a w) (o : Nat) (u : Value) : Fr S a (w.setCell ⟨B, o, none⟩ u) := Fr.setCell h (fun t => absurd t hB) u

set_option maxHeartbeats 1000000 in
theorem begun_any (w0 w : World) (p : Nat) (A : Ad) (t : Tf) (s : Wk) (ao : Option Addr) (cap g : Nat) (h : WM w0 w p A t s ao cap g) (hn : s.made.length ≤ 100000) (ho : ∀ j : Jn, s.opn = some j → j.kind ≠ 0)
    (hl : ∀ j : Jn, s.opn = some j → s.again = true → ∃ (k : Nat) (b : Jn), s.rail = some k ∧ s.made[k]? = some b) :
    Calls Tryz.prog 190 #[.pointer (some ⟨p, 0, none⟩)] w fun e w' => e = .returned (.agg (jC (s.begun.getD jz))) ∧ Fr (fun _ => False) w w' := by
  have q1 := egJ
  have q2 := eqJ
  have hlt := h.lt
  obtain ⟨v, hv⟩ : ∃ v, v = w.alloc (.cells #[.int .i64 0, .int .i64 0, .int .i64 0, .int .i64 0, .int .i64 0, .bool false] 124) := ⟨_, rfl⟩
  have hF : Fr (fun _ => False) w v := by rw [hv]; exact (Fr.refl _ w).alloc _
  have hb := h.box.keep hF
  have hZ : Bx v w.heap.size #[.int .i64 0, .int .i64 0, .int .i64 0, .int .i64 0, .int .i64 0, .bool false] 124 := by rw [hv]; exact Bx.new _ _ _
  have c22 : v.cell? ⟨p, 22, none⟩ = some (.int .i64 (s.opn.getD jz).kind) := hb.cell 22
  have c23 : v.cell? ⟨p, 23, none⟩ = some (.int .i64 (s.opn.getD jz).fr) := hb.cell 23
  have c24 : v.cell? ⟨p, 24, none⟩ = some (.int .i64 (s.opn.getD jz).to) := hb.cell 24
  have c25 : v.cell? ⟨p, 25, none⟩ = some (.int .i64 (s.opn.getD jz).st) := hb.cell 25
  have c26 : v.cell? ⟨p, 26, none⟩ = some (.int .i64 (s.opn.getD jz).en) := hb.cell 26
  have c27 : v.cell? ⟨p, 27, none⟩ = some (.bool (s.opn.getD jz).free) := hb.cell 27
  have c28 : v.cell? ⟨p, 28, none⟩ = some (.bool s.again) := hb.cell 28
  have c14 : v.cell? ⟨p, 14, none⟩ = some (.slice ao s.made.length cap) := hb.cell 14
  have c15 : v.cell? ⟨p, 15, none⟩ = some (.int .i64 (railV s.rail)) := hb.cell 15
  have z0 : v.cell? ⟨w.heap.size, 0, none⟩ = some (.int .i64 0) := hZ.cell 0
  have z1 : v.cell? ⟨w.heap.size, 1, none⟩ = some (.int .i64 0) := hZ.cell 1
  have z2 : v.cell? ⟨w.heap.size, 2, none⟩ = some (.int .i64 0) := hZ.cell 2
  have z3 : v.cell? ⟨w.heap.size, 3, none⟩ = some (.int .i64 0) := hZ.cell 3
  have z4 : v.cell? ⟨w.heap.size, 4, none⟩ = some (.int .i64 0) := hZ.cell 4
  have z5 : v.cell? ⟨w.heap.size, 5, none⟩ = some (.bool false) := hZ.cell 5
  have zf : ∀ k, v.frozen? ⟨w.heap.size, k, none⟩ = false := fun k => hZ.frozen k
  have hKR := h.row.keep (by omega) hF
  have HGL : Hid (0 < cap → g < w.heap.size) := hide (fun hc => h.row.lt (by omega) hc)
  have HF := hide hF
  have HV := hide hv
  have HL := hide hl
  obtain ⟨B, hB⟩ : ∃ B, B = w.heap.size := ⟨_, rfl⟩
  rw [← hB] at hlt z0 z1 z2 z3 z4 z5 zf
  have hpB : p ≠ B := by omega
  clear hF hb hZ hv hl h
  cases hop : s.opn with
  | none =>
    have HB : Hid (s.begun.getD jz = jz) := hide (by unfold Wk.begun; rw [hop]; rfl)
    rw [unhide HB]
    simp only [hop, Option.getD_none, jz] at c22 c23 c24 c25 c26 c27
    clear HB HL ho hop c28 c14 c15 hKR
    go_enter Tryz.func190, Tryz.ntmps190
    go_upto_region 1 with (fail)
    rw [← unhide HV, ← hB]
    have HN : Hid (¬ B < w.heap.size) := hide (by omega)
    clear HV hB
    go_wp2
    refine bodyPost_ret (v := jA jz) (by simp [results, Tryz.results190, go_sem, z0, z1, z2, z3, z4, z5, jA, jC, jz]) rfl ⟨rfl, ?_⟩
    repeat (refine Fr.setCell ?_ (fun t => absurd t (unhide HN)) _)
    exact unhide HF
  | some j =>
    have hk : (j.kind == 0) = false := by simp [ho j hop]
    simp only [hop, Option.getD_some] at c22 c23 c24 c25 c26 c27
    cases hag : s.again with
    | false =>
      have HB : Hid (s.begun.getD jz = j) := hide (by unfold Wk.begun; rw [hop]; simp [hag])
      rw [unhide HB]
      rw [hag] at c28
      clear HB HL ho hop c14 c15 hKR hag
      obtain ⟨k, f, o, a, b, c⟩ := j
      simp only at c22 c23 c24 c25 c26 c27 hk
      go_enter Tryz.func190, Tryz.ntmps190
      go_upto_region 1 with (fail)
      rw [← unhide HV, ← hB]
      have HN : Hid (¬ B < w.heap.size) := hide (by omega)
      clear HV hB
      go_wp2
      refine bodyPost_ret (v := jA ⟨k, f, o, a, b, c⟩) (by simp [results, Tryz.results190, go_sem, z0, z1, z2, z3, z4, z5, jA, jC]) rfl ⟨rfl, ?_⟩
      repeat (refine Fr.setCell ?_ (fun t => absurd t (unhide HN)) _)
      exact unhide HF
    | true =>
      obtain ⟨m, b, hr, hm⟩ := unhide HL j hop hag
      have HB : Hid (s.begun.getD jz = b) := hide (by unfold Wk.begun Wk.last; rw [hop, hr]; simp [hag, hm])
      rw [unhide HB]
      obtain ⟨rfl, hcap, hcl⟩ := jV_cell hKR hm
      have hml := get_lt hm
      have m0 : v.cell? ⟨g, m * 6, none⟩ = some (.int .i64 b.kind) := hcl 0 (by omega) _ rfl
      have m1 : v.cell? ⟨g, m * 6 + 1, none⟩ = some (.int .i64 b.fr) := hcl 1 (by omega) _ rfl
      have m2 : v.cell? ⟨g, m * 6 + 2, none⟩ = some (.int .i64 b.to) := hcl 2 (by omega) _ rfl
      have m3 : v.cell? ⟨g, m * 6 + 3, none⟩ = some (.int .i64 b.st) := hcl 3 (by omega) _ rfl
      have m4 : v.cell? ⟨g, m * 6 + 4, none⟩ = some (.int .i64 b.en) := hcl 4 (by omega) _ rfl
      have m5 : v.cell? ⟨g, m * 6 + 5, none⟩ = some (.bool b.free) := hcl 5 (by omega) _ rfl
      rw [hag] at c28
      rw [hr] at c15
      simp only [railV] at c15
      have i1 : (m : Int) < (s.made.length : Int) := by omega
      have i2 : (s.made.length : Int) ≤ 100000 := by omega
      have hgB : g ≠ B := by have := unhide HGL hcap; omega
      clear HB HL ho hop hKR hag hr hm hcl hml hcap hn
      generalize s.made.length = n at *
      obtain ⟨k, f, o, a, e, c⟩ := j
      obtain ⟨k', f', o', a', e', c'⟩ := b
      simp only at c22 c23 c24 c25 c26 c27 hk m0 m1 m2 m3 m4 m5
      have HKP : Hid (∀ u, Fr (fun k => k = B) v u → u.cell? ⟨p, 14, none⟩ = some (.slice (some ⟨g, 0, none⟩) n cap) ∧ u.cell? ⟨p, 15, none⟩ = some (.int .i64 (m : Int)) ∧ u.cell? ⟨g, m * 6, none⟩ = some (.int .i64 k') ∧ u.cell? ⟨g, m * 6 + 1, none⟩ = some (.int .i64 f') ∧ u.cell? ⟨g, m * 6 + 2, none⟩ = some (.int .i64 o') ∧ u.cell? ⟨g, m * 6 + 3, none⟩ = some (.int .i64 a') ∧ u.cell? ⟨g, m * 6 + 4, none⟩ = some (.int .i64 e') ∧ u.cell? ⟨g, m * 6 + 5, none⟩ = some (.bool c')) := hide (fun u hf => by
        have f : ∀ {i : Nat} {x : Value} {q : Nat}, q ≠ B → v.cell? ⟨q, i, none⟩ = some x → u.cell? ⟨q, i, none⟩ = some x := fun {i x q} hq e => (hf.cell (World.block_lt_of_cell? _ _ e) hq).trans e
        exact ⟨f hpB c14, f hpB c15, f hgB m0, f hgB m1, f hgB m2, f hgB m3, f hgB m4, f hgB m5⟩)
      go_enter Tryz.func190, Tryz.ntmps190
      go_upto_region 1 with (fail)
      rw [← unhide HV, ← hB]
      have HN : Hid (¬ B < w.heap.size) := hide (by omega)
      clear HV hB
      go_wp2_with fail
      go_region_held3 (fun u => u.cell? ⟨p, 14, none⟩ = some (.slice (some ⟨g, 0, none⟩) n cap) ∧ u.cell? ⟨p, 15, none⟩ = some (.int .i64 (m : Int)) ∧ u.cell? ⟨g, m * 6, none⟩ = some (.int .i64 k') ∧ u.cell? ⟨g, m * 6 + 1, none⟩ = some (.int .i64 f') ∧ u.cell? ⟨g, m * 6 + 2, none⟩ = some (.int .i64 o') ∧ u.cell? ⟨g, m * 6 + 3, none⟩ = some (.int .i64 a') ∧ u.cell? ⟨g, m * 6 + 4, none⟩ = some (.int .i64 e') ∧ u.cell? ⟨g, m * 6 + 5, none⟩ = some (.bool c')) ((refine unhide HKP _ ?_; repeat (with_reducible (first | exact Fr.refl _ _ | refine Fr.drew ?_ | refine Fr.setB ?_ _ _)))) (fail)
      all_goals
        go_wp2
        refine bodyPost_ret (v := jA ⟨k', f', o', a', e', c'⟩) (by simp [results, Tryz.results190, go_sem, z0, z1, z2, z3, z4, z5, jA, jC]) rfl ⟨rfl, ?_⟩
        repeat (with_reducible (first | exact unhide HF | refine Fr.drew ?_ | refine Fr.setN (unhide HN) ?_ _ _))

end Go.Proofs.YtjgbllfppomcmaaGreat

/- A walk's changes. -/
namespace Go.Proofs.YtjgbllfppomcmaaGreat
open Go.RowKit

theorem new_cells {wc w2 : World} {cs : Array Value} {T : TypeId} (h : Fr (fun _ => False) (wc.alloc (.cells cs T)) w2) : Bx w2 wc.heap.size cs T := (Bx.new _ _ _).keep h

theorem new_cellsD {wc w2 : World} {cs : Array Value} {T : TypeId} (h : Fr (fun _ => False) (wc.alloc (.cells cs T)).drew w2) : Bx w2 wc.heap.size cs T := (Bx.new _ _ _).drew.keep h

theorem changes_none (w0 w : World) (p : Nat) (A : Ad) (t : Tf) (s : Wk) (ao : Option Addr) (cap g : Nat) (h : WM w0 w p A t s ao cap g) (x : Tp) (gr : Int) (hr : s.rail = none ∨ gr = 0) :
    Calls Tryz.prog 189 #[.pointer (some ⟨p, 0, none⟩), .agg (tpC x), .int .i64 gr] w fun e w' => e = .returned (.bool false) ∧ Fr (fun _ => False) w w' := by
  obtain ⟨dev, ctr, tok, kind, place, time⟩ := x
  simp only [tpC]
  obtain ⟨v, hv⟩ : ∃ v, v = w.alloc (.cells #[.int .i64 dev, .int .i64 ctr, .string tok, .int .i64 kind, .int .i64 place, .int .i64 time] 47) := ⟨_, rfl⟩
  have hF : Fr (fun _ => False) w v := by rw [hv]; exact (Fr.refl _ w).alloc _
  have hb := h.box.keep hF
  have c15 : v.cell? ⟨p, 15, none⟩ = some (.int .i64 (railV s.rail)) := hb.cell 15
  have HF := hide hF
  have HV := hide hv
  clear hF hb hv h
  cases hs : s.rail with
  | none =>
    rw [hs] at c15
    simp only [railV] at c15
    clear hr hs
    go_enter Tryz.func189, Tryz.ntmps189
    go_upto_region 1 with (fail)
    rw [← unhide HV]
    clear HV
    go_wp2
    go_ret
    exact ⟨rfl, unhide HF⟩
  | some k =>
    obtain rfl : gr = 0 := by rcases hr with h | h; (· rw [hs] at h; cases h); exact h
    rw [hs] at c15
    simp only [railV] at c15
    have hkb : ((k : Int) == -1) = false := by simp
    clear hr hs
    go_enter Tryz.func189, Tryz.ntmps189
    go_upto_region 1 with (fail)
    rw [← unhide HV]
    clear HV
    go_wp2
    go_ret
    exact ⟨rfl, unhide HF⟩

set_option maxHeartbeats 1000000 in
theorem changes_some (w0 w : World) (p : Nat) (A : Ad) (t : Tf) (s : Wk) (ao : Option Addr) (cap g : Nat) (h : WM w0 w p A t s ao cap g) (hT : TAt w A t) (hn : s.made.length ≤ 100000) (x : Tp) (gr : Int) (k : Nat) (b : Jn) (hr : s.rail = some k) (hm : s.made[k]? = some b)
    (hgr : gr ≠ 0) (hb0 : 0 ≤ b.st ∧ b.st ≤ 2147483648 ∧ 0 ≤ b.en ∧ b.en ≤ 2147483648) (hx : 0 ≤ x.time ∧ x.time ≤ 2147483648) :
    Calls Tryz.prog 189 #[.pointer (some ⟨p, 0, none⟩), .agg (tpC x), .int .i64 gr] w fun e w' => e = .returned (.bool (decide (b.kind = 1) && decide (((stationOf t b.to).getD ⟨0, 0, 0⟩).group = gr) && (decide (x.time - b.en ≤ t.change) && decide (x.time - b.st ≤ t.longest)))) ∧ Fr (fun _ => False) w w' := by
  have HST : Hid (∀ u, Fr (fun _ => False) w u → Calls Tryz.prog 145 #[tv A t, .int .i64 b.to] u fun e w' => e = .returned (.tuple #[stA ((stationOf t b.to).getD ⟨0, 0, 0⟩), .bool (stationOf t b.to).isSome]) ∧ Fr (fun _ => False) u w') := hide (fun u hf => station_any u A t (hT.keep hf) b.to)
  have hml := get_lt hm
  obtain ⟨hao, hcap, hcl⟩ := jV_cell h.row hm
  have hgl := h.row.lt (by omega) hcap
  obtain ⟨dev, ctr, tok, kind, place, time⟩ := x
  obtain ⟨jk, jf, jt, js, je, jr⟩ := b
  simp only [tpC] at *
  obtain ⟨z, hz⟩ : ∃ z, (stationOf t jt).getD ⟨0, 0, 0⟩ = z := ⟨_, rfl⟩
  rw [hz] at HST ⊢
  generalize (stationOf t jt).isSome = zs at *
  have w1 : IntKind.i64.wrap (time - je) = time - je := by rw [IntKind.wrap_i64]; omega
  have w2 : IntKind.i64.wrap (time - js) = time - js := by rw [IntKind.wrap_i64]; omega
  obtain ⟨lc, hlc⟩ : ∃ lc, decide (time - je ≤ t.change) = lc := ⟨_, rfl⟩
  obtain ⟨ll, hll⟩ : ∃ ll, decide (time - js ≤ t.longest) = ll := ⟨_, rfl⟩
  obtain ⟨lk, hlk⟩ : ∃ lk, decide (jk = 1) = lk := ⟨_, rfl⟩
  obtain ⟨lg, hlg⟩ : ∃ lg, decide (z.group = gr) = lg := ⟨_, rfl⟩
  rw [hlc, hll, hlk, hlg]
  have hlk2 : (jk == 1) = lk := by rw [← hlk]; by_cases q : jk = 1 <;> simp [q]
  have hlg2 : (z.group == gr) = lg := by rw [← hlg]; by_cases q : z.group = gr <;> simp [q]
  have hgr2 : (gr == 0) = false := by simp [hgr]
  have hkb : ((k : Int) == -1) = false := by simp
  have i1 : (k : Int) < (s.made.length : Int) := by omega
  have i2 : (s.made.length : Int) ≤ 100000 := by omega
  obtain ⟨v, hv⟩ : ∃ v, v = w.alloc (.cells #[.int .i64 dev, .int .i64 ctr, .string tok, .int .i64 kind, .int .i64 place, .int .i64 time] 47) := ⟨_, rfl⟩
  have hF : Fr (fun _ => False) w v := by rw [hv]; exact (Fr.refl _ w).alloc _
  have hvs : v.heap.size = w.heap.size + 1 := by rw [hv]; simp
  have hX : Bx v w.heap.size #[.int .i64 dev, .int .i64 ctr, .string tok, .int .i64 kind, .int .i64 place, .int .i64 time] 47 := by rw [hv]; exact Bx.new _ _ _
  have hb := h.box.keep hF
  have hbp := h.lt
  have HB : Hid (Bx v p (wkC A t s ao cap) 176) := hide hb
  have HX := hide hX
  have HROW : Hid (∀ u, Fr (fun _ => False) v u → ∀ c (_ : c < 6) y, (jL ⟨jk, jf, jt, js, je, jr⟩)[c]? = some y → u.cell? ⟨g, k * 6 + c, none⟩ = some y) := hide (fun u hf c hc y hy => by
    have h1 := hcl c hc y hy
    exact ((hF.trans hf (fun _ _ t => t)).cell (World.block_lt_of_cell? _ _ h1) (fun t => t)).trans h1)
  have c14 : v.cell? ⟨p, 14, none⟩ = some (.slice (some ⟨g, 0, none⟩) s.made.length cap) := by rw [← hao]; exact hb.cell 14
  have c15 : v.cell? ⟨p, 15, none⟩ = some (.int .i64 (k : Int)) := by have := hb.cell 15; rw [this]; show some (Value.int .i64 (railV s.rail)) = _; rw [hr]; rfl
  have m0 : v.cell? ⟨g, k * 6, none⟩ = some (.int .i64 jk) := unhide HROW _ (Fr.refl _ _) 0 (by omega) _ rfl
  have m1 : v.cell? ⟨g, k * 6 + 1, none⟩ = some (.int .i64 jf) := unhide HROW _ (Fr.refl _ _) 1 (by omega) _ rfl
  have m2 : v.cell? ⟨g, k * 6 + 2, none⟩ = some (.int .i64 jt) := unhide HROW _ (Fr.refl _ _) 2 (by omega) _ rfl
  have m3 : v.cell? ⟨g, k * 6 + 3, none⟩ = some (.int .i64 js) := unhide HROW _ (Fr.refl _ _) 3 (by omega) _ rfl
  have m4 : v.cell? ⟨g, k * 6 + 4, none⟩ = some (.int .i64 je) := unhide HROW _ (Fr.refl _ _) 4 (by omega) _ rfl
  have m5 : v.cell? ⟨g, k * 6 + 5, none⟩ = some (.bool jr) := unhide HROW _ (Fr.refl _ _) 5 (by omega) _ rfl
  have HF := hide hF
  have HV := hide hv
  have HN := hide (And.intro hvs (And.intro hbp hgl))
  obtain ⟨X, hXe⟩ : ∃ X, X = w.heap.size := ⟨_, rfl⟩
  have HXE := hide hXe
  have HC := hide (And.intro hlc (And.intro hll (And.intro hlk hlg)))
  clear hF hb hv h hX hcl hT hz hvs hbp hgl hm hml hr hcap hao hlc hll hlk hlg hn hgr
  generalize s.made.length = n at *
  rw [← hXe] at HX HN
  have hCB : ∀ u, Fr (fun _ => False) v u → u.cell? ⟨p, 14, none⟩ = some (.slice (some ⟨g, 0, none⟩) n cap) ∧ u.cell? ⟨p, 15, none⟩ = some (.int .i64 (k : Int)) ∧ u.cell? ⟨g, k * 6, none⟩ = some (.int .i64 jk) ∧ u.cell? ⟨g, k * 6 + 1, none⟩ = some (.int .i64 jf) ∧ u.cell? ⟨g, k * 6 + 2, none⟩ = some (.int .i64 jt) ∧ u.cell? ⟨g, k * 6 + 3, none⟩ = some (.int .i64 js) ∧ u.cell? ⟨g, k * 6 + 4, none⟩ = some (.int .i64 je) ∧ u.cell? ⟨g, k * 6 + 5, none⟩ = some (.bool jr) := fun u hf => by
    have f : ∀ {a : Addr} {y : Value}, v.cell? a = some y → u.cell? a = some y := fun {a y} e => (hf.cell (World.block_lt_of_cell? _ _ e) (fun t => t)).trans e
    exact ⟨f c14, f c15, f m0, f m1, f m2, f m3, f m4, f m5⟩
  have HKP := hide hCB
  clear hCB hXe
  go_enter Tryz.func189, Tryz.ntmps189
  go_upto_region 1 with (fail)
  rw [← unhide HXE, ← unhide HV]
  clear HV
  go_upto_region 3 with (fail)
  obtain ⟨J, hJ⟩ : ∃ J, J = v.heap.size := ⟨_, rfl⟩
  have HJ := hide hJ
  go_cut [7] from 20 to 29 (fun v7 wc => v7 = .pointer (some ⟨J, 0, none⟩) ∧ Hid (Fr (fun _ => False) v wc ∧ Bx wc J #[.int .i64 jk, .int .i64 jf, .int .i64 jt, .int .i64 js, .int .i64 je, .bool jr] 124))
  case first =>
    clear hJ
    go_region_held3 (fun u => u.cell? ⟨p, 14, none⟩ = some (.slice (some ⟨g, 0, none⟩) n cap) ∧ u.cell? ⟨p, 15, none⟩ = some (.int .i64 (k : Int)) ∧ u.cell? ⟨g, k * 6, none⟩ = some (.int .i64 jk) ∧ u.cell? ⟨g, k * 6 + 1, none⟩ = some (.int .i64 jf) ∧ u.cell? ⟨g, k * 6 + 2, none⟩ = some (.int .i64 jt) ∧ u.cell? ⟨g, k * 6 + 3, none⟩ = some (.int .i64 js) ∧ u.cell? ⟨g, k * 6 + 4, none⟩ = some (.int .i64 je) ∧ u.cell? ⟨g, k * 6 + 5, none⟩ = some (.bool jr)) ((refine unhide HKP _ ?_; repeat (with_reducible (first | exact Fr.refl _ _ | refine Fr.drew ?_ | refine Fr.alloc ?_ _ | refine Fr.setN (Nat.lt_irrefl _) ?_ _ _)))) (fail)
    all_goals
      go_wp2_with fail
      go_meet
      exact ⟨by rw [unhide HJ], hide ⟨(by repeat (with_reducible (first | exact Fr.refl _ _ | refine Fr.drew ?_ | refine Fr.alloc ?_ _ | refine Fr.setN (Nat.lt_irrefl _) ?_ _ _))), by rw [unhide HJ]; exact Bx.new _ _ _⟩⟩
  case rest =>
    obtain ⟨rfl, HC1⟩ := hcut
    obtain ⟨hG, hJX⟩ := unhide HC1
    have hb := (unhide HB).keep hG
    have hcb : ∀ u, Fr (fun _ => False) wc u → u.cell? ⟨p, 0, none⟩ = some (.slice A.aS t.st.length A.cS) ∧ u.cell? ⟨p, 1, none⟩ = some (.slice A.aP t.sp.length A.cP) ∧ u.cell? ⟨p, 2, none⟩ = some (.slice A.aB t.bd.length A.cB) ∧ u.cell? ⟨p, 3, none⟩ = some (.float .f64 t.off) ∧ u.cell? ⟨p, 4, none⟩ = some (.int .i64 t.bus) ∧ u.cell? ⟨p, 5, none⟩ = some (.int .i64 t.busDaily) ∧ u.cell? ⟨p, 6, none⟩ = some (.int .i64 t.busWeekly) ∧ u.cell? ⟨p, 7, none⟩ = some (.int .i64 t.hopper) ∧ u.cell? ⟨p, 8, none⟩ = some (.int .i64 t.most) ∧ u.cell? ⟨p, 9, none⟩ = some (.int .i64 t.longest) ∧ u.cell? ⟨p, 10, none⟩ = some (.int .i64 t.change) ∧ u.cell? ⟨p, 11, none⟩ = some (.int .i64 t.passback) ∧ u.cell? ⟨p, 12, none⟩ = some (.int .i64 t.delay) ∧ u.cell? ⟨p, 13, none⟩ = some (.int .i64 t.threshold) ∧ u.cell? ⟨J, 2, none⟩ = some (.int .i64 jt) := fun u hf => by
      have h1 := hb.keep hf
      exact ⟨h1.cell 0, h1.cell 1, h1.cell 2, h1.cell 3, h1.cell 4, h1.cell 5, h1.cell 6, h1.cell 7, h1.cell 8, h1.cell 9, h1.cell 10, h1.cell 11, h1.cell 12, h1.cell 13, (hJX.keep hf).cell 2⟩
    obtain ⟨d0, d1, d2, d3, d4, d5, d6, d7, d8, d9, d10, d11, d12, d13, j2⟩ := hcb wc (Fr.refl _ _)
    have HCB := hide hcb
    have HG : Hid (Fr (fun _ => False) w wc) := hide ((unhide HF).trans hG (fun _ _ t => t))
    have HBW := hide hb
    have HJX := hide hJX
    have HXW := hide ((unhide HX).keep hG)
    clear hcb hb hJX hG HC1 HB HX HF HKP HROW c14 c15 m0 m1 m2 m3 m4 m5 hJ
    go_upto_region 4 with (fail)
    go_cut [8, 9] from 30 to 39 (fun v8 v9 wd => ∃ K : Nat, v8 = .pointer (some ⟨K, 0, none⟩) ∧ v9 = .bool zs ∧ Hid (Fr (fun _ => False) wc wd ∧ wd.cell? ⟨K, 2, none⟩ = some (.int .i64 z.group)))
    case first =>
      go_region_held3 (fun u => u.cell? ⟨p, 0, none⟩ = some (.slice A.aS t.st.length A.cS) ∧ u.cell? ⟨p, 1, none⟩ = some (.slice A.aP t.sp.length A.cP) ∧ u.cell? ⟨p, 2, none⟩ = some (.slice A.aB t.bd.length A.cB) ∧ u.cell? ⟨p, 3, none⟩ = some (.float .f64 t.off) ∧ u.cell? ⟨p, 4, none⟩ = some (.int .i64 t.bus) ∧ u.cell? ⟨p, 5, none⟩ = some (.int .i64 t.busDaily) ∧ u.cell? ⟨p, 6, none⟩ = some (.int .i64 t.busWeekly) ∧ u.cell? ⟨p, 7, none⟩ = some (.int .i64 t.hopper) ∧ u.cell? ⟨p, 8, none⟩ = some (.int .i64 t.most) ∧ u.cell? ⟨p, 9, none⟩ = some (.int .i64 t.longest) ∧ u.cell? ⟨p, 10, none⟩ = some (.int .i64 t.change) ∧ u.cell? ⟨p, 11, none⟩ = some (.int .i64 t.passback) ∧ u.cell? ⟨p, 12, none⟩ = some (.int .i64 t.delay) ∧ u.cell? ⟨p, 13, none⟩ = some (.int .i64 t.threshold) ∧ u.cell? ⟨J, 2, none⟩ = some (.int .i64 jt))
        ((refine unhide HCB _ ?_; repeat (first | (with_reducible exact Fr.refl _ _) | (with_reducible refine Fr.drew ?_) | (with_reducible refine Fr.alloc ?_ _) | (with_reducible refine Fr.trans ?_ (unhide HF2) (fun _ _ t => t)) | (with_reducible refine Fr.setN (Nat.lt_irrefl _) ?_ _ _) | refine Fr.setN (Nat.not_lt.2 (unhide HF2).size) ?_ _ _)))
        (first | (go_at_call 145; refine (unhide HST _ ((unhide HG).trans (b := wc) (by repeat (with_reducible (first | exact Fr.refl _ _ | refine Fr.drew ?_ | refine Fr.alloc ?_ _))) (fun _ _ t => t))).mono ?_; rintro e w2 ⟨rfl, hF2⟩; first | (have hN := new_cells (wc := wc) (cs := #[.int .i64 0, .int .i64 0, .int .i64 0]) (T := 59) hF2; have z0 : w2.cell? ⟨wc.heap.size, 0, none⟩ = some (.int .i64 0) := hN.cell 0; have z1 : w2.cell? ⟨wc.heap.size, 1, none⟩ = some (.int .i64 0) := hN.cell 1; have z2 : w2.cell? ⟨wc.heap.size, 2, none⟩ = some (.int .i64 0) := hN.cell 2; have zf : ∀ j, w2.frozen? ⟨wc.heap.size, j, none⟩ = false := fun j => hN.frozen j; clear hN; have HF2 := hide hF2; clear hF2) | (have hN := new_cellsD (wc := wc) (cs := #[.int .i64 0, .int .i64 0, .int .i64 0]) (T := 59) hF2; have z0 : w2.cell? ⟨wc.heap.size, 0, none⟩ = some (.int .i64 0) := hN.cell 0; have z1 : w2.cell? ⟨wc.heap.size, 1, none⟩ = some (.int .i64 0) := hN.cell 1; have z2 : w2.cell? ⟨wc.heap.size, 2, none⟩ = some (.int .i64 0) := hN.cell 2; have zf : ∀ j, w2.frozen? ⟨wc.heap.size, j, none⟩ = false := fun j => hN.frozen j; clear hN; have HF2 := hide hF2; clear hF2) | (have HF2 := hide hF2; clear hF2)))
      all_goals
        go_wp2_with fail
        go_meet
        first
          | exact ⟨w2.heap.size, by rfl, by rfl, hide ⟨(Fr.trans ((Fr.refl (fun _ => False) wc).drew) (unhide HF2) (fun _ _ t => t)).alloc _, by simp [go_sem]⟩⟩
          | exact ⟨wc.heap.size, by rfl, by rfl, hide ⟨Fr.setN (Nat.lt_irrefl _) (Fr.setN (Nat.lt_irrefl _) (Fr.setN (Nat.lt_irrefl _) (Fr.trans (((Fr.refl (fun _ => False) wc).alloc _).drew) (unhide HF2) (fun _ _ t => t)) _ _) _ _) _ _, by simp [go_sem, z2]⟩⟩
    case rest =>
      obtain ⟨K, rfl, rfl, HC2⟩ := hcut
      obtain ⟨hG2, k2⟩ := unhide HC2
      have e9 : wc.cell? ⟨p, 9, none⟩ = some (.int .i64 t.longest) := ((unhide HBW).keep hG2).cell 9
      have e10 : wc.cell? ⟨p, 10, none⟩ = some (.int .i64 t.change) := ((unhide HBW).keep hG2).cell 10
      have x5 : wc.cell? ⟨X, 5, none⟩ = some (.int .i64 time) := ((unhide HXW).keep hG2).cell 5
      have y0 : wc.cell? ⟨J, 0, none⟩ = some (.int .i64 jk) := ((unhide HJX).keep hG2).cell 0
      have y3 : wc.cell? ⟨J, 3, none⟩ = some (.int .i64 js) := ((unhide HJX).keep hG2).cell 3
      have y4 : wc.cell? ⟨J, 4, none⟩ = some (.int .i64 je) := ((unhide HJX).keep hG2).cell 4
      have HFW : Hid (Fr (fun _ => False) w wc) := hide ((unhide HG).trans hG2 (fun _ _ t => t))
      obtain ⟨hlc, hll, hlk, hlg⟩ := unhide HC
      clear HC HC2 hG2 HBW HXW HJX HG HCB HST d0 d1 d2 d3 d4 d5 d6 d7 d8 d9 d10 d11 d12 d13 j2 HN HJ hlk hlg
      go_upto_region 5 with (fail)
      cases lc <;> cases ll <;> cases lk <;> cases lg
      all_goals
        go_quiet (fail)
        go_wp2
        go_ret
        first | exact ⟨rfl, (unhide HFW).drewN _⟩ | exact ⟨rfl, (unhide HFW).drew⟩ | exact ⟨rfl, unhide HFW⟩

end Go.Proofs.YtjgbllfppomcmaaGreat

/- A walk's ride. -/
namespace Go.Proofs.YtjgbllfppomcmaaGreat
open Go.RowKit

/-- One more journey is put behind the others. -/
theorem put_run {w0 u : World} {p : Nat} {A : Ad} {t : Tf} {s : Wk} {ao : Option Addr} {cap g : Nat} (h : WM w0 u p A t s ao cap g) (hn : s.made.length ≤ 100000) (j : Jn) :
    ∃ ao' cap' w2, (Builtin.append_ #[74, 74] 74 #[.slice ao s.made.length cap, .slice (some ⟨u.heap.size, 0, none⟩) 1 1]).run Tryz.prog (u.alloc (.cells (jC j) 124)) = .ok (.slice ao' (s.made.length + 1) cap') w2 ∧
      w2.cell? ⟨p, 14, none⟩ = some (.slice ao s.made.length cap) ∧ w2.frozen? ⟨p, 14, none⟩ = false ∧
      WStep w0 p A t ⟨s.made ++ [j], s.rail, s.paid, s.opn, s.again⟩ u g cap (w2.setCell ⟨p, 14, none⟩ (.slice ao' (s.made.length + 1) cap')) := by
  have hlt := h.lt
  obtain ⟨ao', cap', w2, g', hrun, hrow2, hF2, hg2⟩ := append_jn h.row hn j 74
  have hbx2 := h.box.frame hF2 (fun t => h.ne t.2 t.1.symm)
  have hg3 : 0 < cap' → g' ≠ p := fun hc => by
    rcases hg2 hc with ⟨e, e2⟩ | e
    · rw [e]; exact h.ne e2
    · omega
  have hFs : Fr (fun k => k = p) w2 (w2.setCell ⟨p, 14, none⟩ (.slice ao' (s.made.length + 1) cap')) := (Fr.refl (fun k => k = p) _).setCell (fun _ => rfl) _
  have hFall : Fr (fun k => k = p ∨ (k = g ∧ 0 < cap)) u (w2.setCell ⟨p, 14, none⟩ (.slice ao' (s.made.length + 1) cap')) :=
    Fr.trans (hF2.mono (fun _ _ t => .inr t)) hFs (fun _ _ t => .inl t)
  refine ⟨ao', cap', w2, hrun, hbx2.cell 14, hbx2.frozen 14, ao', cap', g', ⟨?_, ?_, hg3, h.p0, fun hc => ?_, ?_⟩, hFall, fun hc => ?_⟩
  · have : (wkC A t s ao cap).setIfInBounds 14 (.slice ao' (s.made.length + 1) cap') = wkC A t ⟨s.made ++ [j], s.rail, s.paid, s.opn, s.again⟩ ao' cap' := by simp [wkC]
    rw [← this]
    exact hbx2.setCell 14 _
  · exact hrow2.stay (fun hc => hFs.block g' (hrow2.lt (by omega) hc) (hg3 hc))
  · rcases hg2 hc with ⟨e, e2⟩ | e
    · rw [e]; exact h.g0 e2
    · have := h.fr.size; omega
  · refine h.fr.trans hFall (fun i hi t => ?_)
    rcases t with t | ⟨t, t2⟩
    · have := h.p0; omega
    · have := h.g0 t2; omega
  · rcases hg2 hc with e | e
    · exact .inl e
    · exact .inr (by omega)

theorem WM.elsewhere {w0 w w' : World} {p : Nat} {A : Ad} {t : Tf} {s : Wk} {ao : Option Addr} {cap g : Nat} {S : Nat → Prop} (h : WM w0 w p A t s ao cap g) (hf : Fr S w w') (hp : ¬ S p) (hg : 0 < cap → ¬ S g) (h0 : ∀ k, S k → w0.heap.size ≤ k) : WM w0 w' p A t s ao cap g :=
  ⟨h.box.frame hf hp, h.row.stay (fun hc => hf.block g (h.glt hc) (hg hc)), h.ne, h.p0, h.g0, h.fr.trans hf (fun i hi t => absurd (h0 i t) (by omega))⟩

theorem wkC_paid (A : Ad) (t : Tf) (s : Wk) (ao : Option Addr) (cap : Nat) (j : Jn) :
    ((((((wkC A t s ao cap).setIfInBounds 16 (.int .i64 j.kind)).setIfInBounds 17 (.int .i64 j.fr)).setIfInBounds 18 (.int .i64 j.to)).setIfInBounds 19 (.int .i64 j.st)).setIfInBounds 20 (.int .i64 j.en)).setIfInBounds 21 (.bool j.free) = wkC A t ⟨s.made, s.rail, some j, s.opn, s.again⟩ ao cap := by
  simp [wkC]

set_option maxHeartbeats 1000000 in
theorem ride_any (w0 w : World) (p : Nat) (A : Ad) (t : Tf) (s : Wk) (ao : Option Addr) (cap g : Nat) (h : WM w0 w p A t s ao cap g) (hn : s.made.length ≤ 100000) (x : Tp)
    (hp : ∀ q : Jn, s.paid = some q → q.kind ≠ 0 ∧ 0 ≤ q.st ∧ q.st ≤ 2147483648) (hx : 0 ≤ x.time ∧ x.time ≤ 2147483648) :
    Calls Tryz.prog 164 #[.pointer (some ⟨p, 0, none⟩), .agg (tpC x)] w fun e w' => e = .returned (.tuple #[]) ∧ WStep w0 p A t (s.ride (tmOf t) x) w g cap w' := by
  have q1 := egJ
  have q2 := eqJ
  have RL := hide (fun u => lone_any u 4 x)
  obtain ⟨fr, hfr⟩ : ∃ fr, freeR (tmOf t) s x = fr := ⟨_, rfl⟩
  have HRJ : Hid (s.ride (tmOf t) x = ⟨s.made ++ [⟨4, x.place, x.place, x.time, x.time, fr⟩], s.rail, if fr then s.paid else some ⟨4, x.place, x.place, x.time, x.time, fr⟩, s.opn, s.again⟩) := hide (by unfold Wk.ride rideJ; rw [hfr])
  have HFR : Hid (s.paid = none → fr = false) := hide (fun e => by rw [← hfr]; unfold freeR; rw [e])
  have HFS : Hid (∀ q, s.paid = some q → decide (x.time - q.st ≤ t.hopper) = fr) := hide (fun q e => by rw [← hfr]; unfold freeR; rw [e]; rfl)
  clear hfr
  obtain ⟨dev, ctr, tok, kind, place, time⟩ := x
  simp only [jC, lone] at RL
  simp only at hx HRJ HFS
  simp only [tpC] at RL ⊢
  have H := hide h
  have HP := hide hp
  clear h hp
  go_enter Tryz.func164, Tryz.ntmps164
  go_wp2_with fail
  refine (unhide RL _).mono ?_
  rintro e w1 ⟨rfl, hF1⟩
  have hX : Bx w1 w.heap.size #[.int .i64 dev, .int .i64 ctr, .string tok, .int .i64 kind, .int .i64 place, .int .i64 time] 47 := (Bx.new _ _ _).keep hF1
  have hFw : Fr (fun _ => False) w w1 := Fr.trans ((Fr.refl (fun _ => False) w).alloc _) hF1 (fun _ _ t => t)
  obtain ⟨v, hv⟩ : ∃ v, v = w1.alloc (.cells #[.int .i64 4, .int .i64 place, .int .i64 place, .int .i64 time, .int .i64 time, .bool false] 124) := ⟨_, rfl⟩
  have hFv : Fr (fun _ => False) w1 v := by rw [hv]; exact (Fr.refl _ _).alloc _
  have hJX : Bx v w1.heap.size #[.int .i64 4, .int .i64 place, .int .i64 place, .int .i64 time, .int .i64 time, .bool false] 124 := by rw [hv]; exact Bx.new _ _ _
  have HM : Hid (WM w0 v p A t s ao cap g) := hide (((unhide H).keep hFw).keep hFv)
  have hJ0 : w.heap.size < w1.heap.size := hX.lt
  have HFV : Hid (Fr (fun _ => False) w v) := hide (hFw.trans hFv (fun _ _ t => t))
  have HX := hide (hX.keep hFv)
  have HJX := hide hJX
  have HPJ : Hid (p < w.heap.size ∧ (0 < cap → g < w.heap.size)) := hide ⟨(unhide H).lt, fun hc => (unhide H).glt hc⟩
  have HV := hide hv
  clear hF1 hX hFw hFv hJX hv RL H
  go_upto_region 2 with (fail)
  obtain ⟨J, hJ⟩ : ∃ J, J = w1.heap.size := ⟨_, rfl⟩
  obtain ⟨X, hXX⟩ : ∃ X, X = w.heap.size := ⟨_, rfl⟩
  rw [← unhide HV, ← hJ, ← hXX]
  rw [← hJ] at HJX hJ0
  rw [← hXX] at HX HPJ hJ0
  have HJ0 := hide hJ0
  have HSZ : Hid (v.heap.size = J + 1) := hide (by rw [unhide HV, hJ]; simp)
  have HXX := hide hXX
  clear HV hJ hXX hJ0
  go_cut [] from 7 to 28 (fun wc => Hid (Fr (fun k => k = J) v wc ∧ Bx wc J #[.int .i64 4, .int .i64 place, .int .i64 place, .int .i64 time, .int .i64 time, .bool fr] 124))
  case first =>
    have c16 : v.cell? ⟨p, 16, none⟩ = some (.int .i64 (s.paid.getD jz).kind) := (unhide HM).box.cell 16
    have c17 : v.cell? ⟨p, 17, none⟩ = some (.int .i64 (s.paid.getD jz).fr) := (unhide HM).box.cell 17
    have c18 : v.cell? ⟨p, 18, none⟩ = some (.int .i64 (s.paid.getD jz).to) := (unhide HM).box.cell 18
    have c19 : v.cell? ⟨p, 19, none⟩ = some (.int .i64 (s.paid.getD jz).st) := (unhide HM).box.cell 19
    have c20 : v.cell? ⟨p, 20, none⟩ = some (.int .i64 (s.paid.getD jz).en) := (unhide HM).box.cell 20
    have c21 : v.cell? ⟨p, 21, none⟩ = some (.bool (s.paid.getD jz).free) := (unhide HM).box.cell 21
    have c7 : v.cell? ⟨p, 7, none⟩ = some (.int .i64 t.hopper) := (unhide HM).box.cell 7
    have x5 : v.cell? ⟨X, 5, none⟩ = some (.int .i64 time) := (unhide HX).cell 5
    have j5 : v.cell? ⟨J, 5, none⟩ = some (.bool false) := (unhide HJX).cell 5
    have jf5 : v.frozen? ⟨J, 5, none⟩ = false := (unhide HJX).frozen 5
    have hBJ : ∀ b, Bx (v.setCell ⟨J, 5, none⟩ (.bool b)) J #[.int .i64 4, .int .i64 place, .int .i64 place, .int .i64 time, .int .i64 time, .bool b] 124 := fun b => (unhide HJX).setCell 5 _
    have HBJ := hide hBJ
    clear hBJ
    cases hpd : s.paid with
    | none =>
      obtain rfl := unhide HFR hpd
      simp only [hpd, Option.getD_none, jz] at c16 c17 c18 c19 c20 c21
      clear hpd HFS HP
      go_region
      all_goals
        go_wp2_with fail
        go_meet
        exact hide ⟨by repeat (with_reducible (first | exact Fr.refl _ _ | refine Fr.drew ?_ | refine Fr.setB ?_ _ _)), by first | exact unhide HBJ _ | exact (unhide HBJ _).drew⟩
    | some q =>
      obtain ⟨hq, hq0, hq1⟩ := unhide HP q hpd
      have hfr := unhide HFS q hpd
      have hkb : (q.kind == 0) = false := by simp [hq]
      simp only [hpd, Option.getD_some] at c16 c17 c18 c19 c20 c21
      obtain ⟨qk, qf, qt, qs, qe, qr⟩ := q
      simp only at c16 c17 c18 c19 c20 c21 hfr hkb hq0 hq1
      have wr : IntKind.i64.wrap (time - qs) = time - qs := by rw [IntKind.wrap_i64]; omega
      clear hpd HFS HP hq HFR
      go_region
      all_goals
        go_wp2_with fail
        go_meet
        exact hide ⟨by repeat (with_reducible (first | exact Fr.refl _ _ | refine Fr.drew ?_ | refine Fr.setB ?_ _ _)), by first | exact unhide HBJ _ | exact (unhide HBJ _).drew⟩
  case rest =>
    obtain ⟨hG, hJW⟩ := unhide hcut
    have hpJ : p ≠ J := by have := (unhide HPJ).1; have := unhide HJ0; omega
    have hgJ : 0 < cap → g ≠ J := fun hc => by have := (unhide HPJ).2 hc; have := unhide HJ0; omega
    have hMW : WM w0 wc p A t s ao cap g := (unhide HM).elsewhere hG hpJ hgJ (fun k hk => by have := (unhide HM).p0; have := (unhide HPJ).1; have := unhide HJ0; omega)
    have hFW : Fr (fun _ => False) w wc := (unhide HFV).trans hG (fun i hi t => by have := unhide HJ0; have := unhide HXX; omega)
    have j5 : wc.cell? ⟨J, 5, none⟩ = some (.bool fr) := hJW.cell 5
    cases fr with
    | true =>
      have HMU := hMW
      have HJU := hJW
      have HFU := hide hFW
      clear hMW hJW hFW hG hcut HFR HFS HJX HX
      go_upto_region 5 with (fail)
      clear j5
      obtain ⟨ao', cap', w2, hrun, a2, a3, hW⟩ := put_run (HMU.keep ((Fr.refl _ _).drew)) hn ⟨4, place, place, time, time, true⟩
      have HRUN := hide hrun
      have hrun2 : (Builtin.append_ #[74, 74] 74 #[.slice ao s.made.length cap, .slice (some ⟨wc.heap.size, 0, none⟩) 1 1]).run Tryz.prog (wc.alloc (.cells (jC ⟨4, place, place, time, time, true⟩) 124)).drew = .ok (.slice ao' (s.made.length + 1) cap') w2 := hrun
      have HRUN2 := hide hrun2
      have HPF : Hid (WStep w0 p A t (s.ride (tmOf t) ⟨dev, ctr, tok, kind, place, time⟩) w g cap (w2.setCell ⟨p, 14, none⟩ (.slice ao' (s.made.length + 1) cap'))) := hide (by
        rw [unhide HRJ]
        exact WStep.of (unhide HFU) (WStep.of ((Fr.refl _ _).drew) hW))
      have a0 : wc.cell? ⟨p, 14, none⟩ = some (.slice ao s.made.length cap) := HMU.box.cell 14
      have a1 : (wc.drew.alloc (.cells (jC ⟨4, place, place, time, time, true⟩) 124)).cell? ⟨p, 14, none⟩ = some (.slice ao s.made.length cap) := (HMU.box.drew.alloc _).cell 14
      have a1b : (wc.alloc (.cells (jC ⟨4, place, place, time, time, true⟩) 124)).cell? ⟨p, 14, none⟩ = some (.slice ao s.made.length cap) := (HMU.box.alloc _).cell 14
      have i0 : wc.cell? ⟨J, 0, none⟩ = some (.int .i64 4) := HJU.cell 0
      have i1 : wc.cell? ⟨J, 1, none⟩ = some (.int .i64 place) := HJU.cell 1
      have i2 : wc.cell? ⟨J, 2, none⟩ = some (.int .i64 place) := HJU.cell 2
      have i3 : wc.cell? ⟨J, 3, none⟩ = some (.int .i64 time) := HJU.cell 3
      have i4 : wc.cell? ⟨J, 4, none⟩ = some (.int .i64 time) := HJU.cell 4
      have i5 : wc.cell? ⟨J, 5, none⟩ = some (.bool true) := HJU.cell 5
      simp only [jC] at a1 a1b HRUN HRUN2
      clear hrun hrun2 hW HMU HJU HRJ HM
      generalize s.made.length = n at *
      go_region_law (first | refine step_append_runJ rfl (.tmp 41) (.tmp 43) 74 74 rfl rfl rfl (unhide HRUN) ?_ | refine step_append_runJ rfl (.tmp 41) (.tmp 43) 74 74 rfl rfl rfl (unhide HRUN2) ?_)
      all_goals
        clear a0 a1 a1b a2 a3 i0 i1 i2 i3 i4 i5 HRUN HRUN2
        go_wp2
        go_end0
        exact ⟨rfl, unhide HPF⟩
    | false =>
      obtain ⟨u, hu⟩ : ∃ u, u = (((((wc.setCell ⟨p, 16, none⟩ (.int .i64 4)).setCell ⟨p, 17, none⟩ (.int .i64 place)).setCell ⟨p, 18, none⟩ (.int .i64 place)).setCell ⟨p, 19, none⟩ (.int .i64 time)).setCell ⟨p, 20, none⟩ (.int .i64 time)).setCell ⟨p, 21, none⟩ (.bool false) := ⟨_, rfl⟩
      have hFu : Fr (fun k => k = p) wc u := by
        rw [hu]
        repeat (with_reducible (first | exact Fr.refl _ _ | refine Fr.setB ?_ _ _))
      have hbu : Bx u p (wkC A t ⟨s.made, s.rail, some ⟨4, place, place, time, time, false⟩, s.opn, s.again⟩ ao cap) 176 := by
        rw [hu, ← wkC_paid]
        exact (((((hMW.box.setCell 16 _).setCell 17 _).setCell 18 _).setCell 19 _).setCell 20 _).setCell 21 _
      have HMU : WM w0 u p A t ⟨s.made, s.rail, some ⟨4, place, place, time, time, false⟩, s.opn, s.again⟩ ao cap g := hMW.write hbu hFu rfl
      have HJU := hJW.frame hFu (fun t => hpJ t.symm)
      have HFU : Hid (Fr (fun k => k = p ∨ (k = g ∧ 0 < cap)) w u) := hide ((hFW.mono (fun _ _ t => t.elim)).trans hFu (fun _ _ t => .inl t))
      have HMWU := hide HMU
      have i0 : wc.cell? ⟨J, 0, none⟩ = some (.int .i64 4) := hJW.cell 0
      have i1 : wc.cell? ⟨J, 1, none⟩ = some (.int .i64 place) := hJW.cell 1
      have i2 : wc.cell? ⟨J, 2, none⟩ = some (.int .i64 place) := hJW.cell 2
      have i3 : wc.cell? ⟨J, 3, none⟩ = some (.int .i64 time) := hJW.cell 3
      have i4 : wc.cell? ⟨J, 4, none⟩ = some (.int .i64 time) := hJW.cell 4
      have z16 : wc.cell? ⟨p, 16, none⟩ = some (.int .i64 (s.paid.getD jz).kind) := hMW.box.cell 16
      have z17 : wc.cell? ⟨p, 17, none⟩ = some (.int .i64 (s.paid.getD jz).fr) := hMW.box.cell 17
      have z18 : wc.cell? ⟨p, 18, none⟩ = some (.int .i64 (s.paid.getD jz).to) := hMW.box.cell 18
      have z19 : wc.cell? ⟨p, 19, none⟩ = some (.int .i64 (s.paid.getD jz).st) := hMW.box.cell 19
      have z20 : wc.cell? ⟨p, 20, none⟩ = some (.int .i64 (s.paid.getD jz).en) := hMW.box.cell 20
      have z21 : wc.cell? ⟨p, 21, none⟩ = some (.bool (s.paid.getD jz).free) := hMW.box.cell 21
      have zf : ∀ k, wc.frozen? ⟨p, k, none⟩ = false := fun k => hMW.box.frozen k
      have HU := hide hu
      clear hMW hJW hFW hG hcut HFR HFS HJX HX hFu hbu hu
      go_upto_region 5 with (fail)
      rw [← unhide HU]
      clear HU i0 i1 i2 i3 i4 j5 z16 z17 z18 z19 z20 z21 zf
      obtain ⟨ao', cap', w2, hrun, a2, a3, hW⟩ := put_run (HMU.keep ((Fr.refl _ _).drew)) hn ⟨4, place, place, time, time, false⟩
      have HRUN := hide hrun
      have hrun2 : (Builtin.append_ #[74, 74] 74 #[.slice ao s.made.length cap, .slice (some ⟨u.heap.size, 0, none⟩) 1 1]).run Tryz.prog (u.alloc (.cells (jC ⟨4, place, place, time, time, false⟩) 124)).drew = .ok (.slice ao' (s.made.length + 1) cap') w2 := hrun
      have HRUN2 := hide hrun2
      have HPF : Hid (WStep w0 p A t (s.ride (tmOf t) ⟨dev, ctr, tok, kind, place, time⟩) w g cap (w2.setCell ⟨p, 14, none⟩ (.slice ao' (s.made.length + 1) cap'))) := hide (by
        rw [unhide HRJ]
        exact WStep.trans (unhide HMWU) (unhide HFU) (fun hc => .inl ⟨rfl, hc⟩) (WStep.of ((Fr.refl _ _).drew) hW))
      have a0 : u.cell? ⟨p, 14, none⟩ = some (.slice ao s.made.length cap) := HMU.box.cell 14
      have a1 : (u.drew.alloc (.cells (jC ⟨4, place, place, time, time, false⟩) 124)).cell? ⟨p, 14, none⟩ = some (.slice ao s.made.length cap) := (HMU.box.drew.alloc _).cell 14
      have a1b : (u.alloc (.cells (jC ⟨4, place, place, time, time, false⟩) 124)).cell? ⟨p, 14, none⟩ = some (.slice ao s.made.length cap) := (HMU.box.alloc _).cell 14
      have i0 : u.cell? ⟨J, 0, none⟩ = some (.int .i64 4) := HJU.cell 0
      have i1 : u.cell? ⟨J, 1, none⟩ = some (.int .i64 place) := HJU.cell 1
      have i2 : u.cell? ⟨J, 2, none⟩ = some (.int .i64 place) := HJU.cell 2
      have i3 : u.cell? ⟨J, 3, none⟩ = some (.int .i64 time) := HJU.cell 3
      have i4 : u.cell? ⟨J, 4, none⟩ = some (.int .i64 time) := HJU.cell 4
      have i5 : u.cell? ⟨J, 5, none⟩ = some (.bool false) := HJU.cell 5
      simp only [jC] at a1 a1b HRUN HRUN2
      clear hrun hrun2 hW HMU HJU HRJ HM
      generalize s.made.length = n at *
      go_region_law (first | refine step_append_runJ rfl (.tmp 41) (.tmp 43) 74 74 rfl rfl rfl (unhide HRUN) ?_ | refine step_append_runJ rfl (.tmp 41) (.tmp 43) 74 74 rfl rfl rfl (unhide HRUN2) ?_)
      all_goals
        clear a0 a1 a1b a2 a3 i0 i1 i2 i3 i4 i5 HRUN HRUN2
        go_wp2
        go_end0
        exact ⟨rfl, unhide HPF⟩

end Go.Proofs.YtjgbllfppomcmaaGreat

