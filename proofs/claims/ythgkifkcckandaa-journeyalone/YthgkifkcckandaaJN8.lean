import Derived.Test.YthgkifkcckandaaJN7
/- A walk's begun and changes. -/
namespace Go.Proofs.Ythgkifkcckandaa
open Go.RowKit

/-- What a tariff tells a walk. -/
def tmOf (t : Tf) : Tm := ⟨fun q => (stationOf t q).isSome, fun q => ((stationOf t q).getD ⟨0, 0, 0⟩).group, t.hopper, t.change, t.longest⟩

theorem jV_cell {w : World} {ao : Option Addr} {cap g : Nat} {l : List Jn} (h : KRow w ao cap g 6 (jV l)) {k : Nat} {b : Jn} (hb : l[k]? = some b) :
    ao = some ⟨g, 0, none⟩ ∧ 0 < cap ∧ ∀ c (_ : c < 6) v, (jL b)[c]? = some v → w.cell? ⟨g, k * 6 + c, none⟩ = some v := by
  have hk := get_lt hb
  have hl := jV_length l
  have hle := h.le
  have hcap : 0 < cap := by
    rcases Nat.eq_zero_or_pos cap with rfl | h0
    · omega
    · exact h0
  refine ⟨h.ad hcap, hcap, fun c hc v hv => ?_⟩
  have h1 := h.cells (k * 6 + c) (by omega)
  have h2 := flat_get jL 6 (fun _ => rfl) l k hk c hc
  have h3 : l[k] = b := by rw [List.getElem?_eq_getElem hk] at hb; exact Option.some.inj hb
  rw [h3, hv] at h2
  rw [h1]
  have h4 : (jV l)[k * 6 + c]? = some v := h2
  rw [List.getElem?_eq_getElem (by omega)] at h4
  exact h4

theorem Fr.setB {B : Nat} {a w : World} (h : Fr (fun k => k = B) a w) (o : Nat) (u : Value) : Fr (fun k => k = B) a (w.setCell ⟨B, o, none⟩ u) := Fr.setCell h (fun _ => rfl) u
theorem Fr.setN {B : Nat} {S : Nat → Prop} {a w : World} (hB : ¬ B < a.heap.size) (h : Fr S a w) (o : Nat) (u : Value) : Fr S a (w.setCell ⟨B, o, none⟩ u) := Fr.setCell h (fun t => absurd t hB) u

set_option maxHeartbeats 1000000 in
theorem begun_any (w0 w : World) (p : Nat) (A : Ad) (t : Tf) (s : Wk) (ao : Option Addr) (cap g : Nat) (h : WM w0 w p A t s ao cap g) (hn : s.made.length ≤ 100000) (ho : ∀ j : Jn, s.opn = some j → j.kind ≠ 0)
    (hl : ∀ j : Jn, s.opn = some j → s.again = true → ∃ (k : Nat) (b : Jn), s.rail = some k ∧ s.made[k]? = some b) :
    Calls Try.prog 64 #[.pointer (some ⟨p, 0, none⟩)] w fun e w' => e = .returned (.agg (jC (s.begun.getD jz))) ∧ Fr (fun _ => False) w w' := by
  have q1 := egJ
  have q2 := eqJ
  have hlt := h.lt
  obtain ⟨v, hv⟩ : ∃ v, v = w.alloc (.cells #[.int .i64 0, .int .i64 0, .int .i64 0, .int .i64 0, .int .i64 0, .bool false] 42) := ⟨_, rfl⟩
  have hF : Fr (fun _ => False) w v := by rw [hv]; exact (Fr.refl _ w).alloc _
  have hb := h.box.keep hF
  have hZ : Bx v w.heap.size #[.int .i64 0, .int .i64 0, .int .i64 0, .int .i64 0, .int .i64 0, .bool false] 42 := by rw [hv]; exact Bx.new _ _ _
  have c22 : v.cell? ⟨p, 22, none⟩ = some (.int .i64 (s.opn.getD jz).kind) := hb.cell 22
  have c23 : v.cell? ⟨p, 23, none⟩ = some (.int .i64 (s.opn.getD jz).fr) := hb.cell 23
  have c24 : v.cell? ⟨p, 24, none⟩ = some (.int .i64 (s.opn.getD jz).to) := hb.cell 24
  have c25 : v.cell? ⟨p, 25, none⟩ = some (.int .i64 (s.opn.getD jz).st) := hb.cell 25
  have c26 : v.cell? ⟨p, 26, none⟩ = some (.int .i64 (s.opn.getD jz).en) := hb.cell 26
  have c27 : v.cell? ⟨p, 27, none⟩ = some (.bool (s.opn.getD jz).free) := hb.cell 27
  have c28 : v.cell? ⟨p, 28, none⟩ = some (.bool s.again) := hb.cell 28
  have c14 : v.cell? ⟨p, 14, none⟩ = some (.slice ao s.made.length cap) := hb.cell 14
  have c15 : v.cell? ⟨p, 15, none⟩ = some (.int .i64 (railV s.rail)) := hb.cell 15
  have z0 : v.cell? ⟨w.heap.size, 0, none⟩ = some (.int .i64 0) := hZ.cell 0
  have z1 : v.cell? ⟨w.heap.size, 1, none⟩ = some (.int .i64 0) := hZ.cell 1
  have z2 : v.cell? ⟨w.heap.size, 2, none⟩ = some (.int .i64 0) := hZ.cell 2
  have z3 : v.cell? ⟨w.heap.size, 3, none⟩ = some (.int .i64 0) := hZ.cell 3
  have z4 : v.cell? ⟨w.heap.size, 4, none⟩ = some (.int .i64 0) := hZ.cell 4
  have z5 : v.cell? ⟨w.heap.size, 5, none⟩ = some (.bool false) := hZ.cell 5
  have zf : ∀ k, v.frozen? ⟨w.heap.size, k, none⟩ = false := fun k => hZ.frozen k
  have hKR := h.row.keep (by omega) hF
  have HGL : Hid (0 < cap → g < w.heap.size) := hide (fun hc => h.row.lt (by omega) hc)
  have HF := hide hF
  have HV := hide hv
  have HL := hide hl
  obtain ⟨B, hB⟩ : ∃ B, B = w.heap.size := ⟨_, rfl⟩
  rw [← hB] at hlt z0 z1 z2 z3 z4 z5 zf
  have hpB : p ≠ B := by omega
  clear hF hb hZ hv hl h
  cases hop : s.opn with
  | none =>
    have HB : Hid (s.begun.getD jz = jz) := hide (by unfold Wk.begun; rw [hop]; rfl)
    rw [unhide HB]
    simp only [hop, Option.getD_none, jz] at c22 c23 c24 c25 c26 c27
    clear HB HL ho hop c28 c14 c15 hKR
    go_enter Try.func64, Try.ntmps64
    go_upto_region 1 with (fail)
    rw [← unhide HV, ← hB]
    have HN : Hid (¬ B < w.heap.size) := hide (by omega)
    clear HV hB
    go_wp2
    refine bodyPost_ret (v := jA jz) (by simp [results, Try.results64, go_sem, z0, z1, z2, z3, z4, z5, jA, jC, jz]) rfl ⟨rfl, ?_⟩
    repeat (refine Fr.setCell ?_ (fun t => absurd t (unhide HN)) _)
    exact unhide HF
  | some j =>
    have hk : (j.kind == 0) = false := by simp [ho j hop]
    simp only [hop, Option.getD_some] at c22 c23 c24 c25 c26 c27
    cases hag : s.again with
    | false =>
      have HB : Hid (s.begun.getD jz = j) := hide (by unfold Wk.begun; rw [hop]; simp [hag])
      rw [unhide HB]
      rw [hag] at c28
      clear HB HL ho hop c14 c15 hKR hag
      obtain ⟨k, f, o, a, b, c⟩ := j
      simp only at c22 c23 c24 c25 c26 c27 hk
      go_enter Try.func64, Try.ntmps64
      go_upto_region 1 with (fail)
      rw [← unhide HV, ← hB]
      have HN : Hid (¬ B < w.heap.size) := hide (by omega)
      clear HV hB
      go_wp2
      refine bodyPost_ret (v := jA ⟨k, f, o, a, b, c⟩) (by simp [results, Try.results64, go_sem, z0, z1, z2, z3, z4, z5, jA, jC]) rfl ⟨rfl, ?_⟩
      repeat (refine Fr.setCell ?_ (fun t => absurd t (unhide HN)) _)
      exact unhide HF
    | true =>
      obtain ⟨m, b, hr, hm⟩ := unhide HL j hop hag
      have HB : Hid (s.begun.getD jz = b) := hide (by unfold Wk.begun Wk.last; rw [hop, hr]; simp [hag, hm])
      rw [unhide HB]
      obtain ⟨rfl, hcap, hcl⟩ := jV_cell hKR hm
      have hml := get_lt hm
      have m0 : v.cell? ⟨g, m * 6, none⟩ = some (.int .i64 b.kind) := hcl 0 (by omega) _ rfl
      have m1 : v.cell? ⟨g, m * 6 + 1, none⟩ = some (.int .i64 b.fr) := hcl 1 (by omega) _ rfl
      have m2 : v.cell? ⟨g, m * 6 + 2, none⟩ = some (.int .i64 b.to) := hcl 2 (by omega) _ rfl
      have m3 : v.cell? ⟨g, m * 6 + 3, none⟩ = some (.int .i64 b.st) := hcl 3 (by omega) _ rfl
      have m4 : v.cell? ⟨g, m * 6 + 4, none⟩ = some (.int .i64 b.en) := hcl 4 (by omega) _ rfl
      have m5 : v.cell? ⟨g, m * 6 + 5, none⟩ = some (.bool b.free) := hcl 5 (by omega) _ rfl
      rw [hag] at c28
      rw [hr] at c15
      simp only [railV] at c15
      have i1 : (m : Int) < (s.made.length : Int) := by omega
      have i2 : (s.made.length : Int) ≤ 100000 := by omega
      have hgB : g ≠ B := by have := unhide HGL hcap; omega
      clear HB HL ho hop hKR hag hr hm hcl hml hcap hn
      generalize s.made.length = n at *
      obtain ⟨k, f, o, a, e, c⟩ := j
      obtain ⟨k', f', o', a', e', c'⟩ := b
      simp only at c22 c23 c24 c25 c26 c27 hk m0 m1 m2 m3 m4 m5
      have HKP : Hid (∀ u, Fr (fun k => k = B) v u → u.cell? ⟨p, 14, none⟩ = some (.slice (some ⟨g, 0, none⟩) n cap) ∧ u.cell? ⟨p, 15, none⟩ = some (.int .i64 (m : Int)) ∧ u.cell? ⟨g, m * 6, none⟩ = some (.int .i64 k') ∧ u.cell? ⟨g, m * 6 + 1, none⟩ = some (.int .i64 f') ∧ u.cell? ⟨g, m * 6 + 2, none⟩ = some (.int .i64 o') ∧ u.cell? ⟨g, m * 6 + 3, none⟩ = some (.int .i64 a') ∧ u.cell? ⟨g, m * 6 + 4, none⟩ = some (.int .i64 e') ∧ u.cell? ⟨g, m * 6 + 5, none⟩ = some (.bool c')) := hide (fun u hf => by
        have f : ∀ {i : Nat} {x : Value} {q : Nat}, q ≠ B → v.cell? ⟨q, i, none⟩ = some x → u.cell? ⟨q, i, none⟩ = some x := fun {i x q} hq e => (hf.cell (World.block_lt_of_cell? _ _ e) hq).trans e
        exact ⟨f hpB c14, f hpB c15, f hgB m0, f hgB m1, f hgB m2, f hgB m3, f hgB m4, f hgB m5⟩)
      go_enter Try.func64, Try.ntmps64
      go_upto_region 1 with (fail)
      rw [← unhide HV, ← hB]
      have HN : Hid (¬ B < w.heap.size) := hide (by omega)
      clear HV hB
      go_wp2_with fail
      go_region_held3 (fun u => u.cell? ⟨p, 14, none⟩ = some (.slice (some ⟨g, 0, none⟩) n cap) ∧ u.cell? ⟨p, 15, none⟩ = some (.int .i64 (m : Int)) ∧ u.cell? ⟨g, m * 6, none⟩ = some (.int .i64 k') ∧ u.cell? ⟨g, m * 6 + 1, none⟩ = some (.int .i64 f') ∧ u.cell? ⟨g, m * 6 + 2, none⟩ = some (.int .i64 o') ∧ u.cell? ⟨g, m * 6 + 3, none⟩ = some (.int .i64 a') ∧ u.cell? ⟨g, m * 6 + 4, none⟩ = some (.int .i64 e') ∧ u.cell? ⟨g, m * 6 + 5, none⟩ = some (.bool c')) ((refine unhide HKP _ ?_; repeat (with_reducible (first | exact Fr.refl _ _ | refine Fr.drew ?_ | refine Fr.setB ?_ _ _)))) (fail)
      all_goals
        go_wp2
        refine bodyPost_ret (v := jA ⟨k', f', o', a', e', c'⟩) (by simp [results, Try.results64, go_sem, z0, z1, z2, z3, z4, z5, jA, jC]) rfl ⟨rfl, ?_⟩
        repeat (with_reducible (first | exact unhide HF | refine Fr.drew ?_ | refine Fr.setN (unhide HN) ?_ _ _))

end Go.Proofs.Ythgkifkcckandaa

