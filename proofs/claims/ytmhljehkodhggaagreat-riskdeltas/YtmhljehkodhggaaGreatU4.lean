import Derived.Test.YtmhljehkodhggaaGreatU3
/- Package risk: what is wrong ahead of a next version, or of a delta joined. -/
namespace Go.Proofs.YtmhljehkodhggaaGreat
open Go.RowKit

theorem rightE_ok {l : Rl} (h : rightE l = 0) : listOk l.toks = true ∧ 0 ≤ l.ver ∧ (l.ver = 0 → l.toks = []) := by
  unfold rightE at h
  split at h
  · omega
  · rename_i h1
    split at h
    · omega
    · rename_i h2
      split at h
      · rename_i h3
        refine ⟨by rw [listOk_parts, h3, decide_eq_true (by omega)]; rfl, by omega, fun e => ?_⟩
        exact List.eq_nil_of_length_eq_zero (by omega)
      · omega
theorem rightE_iff {l : Rl} (h1 : listOk l.toks = true) (h2 : 0 < l.ver ∨ (l.ver = 0 ∧ l.toks = [])) : rightE l = 0 := by
  have h3 := listOk_len h1
  have h4 := h1
  rw [listOk_parts, decide_eq_true (by omega), Bool.true_and] at h4
  unfold rightE
  rw [if_neg, if_neg (by omega), if_pos h4]
  rintro (h | ⟨h, k⟩)
  · omega
  · rcases h2 with h2 | ⟨_, h2⟩
    · omega
    · rw [h2] at k
      simp at k
theorem deltaOk_iff {d : Dl} : deltaOk d = true ↔ 1 ≤ d.ver ∧ listOk d.add = true ∧ listOk d.gone = true ∧ ∀ x, x ∈ d.add → ¬ x ∈ d.gone := by
  simp only [deltaOk, Bool.and_eq_true, decide_eq_true_eq, Bool.not_eq_true', and_assoc]
  refine and_congr_right fun _ => and_congr_right fun _ => and_congr_right fun _ => ?_
  rw [← Bool.not_eq_true, List.any_eq_true]
  constructor
  · intro h x hx hy
    exact h ⟨x, hx, memS_mem.2 hy⟩
  · rintro h ⟨x, hx, hy⟩
    exact h x hx (memS_mem.1 hy)

/-- What is wrong ahead of how long the next version is. -/
def applyE (l : Rl) (d : Dl) : Int :=
  if rightE l ≠ 0 then rightE l else if deltaOk d = false then 80 else if (d.ver - 1 == l.ver) = false then 130 else if 0 < (coL d.add l.toks).length then 131 else if 0 < (woL d.gone l.toks).length then 131 else 0
/-- What is wrong ahead of how long the joined delta is. -/
def joinE (a b : Dl) : Int :=
  if deltaOk a = false then 80 else if deltaOk b = false then 80 else if (b.ver - 1 == a.ver) = false then 130 else if 0 < (coL a.add b.add).length then 131 else if 0 < (coL a.gone b.gone).length then 131 else 0

set_option maxHeartbeats 2000000 in
theorem applyError_any (w : World) (l : Rl) (a : Option Addr) (c : Nat) (hl : RIn w l a c) (d : Dl) (a1 : Option Addr) (c1 : Nat) (a2 : Option Addr) (c2 : Nat) (hd : DI w d a1 c1 a2 c2) :
    Calls Tryz.prog 28 #[.agg (rlC l a c), .agg (dlC d a1 c1 a2 c2)] w fun e w' => e = .returned (.int .i64 (applyE l d)) ∧ Fr (fun _ => False) w w' := by
  have R1 := hide (fun (w1 : World) (hf : Fr (fun _ => False) w w1) => right_any w1 l a c (hl.toks.keep hf) hl.len)
  have R2 := hide (fun (w1 : World) (hf : Fr (fun _ => False) w w1) => mayBe_any w1 d a1 c1 a2 c2 (hd.keep hf))
  have R3 := hide (fun (w1 : World) (h0 : 1 ≤ d.ver) => follows_any w1 d a1 c1 a2 c2 l.ver h0 hd.ver)
  have R4 := hide (fun (w1 : World) (hf : Fr (fun _ => False) w w1) (k1 : l.toks.length ≤ 1000) (k2 : d.add.length ≤ 1000) => common_any w1 d.add l.toks a1 c1 a c (hd.add.keep hf) hd.n1 (hl.toks.keep hf) hl.n1 (by omega) (by omega))
  have R5 := hide (fun (w1 : World) (hf : Fr (fun _ => False) w w1) (k1 : l.toks.length ≤ 1000) (k2 : d.gone.length ≤ 1000) => without_any w1 d.gone l.toks a2 c2 a c (hd.gone.keep hf) hd.n2 (hl.toks.keep hf) hl.n1 (by omega) (by omega))
  have HE : Hid (applyE l d = if rightE l ≠ 0 then rightE l else if deltaOk d = false then 80 else if (d.ver - 1 == l.ver) = false then 130 else if 0 < (coL d.add l.toks).length then 131 else if 0 < (woL d.gone l.toks).length then 131 else 0) := hide rfl
  have HK1 : Hid (rightE l = 0 → l.toks.length ≤ 1000) := hide (fun h => listOk_len (rightE_ok h).1)
  have HK2 : Hid (deltaOk d = true → 1 ≤ d.ver ∧ d.add.length ≤ 1000 ∧ d.gone.length ≤ 1000) := hide (fun h => ⟨(deltaOk_iff.1 h).1, listOk_len (deltaOk_iff.1 h).2.1, listOk_len (deltaOk_iff.1 h).2.2.1⟩)
  have hX0 : Fr (fun _ => False) w ((w.alloc (.cells (rlC l a c) 24)).alloc (.cells (dlC d a1 c1 a2 c2) 26)) := ((Fr.refl _ _).alloc _).alloc _
  have b1 : Bx ((w.alloc (.cells (rlC l a c) 24)).alloc (.cells (dlC d a1 c1 a2 c2) 26)) w.heap.size (rlC l a c) 24 := (Bx.new _ _ _).alloc _
  have b2 := Bx.new (w.alloc (.cells (rlC l a c) 24)) (dlC d a1 c1 a2 c2) 26
  rw [heap_alloc] at b2
  have HX0 := hide (And.intro hX0 (And.intro b1 b2))
  clear hX0 b1 b2 hl hd
  unfold rlC dlC at *
  obtain ⟨B, HB⟩ : ∃ B, Hid (w.heap.size = B) := ⟨_, rfl⟩
  generalize applyE l d = E at *
  generalize rightE l = e1 at *
  generalize deltaOk d = e2 at *
  generalize hv : (d.ver - 1 == l.ver) = e3 at *
  have HV := hide hv
  clear hv
  generalize coL d.add l.toks = L1 at *
  generalize woL d.gone l.toks = L2 at *
  generalize l.toks.length = n at *
  generalize d.add.length = n1 at *
  generalize d.gone.length = n2 at *
  generalize l.ver = v at *
  generalize d.ver = u at *
  clear l d
  go_enter Tryz.func28, Tryz.ntmps28
  go_wp2_with fail
  refine (unhide R1 _ (unhide HX0).1).mono ?_
  rintro e w1 ⟨rfl, hF⟩
  have HX1 : Hid (Fr (fun _ => False) w w1 ∧ Bx w1 B #[.int .i64 v, .slice a n c] 24 ∧ Bx w1 (B + 1) #[.int .i64 u, .slice a1 n1 c1, .slice a2 n2 c2] 26) := hide (by
    obtain ⟨k0, k1, k2⟩ := unhide HX0
    rw [← unhide HB]
    exact ⟨k0.trans hF (fun _ _ t => t), k1.keep hF, k2.keep hF⟩)
  rw [unhide HB]
  clear hF HX0
  by_cases h1 : e1 = 0
  · subst h1
    have HN := hide (unhide HK1 rfl)
    clear HK1
    have x0 : w1.cell? ⟨B + 1, 0, none⟩ = some (.int .i64 u) := (unhide HX1).2.2.cell 0
    have x1 : w1.cell? ⟨B + 1, 1, none⟩ = some (.slice a1 n1 c1) := (unhide HX1).2.2.cell 1
    have x2 : w1.cell? ⟨B + 1, 2, none⟩ = some (.slice a2 n2 c2) := (unhide HX1).2.2.cell 2
    go_wp2_with fail
    refine (unhide R2 _ (unhide HX1).1).mono ?_
    rintro e w2 ⟨rfl, hF⟩
    have HX2 : Hid (Fr (fun _ => False) w w2 ∧ Bx w2 B #[.int .i64 v, .slice a n c] 24 ∧ Bx w2 (B + 1) #[.int .i64 u, .slice a1 n1 c1, .slice a2 n2 c2] 26) := hide (by
      obtain ⟨k0, k1, k2⟩ := unhide HX1
      exact ⟨k0.trans hF (fun _ _ t => t), k1.keep hF, k2.keep hF⟩)
    clear x0 x1 x2 hF HX1
    cases e2
    · go_wp2
      go_ret
      exact ⟨by rw [unhide HE]; simp, (unhide HX2).1⟩
    · have HN2 := hide (unhide HK2 rfl)
      clear HK2
      have x0 : w2.cell? ⟨B + 1, 0, none⟩ = some (.int .i64 u) := (unhide HX2).2.2.cell 0
      have x1 : w2.cell? ⟨B + 1, 1, none⟩ = some (.slice a1 n1 c1) := (unhide HX2).2.2.cell 1
      have x2 : w2.cell? ⟨B + 1, 2, none⟩ = some (.slice a2 n2 c2) := (unhide HX2).2.2.cell 2
      have y0 : w2.cell? ⟨B, 0, none⟩ = some (.int .i64 v) := (unhide HX2).2.1.cell 0
      go_wp2_with fail
      refine (unhide R3 _ (unhide HN2).1).mono ?_
      rintro e w3 ⟨rfl, hF⟩
      have HX3 : Hid (Fr (fun _ => False) w w3 ∧ Bx w3 B #[.int .i64 v, .slice a n c] 24 ∧ Bx w3 (B + 1) #[.int .i64 u, .slice a1 n1 c1, .slice a2 n2 c2] 26) := hide (by
        obtain ⟨k0, k1, k2⟩ := unhide HX2
        exact ⟨k0.trans hF (fun _ _ t => t), k1.keep hF, k2.keep hF⟩)
      clear x0 x1 x2 y0 hF HX2
      cases e3
      · go_wp2
        go_ret
        exact ⟨by rw [unhide HE]; simp, (unhide HX3).1⟩
      · have x1 : w3.cell? ⟨B + 1, 1, none⟩ = some (.slice a1 n1 c1) := (unhide HX3).2.2.cell 1
        have y1 : w3.cell? ⟨B, 1, none⟩ = some (.slice a n c) := (unhide HX3).2.1.cell 1
        go_wp2_with fail
        refine (unhide R4 _ (unhide HX3).1 (unhide HN) (unhide HN2).2.1).mono ?_
        rintro e w4 ⟨ao, cap, g, rfl, _, hF⟩
        have HX4 : Hid (Fr (fun _ => False) w w4 ∧ Bx w4 B #[.int .i64 v, .slice a n c] 24 ∧ Bx w4 (B + 1) #[.int .i64 u, .slice a1 n1 c1, .slice a2 n2 c2] 26) := hide (by
          obtain ⟨k0, k1, k2⟩ := unhide HX3
          exact ⟨k0.trans hF (fun _ _ t => t), k1.keep hF, k2.keep hF⟩)
        clear x1 y1 hF HX3
        by_cases h4 : 0 < L1.length
        · go_wp2
          go_ret
          exact ⟨by rw [unhide HE]; simp [h4], (unhide HX4).1⟩
        · have h4' : L1.length = 0 := by omega
          rw [h4'] at HE ⊢
          have x2 : w4.cell? ⟨B + 1, 2, none⟩ = some (.slice a2 n2 c2) := (unhide HX4).2.2.cell 2
          have y1 : w4.cell? ⟨B, 1, none⟩ = some (.slice a n c) := (unhide HX4).2.1.cell 1
          clear h4 h4'
          go_wp2_with fail
          refine (unhide R5 _ (unhide HX4).1 (unhide HN) (unhide HN2).2.2).mono ?_
          rintro e w5 ⟨ao', cap', g', rfl, _, hF⟩
          have HF := hide ((unhide HX4).1.trans hF (fun _ _ t => t))
          clear x2 y1 hF HX4
          by_cases h5 : 0 < L2.length
          · go_wp2
            go_ret
            exact ⟨by rw [unhide HE]; simp [h5], unhide HF⟩
          · have h5' : L2.length = 0 := by omega
            rw [h5'] at HE ⊢
            go_wp2
            go_ret
            exact ⟨by rw [unhide HE]; simp, unhide HF⟩
  · go_wp2
    go_ret
    exact ⟨by rw [unhide HE, if_pos h1]; rfl, (unhide HX1).1⟩

set_option maxHeartbeats 2000000 in
theorem joinError_any (w : World) (d : Dl) (a1 : Option Addr) (c1 : Nat) (a2 : Option Addr) (c2 : Nat) (hd : DI w d a1 c1 a2 c2) (q : Dl) (b1 : Option Addr) (k1 : Nat) (b2 : Option Addr) (k2 : Nat) (hq : DI w q b1 k1 b2 k2) :
    Calls Tryz.prog 36 #[.agg (dlC d a1 c1 a2 c2), .agg (dlC q b1 k1 b2 k2)] w fun e w' => e = .returned (.int .i64 (joinE d q)) ∧ Fr (fun _ => False) w w' := by
  have R1 := hide (fun (w1 : World) (hf : Fr (fun _ => False) w w1) => mayBe_any w1 d a1 c1 a2 c2 (hd.keep hf))
  have R2 := hide (fun (w1 : World) (hf : Fr (fun _ => False) w w1) => mayBe_any w1 q b1 k1 b2 k2 (hq.keep hf))
  have R3 := hide (fun (w1 : World) (h0 : 1 ≤ q.ver) => follows_any w1 q b1 k1 b2 k2 d.ver h0 hq.ver)
  have R4 := hide (fun (w1 : World) (hf : Fr (fun _ => False) w w1) (i1 : d.add.length ≤ 1000) (i2 : q.add.length ≤ 1000) => common_any w1 d.add q.add a1 c1 b1 k1 (hd.add.keep hf) hd.n1 (hq.add.keep hf) hq.n1 (by omega) (by omega))
  have R5 := hide (fun (w1 : World) (hf : Fr (fun _ => False) w w1) (i1 : d.gone.length ≤ 1000) (i2 : q.gone.length ≤ 1000) => common_any w1 d.gone q.gone a2 c2 b2 k2 (hd.gone.keep hf) hd.n2 (hq.gone.keep hf) hq.n2 (by omega) (by omega))
  have HE : Hid (joinE d q = if deltaOk d = false then 80 else if deltaOk q = false then 80 else if (q.ver - 1 == d.ver) = false then 130 else if 0 < (coL d.add q.add).length then 131 else if 0 < (coL d.gone q.gone).length then 131 else 0) := hide rfl
  have HK1 : Hid (deltaOk d = true → 1 ≤ d.ver ∧ d.add.length ≤ 1000 ∧ d.gone.length ≤ 1000) := hide (fun h => ⟨(deltaOk_iff.1 h).1, listOk_len (deltaOk_iff.1 h).2.1, listOk_len (deltaOk_iff.1 h).2.2.1⟩)
  have HK2 : Hid (deltaOk q = true → 1 ≤ q.ver ∧ q.add.length ≤ 1000 ∧ q.gone.length ≤ 1000) := hide (fun h => ⟨(deltaOk_iff.1 h).1, listOk_len (deltaOk_iff.1 h).2.1, listOk_len (deltaOk_iff.1 h).2.2.1⟩)
  have hX0 : Fr (fun _ => False) w ((w.alloc (.cells (dlC d a1 c1 a2 c2) 26)).alloc (.cells (dlC q b1 k1 b2 k2) 26)) := ((Fr.refl _ _).alloc _).alloc _
  have z1 : Bx ((w.alloc (.cells (dlC d a1 c1 a2 c2) 26)).alloc (.cells (dlC q b1 k1 b2 k2) 26)) w.heap.size (dlC d a1 c1 a2 c2) 26 := (Bx.new _ _ _).alloc _
  have z2 := Bx.new (w.alloc (.cells (dlC d a1 c1 a2 c2) 26)) (dlC q b1 k1 b2 k2) 26
  rw [heap_alloc] at z2
  have HX0 := hide (And.intro hX0 (And.intro z1 z2))
  clear hX0 z1 z2 hd hq
  unfold dlC at *
  obtain ⟨B, HB⟩ : ∃ B, Hid (w.heap.size = B) := ⟨_, rfl⟩
  generalize joinE d q = E at *
  generalize deltaOk d = e1 at *
  generalize deltaOk q = e2 at *
  generalize hv : (q.ver - 1 == d.ver) = e3 at *
  have HV := hide hv
  clear hv
  generalize coL d.add q.add = L1 at *
  generalize coL d.gone q.gone = L2 at *
  generalize d.add.length = n1 at *
  generalize d.gone.length = n2 at *
  generalize q.add.length = m1 at *
  generalize q.gone.length = m2 at *
  generalize d.ver = v at *
  generalize q.ver = u at *
  clear d q
  go_enter Tryz.func36, Tryz.ntmps36
  go_wp2_with fail
  refine (unhide R1 _ (unhide HX0).1).mono ?_
  rintro e w1 ⟨rfl, hF⟩
  have HX1 : Hid (Fr (fun _ => False) w w1 ∧ Bx w1 B #[.int .i64 v, .slice a1 n1 c1, .slice a2 n2 c2] 26 ∧ Bx w1 (B + 1) #[.int .i64 u, .slice b1 m1 k1, .slice b2 m2 k2] 26) := hide (by
    obtain ⟨i0, i1, i2⟩ := unhide HX0
    rw [← unhide HB]
    exact ⟨i0.trans hF (fun _ _ t => t), i1.keep hF, i2.keep hF⟩)
  rw [unhide HB]
  clear hF HX0
  cases e1
  · go_wp2
    go_ret
    exact ⟨by rw [unhide HE]; simp, (unhide HX1).1⟩
  · have HN := hide (unhide HK1 rfl)
    clear HK1
    have x0 : w1.cell? ⟨B + 1, 0, none⟩ = some (.int .i64 u) := (unhide HX1).2.2.cell 0
    have x1 : w1.cell? ⟨B + 1, 1, none⟩ = some (.slice b1 m1 k1) := (unhide HX1).2.2.cell 1
    have x2 : w1.cell? ⟨B + 1, 2, none⟩ = some (.slice b2 m2 k2) := (unhide HX1).2.2.cell 2
    go_wp2_with fail
    refine (unhide R2 _ (unhide HX1).1).mono ?_
    rintro e w2 ⟨rfl, hF⟩
    have HX2 : Hid (Fr (fun _ => False) w w2 ∧ Bx w2 B #[.int .i64 v, .slice a1 n1 c1, .slice a2 n2 c2] 26 ∧ Bx w2 (B + 1) #[.int .i64 u, .slice b1 m1 k1, .slice b2 m2 k2] 26) := hide (by
      obtain ⟨i0, i1, i2⟩ := unhide HX1
      exact ⟨i0.trans hF (fun _ _ t => t), i1.keep hF, i2.keep hF⟩)
    clear x0 x1 x2 hF HX1
    cases e2
    · go_wp2
      go_ret
      exact ⟨by rw [unhide HE]; simp, (unhide HX2).1⟩
    · have HN2 := hide (unhide HK2 rfl)
      clear HK2
      have x0 : w2.cell? ⟨B + 1, 0, none⟩ = some (.int .i64 u) := (unhide HX2).2.2.cell 0
      have x1 : w2.cell? ⟨B + 1, 1, none⟩ = some (.slice b1 m1 k1) := (unhide HX2).2.2.cell 1
      have x2 : w2.cell? ⟨B + 1, 2, none⟩ = some (.slice b2 m2 k2) := (unhide HX2).2.2.cell 2
      have y0 : w2.cell? ⟨B, 0, none⟩ = some (.int .i64 v) := (unhide HX2).2.1.cell 0
      go_wp2_with fail
      refine (unhide R3 _ (unhide HN2).1).mono ?_
      rintro e w3 ⟨rfl, hF⟩
      have HX3 : Hid (Fr (fun _ => False) w w3 ∧ Bx w3 B #[.int .i64 v, .slice a1 n1 c1, .slice a2 n2 c2] 26 ∧ Bx w3 (B + 1) #[.int .i64 u, .slice b1 m1 k1, .slice b2 m2 k2] 26) := hide (by
        obtain ⟨i0, i1, i2⟩ := unhide HX2
        exact ⟨i0.trans hF (fun _ _ t => t), i1.keep hF, i2.keep hF⟩)
      clear x0 x1 x2 y0 hF HX2
      cases e3
      · go_wp2
        go_ret
        exact ⟨by rw [unhide HE]; simp, (unhide HX3).1⟩
      · have x1 : w3.cell? ⟨B + 1, 1, none⟩ = some (.slice b1 m1 k1) := (unhide HX3).2.2.cell 1
        have y1 : w3.cell? ⟨B, 1, none⟩ = some (.slice a1 n1 c1) := (unhide HX3).2.1.cell 1
        go_wp2_with fail
        refine (unhide R4 _ (unhide HX3).1 (unhide HN).2.1 (unhide HN2).2.1).mono ?_
        rintro e w4 ⟨ao, cap, g, rfl, _, hF⟩
        have HX4 : Hid (Fr (fun _ => False) w w4 ∧ Bx w4 B #[.int .i64 v, .slice a1 n1 c1, .slice a2 n2 c2] 26 ∧ Bx w4 (B + 1) #[.int .i64 u, .slice b1 m1 k1, .slice b2 m2 k2] 26) := hide (by
          obtain ⟨i0, i1, i2⟩ := unhide HX3
          exact ⟨i0.trans hF (fun _ _ t => t), i1.keep hF, i2.keep hF⟩)
        clear x1 y1 hF HX3
        by_cases h4 : 0 < L1.length
        · go_wp2
          go_ret
          exact ⟨by rw [unhide HE]; simp [h4], (unhide HX4).1⟩
        · have h4' : L1.length = 0 := by omega
          rw [h4'] at HE ⊢
          have x2 : w4.cell? ⟨B + 1, 2, none⟩ = some (.slice b2 m2 k2) := (unhide HX4).2.2.cell 2
          have y1 : w4.cell? ⟨B, 2, none⟩ = some (.slice a2 n2 c2) := (unhide HX4).2.1.cell 2
          clear h4 h4'
          go_wp2_with fail
          refine (unhide R5 _ (unhide HX4).1 (unhide HN).2.2 (unhide HN2).2.2).mono ?_
          rintro e w5 ⟨ao', cap', g', rfl, _, hF⟩
          have HF := hide ((unhide HX4).1.trans hF (fun _ _ t => t))
          clear x2 y1 hF HX4
          by_cases h5 : 0 < L2.length
          · go_wp2
            go_ret
            exact ⟨by rw [unhide HE]; simp [h5], unhide HF⟩
          · have h5' : L2.length = 0 := by omega
            rw [h5'] at HE ⊢
            go_wp2
            go_ret
            exact ⟨by rw [unhide HE]; simp, unhide HF⟩

end Go.Proofs.YtmhljehkodhggaaGreat

