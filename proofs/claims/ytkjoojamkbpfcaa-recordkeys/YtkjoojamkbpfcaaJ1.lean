/- Keys: the program's, the document's. -/
import Derived.Test.YtkjoojamkbpfcaaJ0
import Derived.Test.YtkjoojamkbpfcaaL1
namespace Go.Proofs.Ytkjoojamkbpfcaa
open Go.RowKit

def keyS (t : Tp) : List UInt8 := if tapOk t then keyL t else []
def keyC (t : Tp) : Int := if tapOk t then 0 else 80

theorem key_bytes (t : Tp) (h : tapOk t = true) : (stepW (stepW (stepW (stepW (stepW (some []) (wFixed ⟨#[116]⟩ 1)) (wFixed t.tok 8)) (wNumber t.time 4)) (wNumber t.dev 2)) (wNumber t.ctr 4)) = some (keyL t) := by
  simp only [tapOk, Bool.and_eq_true, isIn_iff] at h
  have hmp := mostPlace_le t.kind
  have hs : (t.tok.size : Int) = 8 := by have := h.1.2; simpa [isTok] using this
  have e0 : wFixed ⟨#[116]⟩ 1 = some [116] := by
    unfold wFixed
    rw [if_pos ⟨by omega, by omega, rfl⟩]
  have e1 : wFixed t.tok 8 = some t.tok.data.toList := by
    unfold wFixed
    rw [if_pos ⟨by omega, by omega, hs⟩]
  have e2 : wNumber t.time 4 = some (digs t.time.toNat 4) := by
    unfold wNumber
    rw [if_pos ⟨by omega, by omega, by omega, by simp; omega⟩]
    rfl
  have e3 : wNumber t.dev 2 = some (digs t.dev.toNat 2) := by
    unfold wNumber
    rw [if_pos ⟨by omega, by omega, by omega, by simp; omega⟩]
    rfl
  have e4 : wNumber t.ctr 4 = some (digs t.ctr.toNat 4) := by
    unfold wNumber
    rw [if_pos ⟨by omega, by omega, by omega, by simp; omega⟩]
    rfl
  rw [e0, e1, e2, e3, e4]
  simp [stepW, keyL]

set_option maxHeartbeats 1000000 in
theorem recKey_any (t : Tp) (w : World) : Calls Try.prog 17 #[.agg (tpC t)] w fun e w' => e = .returned (.tuple #[.string ⟨(keyS t).toArray⟩, .int .i64 (keyC t)]) ∧ Fr (fun _ => False) w w' := by
  have R := hide (tapError_any t)
  have HN := hide (tap_small t)
  obtain ⟨b, hb⟩ : ∃ b, tapOk t = b := ⟨_, rfl⟩
  have HS : Hid (keyS t = if b then keyL t else []) := hide (by unfold keyS; rw [hb])
  have HC : Hid (keyC t = if b then 0 else 80) := hide (by unfold keyC; rw [hb])
  have HK := hide hb
  have HB := hide (key_bytes t)
  have HL : Hid ((keyL t).length ≤ 1000 ∨ tapOk t = false) := hide (by
    cases h : tapOk t with
    | false => exact Or.inr rfl
    | true =>
      refine Or.inl ?_
      simp only [tapOk, Bool.and_eq_true, isTok, beq_iff_eq] at h
      have h8 : t.tok.data.toList.length = t.tok.size := rfl
      simp only [keyL, List.length_append, digs_length, List.length_cons, List.length_nil, h8]
      omega)
  rw [show tapE t = if b then 0 else 80 from by unfold tapE; rw [hb]] at R
  rw [unhide HS, unhide HC]
  clear HS HC
  generalize keyL t = L at HB HL ⊢
  unfold tpC at *
  obtain ⟨dev, ctr, tok, kind, place, time⟩ := t
  simp only at R HN HK HB HL ⊢
  clear hb
  have HA0 : Hid (Fr (fun _ => False) w (w.alloc (.cells #[.int .i64 dev, .int .i64 ctr, .string tok, .int .i64 kind, .int .i64 place, .int .i64 time] 23))) := hide ((Fr.refl _ w).alloc _)
  cases b
  · simp only [Bool.false_eq_true, if_false] at R ⊢
    clear HB HL HK HN
    go_enter Try.func17, Try.ntmps17
    go_wp2_with fail
    refine (unhide R _).mono ?_
    rintro e w1 ⟨rfl, hF⟩
    have HF1 : Hid (Fr (fun _ => False) w w1) := hide ((unhide HA0).trans hF (fun _ _ t => t))
    clear hF
    go_wp2
    go_ret2
    exact ⟨rfl, unhide HF1⟩
  · simp only [if_true] at R ⊢
    obtain ⟨n0, n1, n2, n3, n4⟩ := unhide HN (unhide HK)
    have J2 := hide n4
    have J3 := hide n0
    have J4 := hide n1
    have hb5 := unhide HB (unhide HK)
    have HB5 := hide hb5
    have HLL : Hid (L.length ≤ 1000) := hide (by
      rcases unhide HL with h | h
      · exact h
      · rw [unhide HK] at h; cases h)
    clear n0 n1 n2 n3 n4 hb5 HB HL HN
    go_enter Try.func17, Try.ntmps17
    go_wp2_with fail
    refine (unhide R _).mono ?_
    rintro e w1 ⟨rfl, hF⟩
    have HB1 := hide ((Bx.new w #[.int .i64 dev, .int .i64 ctr, .string tok, .int .i64 kind, .int .i64 place, .int .i64 time] 23).keep hF)
    have HF1 : Hid (Fr (fun _ => False) w w1) := hide ((unhide HA0).trans hF (fun _ _ t => t))
    obtain ⟨B, HBe⟩ : ∃ B, Hid (w.heap.size = B) := ⟨_, rfl⟩
    have HBL : Hid (B < w1.heap.size) := hide (by rw [← unhide HBe]; exact (unhide HB1).lt)
    rw [unhide HBe] at HB1 ⊢
    clear hF HA0 R
    go_wp2_with fail
    refine (newwriter_any _).mono ?_
    rintro e w2 ⟨rfl, rfl⟩
    have HX0 : Hid (WB (w1.alloc (.cells #[.slice none 0 0, .bool false] 138)) w1.heap.size w1.heap.size B (some []) #[.int .i64 dev, .int .i64 ctr, .string tok, .int .i64 kind, .int .i64 place, .int .i64 time] 23) := hide ⟨(show WSt _ _ _ (some []) from newW), (unhide HB1).alloc _, by have := unhide HBL; omega, by have := unhide HBL; omega, by rw [heap_alloc]; omega⟩
    have HG0 : Hid (Fr (fun _ => False) w (w1.alloc (.cells #[.slice none 0 0, .bool false] 138)) ∧ w.heap.size ≤ w1.heap.size ∧ w.heap.size ≤ w1.heap.size) := hide ⟨(unhide HF1).alloc _, (unhide HF1).size, (unhide HF1).size⟩
    have HM0 : Hid (Most (some []) 0) := hide Most.nil
    go_wp2_with fail
    generalize (w1.alloc (.cells #[.slice none 0 0, .bool false] 138)) = u0 at *
    generalize w1.heap.size = p at *
    refine (wfixed_any (unhide HX0).s ⟨#[116]⟩ 1 (fun bs e _ => by have := unhide HM0 bs e; omega)).mono ?_
    rintro e u1 ⟨rfl, hP⟩
    obtain ⟨g1, hB, hg, hF⟩ := (unhide HX0).next (WP.of hP (unhide HX0).gl)
    have HX1 := hide hB
    have HM1 := hide ((unhide HM0).step (Most.kd (Kd.fix 1) (.string ⟨#[116]⟩)))
    have HG1 : Hid (Fr (fun _ => False) w u1 ∧ w.heap.size ≤ p ∧ w.heap.size ≤ g1) := hide (by
      obtain ⟨q1, q2, q3⟩ := unhide HG0
      have := q1.size
      exact ⟨q1.trans hF (fun _ hi t => by omega), q2, by omega⟩)
    clear hB hg hF hP HX0 HG0
    have c1 : u1.cell? ⟨B, 2, none⟩ = some (.string tok) := (unhide HX1).x.cell 2
    go_wp2_with fail
    refine (wfixed_any (unhide HX1).s tok 8 (fun bs e _ => by have := unhide HM1 bs e; simp only [Kd.n] at this; omega)).mono ?_
    rintro e u2 ⟨rfl, hP⟩
    obtain ⟨g2, hB, hg, hF⟩ := (unhide HX1).next (WP.of hP (unhide HX1).gl)
    have HX2 := hide hB
    have HM2 := hide ((unhide HM1).step (Most.kd (Kd.fix 8) (.string tok)))
    have HG2 : Hid (Fr (fun _ => False) w u2 ∧ w.heap.size ≤ p ∧ w.heap.size ≤ g2) := hide (by
      obtain ⟨q1, q2, q3⟩ := unhide HG1
      have := q1.size
      exact ⟨q1.trans hF (fun _ hi t => by omega), q2, by omega⟩)
    clear hB hg hF hP c1 HX1 HG1
    have c2 : u2.cell? ⟨B, 5, none⟩ = some (.int .i64 time) := (unhide HX2).x.cell 5
    go_wp2_with fail
    refine (wnumber_any (unhide HX2).s (fun bs e => by have := unhide HM2 bs e; simp only [Kd.n] at this; omega) time 4 (unhide J2)).mono ?_
    rintro e u3 ⟨rfl, hP⟩
    obtain ⟨g3, hB, hg, hF⟩ := (unhide HX2).next (WP.of hP (unhide HX2).gl)
    have HX3 := hide hB
    have HM3 := hide ((unhide HM2).step (Most.kd (Kd.num 4) (.int .i64 time)))
    have HG3 : Hid (Fr (fun _ => False) w u3 ∧ w.heap.size ≤ p ∧ w.heap.size ≤ g3) := hide (by
      obtain ⟨q1, q2, q3⟩ := unhide HG2
      have := q1.size
      exact ⟨q1.trans hF (fun _ hi t => by omega), q2, by omega⟩)
    clear hB hg hF hP c2 HX2 HG2
    have c3 : u3.cell? ⟨B, 0, none⟩ = some (.int .i64 dev) := (unhide HX3).x.cell 0
    go_wp2_with fail
    refine (wnumber_any (unhide HX3).s (fun bs e => by have := unhide HM3 bs e; simp only [Kd.n] at this; omega) dev 2 (unhide J3)).mono ?_
    rintro e u4 ⟨rfl, hP⟩
    obtain ⟨g4, hB, hg, hF⟩ := (unhide HX3).next (WP.of hP (unhide HX3).gl)
    have HX4 := hide hB
    have HM4 := hide ((unhide HM3).step (Most.kd (Kd.num 2) (.int .i64 dev)))
    have HG4 : Hid (Fr (fun _ => False) w u4 ∧ w.heap.size ≤ p ∧ w.heap.size ≤ g4) := hide (by
      obtain ⟨q1, q2, q3⟩ := unhide HG3
      have := q1.size
      exact ⟨q1.trans hF (fun _ hi t => by omega), q2, by omega⟩)
    clear hB hg hF hP c3 HX3 HG3
    have c4 : u4.cell? ⟨B, 1, none⟩ = some (.int .i64 ctr) := (unhide HX4).x.cell 1
    go_wp2_with fail
    refine (wnumber_any (unhide HX4).s (fun bs e => by have := unhide HM4 bs e; simp only [Kd.n] at this; omega) ctr 4 (unhide J4)).mono ?_
    rintro e u5 ⟨rfl, hP⟩
    obtain ⟨g5, hB, hg, hF⟩ := (unhide HX4).next (WP.of hP (unhide HX4).gl)
    have HX5 := hide hB
    have HM5 := hide ((unhide HM4).step (Most.kd (Kd.num 4) (.int .i64 ctr)))
    have HG5 : Hid (Fr (fun _ => False) w u5 ∧ w.heap.size ≤ p ∧ w.heap.size ≤ g5) := hide (by
      obtain ⟨q1, q2, q3⟩ := unhide HG4
      have := q1.size
      exact ⟨q1.trans hF (fun _ hi t => by omega), q2, by omega⟩)
    clear hB hg hF hP c4 HX4 HG4
    have hx5 := (unhide HX5).s
    rw [unhide HB5] at hx5
    have HY := hide hx5
    clear hx5
    go_wp2_with fail
    refine (wbytes (unhide HY) 1000 (fun bs e => by injection e with e; subst e; exact unhide HLL) (by omega)).mono ?_
    rintro e u6 ⟨ao, cap, gb, rfl, hrow, hgb, hF⟩
    simp only [Option.getD_some] at hrow ⊢
    have hcv := conv_bin (hrow.bin (by have := unhide HLL; omega))
    have HF6 : Hid (Fr (fun _ => False) w u6) := hide ((unhide HG5).1.trans hF (fun _ _ t => t))
    clear hrow hgb hF
    go_wp2
    go_ret2
    exact ⟨by first | rfl | simp [codeOf], unhide HF6⟩

set_option maxHeartbeats 1000000 in
theorem refKey_any (t : Tp) (w : World) : Calls Try.prog 18 #[.agg (tpC t)] w fun e w' => e = .returned (.tuple #[.string ⟨(keyS t).toArray⟩, .int .i64 (keyC t)]) ∧ Fr (fun _ => False) w w' := by
  have R := hide (TapRight_any t)
  have HN := hide (tap_small t)
  obtain ⟨b, hb⟩ : ∃ b, tapOk t = b := ⟨_, rfl⟩
  have HS : Hid (keyS t = if b then keyL t else []) := hide (by unfold keyS; rw [hb])
  have HC : Hid (keyC t = if b then 0 else 80) := hide (by unfold keyC; rw [hb])
  have HK := hide hb
  have HB := hide (key_bytes t)
  have HL : Hid ((keyL t).length ≤ 1000 ∨ tapOk t = false) := hide (by
    cases h : tapOk t with
    | false => exact Or.inr rfl
    | true =>
      refine Or.inl ?_
      simp only [tapOk, Bool.and_eq_true, isTok, beq_iff_eq] at h
      have h8 : t.tok.data.toList.length = t.tok.size := rfl
      simp only [keyL, List.length_append, digs_length, List.length_cons, List.length_nil, h8]
      omega)
  rw [hb] at R
  rw [unhide HS, unhide HC]
  clear HS HC
  generalize keyL t = L at HB HL ⊢
  unfold tpC at *
  obtain ⟨dev, ctr, tok, kind, place, time⟩ := t
  simp only at R HN HK HB HL ⊢
  clear hb
  have HA0 : Hid (Fr (fun _ => False) w (w.alloc (.cells #[.int .i64 dev, .int .i64 ctr, .string tok, .int .i64 kind, .int .i64 place, .int .i64 time] 23))) := hide ((Fr.refl _ w).alloc _)
  cases b
  · simp only [Bool.false_eq_true, if_false] at R ⊢
    clear HB HL HK HN
    go_enter Try.func18, Try.ntmps18
    go_wp2_with fail
    refine (unhide R _).mono ?_
    rintro e w1 ⟨rfl, hF⟩
    have HF1 : Hid (Fr (fun _ => False) w w1) := hide ((unhide HA0).trans hF (fun _ _ t => t))
    clear hF
    go_wp2
    go_ret2
    exact ⟨rfl, unhide HF1⟩
  · simp only [if_true] at R ⊢
    obtain ⟨n0, n1, n2, n3, n4⟩ := unhide HN (unhide HK)
    have J2 := hide n4
    have J3 := hide n0
    have J4 := hide n1
    have hb5 := unhide HB (unhide HK)
    have HB5 := hide hb5
    have HLL : Hid (L.length ≤ 1000) := hide (by
      rcases unhide HL with h | h
      · exact h
      · rw [unhide HK] at h; cases h)
    clear n0 n1 n2 n3 n4 hb5 HB HL HN
    go_enter Try.func18, Try.ntmps18
    go_wp2_with fail
    refine (unhide R _).mono ?_
    rintro e w1 ⟨rfl, hF⟩
    have HB1 := hide ((Bx.new w #[.int .i64 dev, .int .i64 ctr, .string tok, .int .i64 kind, .int .i64 place, .int .i64 time] 23).keep hF)
    have HF1 : Hid (Fr (fun _ => False) w w1) := hide ((unhide HA0).trans hF (fun _ _ t => t))
    obtain ⟨B, HBe⟩ : ∃ B, Hid (w.heap.size = B) := ⟨_, rfl⟩
    have HBL : Hid (B < w1.heap.size) := hide (by rw [← unhide HBe]; exact (unhide HB1).lt)
    rw [unhide HBe] at HB1 ⊢
    clear hF HA0 R
    go_wp2_with fail
    have HX0 : Hid (YB (w1.alloc (.cells #[.slice none 0 0, .bool false] 76)) w1.heap.size w1.heap.size B (some []) #[.int .i64 dev, .int .i64 ctr, .string tok, .int .i64 kind, .int .i64 place, .int .i64 time] 23) := hide ⟨newY w1 _, (unhide HB1).alloc _, by have := unhide HBL; omega, by have := unhide HBL; omega⟩
    have HG0 : Hid (Fr (fun _ => False) w (w1.alloc (.cells #[.slice none 0 0, .bool false] 76)) ∧ w.heap.size ≤ w1.heap.size ∧ w.heap.size ≤ w1.heap.size) := hide ⟨(unhide HF1).alloc _, (unhide HF1).size, (unhide HF1).size⟩
    have HM0 : Hid (Most (some []) 0) := hide Most.nil
    generalize (w1.alloc (.cells #[.slice none 0 0, .bool false] 76)) = u0 at *
    generalize w1.heap.size = p at *
    refine (yFixed (unhide HX0).s ⟨#[116]⟩ 1 (fun bs e _ => by have := unhide HM0 bs e; omega)).mono ?_
    rintro e u1 ⟨rfl, hP⟩
    obtain ⟨g1, hB, hg, hF⟩ := (unhide HX0).next hP
    have HX1 := hide hB
    have HM1 := hide ((unhide HM0).step (Most.kd (Kd.fix 1) (.string ⟨#[116]⟩)))
    have HG1 : Hid (Fr (fun _ => False) w u1 ∧ w.heap.size ≤ p ∧ w.heap.size ≤ g1) := hide (by
      obtain ⟨q1, q2, q3⟩ := unhide HG0
      have := q1.size
      exact ⟨q1.trans hF (fun _ hi t => by omega), q2, by omega⟩)
    clear hB hg hF hP HX0 HG0
    have c1 : u1.cell? ⟨B, 2, none⟩ = some (.string tok) := (unhide HX1).x.cell 2
    go_wp2_with fail
    refine (yFixed (unhide HX1).s tok 8 (fun bs e _ => by have := unhide HM1 bs e; simp only [Kd.n] at this; omega)).mono ?_
    rintro e u2 ⟨rfl, hP⟩
    obtain ⟨g2, hB, hg, hF⟩ := (unhide HX1).next hP
    have HX2 := hide hB
    have HM2 := hide ((unhide HM1).step (Most.kd (Kd.fix 8) (.string tok)))
    have HG2 : Hid (Fr (fun _ => False) w u2 ∧ w.heap.size ≤ p ∧ w.heap.size ≤ g2) := hide (by
      obtain ⟨q1, q2, q3⟩ := unhide HG1
      have := q1.size
      exact ⟨q1.trans hF (fun _ hi t => by omega), q2, by omega⟩)
    clear hB hg hF hP c1 HX1 HG1
    have c2 : u2.cell? ⟨B, 5, none⟩ = some (.int .i64 time) := (unhide HX2).x.cell 5
    go_wp2_with fail
    refine (yNumber (unhide HX2).s (fun bs e => by have := unhide HM2 bs e; simp only [Kd.n] at this; omega) time 4 (unhide J2)).mono ?_
    rintro e u3 ⟨rfl, hP⟩
    obtain ⟨g3, hB, hg, hF⟩ := (unhide HX2).next hP
    have HX3 := hide hB
    have HM3 := hide ((unhide HM2).step (Most.kd (Kd.num 4) (.int .i64 time)))
    have HG3 : Hid (Fr (fun _ => False) w u3 ∧ w.heap.size ≤ p ∧ w.heap.size ≤ g3) := hide (by
      obtain ⟨q1, q2, q3⟩ := unhide HG2
      have := q1.size
      exact ⟨q1.trans hF (fun _ hi t => by omega), q2, by omega⟩)
    clear hB hg hF hP c2 HX2 HG2
    have c3 : u3.cell? ⟨B, 0, none⟩ = some (.int .i64 dev) := (unhide HX3).x.cell 0
    go_wp2_with fail
    refine (yNumber (unhide HX3).s (fun bs e => by have := unhide HM3 bs e; simp only [Kd.n] at this; omega) dev 2 (unhide J3)).mono ?_
    rintro e u4 ⟨rfl, hP⟩
    obtain ⟨g4, hB, hg, hF⟩ := (unhide HX3).next hP
    have HX4 := hide hB
    have HM4 := hide ((unhide HM3).step (Most.kd (Kd.num 2) (.int .i64 dev)))
    have HG4 : Hid (Fr (fun _ => False) w u4 ∧ w.heap.size ≤ p ∧ w.heap.size ≤ g4) := hide (by
      obtain ⟨q1, q2, q3⟩ := unhide HG3
      have := q1.size
      exact ⟨q1.trans hF (fun _ hi t => by omega), q2, by omega⟩)
    clear hB hg hF hP c3 HX3 HG3
    have c4 : u4.cell? ⟨B, 1, none⟩ = some (.int .i64 ctr) := (unhide HX4).x.cell 1
    go_wp2_with fail
    refine (yNumber (unhide HX4).s (fun bs e => by have := unhide HM4 bs e; simp only [Kd.n] at this; omega) ctr 4 (unhide J4)).mono ?_
    rintro e u5 ⟨rfl, hP⟩
    obtain ⟨g5, hB, hg, hF⟩ := (unhide HX4).next hP
    have HX5 := hide hB
    have HM5 := hide ((unhide HM4).step (Most.kd (Kd.num 4) (.int .i64 ctr)))
    have HG5 : Hid (Fr (fun _ => False) w u5 ∧ w.heap.size ≤ p ∧ w.heap.size ≤ g5) := hide (by
      obtain ⟨q1, q2, q3⟩ := unhide HG4
      have := q1.size
      exact ⟨q1.trans hF (fun _ hi t => by omega), q2, by omega⟩)
    clear hB hg hF hP c4 HX4 HG4
    have hx5 := (unhide HX5).s
    rw [unhide HB5] at hx5
    have HY := hide hx5
    clear hx5
    go_wp2_with fail
    refine (ybytes (unhide HY) 1000 (fun bs e => by injection e with e; subst e; exact unhide HLL) (by omega)).mono ?_
    rintro e u6 ⟨ao, cap, gb, rfl, hrow, hgb, hF⟩
    simp only [Option.getD_some] at hrow ⊢
    have hcv := conv_bin (hrow.bin (by have := unhide HLL; omega))
    have HF6 : Hid (Fr (fun _ => False) w u6) := hide ((unhide HG5).1.trans hF (fun _ _ t => t))
    clear hrow hgb hF
    go_wp2
    go_ret2
    exact ⟨by first | rfl | simp [codeOf], unhide HF6⟩

end Go.Proofs.Ytkjoojamkbpfcaa
