import Derived.Test.YtndiohojgpdkgaaDoorZB1
/- What is parsed was so made. Mathematics. -/
namespace Go.Proofs.YtndiohojgpdkgaaDoor
open Go.RowKit

theorem rNum_stuck {bs : List UInt8} {s : RS} {k : Int} (h : s.c ≠ 0) : (rNum bs s k).2 = s := by
  unfold rNum stepR
  rw [if_neg h]
theorem rCnt_stuck {bs : List UInt8} {s : RS} {k : Int} (h : s.c ≠ 0) : (rCnt bs s k).2 = s := by
  unfold rCnt stepR
  rw [if_neg h]
theorem rTxt_stuck {bs : List UInt8} {s : RS} {k : Int} (h : s.c ≠ 0) : (rTxt bs s k).2 = s := by
  unfold rTxt stepR
  rw [if_neg h]
theorem rTxts_stuck {bs : List UInt8} {s : RS} {k : Int} (h : s.c ≠ 0) (n : Nat) : (rTxts bs k s n).2 = s := by
  induction n with
  | zero => rfl
  | succ n ih =>
    show (rTxt bs (rTxts bs k s n).2 k).2 = s
    rw [ih, rTxt_stuck h]

theorem cutZ {bs x : List UInt8} {a n : Nat} (h : (bs.drop a).take n = x) : bs.drop a = x ++ bs.drop (a + n) := by
  rw [← h, ← List.drop_drop, List.take_append_drop]

theorem rNum_form {bs : List UInt8} {s : RS} {k : Nat} (hs : s.c = 0) (h : (rNum bs s (k : Int)).2.c = 0) : ∃ n : Nat, (rNum bs s (k : Int)).1 = (n : Int) ∧ (rNum bs s (k : Int)).2.a = s.a + k ∧ s.a + k ≤ bs.length ∧ bs.drop s.a = digs n k ++ bs.drop (s.a + k) := by
  unfold rNum stepR oNumber at *
  rw [if_pos hs] at h ⊢
  split at h
  · rename_i v a' ho
    split at ho
    · cases ho
    · split at ho
      · cases ho
      · split at ho
        · cases ho
        · rename_i h1 h2 h3
          injection ho with ho
          injection ho with hv hav
          subst hv hav
          rw [Int.toNat_natCast] at *
          have hl : k ≤ (bs.drop s.a).length := by rw [List.length_drop]; omega
          refine ⟨num ((bs.drop s.a).take k), rfl, rfl, by omega, cutZ ?_⟩
          have := digs_numZ ((bs.drop s.a).take k)
          rw [List.length_take, Nat.min_eq_left hl] at this
          exact this.symm
  · rename_i x ho
    exfalso
    split at ho
    · injection ho with ho; subst ho; simp at h
    · split at ho
      · injection ho with ho; subst ho; simp at h
      · split at ho
        · injection ho with ho; subst ho; simp at h
        · cases ho
theorem rCnt_form {bs : List UInt8} {s : RS} {most : Nat} (hs : s.c = 0) (h : (rCnt bs s (most : Int)).2.c = 0) : ∃ n : Nat, (rCnt bs s (most : Int)).1 = (n : Int) ∧ (rCnt bs s (most : Int)).2.a = s.a + 2 ∧ s.a + 2 ≤ bs.length ∧ bs.drop s.a = digs n 2 ++ bs.drop (s.a + 2) := by
  unfold rCnt stepR oCount at *
  rw [if_pos hs] at h ⊢
  split at h
  · rename_i v a' ho
    split at ho
    · cases ho
    · split at ho
      · cases ho
      · split at ho
        · cases ho
        · rename_i h1 h2 h3
          injection ho with ho
          injection ho with hv hav
          subst hv hav
          have hl : 2 ≤ (bs.drop s.a).length := by rw [List.length_drop]; omega
          refine ⟨num ((bs.drop s.a).take 2), rfl, rfl, by omega, cutZ ?_⟩
          have := digs_numZ ((bs.drop s.a).take 2)
          rw [List.length_take, Nat.min_eq_left hl] at this
          exact this.symm
  · rename_i x ho
    exfalso
    split at ho
    · injection ho with ho; subst ho; simp at h
    · split at ho
      · injection ho with ho; subst ho; simp at h
      · split at ho
        · injection ho with ho; subst ho; simp at h
        · cases ho
theorem rTxt_form {bs : List UInt8} {s : RS} {most : Nat} (hs : s.c = 0) (h : (rTxt bs s (most : Int)).2.c = 0) : (rTxt bs s (most : Int)).2.a = s.a + (digs (rTxt bs s (most : Int)).1.length 2 ++ (rTxt bs s (most : Int)).1).length ∧ (rTxt bs s (most : Int)).2.a ≤ bs.length ∧ bs.drop s.a = (digs (rTxt bs s (most : Int)).1.length 2 ++ (rTxt bs s (most : Int)).1) ++ bs.drop (rTxt bs s (most : Int)).2.a := by
  unfold rTxt stepR oText at *
  rw [if_pos hs] at h ⊢
  split at h
  · rename_i v a' ho
    split at ho
    · cases ho
    · split at ho
      · cases ho
      · split at ho
        · cases ho
        · split at ho
          · cases ho
          · rename_i h1 h2 h3 h4
            injection ho with ho
            injection ho with hv hav
            subst hv hav
            simp only [strOf]
            have hl : 2 ≤ (bs.drop s.a).length := by rw [List.length_drop]; omega
            have hd := digs_numZ ((bs.drop s.a).take 2)
            rw [List.length_take, Nat.min_eq_left hl] at hd
            generalize num ((bs.drop s.a).take 2) = L at *
            have hL : ((bs.drop (s.a + 2)).take L).length = L := by rw [List.length_take, List.length_drop]; omega
            refine ⟨by rw [List.length_append, digs_length, hL]; omega, by omega, ?_⟩
            rw [hL]
            have c1 := cutZ hd.symm
            have c2 := cutZ (bs := bs) (a := s.a + 2) (n := L) rfl
            rw [c1, c2]
            simp only [List.append_assoc]
            congr 1
            rw [List.take_left' (by exact hL)]
  · rename_i x ho
    exfalso
    split at ho
    · injection ho with ho; subst ho; simp at h
    · split at ho
      · injection ho with ho; subst ho; simp at h
      · split at ho
        · injection ho with ho; subst ho; simp at h
        · split at ho
          · injection ho with ho; subst ho; simp at h
          · cases ho
theorem rTxts_form {bs : List UInt8} {s : RS} (hle : s.a ≤ bs.length) : ∀ n, (rTxts bs 256 s n).2.c = 0 → (rTxts bs 256 s n).2.a = s.a + (textsF (rTxts bs 256 s n).1).length ∧ (rTxts bs 256 s n).2.a ≤ bs.length ∧ bs.drop s.a = textsF (rTxts bs 256 s n).1 ++ bs.drop (rTxts bs 256 s n).2.a := by
  intro n
  induction n with
  | zero => intro _; exact ⟨by simp [rTxts, textsF], hle, by simp [rTxts, textsF]⟩
  | succ n ih =>
    intro h
    have h0 : (rTxts bs 256 s n).2.c = 0 := by
      cases hh : decide ((rTxts bs 256 s n).2.c = 0) with
      | true => exact of_decide_eq_true hh
      | false =>
        have hne := of_decide_eq_false hh
        have h2 : (rTxts bs 256 s (n + 1)).2 = (rTxts bs 256 s n).2 := rTxt_stuck hne
        rw [h2] at h
        exact h
    obtain ⟨i1, i2, i3⟩ := ih h0
    have e1 : (rTxts bs 256 s (n + 1)).1 = (rTxts bs 256 s n).1 ++ [(rTxt bs (rTxts bs 256 s n).2 256).1] := rfl
    have e2 : (rTxts bs 256 s (n + 1)).2 = (rTxt bs (rTxts bs 256 s n).2 256).2 := rfl
    rw [e2] at h
    obtain ⟨j1, j2, j3⟩ := rTxt_form (most := 256) h0 h
    have j1' : (rTxt bs (rTxts bs 256 s n).2 256).2.a = (rTxts bs 256 s n).2.a + (digs (rTxt bs (rTxts bs 256 s n).2 256).1.length 2 ++ (rTxt bs (rTxts bs 256 s n).2 256).1).length := j1
    have j2' : (rTxt bs (rTxts bs 256 s n).2 256).2.a ≤ bs.length := j2
    have j3' : bs.drop (rTxts bs 256 s n).2.a = (digs (rTxt bs (rTxts bs 256 s n).2 256).1.length 2 ++ (rTxt bs (rTxts bs 256 s n).2 256).1) ++ bs.drop (rTxt bs (rTxts bs 256 s n).2 256).2.a := j3
    have e3 : textsF ((rTxts bs 256 s n).1 ++ [(rTxt bs (rTxts bs 256 s n).2 256).1]) = textsF (rTxts bs 256 s n).1 ++ (digs (rTxt bs (rTxts bs 256 s n).2 256).1.length 2 ++ (rTxt bs (rTxts bs 256 s n).2 256).1) := by
      unfold textsF
      rw [List.flatMap_append]
      simp
    rw [e1, e2, e3]
    refine ⟨by rw [j1', i1]; simp only [List.length_append]; omega, j2', ?_⟩
    rw [i3, List.append_assoc, ← j3']

theorem read_form {b : List UInt8} (h : readOk b = true) : (readF b).1.may = true ∧ (readF b).1.raw = b := by
  unfold readOk at h
  simp only [Bool.and_eq_true, decide_eq_true_eq] at h
  obtain ⟨he, hm⟩ := h
  refine ⟨hm, ?_⟩
  have hst : (readF b).2.c = 0 ∧ b.length ≤ (readF b).2.a := by
    unfold endR at he
    split at he
    · simp at he
    · rename_i hn
      exact ⟨he, by have : ¬ ((readF b).2.c = 0 ∧ (readF b).2.a < b.length) := hn; omega⟩
  obtain ⟨hc, ha⟩ := hst
  have hend : b.drop (readF b).2.a = [] := List.drop_eq_nil_of_le ha
  have s0c : (⟨0, 0, 0, 0⟩ : RS).c = 0 := rfl
  obtain ⟨K, hK⟩ : ∃ K, rNum b ⟨0, 0, 0, 0⟩ 1 = K := ⟨_, rfl⟩
  have hk1 : K.2.c = 0 → ∃ n : Nat, K.1 = (n : Int) ∧ K.2.a = 1 ∧ b = digs n 1 ++ b.drop 1 := by
    intro hkc
    rw [← hK] at hkc
    obtain ⟨n, e1, e2, _, e4⟩ := rNum_form (bs := b) (s := ⟨0, 0, 0, 0⟩) (k := 1) rfl hkc
    have e1 : (rNum b ⟨0, 0, 0, 0⟩ 1).1 = (n : Int) := e1
    have e2 : (rNum b ⟨0, 0, 0, 0⟩ 1).2.a = 1 := e2
    rw [hK] at e1 e2
    exact ⟨n, e1, e2, by simpa using e4⟩
  unfold readF at hc ha hm hend ⊢
  simp only [hK] at hc ha hm hend ⊢
  by_cases k1 : K.1 = 1
  · simp only [k1, if_true] at hc ha hm hend ⊢
    obtain ⟨B, hB⟩ : ∃ B, rNum b K.2 8 = B := ⟨_, rfl⟩
    simp only [hB] at hc ha hm hend ⊢
    obtain ⟨Q, hQ⟩ : ∃ Q, rNum b B.2 8 = Q := ⟨_, rfl⟩
    simp only [hQ] at hc ha hm hend ⊢
    obtain ⟨C, hC⟩ : ∃ C, rCnt b Q.2 8 = C := ⟨_, rfl⟩
    simp only [hC] at hc ha hm hend ⊢
    have cC : C.2.c = 0 := by
      cases hh : decide (C.2.c = 0) with
      | true => exact of_decide_eq_true hh
      | false => rw [rTxts_stuck (of_decide_eq_false hh)] at hc; exact hc
    have cQ : Q.2.c = 0 := by
      cases hh : decide (Q.2.c = 0) with
      | true => exact of_decide_eq_true hh
      | false => have := rCnt_stuck (bs := b) (k := 8) (of_decide_eq_false hh); rw [hC] at this; rw [this] at cC; exact cC
    have cB : B.2.c = 0 := by
      cases hh : decide (B.2.c = 0) with
      | true => exact of_decide_eq_true hh
      | false => have := rNum_stuck (bs := b) (k := 8) (of_decide_eq_false hh); rw [hQ] at this; rw [this] at cQ; exact cQ
    have cK : K.2.c = 0 := by
      cases hh : decide (K.2.c = 0) with
      | true => exact of_decide_eq_true hh
      | false => have := rNum_stuck (bs := b) (k := 8) (of_decide_eq_false hh); rw [hB] at this; rw [this] at cB; exact cB
    obtain ⟨n1, a1, a2, a3⟩ := hk1 cK
    obtain ⟨n2, b1, b2, b3, b4⟩ := rNum_form (bs := b) (s := K.2) (k := 8) cK (by show (rNum b K.2 8).2.c = 0; rw [hB]; exact cB)
    have b1 : (rNum b K.2 8).1 = (n2 : Int) := b1
    have b2 : (rNum b K.2 8).2.a = K.2.a + 8 := b2
    rw [hB] at b1 b2
    obtain ⟨n3, c1, c2, c3, c4⟩ := rNum_form (bs := b) (s := B.2) (k := 8) cB (by show (rNum b B.2 8).2.c = 0; rw [hQ]; exact cQ)
    have c1 : (rNum b B.2 8).1 = (n3 : Int) := c1
    have c2 : (rNum b B.2 8).2.a = B.2.a + 8 := c2
    rw [hQ] at c1 c2
    obtain ⟨n4, d1, d2, d3, d4⟩ := rCnt_form (bs := b) (s := Q.2) (most := 8) cQ (by show (rCnt b Q.2 8).2.c = 0; rw [hC]; exact cC)
    have d1 : (rCnt b Q.2 8).1 = (n4 : Int) := d1
    have d2 : (rCnt b Q.2 8).2.a = Q.2.a + 2 := d2
    rw [hC] at d1 d2
    rw [d1, Int.toNat_natCast] at hc ha hend ⊢
    obtain ⟨f1, f2, f3⟩ := rTxts_form (bs := b) (s := C.2) (by omega) n4 hc
    rw [hend, List.append_nil] at f3
    have hl := rTxts_length b 256 C.2 n4
    unfold Fm.raw
    simp only [if_true]
    rw [b1, c1, Int.toNat_natCast, Int.toNat_natCast, hl, ← f3, d2, ← d4, c2, ← c4, b2, ← b4, a2]
    have e1 : n1 = 1 := by rw [k1] at a1; omega
    subst e1
    exact a3.symm
  · simp only [k1, if_false] at hc ha hm hend ⊢
    by_cases k2 : K.1 = 2 ∨ K.1 = 3
    · simp only [k2, if_true] at hc ha hm hend ⊢
      obtain ⟨Q, hQ⟩ : ∃ Q, rNum b K.2 8 = Q := ⟨_, rfl⟩
      simp only [hQ] at hc ha hm hend ⊢
      have cK : K.2.c = 0 := by
        cases hh : decide (K.2.c = 0) with
        | true => exact of_decide_eq_true hh
        | false => have := rNum_stuck (bs := b) (k := 8) (of_decide_eq_false hh); rw [hQ] at this; rw [this] at hc; exact hc
      obtain ⟨n1, a1, a2, a3⟩ := hk1 cK
      obtain ⟨n3, c1, c2, c3, c4⟩ := rNum_form (bs := b) (s := K.2) (k := 8) cK (by show (rNum b K.2 8).2.c = 0; rw [hQ]; exact hc)
      have c1 : (rNum b K.2 8).1 = (n3 : Int) := c1
      have c2 : (rNum b K.2 8).2.a = K.2.a + 8 := c2
      rw [hQ] at c1 c2
      rw [c2] at hend
      rw [hend, List.append_nil, a2] at c4
      unfold Fm.raw
      simp only
      rw [if_neg k1, if_neg (by omega), c1, Int.toNat_natCast, a1, Int.toNat_natCast, ← c4]
      exact a3.symm
    · simp only [k2, if_false] at hc ha hm hend ⊢
      by_cases k4 : K.1 = 4
      · simp only [k4, if_true] at hc ha hm hend ⊢
        obtain ⟨T, hT⟩ : ∃ T, rTxt b K.2 16100 = T := ⟨_, rfl⟩
        simp only [hT] at hc ha hm hend ⊢
        have cK : K.2.c = 0 := by
          cases hh : decide (K.2.c = 0) with
          | true => exact of_decide_eq_true hh
          | false => have := rTxt_stuck (bs := b) (k := 16100) (of_decide_eq_false hh); rw [hT] at this; rw [this] at hc; exact hc
        obtain ⟨n1, a1, a2, a3⟩ := hk1 cK
        obtain ⟨c1, c2, c3⟩ := rTxt_form (bs := b) (s := K.2) (most := 16100) cK (by show (rTxt b K.2 16100).2.c = 0; rw [hT]; exact hc)
        have c3 : b.drop K.2.a = (digs (rTxt b K.2 16100).1.length 2 ++ (rTxt b K.2 16100).1) ++ b.drop (rTxt b K.2 16100).2.a := c3
        rw [hT, hend, List.append_nil, a2] at c3
        unfold Fm.raw
        simp only
        rw [if_neg (by omega), if_pos trivial, ← c3]
        have e1 : n1 = 4 := by rw [k4] at a1; omega
        subst e1
        exact a3.symm
      · exfalso
        simp only [k4, if_false] at hm
        unfold Fm.may at hm
        simp only at hm
        rw [if_neg k1, if_neg (by omega), if_neg (by omega), if_neg k4] at hm
        cases hm

end Go.Proofs.YtndiohojgpdkgaaDoor

