import Derived.Test.YtndiohojgpdkgaaDoorZFA
import Derived.Test.YtndiohojgpdkgaaDoorZF7
/- A frame's bytes, read: what was made is parsed, what is parsed was so made. Mathematics. -/
namespace Go.Proofs.YtndiohojgpdkgaaDoor
open Go.RowKit

theorem num_foldZ (l : List UInt8) : ∀ a : Nat, l.foldl (fun n b => n * 256 + b.toNat) a = a * 256 ^ l.length + num l := by
  induction l with
  | nil => intro a; simp [num]
  | cons b r ih =>
    intro a
    have h0 : num (b :: r) = r.foldl (fun n b => n * 256 + b.toNat) b.toNat := by simp [num]
    rw [List.foldl_cons, ih, h0, ih, List.length_cons, Nat.pow_succ, Nat.add_mul, Nat.mul_assoc, Nat.mul_comm 256 (256 ^ r.length)]
    omega
theorem num_consZ (b : UInt8) (l : List UInt8) : num (b :: l) = b.toNat * 256 ^ l.length + num l := by
  rw [← num_foldZ l b.toNat]
  simp [num]
theorem byteAt_highZ (c m k i : Nat) (h : i < k) : byteAt (c * 256 ^ k + m) i = byteAt m i := by
  unfold byteAt
  congr 1
  obtain ⟨d, rfl⟩ : ∃ d, k = i + 1 + d := ⟨k - (i + 1), by omega⟩
  have e : c * 256 ^ (i + 1 + d) = 256 ^ i * (256 * (c * 256 ^ d)) := by
    rw [Nat.pow_add, Nat.pow_succ]
    simp [Nat.mul_comm, Nat.mul_left_comm, Nat.mul_assoc]
  rw [e, Nat.mul_add_div (Nat.pow_pos (by omega)), Nat.mul_add_mod]
theorem digs_highZ (c m k : Nat) : ∀ j, j ≤ k → digs (c * 256 ^ k + m) j = digs m j
  | 0, _ => rfl
  | j + 1, h => by rw [digs, digs, digs_highZ c m k j (by omega), byteAt_highZ c m k j (by omega)]
theorem digs_numZ (l : List UInt8) : digs (num l) l.length = l := by
  induction l with
  | nil => rfl
  | cons b l ih =>
    rw [List.length_cons, digs, num_consZ, digs_highZ _ _ _ _ (Nat.le_refl _), ih]
    congr 1
    unfold byteAt
    have hp : 0 < 256 ^ l.length := Nat.pow_pos (by omega)
    rw [Nat.mul_comm, Nat.mul_add_div hp, Nat.div_eq_of_lt (num_lt l), Nat.add_zero, Nat.mod_eq_of_lt b.toNat_lt]
    simp

/-- There. -/
theorem rNum_back {bs tail : List UInt8} {s : RS} {n k : Nat} (hk : 1 ≤ k ∧ k ≤ 8) (hn : n < 256 ^ k) (hn2 : n ≤ 9223372036854775807) (hc : s.c = 0) (h : bs.drop s.a = digs n k ++ tail) : rNum bs s (k : Int) = ((n : Int), ⟨s.a + k, s.a, 0, s.f⟩) := by
  have hl : k ≤ bs.length - s.a := by
    have := congrArg List.length h
    rw [List.length_drop, List.length_append, digs_length] at this
    omega
  have ht : (bs.drop s.a).take k = digs n k := by rw [h]; have := List.take_left (l₁ := digs n k) (l₂ := tail); rw [digs_length] at this; exact this
  have ho : oNumber bs s.a (k : Int) = .ok (.int .i64 (n : Int), s.a + k) := by
    unfold oNumber
    rw [Int.toNat_natCast, ht, digs_num_lt hn, if_neg (by omega), if_neg (by omega), if_neg (by omega)]
  unfold rNum stepR
  rw [if_pos hc, ho]
  rfl
theorem rCnt_back {bs tail : List UInt8} {s : RS} {n most : Nat} (hn : n ≤ most) (hn2 : n ≤ 65535) (hc : s.c = 0) (h : bs.drop s.a = digs n 2 ++ tail) : rCnt bs s (most : Int) = ((n : Int), ⟨s.a + 2, s.a, 0, s.f⟩) := by
  have hl : 2 ≤ bs.length - s.a := by
    have := congrArg List.length h
    rw [List.length_drop, List.length_append, digs_length] at this
    omega
  have ht : (bs.drop s.a).take 2 = digs n 2 := by rw [h]; have := List.take_left (l₁ := digs n 2) (l₂ := tail); rw [digs_length] at this; exact this
  have ho : oCount bs s.a (most : Int) = .ok (.int .i64 (n : Int), s.a + 2) := by
    unfold oCount
    rw [ht, digs_num_lt (by omega), if_neg (by omega), if_neg (by omega), if_neg (by omega)]
  unfold rCnt stepR
  rw [if_pos hc, ho]
  rfl
theorem rTxt_back {bs tail b : List UInt8} {s : RS} {most : Nat} (hn : b.length ≤ most) (hn2 : b.length ≤ 65535) (hc : s.c = 0) (h : bs.drop s.a = (digs b.length 2 ++ b) ++ tail) : rTxt bs s (most : Int) = (b, ⟨s.a + (digs b.length 2 ++ b).length, s.a, 0, s.f⟩) := by
  have hl : 2 + b.length ≤ bs.length - s.a := by
    have := congrArg List.length h
    rw [List.length_drop, List.length_append, List.length_append, digs_length] at this
    omega
  have ht : (bs.drop s.a).take 2 = digs b.length 2 := by
    rw [h, List.append_assoc]
    have := List.take_left (l₁ := digs b.length 2) (l₂ := b ++ tail); rw [digs_length] at this; exact this
  have hd : bs.drop (s.a + 2) = b ++ tail := by
    rw [← List.drop_drop, h, List.append_assoc]
    have := List.drop_left (l₁ := digs b.length 2) (l₂ := b ++ tail); rw [digs_length] at this; exact this
  have ho : oText bs s.a (most : Int) = .ok (.string ⟨b.toArray⟩, s.a + 2 + b.length) := by
    unfold oText
    rw [ht, digs_num_lt (by omega), hd, List.take_left, if_neg (by omega), if_neg (by omega), if_neg (by omega), if_neg (by omega)]
  unfold rTxt stepR
  rw [if_pos hc, ho]
  simp only [strOf, List.length_append, digs_length, Nat.add_assoc]
theorem rTxts_back {bs tail : List UInt8} {s : RS} (l : List (List UInt8)) (hl : ∀ b ∈ l, b.length ≤ 256) (hc : s.c = 0) (h : bs.drop s.a = textsF l ++ tail) : ∀ n, n ≤ l.length → ∃ l', rTxts bs 256 s n = (l.take n, ⟨s.a + (textsF (l.take n)).length, l', 0, s.f⟩) := by
  intro n
  induction n with
  | zero => intro _; exact ⟨s.l, by obtain ⟨a, l0, c, f⟩ := s; simp only at hc; subst hc; simp [rTxts, textsF]⟩
  | succ n ih =>
    intro hn
    obtain ⟨l', e⟩ := ih (by omega)
    have hb := hl l[n] (List.getElem_mem (by omega))
    have e2 := textsF_snoc l n (by omega)
    have hsplit : textsF l = textsF (l.take (n + 1)) ++ textsF (l.drop (n + 1)) := by
      unfold textsF
      rw [← List.flatMap_append, List.take_append_drop]
    have hd : bs.drop (s.a + (textsF (l.take n)).length) = (digs l[n].length 2 ++ l[n]) ++ (textsF (l.drop (n + 1)) ++ tail) := by
      rw [← List.drop_drop, h, hsplit, e2, List.append_assoc, List.append_assoc, List.drop_left]
    have h3 := rTxt_back (bs := bs) (s := ⟨s.a + (textsF (l.take n)).length, l', 0, s.f⟩) (most := 256) hb (by omega) rfl hd
    refine ⟨s.a + (textsF (l.take n)).length, ?_⟩
    have e4 : rTxts bs 256 s (n + 1) = ((rTxts bs 256 s n).1 ++ [(rTxt bs (rTxts bs 256 s n).2 256).1], (rTxt bs (rTxts bs 256 s n).2 256).2) := rfl
    rw [e4, e]
    simp only
    have h3' : rTxt bs ⟨s.a + (textsF (l.take n)).length, l', 0, s.f⟩ 256 = (l[n], ⟨s.a + (textsF (l.take n)).length + (digs l[n].length 2 ++ l[n]).length, s.a + (textsF (l.take n)).length, 0, s.f⟩) := h3
    rw [h3', e2, List.take_succ_eq_append_getElem (by omega)]
    have e5 : (textsF (l.take n) ++ (digs l[n].length 2 ++ l[n])).length = (textsF (l.take n)).length + (digs l[n].length 2 ++ l[n]).length := List.length_append
    rw [e5, Nat.add_assoc]

theorem pow8 {n : Nat} (h : n ≤ 4294967296) : n < 256 ^ 8 := Nat.lt_of_le_of_lt h (by decide)

theorem read_back {f : Fm} (h : f.may = true) : (readF f.raw).1 = f ∧ readOk f.raw = true := by
  have key : ∃ st : RS, readF f.raw = (f, st) ∧ st.c = 0 ∧ st.a = f.raw.length := by
    obtain ⟨kd, ba, sq, its, bts⟩ := f
    rcases Fm.may_kind h with hk | hk | hk
    · obtain ⟨a1, a2, a3, a4, a5, a6, a7⟩ := Fm.may_one h hk
      simp only at hk a1 a2 a3 a4 a5 a6 a7
      subst hk
      have hb0 : bts = [] := List.eq_nil_of_length_eq_zero a1
      subst hb0
      obtain ⟨B, rfl⟩ := Int.eq_ofNat_of_zero_le (show 0 ≤ ba by omega)
      obtain ⟨Q, rfl⟩ := Int.eq_ofNat_of_zero_le (show 0 ≤ sq by omega)
      have hraw : (Fm.mk 1 B Q its []).raw = digs 1 1 ++ (digs B 8 ++ (digs Q 8 ++ (digs its.length 2 ++ textsF its))) := by unfold Fm.raw; simp
      rw [hraw]
      have k1 := rNum_back (bs := digs 1 1 ++ (digs B 8 ++ (digs Q 8 ++ (digs its.length 2 ++ textsF its)))) (s := ⟨0, 0, 0, 0⟩) (n := 1) (k := 1) (by omega) (by decide) (by omega) rfl (by rw [List.drop_zero])
      have d1 : (digs 1 1 ++ (digs B 8 ++ (digs Q 8 ++ (digs its.length 2 ++ textsF its)))).drop 1 = digs B 8 ++ (digs Q 8 ++ (digs its.length 2 ++ textsF its)) := by
        have := List.drop_left (l₁ := digs 1 1) (l₂ := digs B 8 ++ (digs Q 8 ++ (digs its.length 2 ++ textsF its))); rw [digs_length] at this; exact this
      have d9 : (digs 1 1 ++ (digs B 8 ++ (digs Q 8 ++ (digs its.length 2 ++ textsF its)))).drop 9 = digs Q 8 ++ (digs its.length 2 ++ textsF its) := by
        rw [show 9 = 1 + 8 by rfl, ← List.drop_drop, d1]
        have := List.drop_left (l₁ := digs B 8) (l₂ := digs Q 8 ++ (digs its.length 2 ++ textsF its)); rw [digs_length] at this; exact this
      have d17 : (digs 1 1 ++ (digs B 8 ++ (digs Q 8 ++ (digs its.length 2 ++ textsF its)))).drop 17 = digs its.length 2 ++ textsF its := by
        rw [show 17 = 9 + 8 by rfl, ← List.drop_drop, d9]
        have := List.drop_left (l₁ := digs Q 8) (l₂ := digs its.length 2 ++ textsF its); rw [digs_length] at this; exact this
      have d19 : (digs 1 1 ++ (digs B 8 ++ (digs Q 8 ++ (digs its.length 2 ++ textsF its)))).drop 19 = textsF its ++ [] := by
        rw [show 19 = 17 + 2 by rfl, ← List.drop_drop, d17, List.append_nil]
        have := List.drop_left (l₁ := digs its.length 2) (l₂ := textsF its); rw [digs_length] at this; exact this
      have hlen : (digs 1 1 ++ (digs B 8 ++ (digs Q 8 ++ (digs its.length 2 ++ textsF its)))).length = 19 + (textsF its).length := by simp [digs_length]; omega
      generalize hR : digs 1 1 ++ (digs B 8 ++ (digs Q 8 ++ (digs its.length 2 ++ textsF its))) = R at *
      have k2 := rNum_back (bs := R) (s := ⟨1, 0, 0, 0⟩) (n := B) (k := 8) (by omega) (pow8 (by omega)) (by omega) rfl d1
      have k3 := rNum_back (bs := R) (s := ⟨9, 1, 0, 0⟩) (n := Q) (k := 8) (by omega) (pow8 (by omega)) (by omega) rfl d9
      have k4 := rCnt_back (bs := R) (s := ⟨17, 9, 0, 0⟩) (n := its.length) (most := 8) (by omega) (by omega) rfl d17
      obtain ⟨l', k5⟩ := rTxts_back (bs := R) (s := ⟨19, 17, 0, 0⟩) its a7 rfl d19 its.length (Nat.le_refl _)
      rw [List.take_length] at k5
      refine ⟨⟨19 + (textsF its).length, l', 0, 0⟩, ?_, rfl, hlen.symm⟩
      unfold readF
      have k1' : rNum R ⟨0, 0, 0, 0⟩ 1 = (1, ⟨1, 0, 0, 0⟩) := k1
      have k2' : rNum R ⟨1, 0, 0, 0⟩ 8 = ((B : Int), ⟨9, 1, 0, 0⟩) := k2
      have k3' : rNum R ⟨9, 1, 0, 0⟩ 8 = ((Q : Int), ⟨17, 9, 0, 0⟩) := k3
      have k4' : rCnt R ⟨17, 9, 0, 0⟩ 8 = ((its.length : Int), ⟨19, 17, 0, 0⟩) := k4
      simp only [k1', k2', k3', k4', Int.toNat_natCast, k5]
      rfl
    · obtain ⟨a1, a2, a3, a4, a5⟩ := Fm.may_two h hk
      simp only at hk a1 a2 a3 a4 a5
      have hi0 : its = [] := List.eq_nil_of_length_eq_zero a2
      have hb0 : bts = [] := List.eq_nil_of_length_eq_zero a3
      subst hi0 hb0 a1
      obtain ⟨Q, rfl⟩ := Int.eq_ofNat_of_zero_le a4
      obtain ⟨K, rfl⟩ := Int.eq_ofNat_of_zero_le (show 0 ≤ kd by omega)
      have hraw : (Fm.mk K 0 Q [] []).raw = digs K 1 ++ (digs Q 8 ++ []) := by
        unfold Fm.raw
        simp only
        rw [if_neg (by omega), if_neg (by omega)]
        simp
      rw [hraw]
      have k1 := rNum_back (bs := digs K 1 ++ (digs Q 8 ++ [])) (s := ⟨0, 0, 0, 0⟩) (n := K) (k := 1) (by omega) (by omega) (by omega) rfl (by rw [List.drop_zero])
      have d1 : (digs K 1 ++ (digs Q 8 ++ [])).drop 1 = digs Q 8 ++ [] := by
        have := List.drop_left (l₁ := digs K 1) (l₂ := digs Q 8 ++ []); rw [digs_length] at this; exact this
      have hlen : (digs K 1 ++ (digs Q 8 ++ [])).length = 9 := by simp [digs_length]
      generalize hR : digs K 1 ++ (digs Q 8 ++ []) = R at *
      have k2 := rNum_back (bs := R) (s := ⟨1, 0, 0, 0⟩) (n := Q) (k := 8) (by omega) (pow8 (by omega)) (by omega) rfl d1
      refine ⟨⟨9, 1, 0, 0⟩, ?_, rfl, hlen.symm⟩
      unfold readF
      have k1' : rNum R ⟨0, 0, 0, 0⟩ 1 = ((K : Int), ⟨1, 0, 0, 0⟩) := k1
      have k2' : rNum R ⟨1, 0, 0, 0⟩ 8 = ((Q : Int), ⟨9, 1, 0, 0⟩) := k2
      simp only [k1']
      rw [if_neg (by omega), if_pos hk, k2']
    · obtain ⟨a1, a2, a3, a4⟩ := Fm.may_four h hk
      simp only at hk a1 a2 a3 a4
      subst hk a1 a2
      have hi0 : its = [] := List.eq_nil_of_length_eq_zero a3
      subst hi0
      have hraw : (Fm.mk 4 0 0 [] bts).raw = digs 4 1 ++ ((digs bts.length 2 ++ bts) ++ []) := by
        unfold Fm.raw
        simp
      rw [hraw]
      have k1 := rNum_back (bs := digs 4 1 ++ ((digs bts.length 2 ++ bts) ++ [])) (s := ⟨0, 0, 0, 0⟩) (n := 4) (k := 1) (by omega) (by omega) (by omega) rfl (by rw [List.drop_zero])
      have d1 : (digs 4 1 ++ ((digs bts.length 2 ++ bts) ++ [])).drop 1 = (digs bts.length 2 ++ bts) ++ [] := by
        have := List.drop_left (l₁ := digs 4 1) (l₂ := (digs bts.length 2 ++ bts) ++ []); rw [digs_length] at this; exact this
      have hlen : (digs 4 1 ++ ((digs bts.length 2 ++ bts) ++ [])).length = 1 + (digs bts.length 2 ++ bts).length := by simp [digs_length]
      generalize hR : digs 4 1 ++ ((digs bts.length 2 ++ bts) ++ []) = R at *
      have k2 := rTxt_back (bs := R) (s := ⟨1, 0, 0, 0⟩) (b := bts) (most := 16100) (by omega) (by omega) rfl d1
      refine ⟨⟨1 + (digs bts.length 2 ++ bts).length, 1, 0, 0⟩, ?_, rfl, hlen.symm⟩
      unfold readF
      have k1' : rNum R ⟨0, 0, 0, 0⟩ 1 = (4, ⟨1, 0, 0, 0⟩) := k1
      have k2' : rTxt R ⟨1, 0, 0, 0⟩ 16100 = (bts, ⟨1 + (digs bts.length 2 ++ bts).length, 1, 0, 0⟩) := k2
      simp only [k1', k2']
      rfl
  obtain ⟨st, e, h1, h2⟩ := key
  refine ⟨by rw [e], ?_⟩
  unfold readOk endR
  rw [e]
  simp only
  rw [if_neg (by omega), h1, h]
  rfl

end Go.Proofs.YtndiohojgpdkgaaDoor

