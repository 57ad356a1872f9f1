import Derived.Test.YtkjoojamkbpfcabGreatK2
/- What is written is read back, piece by piece: kinds, records. No function of the program is named here. -/
namespace Go.Proofs.YtkjoojamkbpfcabGreat
open Go.RowKit

/-- A value of a kind that comes back as it was. -/
def Kd.fits : Kd → Value → Prop
  | .num _, .int .i64 n => n ≤ 9223372036854775807
  | .int, .int .i64 n => -9223372036854775808 ≤ n ∧ n ≤ 9223372036854775807
  | .float, .float .f64 b => b < 18446744073709551616 ∧ nanB b = false
  | .bool, .bool _ => True
  | .fix _, .string _ => True
  | _, _ => False

theorem kd_back {bs ms tail : List UInt8} {a : Nat} (k : Kd) (v : Value) (hv : k.fits v) (hq : k.w v = some ms) (ha : a ≤ bs.length) (h : bs.drop a = ms ++ tail) : k.o bs a = .ok (v, a + ms.length) := by
  match k, v, hv, hq with
  | .num m, .int .i64 n, hv, hq => exact back_number hv hq ha h
  | .int, .int .i64 n, hv, hq => exact back_int hv.1 hv.2 hq ha h
  | .float, .float .f64 b, hv, hq =>
    have := back_float hv.1 hq ha h
    rw [hv.2] at this
    exact this
  | .bool, .bool b, _, hq => exact back_bool hq ha h
  | .fix m, .string s, _, hq => exact back_fixed hq ha h

theorem rd_back {bs ms tail : List UInt8} {s : RS} (k : Kd) (v : Value) (hv : k.fits v) (hq : k.w v = some ms) (hc : s.c = 0) (ha : s.a ≤ bs.length) (h : bs.drop s.a = ms ++ tail) : k.rd bs s = (v, ⟨s.a + ms.length, s.a, 0, s.f⟩) := by
  unfold Kd.rd stepR
  rw [if_pos hc, kd_back k v hv hq ha h]

def FitsL : List Kd → List Value → Prop
  | [], [] => True
  | k :: ks, v :: vs => k.fits v ∧ FitsL ks vs
  | _, _ => False

theorem stepW_split {o p : Option (List UInt8)} {ms : List UInt8} (h : stepW o p = some ms) : ∃ x y, o = some x ∧ p = some y ∧ ms = x ++ y := by
  cases o with
  | none => cases p <;> simp [stepW] at h
  | some x =>
    cases p with
    | none => simp [stepW] at h
    | some y => exact ⟨x, y, rfl, rfl, by simpa [stepW] using h.symm⟩

theorem rdL_back {bs tail : List UInt8} : ∀ (ks : List Kd) (vs : List Value) (ms : List UInt8) (s : RS), FitsL ks vs → wrL ks vs = some ms → s.c = 0 → s.a ≤ bs.length → bs.drop s.a = ms ++ tail → ∃ l', rdL bs ks s = (vs, ⟨s.a + ms.length, l', 0, s.f⟩)
  | [], [], ms, s, _, hw, hc, ha, h => by
    have e : ms = [] := by simpa [wrL] using hw.symm
    subst e
    exact ⟨s.l, by cases s; simp only at hc; subst hc; rfl⟩
  | k :: ks, v :: vs, ms, s, hf, hw, hc, ha, h => by
    obtain ⟨x, y, h1, h2, rfl⟩ := stepW_split (show stepW (k.w v) (wrL ks vs) = some ms from hw)
    have hr := rd_back (tail := y ++ tail) k v hf.1 h1 hc ha (by rw [h, List.append_assoc])
    have hl : (bs.drop s.a).length = (x ++ y ++ tail).length := by rw [h]
    simp only [List.length_drop, List.length_append] at hl
    have hd : bs.drop (s.a + x.length) = y ++ tail := by
      rw [← List.drop_drop, h, List.append_assoc, List.drop_left]
    obtain ⟨l', e⟩ := rdL_back ks vs y ⟨s.a + x.length, s.a, 0, s.f⟩ hf.2 h2 rfl (by simp only; omega) hd
    refine ⟨l', ?_⟩
    simp only [rdL, hr, e, List.length_append, Nat.add_assoc]
  | [], _ :: _, _, _, hf, _, _, _, _ => hf.elim
  | _ :: _, [], _, _, hf, _, _, _, _ => hf.elim

theorem rdN_back {bs tail : List UInt8} (ks : List Kd) : ∀ (rs : List (List Value)) (ms : List UInt8) (s : RS), (∀ r ∈ rs, FitsL ks r) → wrN ks rs = some ms → s.c = 0 → s.a ≤ bs.length → bs.drop s.a = ms ++ tail → ∃ l', rdN bs ks rs.length s = (rs, ⟨s.a + ms.length, l', 0, s.f⟩)
  | [], ms, s, _, hw, hc, ha, h => by
    have e : ms = [] := by simpa [wrN] using hw.symm
    subst e
    exact ⟨s.l, by cases s; simp only at hc; subst hc; rfl⟩
  | r :: rs, ms, s, hf, hw, hc, ha, h => by
    obtain ⟨x, y, h1, h2, rfl⟩ := stepW_split (show stepW (wrL ks r) (wrN ks rs) = some ms from hw)
    obtain ⟨l1, hr⟩ := rdL_back (tail := y ++ tail) ks r x s (hf r (List.mem_cons_self ..)) h1 hc ha (by rw [h, List.append_assoc])
    have hl : (bs.drop s.a).length = (x ++ y ++ tail).length := by rw [h]
    simp only [List.length_drop, List.length_append] at hl
    have hd : bs.drop (s.a + x.length) = y ++ tail := by
      rw [← List.drop_drop, h, List.append_assoc, List.drop_left]
    obtain ⟨l', e⟩ := rdN_back ks rs y ⟨s.a + x.length, l1, 0, s.f⟩ (fun q hq => hf q (List.mem_cons_of_mem _ hq)) h2 rfl (by simp only; omega) hd
    refine ⟨l', ?_⟩
    simp only [rdN, List.length_cons, hr, e, List.length_append, Nat.add_assoc]

theorem count_back {bs ms tail : List UInt8} {a : Nat} {n most : Int} (hq : wCount n = some ms) (hm : n ≤ most) (ha : a ≤ bs.length) (h : bs.drop a = ms ++ tail) : oCount bs a most = .ok (.int .i64 n, a + ms.length) := by
  have e := back_count hq ha h
  unfold oCount at e ⊢
  split at e
  · cases e
  split at e
  · cases e
  split at e
  · cases e
  · rename_i h1 h2 h3
    rw [if_neg (by omega), if_neg h2, if_neg (by omega)]
    exact e

theorem rdM_back {bs tail : List UInt8} (ks : List Kd) (most : Nat) (rs : List (List Value)) (ms : List UInt8) (s : RS) (hf : ∀ r ∈ rs, FitsL ks r) (hm : rs.length ≤ most) (hw : wrM ks rs = some ms) (hc : s.c = 0) (ha : s.a ≤ bs.length) (h : bs.drop s.a = ms ++ tail) : ∃ l', rdM bs most ks s = (rs, ⟨s.a + ms.length, l', 0, s.f⟩) := by
  obtain ⟨x, y, h1, h2, rfl⟩ := stepW_split (show stepW (wCount (rs.length : Int)) (wrN ks rs) = some ms from hw)
  have hr := count_back (most := (most : Int)) h1 (by omega) ha (by rw [h, List.append_assoc])
  have hC : cntR bs most s = (.int .i64 (rs.length : Int), ⟨s.a + x.length, s.a, 0, s.f⟩) := by
    unfold cntR stepR
    rw [if_pos hc, hr]
  have hn : cnt bs most s = rs.length := by
    unfold cnt
    rw [hC]
    simp
  have hl : (bs.drop s.a).length = (x ++ y ++ tail).length := by rw [h]
  simp only [List.length_drop, List.length_append] at hl
  have hd : bs.drop (s.a + x.length) = y ++ tail := by
    rw [← List.drop_drop, h, List.append_assoc, List.drop_left]
  obtain ⟨l', e⟩ := rdN_back ks rs y ⟨s.a + x.length, s.a, 0, s.f⟩ hf h2 rfl (by simp only; omega) hd
  refine ⟨l', ?_⟩
  unfold rdM
  rw [hn, hC, e, List.length_append, Nat.add_assoc]

end Go.Proofs.YtkjoojamkbpfcabGreat

/- Too few bytes: the fault is 10. No function of the program is named here. -/
namespace Go.Proofs.YtkjoojamkbpfcabGreat
open Go.RowKit

theorem kd_short {bs ms : List UInt8} {a : Nat} (k : Kd) (v : Value) (hq : k.w v = some ms) (h : bs.length < a + ms.length) : k.o bs a = .error 10 := by
  have hl := Kd.w_length hq
  match k, v, hq with
  | .num m, .int .i64 n, hq =>
    have hq' : wNumber n m = some ms := hq
    unfold wNumber at hq'
    split at hq'
    · rename_i hc
      show oNumber bs a m = .error 10
      simp only [Kd.n] at hl
      unfold oNumber
      rw [if_neg (by omega), if_pos (by omega)]
    · cases hq'
  | .int, .int .i64 n, hq =>
    simp only [Kd.n] at hl
    show oInt bs a = .error 10
    unfold oInt
    rw [if_pos (by omega)]
  | .float, .float .f64 b, hq =>
    simp only [Kd.n] at hl
    show oFloat bs a = .error 10
    unfold oFloat
    rw [if_pos (by omega)]
  | .bool, .bool b, hq =>
    simp only [Kd.n] at hl
    show oBool bs a = .error 10
    unfold oBool
    rw [if_pos (by omega)]
  | .fix m, .string s, hq =>
    have hq' : wFixed s m = some ms := hq
    unfold wFixed at hq'
    split at hq'
    · rename_i hc
      show oFixed bs a m = .error 10
      simp only [Kd.n] at hl
      unfold oFixed
      rw [if_neg (by omega), if_pos (by omega)]
    · cases hq'

theorem rdL_stuck {bs : List UInt8} : ∀ (ks : List Kd) (s : RS), s.c ≠ 0 → (rdL bs ks s).2 = s
  | [], _, _ => rfl
  | k :: ks, s, h => by
    have e : (k.rd bs s).2 = s := by unfold Kd.rd stepR; rw [if_neg h]
    simp only [rdL]
    rw [e]
    exact rdL_stuck ks s h

theorem rdL_short {B tail : List UInt8} {N : Nat} : ∀ (ks : List Kd) (vs : List Value) (ms : List UInt8) (s : RS), FitsL ks vs → wrL ks vs = some ms → s.c = 0 → s.a ≤ N → N ≤ B.length → B.drop s.a = ms ++ tail → N < s.a + ms.length → (rdL (B.take N) ks s).2.c = 10
  | [], [], ms, s, _, hw, hc, ha, hN, h, hs => by
    have e : ms = [] := by simpa [wrL] using hw.symm
    subst e
    simp at hs
    omega
  | k :: ks, v :: vs, ms, s, hf, hw, hc, ha, hN, h, hs => by
    obtain ⟨x, y, h1, h2, rfl⟩ := stepW_split (show stepW (k.w v) (wrL ks vs) = some ms from hw)
    have hlen : (B.take N).length = N := by rw [List.length_take]; omega
    by_cases hx : N < s.a + x.length
    · have e := kd_short (bs := B.take N) (a := s.a) k v h1 (by omega)
      have er : (k.rd (B.take N) s).2.c = 10 := by unfold Kd.rd stepR; rw [if_pos hc, e]
      simp only [rdL]
      rw [rdL_stuck ks _ (by rw [er]; decide), er]
    · have hd0 : (B.take N).drop s.a = x ++ ((y ++ tail).take (N - s.a - x.length)) := by
        rw [List.drop_take, h, List.append_assoc, List.take_append, List.take_of_length_le (by omega)]
      have hr := rd_back k v hf.1 h1 hc (by omega) hd0
      have hd : B.drop (s.a + x.length) = y ++ tail := by
        rw [← List.drop_drop, h, List.append_assoc, List.drop_left]
      rw [List.length_append] at hs
      have e := rdL_short ks vs y ⟨s.a + x.length, s.a, 0, s.f⟩ hf.2 h2 rfl (by simp only; omega) hN hd (by simp only; omega)
      simp only [rdL, hr]
      exact e
  | [], _ :: _, _, _, hf, _, _, _, _, _, _ => hf.elim
  | _ :: _, [], _, _, hf, _, _, _, _, _, _ => hf.elim

theorem rdN_stuck {bs : List UInt8} (ks : List Kd) : ∀ (n : Nat) (s : RS), s.c ≠ 0 → (rdN bs ks n s).2 = s
  | 0, _, _ => rfl
  | n + 1, s, h => by
    simp only [rdN]
    rw [rdL_stuck ks s h]
    exact rdN_stuck ks n s h

theorem rdN_short {B tail : List UInt8} {N : Nat} (ks : List Kd) : ∀ (rs : List (List Value)) (ms : List UInt8) (s : RS), (∀ r ∈ rs, FitsL ks r) → wrN ks rs = some ms → s.c = 0 → s.a ≤ N → N ≤ B.length → B.drop s.a = ms ++ tail → N < s.a + ms.length → (rdN (B.take N) ks rs.length s).2.c = 10
  | [], ms, s, _, hw, hc, ha, hN, h, hs => by
    have e : ms = [] := by simpa [wrN] using hw.symm
    subst e
    simp at hs
    omega
  | r :: rs, ms, s, hf, hw, hc, ha, hN, h, hs => by
    obtain ⟨x, y, h1, h2, rfl⟩ := stepW_split (show stepW (wrL ks r) (wrN ks rs) = some ms from hw)
    have hlen : (B.take N).length = N := by rw [List.length_take]; omega
    by_cases hx : N < s.a + x.length
    · have er := rdL_short (N := N) (tail := y ++ tail) ks r x s (hf r (List.mem_cons_self ..)) h1 hc ha hN (by rw [h, List.append_assoc]) hx
      simp only [rdN, List.length_cons]
      rw [rdN_stuck ks _ _ (by rw [er]; decide), er]
    · have hd0 : (B.take N).drop s.a = x ++ ((y ++ tail).take (N - s.a - x.length)) := by
        rw [List.drop_take, h, List.append_assoc, List.take_append, List.take_of_length_le (by omega)]
      obtain ⟨l', hr⟩ := rdL_back ks r x s (hf r (List.mem_cons_self ..)) h1 hc (by omega) hd0
      have hd : B.drop (s.a + x.length) = y ++ tail := by
        rw [← List.drop_drop, h, List.append_assoc, List.drop_left]
      rw [List.length_append] at hs
      have e := rdN_short ks rs y ⟨s.a + x.length, l', 0, s.f⟩ (fun q hq => hf q (List.mem_cons_of_mem _ hq)) h2 rfl (by simp only; omega) hN hd (by simp only; omega)
      simp only [rdN, List.length_cons, hr]
      exact e

theorem count_short {bs ms : List UInt8} {a : Nat} {n most : Int} (hq : wCount n = some ms) (hm : n ≤ most) (h : bs.length < a + ms.length) : oCount bs a most = .error 10 := by
  unfold wCount at hq
  split at hq
  · rename_i hc
    injection hq with hq
    subst hq
    rw [digs_length] at h
    unfold oCount
    rw [if_neg (by omega), if_pos (by omega)]
  · cases hq

theorem rdM_short {B tail : List UInt8} {N : Nat} (ks : List Kd) (most : Nat) (rs : List (List Value)) (ms : List UInt8) (s : RS) (hf : ∀ r ∈ rs, FitsL ks r) (hm : rs.length ≤ most) (hw : wrM ks rs = some ms) (hc : s.c = 0) (ha : s.a ≤ N) (hN : N ≤ B.length) (h : B.drop s.a = ms ++ tail) (hs : N < s.a + ms.length) : (rdM (B.take N) most ks s).2.c = 10 := by
  obtain ⟨x, y, h1, h2, rfl⟩ := stepW_split (show stepW (wCount (rs.length : Int)) (wrN ks rs) = some ms from hw)
  have hlen : (B.take N).length = N := by rw [List.length_take]; omega
  unfold rdM
  by_cases hx : N < s.a + x.length
  · have e := count_short (bs := B.take N) (a := s.a) (most := (most : Int)) h1 (by omega) (by omega)
    have er : (cntR (B.take N) most s).2.c = 10 := by unfold cntR stepR; rw [if_pos hc, e]
    rw [rdN_stuck ks _ _ (by rw [er]; decide), er]
  · have hd0 : (B.take N).drop s.a = x ++ ((y ++ tail).take (N - s.a - x.length)) := by
      rw [List.drop_take, h, List.append_assoc, List.take_append, List.take_of_length_le (by omega)]
    have hr := count_back (most := (most : Int)) h1 (by omega) (by omega) hd0
    have hC : cntR (B.take N) most s = (.int .i64 (rs.length : Int), ⟨s.a + x.length, s.a, 0, s.f⟩) := by
      unfold cntR stepR
      rw [if_pos hc, hr]
    have hn : cnt (B.take N) most s = rs.length := by
      unfold cnt
      rw [hC]
      simp
    have hd : B.drop (s.a + x.length) = y ++ tail := by
      rw [← List.drop_drop, h, List.append_assoc, List.drop_left]
    rw [List.length_append] at hs
    rw [hn, hC]
    exact rdN_short ks rs y ⟨s.a + x.length, s.a, 0, s.f⟩ hf h2 rfl (by simp only; omega) hN hd (by simp only; omega)

theorem rdM_stuck {bs : List UInt8} (most : Nat) (ks : List Kd) (s : RS) (h : s.c ≠ 0) : (rdM bs most ks s).2 = s := by
  have e : (cntR bs most s).2 = s := by unfold cntR stepR; rw [if_neg h]
  unfold rdM
  rw [e]
  exact rdN_stuck ks _ s h

end Go.Proofs.YtkjoojamkbpfcabGreat

/- What is read with no fault is written back to the same bytes. No function of the program is named here. -/
namespace Go.Proofs.YtkjoojamkbpfcabGreat
open Go.RowKit

theorem kd_err (bs : List UInt8) (a : Nat) (k : Kd) (x : Int) (h : k.o bs a = .error x) : x ≠ 0 := by
  cases k <;> simp only [Kd.o, oNumber, oInt, oFloat, oBool, oFixed] at h
  · split at h
    · injection h with h; omega
    split at h
    · injection h with h; omega
    split at h
    · injection h with h; omega
    · cases h
  · split at h
    · injection h with h; omega
    · cases h
  · split at h
    · injection h with h; omega
    split at h
    · injection h with h; omega
    · cases h
  · split at h
    · injection h with h; omega
    split at h
    · injection h with h; omega
    · cases h
  · split at h
    · injection h with h; omega
    split at h
    · injection h with h; omega
    · cases h

theorem count_err (bs : List UInt8) (a : Nat) (most : Int) (x : Int) (h : oCount bs a most = .error x) : x ≠ 0 := by
  unfold oCount at h
  split at h
  · injection h with h; omega
  split at h
  · injection h with h; omega
  split at h
  · injection h with h; omega
  · cases h

theorem kd_form {bs : List UInt8} {a a' : Nat} {v : Value} (k : Kd) (h : k.o bs a = .ok (v, a')) : k.w v = some ((bs.drop a).take (a' - a)) ∧ a ≤ a' ∧ a' ≤ bs.length := by
  cases k with
  | num m => obtain ⟨n, rfl, _, h1, h2, h3⟩ := form_number h; exact ⟨h1, h2, h3⟩
  | int => obtain ⟨n, rfl, _, h1, h2, h3⟩ := form_int h; exact ⟨h1, h2, h3⟩
  | float => obtain ⟨n, rfl, h1, h2, h3⟩ := form_float h; exact ⟨h1, h2, h3⟩
  | bool => obtain ⟨n, rfl, h1, h2, h3⟩ := form_bool h; exact ⟨h1, h2, h3⟩
  | fix m => obtain ⟨n, rfl, h1, h2, h3, _⟩ := form_fixed h; exact ⟨h1, h2, h3⟩

theorem take_join (l : List UInt8) (a b c : Nat) (h1 : a ≤ b) (h2 : b ≤ c) : (l.drop a).take (b - a) ++ (l.drop b).take (c - b) = (l.drop a).take (c - a) := by
  have e : l.drop b = (l.drop a).drop (b - a) := by rw [List.drop_drop]; congr 1; omega
  rw [e, show c - a = (b - a) + (c - b) by omega, List.take_add]

theorem rd_form {bs : List UInt8} {s : RS} (k : Kd) (hc : (k.rd bs s).2.c = 0) (hs : s.c = 0) : k.w (k.rd bs s).1 = some ((bs.drop s.a).take ((k.rd bs s).2.a - s.a)) ∧ s.a ≤ (k.rd bs s).2.a ∧ (k.rd bs s).2.a ≤ bs.length := by
  unfold Kd.rd stepR at hc ⊢
  rw [if_pos hs] at hc ⊢
  cases ho : k.o bs s.a with
  | ok va =>
    obtain ⟨v, a'⟩ := va
    exact kd_form k ho
  | error x =>
    rw [ho] at hc
    exact absurd hc (kd_err bs s.a k x ho)

theorem rdL_form {bs : List UInt8} : ∀ (ks : List Kd) (s : RS), (rdL bs ks s).2.c = 0 → s.c = 0 → s.a ≤ bs.length → wrL ks (rdL bs ks s).1 = some ((bs.drop s.a).take ((rdL bs ks s).2.a - s.a)) ∧ s.a ≤ (rdL bs ks s).2.a ∧ (rdL bs ks s).2.a ≤ bs.length
  | [], s, _, _, ha => ⟨by simp [rdL, wrL], Nat.le_refl _, ha⟩
  | k :: ks, s, hc, hs, ha => by
    have hk : (k.rd bs s).2.c = 0 := by
      rcases Decidable.em ((k.rd bs s).2.c = 0) with h | h
      · exact h
      · simp only [rdL] at hc
        rw [rdL_stuck ks _ h] at hc
        exact hc
    obtain ⟨f1, f2, f3⟩ := rd_form k hk hs
    simp only [rdL] at hc ⊢
    obtain ⟨g1, g2, g3⟩ := rdL_form ks _ hc hk f3
    refine ⟨?_, by omega, g3⟩
    simp only [wrL]
    rw [f1, g1]
    simp only [stepW]
    rw [take_join _ _ _ _ f2 g2]

theorem rdN_form {bs : List UInt8} (ks : List Kd) : ∀ (n : Nat) (s : RS), (rdN bs ks n s).2.c = 0 → s.c = 0 → s.a ≤ bs.length → wrN ks (rdN bs ks n s).1 = some ((bs.drop s.a).take ((rdN bs ks n s).2.a - s.a)) ∧ s.a ≤ (rdN bs ks n s).2.a ∧ (rdN bs ks n s).2.a ≤ bs.length
  | 0, s, _, _, ha => ⟨by simp [rdN, wrN], Nat.le_refl _, ha⟩
  | n + 1, s, hc, hs, ha => by
    have hk : (rdL bs ks s).2.c = 0 := by
      rcases Decidable.em ((rdL bs ks s).2.c = 0) with h | h
      · exact h
      · simp only [rdN] at hc
        rw [rdN_stuck ks n _ h] at hc
        exact hc
    obtain ⟨f1, f2, f3⟩ := rdL_form ks s hk hs ha
    simp only [rdN] at hc ⊢
    obtain ⟨g1, g2, g3⟩ := rdN_form ks n _ hc hk f3
    refine ⟨?_, by omega, g3⟩
    simp only [wrN]
    rw [f1, g1]
    simp only [stepW]
    rw [take_join _ _ _ _ f2 g2]

end Go.Proofs.YtkjoojamkbpfcabGreat

/- Records as rows of items: pieces and lists. Back, short, form of whole records. No function of the program is named here. -/
namespace Go.Proofs.YtkjoojamkbpfcabGreat
open Go.RowKit

theorem rdM_form {bs : List UInt8} (most : Nat) (ks : List Kd) (s : RS) (hc : (rdM bs most ks s).2.c = 0) (hs : s.c = 0) : wrM ks (rdM bs most ks s).1 = some ((bs.drop s.a).take ((rdM bs most ks s).2.a - s.a)) ∧ s.a ≤ (rdM bs most ks s).2.a ∧ (rdM bs most ks s).2.a ≤ bs.length := by
  have hk : (cntR bs most s).2.c = 0 := by
    rcases Decidable.em ((cntR bs most s).2.c = 0) with h | h
    · exact h
    · unfold rdM at hc
      rw [rdN_stuck ks _ _ h] at hc
      exact hc
  have key : wCount (cnt bs most s : Int) = some ((bs.drop s.a).take ((cntR bs most s).2.a - s.a)) ∧ s.a ≤ (cntR bs most s).2.a ∧ (cntR bs most s).2.a ≤ bs.length := by
    cases ho : oCount bs s.a most with
    | error x =>
      have e : (cntR bs most s).2.c = x := by unfold cntR stepR; rw [if_pos hs, ho]
      exact absurd (e.symm.trans hk) (count_err bs s.a most x ho)
    | ok va =>
      obtain ⟨v, a'⟩ := va
      obtain ⟨n, rfl, _, h1, h2, h3⟩ := form_count ho
      have e : cntR bs most s = (.int .i64 n, ⟨a', s.a, 0, s.f⟩) := by unfold cntR stepR; rw [if_pos hs, ho]
      have hn := (cnt_spec bs most s).1
      rw [e] at hn ⊢
      injection hn with _ hn
      rw [← hn]
      exact ⟨h1, h2, h3⟩
  obtain ⟨k1, k2, k3⟩ := key
  unfold rdM at hc ⊢
  obtain ⟨g1, g2, g3⟩ := rdN_form ks (cnt bs most s) _ hc hk k3
  refine ⟨?_, by omega, g3⟩
  unfold wrM
  rw [rdN_length, k1, g1]
  simp only [stepW]
  rw [take_join _ _ _ _ k2 g2]

/-- A record's items: pieces, one behind another; a list of so many at most. -/
inductive It where
  | l (ks : List Kd)
  | m (most : Nat) (ks : List Kd)
/-- What stands there. -/
inductive Vl where
  | l (vs : List Value)
  | m (rs : List (List Value))

def It.rd (bs : List UInt8) : It → RS → Vl × RS
  | .l ks, s => (.l (rdL bs ks s).1, (rdL bs ks s).2)
  | .m most ks, s => (.m (rdM bs most ks s).1, (rdM bs most ks s).2)
def It.wr : It → Vl → Option (List UInt8)
  | .l ks, .l vs => wrL ks vs
  | .m _ ks, .m rs => wrM ks rs
  | _, _ => none
def It.fits : It → Vl → Prop
  | .l ks, .l vs => FitsL ks vs
  | .m most ks, .m rs => (∀ r ∈ rs, FitsL ks r) ∧ rs.length ≤ most
  | _, _ => False

def rdI (bs : List UInt8) : List It → RS → List Vl × RS
  | [], s => ([], s)
  | i :: is, s => ((i.rd bs s).1 :: (rdI bs is (i.rd bs s).2).1, (rdI bs is (i.rd bs s).2).2)
def wrI : List It → List Vl → Option (List UInt8)
  | [], [] => some []
  | i :: is, v :: vs => stepW (i.wr v) (wrI is vs)
  | _, _ => none
def FitsI : List It → List Vl → Prop
  | [], [] => True
  | i :: is, v :: vs => i.fits v ∧ FitsI is vs
  | _, _ => False

theorem it_back {bs ms tail : List UInt8} {s : RS} (i : It) (v : Vl) (hv : i.fits v) (hq : i.wr v = some ms) (hc : s.c = 0) (ha : s.a ≤ bs.length) (h : bs.drop s.a = ms ++ tail) : ∃ l', i.rd bs s = (v, ⟨s.a + ms.length, l', 0, s.f⟩) := by
  match i, v, hv, hq with
  | .l ks, .l vs, hv, hq =>
    obtain ⟨l', e⟩ := rdL_back ks vs ms s hv hq hc ha h
    exact ⟨l', by simp only [It.rd, e]⟩
  | .m most ks, .m rs, hv, hq =>
    obtain ⟨l', e⟩ := rdM_back ks most rs ms s hv.1 hv.2 hq hc ha h
    exact ⟨l', by simp only [It.rd, e]⟩

theorem it_stuck {bs : List UInt8} (i : It) (s : RS) (h : s.c ≠ 0) : (i.rd bs s).2 = s := by
  cases i with
  | l ks => exact rdL_stuck ks s h
  | m most ks => exact rdM_stuck most ks s h

theorem it_short {B ms tail : List UInt8} {N : Nat} {s : RS} (i : It) (v : Vl) (hv : i.fits v) (hq : i.wr v = some ms) (hc : s.c = 0) (ha : s.a ≤ N) (hN : N ≤ B.length) (h : B.drop s.a = ms ++ tail) (hs : N < s.a + ms.length) : (i.rd (B.take N) s).2.c = 10 := by
  match i, v, hv, hq with
  | .l ks, .l vs, hv, hq => exact rdL_short ks vs ms s hv hq hc ha hN h hs
  | .m most ks, .m rs, hv, hq => exact rdM_short ks most rs ms s hv.1 hv.2 hq hc ha hN h hs

theorem it_form {bs : List UInt8} {s : RS} (i : It) (hc : (i.rd bs s).2.c = 0) (hs : s.c = 0) (ha : s.a ≤ bs.length) : i.wr (i.rd bs s).1 = some ((bs.drop s.a).take ((i.rd bs s).2.a - s.a)) ∧ s.a ≤ (i.rd bs s).2.a ∧ (i.rd bs s).2.a ≤ bs.length := by
  cases i with
  | l ks => exact rdL_form ks s hc hs ha
  | m most ks => exact rdM_form most ks s hc hs

theorem rdI_stuck {bs : List UInt8} : ∀ (is : List It) (s : RS), s.c ≠ 0 → (rdI bs is s).2 = s
  | [], _, _ => rfl
  | i :: is, s, h => by
    have e := it_stuck (bs := bs) i s h
    simp only [rdI]
    rw [e]
    exact rdI_stuck is s h

theorem rdI_back {bs tail : List UInt8} : ∀ (is : List It) (vs : List Vl) (ms : List UInt8) (s : RS), FitsI is vs → wrI is vs = some ms → s.c = 0 → s.a ≤ bs.length → bs.drop s.a = ms ++ tail → ∃ l', rdI bs is s = (vs, ⟨s.a + ms.length, l', 0, s.f⟩)
  | [], [], ms, s, _, hw, hc, ha, h => by
    have e : ms = [] := by simpa [wrI] using hw.symm
    subst e
    exact ⟨s.l, by cases s; simp only at hc; subst hc; rfl⟩
  | i :: is, v :: vs, ms, s, hf, hw, hc, ha, h => by
    obtain ⟨x, y, h1, h2, rfl⟩ := stepW_split (show stepW (i.wr v) (wrI is vs) = some ms from hw)
    obtain ⟨l1, hr⟩ := it_back (tail := y ++ tail) i v hf.1 h1 hc ha (by rw [h, List.append_assoc])
    have hl : (bs.drop s.a).length = (x ++ y ++ tail).length := by rw [h]
    simp only [List.length_drop, List.length_append] at hl
    have hd : bs.drop (s.a + x.length) = y ++ tail := by
      rw [← List.drop_drop, h, List.append_assoc, List.drop_left]
    obtain ⟨l', e⟩ := rdI_back is vs y ⟨s.a + x.length, l1, 0, s.f⟩ hf.2 h2 rfl (by simp only; omega) hd
    refine ⟨l', ?_⟩
    simp only [rdI, hr, e, List.length_append, Nat.add_assoc]
  | [], _ :: _, _, _, hf, _, _, _, _ => hf.elim
  | _ :: _, [], _, _, hf, _, _, _, _ => hf.elim

theorem rdI_short {B tail : List UInt8} {N : Nat} : ∀ (is : List It) (vs : List Vl) (ms : List UInt8) (s : RS), FitsI is vs → wrI is vs = some ms → s.c = 0 → s.a ≤ N → N ≤ B.length → B.drop s.a = ms ++ tail → N < s.a + ms.length → (rdI (B.take N) is s).2.c = 10
  | [], [], ms, s, _, hw, hc, ha, hN, h, hs => by
    have e : ms = [] := by simpa [wrI] using hw.symm
    subst e
    simp at hs
    omega
  | i :: is, v :: vs, ms, s, hf, hw, hc, ha, hN, h, hs => by
    obtain ⟨x, y, h1, h2, rfl⟩ := stepW_split (show stepW (i.wr v) (wrI is vs) = some ms from hw)
    have hlen : (B.take N).length = N := by rw [List.length_take]; omega
    by_cases hx : N < s.a + x.length
    · have er := it_short (tail := y ++ tail) i v hf.1 h1 hc ha hN (by rw [h, List.append_assoc]) hx
      simp only [rdI]
      rw [rdI_stuck is _ (by rw [er]; decide), er]
    · have hd0 : (B.take N).drop s.a = x ++ ((y ++ tail).take (N - s.a - x.length)) := by
        rw [List.drop_take, h, List.append_assoc, List.take_append, List.take_of_length_le (by omega)]
      obtain ⟨l1, hr⟩ := it_back i v hf.1 h1 hc (by omega) hd0
      have hd : B.drop (s.a + x.length) = y ++ tail := by
        rw [← List.drop_drop, h, List.append_assoc, List.drop_left]
      rw [List.length_append] at hs
      have e := rdI_short is vs y ⟨s.a + x.length, l1, 0, s.f⟩ hf.2 h2 rfl (by simp only; omega) hN hd (by simp only; omega)
      simp only [rdI, hr]
      exact e
  | [], _ :: _, _, _, hf, _, _, _, _, _, _ => hf.elim
  | _ :: _, [], _, _, hf, _, _, _, _, _, _ => hf.elim

theorem rdI_form {bs : List UInt8} : ∀ (is : List It) (s : RS), (rdI bs is s).2.c = 0 → s.c = 0 → s.a ≤ bs.length → wrI is (rdI bs is s).1 = some ((bs.drop s.a).take ((rdI bs is s).2.a - s.a)) ∧ s.a ≤ (rdI bs is s).2.a ∧ (rdI bs is s).2.a ≤ bs.length
  | [], s, _, _, ha => ⟨by simp [rdI, wrI], Nat.le_refl _, ha⟩
  | i :: is, s, hc, hs, ha => by
    have hk : (i.rd bs s).2.c = 0 := by
      rcases Decidable.em ((i.rd bs s).2.c = 0) with h | h
      · exact h
      · simp only [rdI] at hc
        rw [rdI_stuck is _ h] at hc
        exact hc
    obtain ⟨f1, f2, f3⟩ := it_form i hk hs ha
    simp only [rdI] at hc ⊢
    obtain ⟨g1, g2, g3⟩ := rdI_form is _ hc hk f3
    refine ⟨?_, by omega, g3⟩
    simp only [wrI]
    rw [f1, g1]
    simp only [stepW]
    rw [take_join _ _ _ _ f2 g2]

abbrev s0 : RS := ⟨0, 0, 0, 0⟩
/-- A whole record: written, then read. -/
theorem whole_back {is : List It} {vs : List Vl} {ms : List UInt8} (hf : FitsI is vs) (hw : wrI is vs = some ms) : (rdI ms is s0).1 = vs ∧ (endR (rdI ms is s0).2 ms.length).c = 0 := by
  obtain ⟨l', e⟩ := rdI_back (bs := ms) (tail := []) is vs ms s0 hf hw rfl (Nat.zero_le _) (by simp)
  rw [e]
  refine ⟨rfl, ?_⟩
  simp only [endR]
  rw [if_neg (by simp)]
/-- With a byte more it is none's. -/
theorem whole_more {is : List It} {vs : List Vl} {ms : List UInt8} (x : UInt8) (hf : FitsI is vs) (hw : wrI is vs = some ms) : (endR (rdI (ms ++ [x]) is s0).2 (ms ++ [x]).length).c = 13 ∧ (endR (rdI (ms ++ [x]) is s0).2 (ms ++ [x]).length).f = ms.length := by
  obtain ⟨l', e⟩ := rdI_back (bs := ms ++ [x]) (tail := [x]) is vs ms s0 hf hw rfl (Nat.zero_le _) (by simp)
  rw [e]
  simp only [endR]
  rw [if_pos (by simp)]
  simp
/-- No beginning of it is read. -/
theorem whole_short {is : List It} {vs : List Vl} {ms : List UInt8} (n : Nat) (hn : n < ms.length) (hf : FitsI is vs) (hw : wrI is vs = some ms) : (endR (rdI (ms.take n) is s0).2 (ms.take n).length).c = 10 := by
  have e := rdI_short (B := ms) (tail := []) (N := n) is vs ms s0 hf hw rfl (Nat.zero_le _) (by omega) (by simp) (by simp; omega)
  unfold endR
  rw [if_neg (by rw [e]; simp)]
  exact e
/-- What is read is written as it stood. -/
theorem whole_form {is : List It} {bs : List UInt8} (h : (endR (rdI bs is s0).2 bs.length).c = 0) : wrI is (rdI bs is s0).1 = some bs := by
  have hc : (rdI bs is s0).2.c = 0 ∧ ¬ (rdI bs is s0).2.a < bs.length := by
    unfold endR at h
    split at h
    · exact absurd h (by simp)
    · rename_i hn
      exact ⟨h, fun ha => hn ⟨h, ha⟩⟩
  obtain ⟨f1, _, f3⟩ := rdI_form is s0 hc.1 rfl (Nat.zero_le _)
  rw [f1]
  have e : (rdI bs is s0).2.a = bs.length := by omega
  rw [e]
  simp

end Go.Proofs.YtkjoojamkbpfcabGreat

