import Derived.Test.YtjgbllfppomcmaaCM1
import Derived.Test.YtjgbllfppomcmaaCP4
/- A day does not hang on the order of its journeys. -/
namespace Go.Proofs.Ytjgbllfppomcmaa
open Go.RowKit

theorem firstP_zero {t : Tf} {day : Int} : ∀ {l : List (Jn × Int)}, firstP t day l = 0 ↔ ∀ p ∈ l, pjE t day p = 0
  | [] => by simp [firstP]
  | p :: r => by
    rw [firstP_cons]
    by_cases h : pjE t day p = 0
    · rw [if_pos h, firstP_zero (l := r)]
      exact ⟨fun hh q hq => by rcases List.mem_cons.1 hq with rfl | hq; exact h; exact hh q hq, fun hh q hq => hh q (List.mem_cons_of_mem _ hq)⟩
    · rw [if_neg h]
      exact ⟨fun hh => absurd hh h, fun hh => absurd (hh p (List.mem_cons_self ..)) h⟩

theorem lowW_comm {a x y : Int} (hx : 0 < x) (hy : 0 < y) : lowW (lowW a x) y = lowW (lowW a y) x := by
  have e : ∀ a z, 0 < z → lowW a z = if a = 0 then z else min a z := fun a z hz => by
    unfold lowW
    by_cases h0 : a = 0
    · rw [if_pos h0, if_pos h0]
    · rw [if_neg h0, if_neg h0]
      by_cases h1 : z < a
      · rw [if_pos ⟨hz, h1⟩]; omega
      · rw [if_neg (fun q => h1 q.2)]; omega
  rw [e a x hx, e a y hy]
  by_cases h0 : a = 0
  · rw [if_pos h0, if_pos h0, e x y hy, e y x hx, if_neg (by omega), if_neg (by omega)]
    omega
  · rw [if_neg h0, if_neg h0, e _ y hy, e _ x hx, if_neg (by omega), if_neg (by omega)]
    omega

theorem putD_comm {t : Tf} (hr : rightE t = 0) {day : Int} {p q : Jn × Int} (hp : pjE t day p = 0) (hq : pjE t day q = 0) (d : Dy) : putD t (putD t d p) q = putD t (putD t d q) p := by
  have hzp := fun hk => zones_of hr hp hk
  have hzq := fun hk => zones_of hr hq hk
  obtain ⟨d0, d1, d2, d3, d4, d5, d6⟩ := d
  unfold putD widD
  by_cases kp : p.1.kind = 1
  · by_cases kq : q.1.kind = 1
    · simp only [if_pos kp, if_pos kq]
      have h1 := hzp kp
      have h2 := hzq kq
      rw [lowW_comm (show 0 < imin (zF t p) (zT t p) by omega) (show 0 < imin (zF t q) (zT t q) by omega)]
      rw [show d1 + p.2 + q.2 = d1 + q.2 + p.2 by omega, show imax (imax d6 (imax (zF t p) (zT t p))) (imax (zF t q) (zT t q)) = imax (imax d6 (imax (zF t q) (zT t q))) (imax (zF t p) (zT t p)) by simp only [imax_eq]; omega]
    · by_cases kq4 : q.1.kind = 4
      · simp only [if_pos kp, if_neg kq, if_pos kq4]
      · simp only [if_pos kp, if_neg kq, if_neg kq4]
  · by_cases kp4 : p.1.kind = 4
    · by_cases kq : q.1.kind = 1
      · simp only [if_neg kp, if_pos kp4, if_pos kq]
      · by_cases kq4 : q.1.kind = 4
        · simp only [if_neg kp, if_pos kp4, if_neg kq, if_pos kq4]
          rw [show d2 + p.2 + q.2 = d2 + q.2 + p.2 by omega]
        · simp only [if_neg kp, if_pos kp4, if_neg kq, if_neg kq4]
    · by_cases kq : q.1.kind = 1
      · simp only [if_neg kp, if_neg kp4, if_pos kq]
      · by_cases kq4 : q.1.kind = 4
        · simp only [if_neg kp, if_neg kp4, if_neg kq, if_pos kq4]
        · simp only [if_neg kp, if_neg kp4, if_neg kq, if_neg kq4]
          rw [show d4 + p.2 + q.2 = d4 + q.2 + p.2 by omega]

/-- What a day without error says. -/
theorem dE_zero {t : Tf} {day : Int} {l : List (Jn × Int)} : dE t day l = 0 ↔ rightE t = 0 ∧ l.length ≤ 2000 ∧ ∀ p ∈ l, pjE t day p = 0 := by
  unfold dE
  by_cases h0 : rightE t = 0
  · rw [if_pos h0]
    by_cases h1 : 2000 < l.length
    · rw [if_pos h1]
      exact ⟨fun h => absurd h (by decide), fun h => by omega⟩
    · rw [if_neg h1, firstP_zero]
      exact ⟨fun h => ⟨h0, by omega, h⟩, fun h => h.2.2⟩
  · rw [if_neg h0]
    exact ⟨fun h => absurd h h0, fun h => absurd h.1 h0⟩

theorem day_perm {t : Tf} {day : Int} {l m : List (Jn × Int)} (hp : l.Perm m) (h : dE t day l = 0) : dE t day m = 0 ∧ dR t day m = dR t day l := by
  obtain ⟨h0, h1, h2⟩ := dE_zero.1 h
  have hm : dE t day m = 0 := dE_zero.2 ⟨h0, by rw [← hp.length_eq]; exact h1, fun p hpm => h2 p (hp.symm.subset hpm)⟩
  refine ⟨hm, ?_⟩
  unfold dR
  rw [if_pos hm, if_pos h]
  have e : sumD t day m = sumD t day l := by
    unfold sumD
    exact (hp.foldl_eq' (fun x hx y hy z => putD_comm h0 (h2 x hx) (h2 y hy) z) _).symm
  rw [e]

/-- Two of them swapped. -/
theorem swap_perm {α : Type} {l m : List α} (h : l.Perm m) {i j : Nat} (hi : i < m.length) (hj : j < m.length) : l.Perm ((m.set i m[j]).set j m[i]) := h.trans (List.set_set_perm hi hj).symm

theorem and16 (n : Int) : bits .and .i64 n 65535 = n % 65536 := by
  have h7 : (BitVec.ofInt 64 65535).toNat = 2 ^ 16 - 1 := by decide
  have key : (BitVec.ofInt 64 n &&& BitVec.ofInt 64 65535).toNat = (n % ((2 ^ 64 : Nat) : Int)).toNat % 2 ^ 16 := by
    rw [BitVec.toNat_and, BitVec.toNat_ofInt, h7, Nat.and_two_pow_sub_one_eq_mod]
  show IntKind.i64.wrap ((BitVec.ofInt 64 n &&& BitVec.ofInt 64 65535).toNat : Nat) = n % 65536
  rw [key, IntKind.wrap_i64]
  omega

end Go.Proofs.Ytjgbllfppomcmaa

