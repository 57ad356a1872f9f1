/- The document's Scale is the program's. -/
import Derived.Test.YthgkdpepgnoepaaR3
namespace Go.Proofs.Ythgkdpepgnoepaa
open Go.RowKit

theorem rscale_main (w : World) (n b : Nat) (hn : n ≤ 9007199254740992) (hr : b ≤ 4607182418800017408) :
    Calls Try.prog 46 #[.int .i64 (n : Int), .float .f64 b] w fun e w' => e = .returned (.tuple #[.int .i64 ((sc n b : Nat) : Int), .int .i64 0]) ∧ Fr (fun _ => False) w w' := by
  have hb : b < 18446744073709551616 := by omega
  have r1 : right (n : Int) = true := (right_iff _).2 ⟨by omega, by omega⟩
  have r2 : rate b = true := by simp [rate]; omega
  have R1 := fun w => rright_any w (n : Int)
  have R2 := fun w => rrate_any w b hb
  have R3 := fun w => parts_any w b hb
  simp only [r1] at R1
  simp only [r2] at R2
  have s1 : pSign b = false := by simp [pSign]; omega
  have ex : pExp b = b / 4503599627370496 := by unfold pExp; omega
  have s2 : pOk b = true := by simp [pOk]; omega
  simp only [s1, s2] at R3
  by_cases h0 : pExp b = 0
  · have e1 : pWhole b = b % 4503599627370496 := by simp [pWhole, h0]
    have e2 : pPower b = -((1074 : Nat) : Int) := by simp [pPower, h0]
    simp only [e1, e2] at R3
    have hx : n * (b % 4503599627370496) < 2 ^ 106 := by
      have h1 : n * (b % 4503599627370496) ≤ 9007199254740992 * 4503599627370496 := Nat.mul_le_mul hn (by omega)
      exact Nat.lt_of_le_of_lt h1 (by decide)
    obtain ⟨K, hK⟩ : ∃ K, K = 1074 := ⟨_, rfl⟩
    have hbig : 2 ^ 107 ≤ 2 ^ (K - 1) := Nat.pow_le_pow_right (by decide) (by omega)
    have hdbl : 2 ^ K = 2 * 2 ^ (K - 1) := by
      rw [show K = (K - 1) + 1 by omega, Nat.pow_succ]; simp only [Nat.add_sub_cancel]; omega
    have hz : (n * (b % 4503599627370496) + 2 ^ (K - 1)) / 2 ^ K = 0 := by
      rw [hdbl]
      generalize 2 ^ (K - 1) = Z at hbig
      exact Nat.div_eq_of_lt (by omega)
    have hl : n * (b % 4503599627370496) / 2 ^ K ≤ 9007199254740992 := by
      have : n * (b % 4503599627370496) / 2 ^ K = 0 := by
        rw [hdbl]
        generalize 2 ^ (K - 1) = Z at hbig
        exact Nat.div_eq_of_lt (by omega)
      rw [this]; omega
    rw [← hK] at R3
    have := rscale_core w n b (b % 4503599627370496) K hn (by omega) (by omega) (by omega) hl R1 R2 R3
    rw [hz] at this
    rw [sc_tiny hn (by omega)]
    exact this
  · have hne : pExp b ≠ 2047 := by omega
    have e1 : pWhole b = fracOf b := by unfold pWhole fracOf; rw [if_neg hne, if_neg h0]; omega
    obtain ⟨K, hK⟩ : ∃ K, K = 1075 - b / 4503599627370496 := ⟨_, rfl⟩
    have e2 : pPower b = -(K : Int) := by unfold pPower; rw [if_neg hne, if_neg h0]; omega
    simp only [e1, e2] at R3
    have hz : (n * fracOf b + 2 ^ (K - 1)) / 2 ^ K = sc n b := by
      unfold sc
      rw [show K - 1 = 1074 - b / 4503599627370496 by omega, hK]
    have hl : n * fracOf b / 2 ^ K ≤ 9007199254740992 := by
      have h1 : n * fracOf b / 2 ^ K ≤ (n * fracOf b + 2 ^ (K - 1)) / 2 ^ K := Nat.div_le_div_right (Nat.le_add_right _ _)
      rw [hz] at h1
      exact Nat.le_trans h1 (Nat.le_trans (sc_le hr) hn)
    have := rscale_core w n b (fracOf b) K hn (by unfold fracOf; omega) (by omega) (by omega) hl R1 R2 R3
    rw [hz] at this
    exact this

theorem rscale_any (w : World) (n : Int) (b : Nat) (hb : b < 18446744073709551616) :
    Calls Try.prog 46 #[.int .i64 n, .float .f64 b] w fun e w' => e = .returned (.tuple #[.int .i64 (rv (scaled n b)), .int .i64 (scaleE n b)]) ∧ Fr (fun _ => False) w w' := by
  have R1 := rright_any w n
  have R2 := rrate_any w b hb
  by_cases h1 : owed n = true
  · have hn : 0 ≤ n ∧ n ≤ 9007199254740992 := by
      have := h1; simp [owed, right] at this; omega
    by_cases h2 : rate b = true
    · have hr : b ≤ 4607182418800017408 := by simpa [rate] using h2
      obtain ⟨m, rfl⟩ := Int.eq_ofNat_of_zero_le hn.1
      have e1 : scaled (m : Int) b = some ((sc m b : Nat) : Int) := by simp [scaled, h1, h2]
      have e2 : scaleE (m : Int) b = 0 := by simp [scaleE, h1, h2]
      rw [e1, e2]
      exact rscale_main w m b (by omega) hr
    · have h2' : rate b = false := by simpa using h2
      have e1 : scaled n b = none := by simp [scaled, h2']
      have e2 : scaleE n b = 51 := by simp [scaleE, h1, h2']
      have hr : right n = true := (right_iff _).2 ⟨by omega, hn.2⟩
      rw [e1, e2]
      rw [hr] at R1
      rw [h2'] at R2
      have hn0 := hn.1
      clear e1 e2 h1 h2 h2' hr hn
      go_enter Try.func46, Try.ntmps46
      go_wp2_with fail
      refine R1.mono ?_
      rintro e w1 ⟨rfl, rfl⟩
      go_wp2_with fail
      refine R2.mono ?_
      rintro e w1 ⟨rfl, rfl⟩
      go_wp2
      go_ret2
      exact ⟨rfl, Fr.refl _ _⟩
  · have h1' : owed n = false := by simpa using h1
    have e1 : scaled n b = none := by simp [scaled, h1']
    have e2 : scaleE n b = 50 := by simp [scaleE, h1']
    rw [e1, e2]
    clear e1 e2 R2
    by_cases hr : right n = true
    · have hneg : n < 0 := by
        have := h1'; rw [owed, hr] at this; simp at this; omega
      rw [hr] at R1
      clear h1 h1' hr
      go_enter Try.func46, Try.ntmps46
      go_wp2_with fail
      refine R1.mono ?_
      rintro e w1 ⟨rfl, rfl⟩
      go_wp2
      go_ret2
      exact ⟨rfl, Fr.refl _ _⟩
    · have hr' : right n = false := by simpa using hr
      rw [hr'] at R1
      clear h1 h1' hr hr'
      go_enter Try.func46, Try.ntmps46
      go_wp2_with fail
      refine R1.mono ?_
      rintro e w1 ⟨rfl, rfl⟩
      go_wp2
      go_ret2
      exact ⟨rfl, Fr.refl _ _⟩

end Go.Proofs.Ythgkdpepgnoepaa
