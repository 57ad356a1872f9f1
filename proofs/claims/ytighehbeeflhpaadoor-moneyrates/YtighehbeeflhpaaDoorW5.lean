/- More of an amount, or of a rate, comes to no less (the walk of MoneyRates). -/
import Derived.Test.YtighehbeeflhpaaDoorS6
namespace Go.Proofs.YtighehbeeflhpaaDoor
open Go.RowKit

theorem scale_cases (n : Int) (b : Nat) : (scaleE n b = 0 ∧ 0 ≤ n ∧ n ≤ 9007199254740992 ∧ b ≤ 4607182418800017408 ∧ rv (scaled n b) = ((sc n.toNat b : Nat) : Int)) ∨ (scaleE n b ≠ 0 ∧ rv (scaled n b) = 0) := by
  by_cases h1 : owed n = true
  · by_cases h2 : rate b = true
    · refine .inl ⟨by simp [scaleE, h1, h2], ?_, ?_, by simpa [rate] using h2, by simp [scaled, h1, h2, rv]⟩
      · have := h1; simp [owed, right] at this; omega
      · have := h1; simp [owed, right] at this; omega
    · refine .inr ⟨by simp [scaleE, h1, h2], by simp [scaled, h2, rv]⟩
  · refine .inr ⟨by simp [scaleE, h1], by simp [scaled, h1, rv]⟩

/-- A float that is no greater, of two rates, has no greater bits. -/
theorem le_bits {f g : Nat} (hf : f ≤ 4607182418800017408) (hg : g ≤ 4607182418800017408) (h : (Ieee.double.order f g == some .lt || Ieee.double.order f g == some .eq) = true) : f ≤ g := by
  rw [order_pos (by omega) (by omega)] at h
  rcases Nat.lt_trichotomy f g with h1 | h1 | h1
  · omega
  · omega
  · exfalso
    have : compare f g = .gt := by
      show compareOfLessAndEq f g = _
      unfold compareOfLessAndEq
      rw [if_neg (by omega), if_neg (by omega)]
    rw [this] at h
    exact absurd h (by decide)

set_option maxRecDepth 100000 in
set_option maxHeartbeats 4000000 in
theorem rates_walk (w : World) (hT : Pow w) (n m : Int) (f g : Nat) (hf : f < 18446744073709551616) (hg : g < 18446744073709551616) :
    Calls Tryd.prog 5 #[.int .i64 n, .int .i64 m, .float .f64 f, .float .f64 g] w fun e w' => e = .returned (.bool true) ∧ Fr (fun _ => False) w w' := by
  have R0 := awake_any w hT
  have R1 := fun w => scale_any w n f hf
  have R2 := fun w => scale_any w m f hf
  have R3 := fun w => scale_any w n g hg
  clear hT
  rcases scale_cases n f with ⟨e0, hn0, hn1, hfr, ea⟩ | ⟨e0, ea⟩
  · have R4 := fun w => scale_any w n 4607182418800017408 (by decide)
    have R5 := fun w => scale_any w n 0 (by decide)
    have R6 := fun w => scale_any w (n + m) f hf
    rcases scale_cases n 4607182418800017408 with ⟨e4, _, _, _, ea4⟩ | ⟨e4, ea4⟩
    · rcases scale_cases n 0 with ⟨e5, _, _, _, ea5⟩ | ⟨e5, ea5⟩
      · rw [e4, ea4, sc_one] at R4
        rw [e5, ea5, sc_zero (by omega)] at R5
        rw [e0, ea] at R1
        have ha1 : sc n.toNat f ≤ n.toNat := sc_le hfr
        have hnn : ((n.toNat : Nat) : Int) = n := by omega
        have hH : (scaleE m f ≠ 0) ∨ (scaleE m f = 0 ∧ 0 ≤ m ∧ m ≤ 9007199254740992 ∧ (m < n ∨ (n ≤ m ∧ ((sc n.toNat f : Nat) : Int) ≤ rv (scaled m f))) ∧ 0 ≤ rv (scaled m f) ∧ rv (scaled m f) ≤ 9007199254740992 ∧
            (n + m ≤ 9007199254740992 → scaleE (n + m) f = 0 ∧ ((sc n.toNat f : Nat) : Int) + rv (scaled m f) - 1 ≤ rv (scaled (n + m) f) ∧ rv (scaled (n + m) f) ≤ ((sc n.toNat f : Nat) : Int) + rv (scaled m f) + 1)) := by
          rcases scale_cases m f with ⟨e2, hm0, hm1, _, eb⟩ | ⟨e2, _⟩
          · refine .inr ⟨e2, hm0, hm1, ?_, ?_, ?_, fun hnm => ?_⟩
            · by_cases hle : n ≤ m
              · refine .inr ⟨hle, ?_⟩
                rw [eb]
                have := sc_mono_n (b := f) (show n.toNat ≤ m.toNat by omega)
                omega
              · exact .inl (by omega)
            · rw [eb]; omega
            · rw [eb]; have := sc_le (n := m.toNat) hfr; omega
            · rcases scale_cases (n + m) f with ⟨e6, _, _, _, ec⟩ | ⟨e6, _⟩
              · refine ⟨e6, ?_⟩
                rw [eb, ec, show (n + m).toNat = n.toNat + m.toNat by omega]
                have := sc_add (n := n.toNat) (m := m.toNat) hfr
                omega
              · exfalso
                apply e6
                have o1 : owed (n + m) = true := by simp [owed, right]; omega
                have o2 : rate f = true := by simp [rate]; omega
                simp [scaleE, o1, o2]
          · exact .inl e2
        have hI : (scaleE n g ≠ 0) ∨ (scaleE n g = 0 ∧ ((Ieee.double.order f g == some .lt || Ieee.double.order f g == some .eq) = false ∨ ((Ieee.double.order f g == some .lt || Ieee.double.order f g == some .eq) = true ∧ ((sc n.toNat f : Nat) : Int) ≤ rv (scaled n g)))) := by
          rcases scale_cases n g with ⟨e3, _, _, hgr, ec⟩ | ⟨e3, _⟩
          · refine .inr ⟨e3, ?_⟩
            cases hle : (Ieee.double.order f g == some .lt || Ieee.double.order f g == some .eq) with
            | false => exact .inl rfl
            | true =>
              refine .inr ⟨rfl, ?_⟩
              rw [ec]
              have := sc_mono_b (n := n.toNat) hgr (le_bits hfr hgr hle)
              omega
          · exact .inl e3
        rw [hnn] at R4
        have ha0 : 0 ≤ ((sc n.toNat f : Nat) : Int) := by omega
        have ha2 : ((sc n.toNat f : Nat) : Int) ≤ n := by omega
        generalize ((sc n.toNat f : Nat) : Int) = a at *
        generalize rv (scaled m f) = b at *
        generalize scaleE m f = h at *
        generalize rv (scaled n g) = c at *
        generalize scaleE n g = i at *
        generalize rv (scaled (n + m) f) = d at *
        generalize scaleE (n + m) f = l at *
        clear ha1 hnn e0 ea e4 ea4 e5 ea5 hf hg hfr
        go_enter Tryd.func5, Tryd.ntmps5
        go_wp2_with fail
        refine R0.mono ?_
        rintro e w1 ⟨rfl, hF⟩
        have HF := hide hF
        clear R0 hF
        go_wp2_with fail
        refine (R1 w1).mono ?_
        rintro e w2 ⟨rfl, rfl⟩
        go_wp2_with fail
        refine (R2 w2).mono ?_
        rintro e w2 ⟨rfl, rfl⟩
        go_wp2_with fail
        refine (R3 w2).mono ?_
        rintro e w2 ⟨rfl, rfl⟩
        go_wp2_with fail
        refine (R4 w2).mono ?_
        rintro e w2 ⟨rfl, rfl⟩
        go_wp2_with fail
        refine (R5 w2).mono ?_
        rintro e w2 ⟨rfl, rfl⟩
        rcases hH with hH | ⟨hH, hm0, hm1, hab, hb0, hb1, hd⟩
        · have hh : (h == 0) = false := by simpa using hH
          rcases hI with hI | ⟨rfl, hI2 | ⟨hI2, hac⟩⟩
          · have hi : (i == 0) = false := by simpa using hI
            clear R1 R2 R3 R4 R5
            go_wp2
            go_ret
            exact ⟨rfl, unhide HF⟩
          · have hop : ∀ t, binOp .leq t (.float .f64 f) (.float .f64 g) = pure (.bool false) := fun t => by rw [binOp_float_cmp_leq]; exact congrArg (fun x => pure (Value.bool x)) hI2
            clear hI2 R1 R2 R3 R4 R5
            go_wp2
            go_ret
            exact ⟨rfl, unhide HF⟩
          · have hop : ∀ t, binOp .leq t (.float .f64 f) (.float .f64 g) = pure (.bool true) := fun t => by rw [binOp_float_cmp_leq]; exact congrArg (fun x => pure (Value.bool x)) hI2
            clear hI2 R1 R2 R3 R4 R5
            go_wp2
            go_ret
            exact ⟨rfl, unhide HF⟩
        · subst hH
          have HD := hide hd
          clear hd
          rcases hab with hab | ⟨hnm2, hab⟩
          · rcases hI with hI | ⟨rfl, hI2 | ⟨hI2, hac⟩⟩
            · have hi : (i == 0) = false := by simpa using hI
              clear R1 R2 R3 R4 R5
              go_wp2_with fail
              all_goals first
                | (go_ret; exact ⟨rfl, unhide HF⟩)
                | (have hnm : n + m ≤ 9007199254740992 := by omega
                   obtain ⟨rfl, hd1, hd2⟩ := unhide HD hnm
                   refine (R6 w2).mono ?_
                   rintro e w2 ⟨rfl, rfl⟩
                   go_wp2
                   go_ret
                   exact ⟨rfl, unhide HF⟩)
            · have hop : ∀ t, binOp .leq t (.float .f64 f) (.float .f64 g) = pure (.bool false) := fun t => by rw [binOp_float_cmp_leq]; exact congrArg (fun x => pure (Value.bool x)) hI2
              clear hI2 R1 R2 R3 R4 R5
              go_wp2_with fail
              all_goals first
                | (go_ret; exact ⟨rfl, unhide HF⟩)
                | (have hnm : n + m ≤ 9007199254740992 := by omega
                   obtain ⟨rfl, hd1, hd2⟩ := unhide HD hnm
                   refine (R6 w2).mono ?_
                   rintro e w2 ⟨rfl, rfl⟩
                   go_wp2
                   go_ret
                   exact ⟨rfl, unhide HF⟩)
            · have hop : ∀ t, binOp .leq t (.float .f64 f) (.float .f64 g) = pure (.bool true) := fun t => by rw [binOp_float_cmp_leq]; exact congrArg (fun x => pure (Value.bool x)) hI2
              clear hI2 R1 R2 R3 R4 R5
              go_wp2_with fail
              all_goals first
                | (go_ret; exact ⟨rfl, unhide HF⟩)
                | (have hnm : n + m ≤ 9007199254740992 := by omega
                   obtain ⟨rfl, hd1, hd2⟩ := unhide HD hnm
                   refine (R6 w2).mono ?_
                   rintro e w2 ⟨rfl, rfl⟩
                   go_wp2
                   go_ret
                   exact ⟨rfl, unhide HF⟩)
          · rcases hI with hI | ⟨rfl, hI2 | ⟨hI2, hac⟩⟩
            · have hi : (i == 0) = false := by simpa using hI
              clear R1 R2 R3 R4 R5
              go_wp2_with fail
              all_goals first
                | (go_ret; exact ⟨rfl, unhide HF⟩)
                | (have hnm : n + m ≤ 9007199254740992 := by omega
                   obtain ⟨rfl, hd1, hd2⟩ := unhide HD hnm
                   refine (R6 w2).mono ?_
                   rintro e w2 ⟨rfl, rfl⟩
                   go_wp2
                   go_ret
                   exact ⟨rfl, unhide HF⟩)
            · have hop : ∀ t, binOp .leq t (.float .f64 f) (.float .f64 g) = pure (.bool false) := fun t => by rw [binOp_float_cmp_leq]; exact congrArg (fun x => pure (Value.bool x)) hI2
              clear hI2 R1 R2 R3 R4 R5
              go_wp2_with fail
              all_goals first
                | (go_ret; exact ⟨rfl, unhide HF⟩)
                | (have hnm : n + m ≤ 9007199254740992 := by omega
                   obtain ⟨rfl, hd1, hd2⟩ := unhide HD hnm
                   refine (R6 w2).mono ?_
                   rintro e w2 ⟨rfl, rfl⟩
                   go_wp2
                   go_ret
                   exact ⟨rfl, unhide HF⟩)
            · have hop : ∀ t, binOp .leq t (.float .f64 f) (.float .f64 g) = pure (.bool true) := fun t => by rw [binOp_float_cmp_leq]; exact congrArg (fun x => pure (Value.bool x)) hI2
              clear hI2 R1 R2 R3 R4 R5
              go_wp2_with fail
              all_goals first
                | (go_ret; exact ⟨rfl, unhide HF⟩)
                | (have hnm : n + m ≤ 9007199254740992 := by omega
                   obtain ⟨rfl, hd1, hd2⟩ := unhide HD hnm
                   refine (R6 w2).mono ?_
                   rintro e w2 ⟨rfl, rfl⟩
                   go_wp2
                   go_ret
                   exact ⟨rfl, unhide HF⟩)
      · exfalso
        apply e5
        have o1 : owed n = true := by simp [owed, right]; omega
        simp [scaleE, o1, rate]
    · exfalso
      apply e4
      have o1 : owed n = true := by simp [owed, right]; omega
      simp [scaleE, o1, rate]
  · rw [ea] at R1
    generalize scaleE n f = e1 at *
    generalize rv (scaled m f) = b at *
    generalize scaleE m f = h at *
    generalize rv (scaled n g) = c at *
    generalize scaleE n g = i at *
    clear ea hf hg
    have hd : (e1 == 0) = false := by simpa using e0
    go_enter Tryd.func5, Tryd.ntmps5
    go_wp2_with fail
    refine R0.mono ?_
    rintro e w1 ⟨rfl, hF⟩
    have HF := hide hF
    clear R0 hF
    go_wp2_with fail
    refine (R1 w1).mono ?_
    rintro e w2 ⟨rfl, rfl⟩
    go_wp2_with fail
    refine (R2 w2).mono ?_
    rintro e w2 ⟨rfl, rfl⟩
    go_wp2_with fail
    refine (R3 w2).mono ?_
    rintro e w2 ⟨rfl, rfl⟩
    go_wp2
    go_ret
    exact ⟨rfl, unhide HF⟩

end Go.Proofs.YtighehbeeflhpaaDoor
