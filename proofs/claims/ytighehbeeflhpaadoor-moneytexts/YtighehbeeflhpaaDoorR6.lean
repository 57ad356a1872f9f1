/- The document's texts: digits, Text. -/
import Derived.Test.YtighehbeeflhpaaDoorS5
namespace Go.Proofs.YtighehbeeflhpaaDoor
open Go.RowKit

theorem enc_digit : ∀ k : Nat, k < 10 → Utf8.encode (48 + (k : Int)) = ⟨#[UInt8.ofNat (48 + k)]⟩
  | 0, _ => rfl
  | 1, _ => rfl
  | 2, _ => rfl
  | 3, _ => rfl
  | 4, _ => rfl
  | 5, _ => rfl
  | 6, _ => rfl
  | 7, _ => rfl
  | 8, _ => rfl
  | 9, _ => rfl
  | n + 10, h => absurd h (by omega)

theorem digits_small (u : Nat) (k : Int) (w : World) (hk : k ≤ 1) (h : u < 10) :
    Calls Tryd.prog 42 #[.int .u64 (u : Int), .int .i64 k] w fun e w' => e = .returned (.string ⟨(Lib.decDigits u).toArray⟩) ∧ w' = w := by
  have HE := hide (Lib.decDigits_one h)
  go_enter Tryd.func42, Tryd.ntmps42
  go_wp2
  go_ret
  refine ⟨?_, rfl⟩
  rw [unhide HE]
  exact congrArg (fun z => Ending.returned (Value.string z)) (enc_digit u h)

theorem digits_step (u : Nat) (k : Int) (w : World) (hu : u < 18446744073709551616) (hk : k ≤ 2) (hk2 : -1000 ≤ k) (h : ¬ u < 10 ∨ k = 2) (D : List UInt8) (hl : D.length ≤ 20)
    (ih : Calls Tryd.prog 42 #[.int .u64 ((u / 10 : Nat) : Int), .int .i64 (k - 1)] w fun e w' => e = .returned (.string ⟨D.toArray⟩) ∧ w' = w) :
    Calls Tryd.prog 42 #[.int .u64 (u : Int), .int .i64 k] w fun e w' => e = .returned (.string ⟨(D ++ [UInt8.ofNat (48 + u % 10)]).toArray⟩) ∧ w' = w := by
  rw [show ((u / 10 : Nat) : Int) = (u : Int) / 10 by simp] at ih
  obtain ⟨x, HX⟩ : ∃ x, Hid (UInt8.ofNat (48 + u % 10) = x) := ⟨_, rfl⟩
  rw [unhide HX]
  have hcv : ∀ w, (convert 21 9 (.int .i32 (48 + (u : Int) % 10))).run Tryd.prog w = .ok (.string ⟨#[x]⟩) w := fun w => by
    rw [run_convert_int_string w 21 9 .i32 _ (by rw [Tryd.underlying21]; rfl) Tryd.underlying9, show (u : Int) % 10 = ((u % 10 : Nat) : Int) by simp, enc_digit (u % 10) (by omega), unhide HX]
  have fin : ({ data := D.toArray } : ByteArray) ++ ({ data := #[x] } : ByteArray) = ⟨(D ++ [x]).toArray⟩ := by
    apply ByteArray.ext
    simp
  have HF := hide fin
  clear fin HX
  rcases h with h | h
  · go_enter Tryd.func42, Tryd.ntmps42
    go_wp2_with fail
    refine ih.mono ?_
    rintro e w1 ⟨rfl, rfl⟩
    clear ih
    go_wp2
    go_ret
    exact ⟨congrArg (fun z => Ending.returned (Value.string z)) (unhide HF), rfl⟩
  · subst h
    have ih' : Calls Tryd.prog 42 #[.int .u64 ((u : Int) / 10), .int .i64 1] w fun e w' => e = .returned (.string ⟨D.toArray⟩) ∧ w' = w := ih
    clear ih
    by_cases h10 : u < 10
    · go_enter Tryd.func42, Tryd.ntmps42
      go_wp2_with fail
      refine ih'.mono ?_
      rintro e w1 ⟨rfl, rfl⟩
      clear ih'
      go_wp2
      go_ret
      exact ⟨congrArg (fun z => Ending.returned (Value.string z)) (unhide HF), rfl⟩
    · go_enter Tryd.func42, Tryd.ntmps42
      go_wp2_with fail
      refine ih'.mono ?_
      rintro e w1 ⟨rfl, rfl⟩
      clear ih'
      go_wp2
      go_ret
      exact ⟨congrArg (fun z => Ending.returned (Value.string z)) (unhide HF), rfl⟩

theorem digits_one (u : Nat) : ∀ (k : Int) (w : World), u < 18446744073709551616 → k ≤ 1 → -1000 ≤ k - (Lib.nDigits u : Int) →
    Calls Tryd.prog 42 #[.int .u64 (u : Int), .int .i64 k] w fun e w' => e = .returned (.string ⟨(Lib.decDigits u).toArray⟩) ∧ w' = w := by
  induction u using Nat.strongRecOn with
  | _ u rec =>
    intro k w hu hk hb
    by_cases h : u < 10
    · exact digits_small u k w hk h
    · have hb2 : -1000 ≤ (k - 1) - (Lib.nDigits (u / 10) : Int) := by rw [Lib.nDigits_big h] at hb; omega
      have ih := rec (u / 10) (by omega) (k - 1) w (by omega) (by omega) hb2
      have hl : (Lib.decDigits (u / 10)).length ≤ 20 := dec_len _ (by omega)
      have e : Lib.decDigits u = Lib.decDigits (u / 10) ++ [UInt8.ofNat (48 + u % 10)] := by rw [Lib.decDigits, dif_neg h]
      rw [e]
      exact digits_step u k w hu (by omega) (by omega) (.inl h) _ hl ih

theorem digits_two (u : Nat) (w : World) (hu : u < 100) : Calls Tryd.prog 42 #[.int .u64 (u : Int), .int .i64 2] w fun e w' => e = .returned (.string ⟨#[UInt8.ofNat (48 + u / 10), UInt8.ofNat (48 + u % 10)]⟩) ∧ w' = w := by
  have ih := digits_small (u / 10) 1 w (by omega) (by omega)
  rw [Lib.decDigits_one (show u / 10 < 10 by omega)] at ih
  exact digits_step u 2 w (by omega) (by omega) (by omega) (.inr rfl) [UInt8.ofNat (48 + u / 10)] (by simp) ih

theorem rtext_pos (w : World) (u : Nat) (hu : u ≤ 9223372036854775807) :
    Calls Tryd.prog 29 #[.int .i64 (u : Int)] w fun e w' => e = .returned (.string ⟨(text (u : Int)).toArray⟩) ∧ w' = w := by
  have c1 := digits_one (u / 100) 1 w (by omega) (by omega) (by have := nDigits_le 19 (u / 100) (by omega); omega)
  have c2 := digits_two (u % 100) w (by omega)
  have hl := dec_len (u / 100) (by omega)
  have HX : Hid (text (u : Int) = ((Lib.decDigits (u / 100) ++ [46]) ++ [UInt8.ofNat (48 + u % 100 / 10), UInt8.ofNat (48 + u % 100 % 10)])) := by
    unfold Hid text textU
    rw [if_neg (by omega)]
    simp
  rw [show ((u / 100 : Nat) : Int) = (u : Int) / 100 by simp] at c1
  rw [show ((u % 100 : Nat) : Int) = (u : Int) % 100 by simp] at c2
  generalize Lib.decDigits (u / 100) = D at c1 hl HX
  generalize UInt8.ofNat (48 + u % 100 / 10) = x at c2 HX
  generalize UInt8.ofNat (48 + u % 100 % 10) = y at c2 HX
  go_enter Tryd.func29, Tryd.ntmps29
  go_wp2_with fail
  refine c1.mono ?_
  rintro e w1 ⟨rfl, rfl⟩
  go_wp2_with fail
  refine c2.mono ?_
  rintro e w2 ⟨rfl, rfl⟩
  go_wp2
  go_ret
  refine ⟨?_, rfl⟩
  rw [unhide HX]
  refine congrArg (fun z => Ending.returned (Value.string z)) ?_
  apply ByteArray.ext
  simp

theorem rtext_neg (w : World) (u : Nat) (h1 : 1 ≤ u) (hu : u ≤ 9223372036854775808) :
    Calls Tryd.prog 29 #[.int .i64 (-(u : Int))] w fun e w' => e = .returned (.string ⟨(text (-(u : Int))).toArray⟩) ∧ w' = w := by
  have c1 := digits_one (u / 100) 1 w (by omega) (by omega) (by have := nDigits_le 19 (u / 100) (by omega); omega)
  have c2 := digits_two (u % 100) w (by omega)
  have hl := dec_len (u / 100) (by omega)
  have HX : Hid (text (-(u : Int)) = ((([45] ++ Lib.decDigits (u / 100)) ++ [46]) ++ [UInt8.ofNat (48 + u % 100 / 10), UInt8.ofNat (48 + u % 100 % 10)])) := by
    unfold Hid text textU
    rw [if_pos (by omega)]
    simp
  rw [show ((u / 100 : Nat) : Int) = (-(-(u : Int) + 1) + 1) / 100 by omega] at c1
  rw [show ((u % 100 : Nat) : Int) = (-(-(u : Int) + 1) + 1) % 100 by omega] at c2
  generalize Lib.decDigits (u / 100) = D at c1 hl HX
  generalize UInt8.ofNat (48 + u % 100 / 10) = x at c2 HX
  generalize UInt8.ofNat (48 + u % 100 % 10) = y at c2 HX
  go_enter Tryd.func29, Tryd.ntmps29
  go_wp2_with fail
  refine c1.mono ?_
  rintro e w1 ⟨rfl, rfl⟩
  go_wp2_with fail
  refine c2.mono ?_
  rintro e w2 ⟨rfl, rfl⟩
  go_wp2
  go_ret
  refine ⟨?_, rfl⟩
  rw [unhide HX]
  refine congrArg (fun z => Ending.returned (Value.string z)) ?_
  apply ByteArray.ext
  simp

theorem rtext_any (w : World) (n : Int) (h0 : -9223372036854775808 ≤ n) (h1 : n ≤ 9223372036854775807) :
    Calls Tryd.prog 29 #[.int .i64 n] w fun e w' => e = .returned (.string ⟨(text n).toArray⟩) ∧ w' = w := by
  by_cases h : 0 ≤ n
  · obtain ⟨u, rfl⟩ := Int.eq_ofNat_of_zero_le h
    exact rtext_pos w u (by omega)
  · obtain ⟨u, rfl⟩ : ∃ u : Nat, n = -(u : Int) := ⟨n.natAbs, by omega⟩
    exact rtext_neg w u (by omega) (by omega)

end Go.Proofs.YtighehbeeflhpaaDoor
