/- The document's texts: two, number, Text. -/
import Derived.Test.YtnnhhfajcecdkaaDoorS5
namespace Go.Proofs.YtnnhhfajcecdkaaDoor
open Go.RowKit

theorem enc_digit : ∀ k : Nat, k < 10 → Utf8.encode (48 + (k : Int)) = ⟨#[UInt8.ofNat (48 + k)]⟩
  | 0, _ => rfl
  | 1, _ => rfl
  | 2, _ => rfl
  | 3, _ => rfl
  | 4, _ => rfl
  | 5, _ => rfl
  | 6, _ => rfl
  | 7, _ => rfl
  | 8, _ => rfl
  | 9, _ => rfl
  | n + 10, h => absurd h (by omega)

theorem conv_digit (k : Nat) (h : k < 10) (w : World) : (convert 21 9 (.int .i32 (48 + (k : Int)))).run Tryd.prog w = .ok (.string ⟨#[UInt8.ofNat (48 + k)]⟩) w := by
  rw [run_convert_int_string w 21 9 .i32 _ (by rw [Tryd.underlying21]; rfl) Tryd.underlying9, enc_digit k h]

theorem rtwo_any (w : World) (n : Nat) (hn : n < 100) : Calls Tryd.prog 39 #[.int .i64 (n : Int)] w fun e w' => e = .returned (.string ⟨(two n).toArray⟩) ∧ w' = w := by
  have c1 := conv_digit (n / 10) (by omega)
  have c2 := conv_digit (n % 10) (by omega)
  have HX : Hid (two n = [UInt8.ofNat (48 + n / 10)] ++ [UInt8.ofNat (48 + n % 10)]) := rfl
  rw [show ((n / 10 : Nat) : Int) = (n : Int) / 10 by simp] at c1
  rw [show ((n % 10 : Nat) : Int) = (n : Int) % 10 by omega] at c2
  generalize UInt8.ofNat (48 + n / 10) = x at c1 HX
  generalize UInt8.ofNat (48 + n % 10) = y at c2 HX
  go_enter Tryd.func39, Tryd.ntmps39
  go_wp2
  go_ret
  refine ⟨?_, rfl⟩
  rw [unhide HX]
  refine congrArg (fun z => Ending.returned (Value.string z)) ?_
  apply ByteArray.ext
  simp

theorem rnum_small (u : Nat) (w : World) (h : u < 10) :
    Calls Tryd.prog 38 #[.int .i64 (u : Int)] w fun e w' => e = .returned (.string ⟨(Lib.decDigits u).toArray⟩) ∧ w' = w := by
  have HE := hide (Lib.decDigits_one h)
  have c1 := conv_digit u h
  generalize UInt8.ofNat (48 + u) = x at c1 HE
  go_enter Tryd.func38, Tryd.ntmps38
  go_wp2
  go_ret
  refine ⟨?_, rfl⟩
  rw [unhide HE]
  rfl

theorem rnum_step (u : Nat) (w : World) (hu : u < 9223372036854775808) (h : ¬ u < 10) (D : List UInt8) (hl : D.length ≤ 20)
    (ih : Calls Tryd.prog 38 #[.int .i64 ((u / 10 : Nat) : Int)] w fun e w' => e = .returned (.string ⟨D.toArray⟩) ∧ w' = w) :
    Calls Tryd.prog 38 #[.int .i64 (u : Int)] w fun e w' => e = .returned (.string ⟨(D ++ [UInt8.ofNat (48 + u % 10)]).toArray⟩) ∧ w' = w := by
  rw [show ((u / 10 : Nat) : Int) = (u : Int) / 10 by simp] at ih
  have c1 := conv_digit (u % 10) (by omega)
  rw [show ((u % 10 : Nat) : Int) = (u : Int) % 10 by omega] at c1
  generalize UInt8.ofNat (48 + u % 10) = x at c1 ⊢
  have fin : ({ data := D.toArray } : ByteArray) ++ ({ data := #[x] } : ByteArray) = ⟨(D ++ [x]).toArray⟩ := by
    apply ByteArray.ext
    simp
  have HF := hide fin
  clear fin
  go_enter Tryd.func38, Tryd.ntmps38
  go_wp2_with fail
  refine ih.mono ?_
  rintro e w1 ⟨rfl, rfl⟩
  clear ih
  go_wp2
  go_ret
  exact ⟨congrArg (fun z => Ending.returned (Value.string z)) (unhide HF), rfl⟩

theorem rnum_any (u : Nat) : ∀ (w : World), u < 9223372036854775808 →
    Calls Tryd.prog 38 #[.int .i64 (u : Int)] w fun e w' => e = .returned (.string ⟨(Lib.decDigits u).toArray⟩) ∧ w' = w := by
  induction u using Nat.strongRecOn with
  | _ u rec =>
    intro w hu
    by_cases h : u < 10
    · exact rnum_small u w h
    · have ih := rec (u / 10) (by omega) w (by omega)
      have hl : (Lib.decDigits (u / 10)).length ≤ 20 := dec_len _ (by omega)
      have e : Lib.decDigits u = Lib.decDigits (u / 10) ++ [UInt8.ofNat (48 + u % 10)] := by rw [Lib.decDigits, dif_neg h]
      rw [e]
      exact rnum_step u w hu h _ hl ih

theorem rtext_right (w : World) (u : Nat) (hu : u ≤ 2147483648) :
    Calls Tryd.prog 25 #[.int .i64 (u : Int)] w fun e w' => e = .returned (.string ⟨(textN u).toArray⟩) ∧ Fr (fun _ => False) w w' := by
  have R0 := rright_any w (u : Int)
  rw [(right_iff _).2 ⟨by omega, by omega⟩] at R0
  have c0 := fun w => rnum_any (u / 10080) w (by omega)
  have c1 := fun w => rtwo_any w (u % 1440 / 60) (by omega)
  have c2 := fun w => rtwo_any w (u % 60) (by omega)
  have hl := dec_len (u / 10080) (by omega)
  have hw := word_length (u % 10080 / 1440)
  have HX : Hid (textN u = (((((Lib.decDigits (u / 10080) ++ [32]) ++ word (u % 10080 / 1440)) ++ [32]) ++ two (u % 1440 / 60)) ++ [58]) ++ two (u % 60)) := by
    unfold Hid textN
    simp
  rw [show ((u % 1440 / 60 : Nat) : Int) = (u : Int) / 60 % 24 by omega] at c1
  rw [show ((u % 60 : Nat) : Int) = (u : Int) % 60 by omega] at c2
  rw [show ((u / 10080 : Nat) : Int) = (u : Int) / 10080 by simp] at c0
  have ht : (two (u % 1440 / 60)).length = 2 := rfl
  have ht2 : (two (u % 60)).length = 2 := rfl
  generalize Lib.decDigits (u / 10080) = D at c0 hl HX
  generalize two (u % 1440 / 60) = x at c1 HX ht
  generalize two (u % 60) = y at c2 HX ht2
  generalize hdd : u % 10080 / 1440 = dd at *
  have hd7 : dd < 7 := by omega
  have hdi : (u : Int) / 1440 % 7 = (dd : Int) := by omega
  clear hdd
  go_enter Tryd.func25, Tryd.ntmps25
  go_wp2_with fail
  refine R0.mono ?_
  rintro e w1 ⟨rfl, rfl⟩
  have XX : ∀ t, (w1.alloc (.cells #[.string ⟨#[77, 111, 110]⟩, .string ⟨#[84, 117, 101]⟩, .string ⟨#[87, 101, 100]⟩, .string ⟨#[84, 104, 117]⟩, .string ⟨#[70, 114, 105]⟩, .string ⟨#[83, 97, 116]⟩, .string ⟨#[83, 117, 110]⟩] t)).cell? ⟨w1.heap.size, dd, none⟩ = some (.string ⟨(word dd).toArray⟩) := fun t => by
    rw [World.cell?_alloc_new]
    match dd, hd7 with
    | 0, _ => rfl
    | 1, _ => rfl
    | 2, _ => rfl
    | 3, _ => rfl
    | 4, _ => rfl
    | 5, _ => rfl
    | 6, _ => rfl
    | n + 7, h => exact absurd h (by omega)
  generalize word dd = W at XX HX hw
  go_wp2_with fail
  refine (c0 _).mono ?_
  rintro e w2 ⟨rfl, hw2⟩
  have HB : Hid (Fr (fun _ => False) w1 w2) := by rw [hw2]; exact (Fr.refl _ w1).alloc _
  clear hw2 XX c0 R0
  go_wp2_with fail
  refine (c1 w2).mono ?_
  rintro e w3 ⟨rfl, rfl⟩
  go_wp2_with fail
  refine (c2 w3).mono ?_
  rintro e w4 ⟨rfl, rfl⟩
  go_wp2
  go_ret
  refine ⟨?_, unhide HB⟩
  rw [unhide HX]
  refine congrArg (fun z => Ending.returned (Value.string z)) ?_
  apply ByteArray.ext
  simp

theorem rtext_any (w : World) (t : Int) :
    Calls Tryd.prog 25 #[.int .i64 t] w fun e w' => e = .returned (.string ⟨(text t).toArray⟩) ∧ Fr (fun _ => False) w w' := by
  cases h : right t with
  | true =>
    have hb := (right_iff t).1 h
    obtain ⟨u, rfl⟩ := Int.eq_ofNat_of_zero_le hb.1
    rw [text_nat u (by omega)]
    exact rtext_right w u (by omega)
  | false =>
    rw [text_not t h]
    have R := rright_any w t
    rw [h] at R
    clear h
    go_enter Tryd.func25, Tryd.ntmps25
    go_wp2_with fail
    refine R.mono ?_
    rintro e w1 ⟨rfl, rfl⟩
    go_wp2
    go_ret
    exact ⟨rfl, Fr.refl _ _⟩

end Go.Proofs.YtnnhhfajcecdkaaDoor
