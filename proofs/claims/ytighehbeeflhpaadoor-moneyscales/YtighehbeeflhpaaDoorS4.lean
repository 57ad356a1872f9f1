/- Amounts as texts: Text, digitsOf, Parse. -/
import Derived.Test.YtighehbeeflhpaaDoorS3
import Derived.Test.YtighehbeeflhpaaDoorM1
namespace Go.Proofs.YtighehbeeflhpaaDoor
open Go.RowKit

abbrev Pow (w : World) : Prop := Lib.TabIs Tryd.prog w "internal/strconv.uint64pow10" .u64 Lib.pow10Tab

theorem tab_frame {w w' : World} (h : Pow w) (hf : Fr (fun _ => False) w w') : Pow w' := by
  unfold Pow Lib.TabIs World.var? at *
  cases hg : Tryd.prog.globalNamed "internal/strconv.uint64pow10" with
  | none => simp [hg] at h
  | some g =>
    simp only [hg, Option.bind_some] at h ⊢
    have hlt : g < w.heap.size := by
      rcases Nat.lt_or_ge g w.heap.size with h' | h'
      · exact h'
      · rw [Array.getElem?_eq_none h'] at h; simp at h
    rw [hf.block g hlt (fun t => t)]
    exact h

theorem fr_grow {w : World} (k : Nat) (os : Array Obj) : Fr (fun _ => False) w (Sort.grow (w.drewN k) os) := by
  refine ⟨rfl, rfl, rfl, ?_, fun i hi _ => ?_⟩
  · simp [Sort.grow]
  · show (w.heap ++ os)[i]? = w.heap[i]?
    exact Array.getElem?_append_left hi

theorem itoa_any (w : World) (u : Nat) (hu : u ≤ 9223372036854775807) (hT : Pow w) : Calls Tryd.prog 39 #[.int .i64 (u : Int)] w fun e w' => e = .returned (.string ⟨(Lib.decDigits u).toArray⟩) ∧ Fr (fun _ => False) w w' := by
  refine (Tryd.strconv_Itoa (u : Int) (by omega) (by omega) w hT).mono ?_
  rintro e w' ⟨rfl, k, os, rfl⟩
  have : Lib.itoa (u : Int) = Lib.decDigits u := by unfold Lib.itoa; rw [if_neg (by omega)]; simp
  exact ⟨by rw [this], fr_grow k os⟩

theorem ba_append (a b : List UInt8) (A B : Array UInt8) (hA : A = a.toArray) (hB : B = b.toArray) : ((⟨A⟩ : ByteArray) ++ (⟨B⟩ : ByteArray)) = ⟨(a ++ b).toArray⟩ := by
  subst hA hB
  apply ByteArray.ext
  simp

theorem dec_len (u : Nat) (hu : u ≤ 9223372036854775808) : (Lib.decDigits u).length ≤ 20 := by
  rw [Lib.decDigits_length]
  exact nDigits_le 19 u (by omega)

/-- Text of a number, whatever Itoa of the pounds makes of the world. -/
theorem text_pos (w : World) (u : Nat) (hu : u ≤ 9223372036854775807) (S : World → Prop) (hI : Calls Tryd.prog 39 #[.int .i64 ((u / 100 : Nat) : Int)] w fun e w' => e = .returned (.string ⟨(Lib.decDigits (u / 100)).toArray⟩) ∧ S w') :
    Calls Tryd.prog 26 #[.int .i64 (u : Int)] w fun e w' => e = .returned (.string ⟨(text (u : Int)).toArray⟩) ∧ S w' := by
  have c1 := fun w => Tryd.strconv_Itoa_small (u % 100 / 10) (by omega) w
  have c2 := fun w => Tryd.strconv_Itoa_small (u % 100 % 10) (by omega) w
  have hl := dec_len (u / 100) (by omega)
  have HX : Hid (text (u : Int) = (((([] ++ Lib.decDigits (u / 100)) ++ [46]) ++ [UInt8.ofNat (48 + u % 100 / 10)]) ++ [UInt8.ofNat (48 + u % 100 % 10)])) := by
    unfold Hid text textU
    rw [if_neg (by omega)]
    simp
  rw [Lib.decDigits_one (show u % 100 / 10 < 10 by omega)] at c1
  rw [Lib.decDigits_one (show u % 100 % 10 < 10 by omega)] at c2
  rw [show ((u / 100 : Nat) : Int) = (u : Int) / 100 by simp] at hI
  rw [show ((u % 100 / 10 : Nat) : Int) = (u : Int) % 100 / 10 by simp] at c1
  rw [show ((u % 100 % 10 : Nat) : Int) = (u : Int) % 10 by omega] at c2
  generalize Lib.decDigits (u / 100) = D at hI hl HX
  generalize UInt8.ofNat (48 + u % 100 / 10) = x at c1 HX
  generalize UInt8.ofNat (48 + u % 100 % 10) = y at c2 HX
  go_enter Tryd.func26, Tryd.ntmps26
  go_wp2_with fail
  refine hI.mono ?_
  rintro e w1 ⟨rfl, hS⟩
  go_wp2_with fail
  refine (c1 w1).mono ?_
  rintro e w2 ⟨rfl, rfl⟩
  go_wp2_with fail
  refine (c2 w2).mono ?_
  rintro e w3 ⟨rfl, rfl⟩
  go_wp2
  go_ret
  refine ⟨?_, hS⟩
  rw [unhide HX]
  refine congrArg (fun z => Ending.returned (Value.string z)) ?_
  apply ByteArray.ext
  simp

theorem text_neg (w : World) (u : Nat) (h1 : 1 ≤ u) (hu : u ≤ 9223372036854775808) (S : World → Prop) (hI : Calls Tryd.prog 39 #[.int .i64 ((u / 100 : Nat) : Int)] w fun e w' => e = .returned (.string ⟨(Lib.decDigits (u / 100)).toArray⟩) ∧ S w') :
    Calls Tryd.prog 26 #[.int .i64 (-(u : Int))] w fun e w' => e = .returned (.string ⟨(text (-(u : Int))).toArray⟩) ∧ S w' := by
  have c1 := fun w => Tryd.strconv_Itoa_small (u % 100 / 10) (by omega) w
  have c2 := fun w => Tryd.strconv_Itoa_small (u % 100 % 10) (by omega) w
  have hl := dec_len (u / 100) (by omega)
  have HX : Hid (text (-(u : Int)) = (((([45] ++ Lib.decDigits (u / 100)) ++ [46]) ++ [UInt8.ofNat (48 + u % 100 / 10)]) ++ [UInt8.ofNat (48 + u % 100 % 10)])) := by
    unfold Hid text textU
    rw [if_pos (by omega)]
    simp
  rw [Lib.decDigits_one (show u % 100 / 10 < 10 by omega)] at c1
  rw [Lib.decDigits_one (show u % 100 % 10 < 10 by omega)] at c2
  rw [show ((u / 100 : Nat) : Int) = (u : Int) / 100 by simp] at hI
  rw [show ((u % 100 / 10 : Nat) : Int) = (u : Int) % 100 / 10 by simp] at c1
  rw [show ((u % 100 % 10 : Nat) : Int) = (u : Int) % 10 by omega] at c2
  generalize Lib.decDigits (u / 100) = D at hI hl HX
  generalize UInt8.ofNat (48 + u % 100 / 10) = x at c1 HX
  generalize UInt8.ofNat (48 + u % 100 % 10) = y at c2 HX
  go_enter Tryd.func26, Tryd.ntmps26
  go_wp2_with fail
  refine hI.mono ?_
  rintro e w1 ⟨rfl, hS⟩
  go_wp2_with fail
  refine (c1 w1).mono ?_
  rintro e w2 ⟨rfl, rfl⟩
  go_wp2_with fail
  refine (c2 w2).mono ?_
  rintro e w3 ⟨rfl, rfl⟩
  go_wp2
  go_ret
  refine ⟨?_, hS⟩
  rw [unhide HX]
  refine congrArg (fun z => Ending.returned (Value.string z)) ?_
  apply ByteArray.ext
  simp

theorem text_any (w : World) (n : Int) (h0 : -9223372036854775808 ≤ n) (h1 : n ≤ 9223372036854775807) (hT : Pow w) :
    Calls Tryd.prog 26 #[.int .i64 n] w fun e w' => e = .returned (.string ⟨(text n).toArray⟩) ∧ Fr (fun _ => False) w w' := by
  by_cases h : 0 ≤ n
  · obtain ⟨u, rfl⟩ := Int.eq_ofNat_of_zero_le h
    exact text_pos w u (by omega) _ (itoa_any w (u / 100) (by omega) hT)
  · obtain ⟨u, rfl⟩ : ∃ u : Nat, n = -(u : Int) := ⟨n.natAbs, by omega⟩
    exact text_neg w u (by omega) (by omega) _ (itoa_any w (u / 100) (by omega) hT)

/-- Where the pounds are few no table is read. -/
theorem text_small (w : World) (n : Int) (h : n.natAbs < 10000) :
    Calls Tryd.prog 26 #[.int .i64 n] w fun e w' => e = .returned (.string ⟨(text n).toArray⟩) ∧ w' = w := by
  by_cases h0 : 0 ≤ n
  · obtain ⟨u, rfl⟩ := Int.eq_ofNat_of_zero_le h0
    exact text_pos w u (by omega) (fun w' => w' = w) (Tryd.strconv_Itoa_small (u / 100) (by omega) w)
  · obtain ⟨u, rfl⟩ : ∃ u : Nat, n = -(u : Int) := ⟨n.natAbs, by omega⟩
    exact text_neg w u (by omega) (by omega) (fun w' => w' = w) (Tryd.strconv_Itoa_small (u / 100) (by omega) w)

end Go.Proofs.YtighehbeeflhpaaDoor
