/- Rates by their bits alone (the walk of MoneyBits). -/
import Derived.Test.YtighehbeeflhpabDoorS6
namespace Go.Proofs.YtighehbeeflhpabDoor
open Go.RowKit

theorem call13 (b : Nat) (w : World) : (callFunc 13 #[.int .u64 (b : Int)]).run Tryd.prog w = .ok (.value (.float .f64 b)) w := by
  rw [run_callFunc_extern Tryd.func13 (by kernel_rfl) (by kernel_rfl) (by kernel_rfl) (e := Extern.MathFloatBits.float64frombits) (by kernel_rfl)]
  rfl

set_option maxRecDepth 100000 in
theorem bits_walk (w : World) (hT : Pow w) (n : Int) (hn : -9223372036854775808 ≤ n ∧ n ≤ 9223372036854775807) :
    Calls Tryd.prog 5 #[.int .i64 n] w fun e w' => e = .returned (.bool true) ∧ Fr (fun _ => False) w w' := by
  have R0 := awake_any w hT
  clear hT
  by_cases h0 : 0 ≤ n
  · obtain ⟨b, rfl⟩ := Int.eq_ofNat_of_zero_le h0
    have c := fun w => call13 b w
    have R1 := fun w => rate_any w b
    by_cases h1 : b ≤ 4607182418800017408
    · have hr : rate b = true := by simp [rate, h1]
      simp only [hr] at R1
      have hd : decide ((b : Int) ≤ 4607182418800017408) = true := by simp; omega
      clear hr
      go_enter Tryd.func5, Tryd.ntmps5
      go_wp2_with fail
      refine R0.mono ?_
      rintro e w1 ⟨rfl, hF1⟩
      have HF1 := hide hF1
      clear R0 hF1
      go_wp2_with fail
      refine (R1 w1).mono ?_
      rintro e w1 ⟨rfl, rfl⟩
      go_wp2
      go_ret
      exact ⟨rfl, unhide HF1⟩
    · have hr : rate b = false := by simp [rate]; omega
      simp only [hr] at R1
      have hd : decide ((b : Int) ≤ 4607182418800017408) = false := by simp; omega
      clear hr
      go_enter Tryd.func5, Tryd.ntmps5
      go_wp2_with fail
      refine R0.mono ?_
      rintro e w1 ⟨rfl, hF1⟩
      have HF1 := hide hF1
      clear R0 hF1
      go_wp2_with fail
      refine (R1 w1).mono ?_
      rintro e w1 ⟨rfl, rfl⟩
      go_wp2
      go_ret
      exact ⟨rfl, unhide HF1⟩
  · obtain ⟨b, hb⟩ : ∃ b : Nat, n + 18446744073709551616 = (b : Int) := ⟨(n + 18446744073709551616).toNat, by omega⟩
    have c := fun w => call13 b w
    have R1 := fun w => rate_any w b
    have hr : rate b = false := by simp [rate]; omega
    simp only [hr] at R1
    have hw : IntKind.u64.wrap n = (b : Int) := by rw [IntKind.wrap_u64]; omega
    clear hr hb
    go_enter Tryd.func5, Tryd.ntmps5
    go_wp2_with fail
    refine R0.mono ?_
    rintro e w1 ⟨rfl, hF1⟩
    have HF1 := hide hF1
    clear R0 hF1
    go_wp2_with fail
    refine (R1 w1).mono ?_
    rintro e w1 ⟨rfl, rfl⟩
    go_wp2
    go_ret
    exact ⟨rfl, unhide HF1⟩

end Go.Proofs.YtighehbeeflhpabDoor
