/- The document's rates: parts, Rate. -/
import Derived.Test.YthgkdpepgnoepaaS2
import Derived.Test.YthgkdpepgnoepaaR1
namespace Go.Proofs.Ythgkdpepgnoepaa
open Go.RowKit

theorem results_tmp4 {fn : Func} {t u v x : Tmp} (h : fn.results = #[.tmp t, .tmp u, .tmp v, .tmp x]) (tmps : Array Value) (P : Program) (w : World) :
    (results fn tmps).run P w = .ok (.tuple #[tmps.getD t undef, tmps.getD u undef, tmps.getD v undef, tmps.getD x undef]) w := by
  simp [results, h]

/-- A float's parts: sign, whole number, power, whether it is one. -/
def pSign (b : Nat) : Bool := decide (9223372036854775808 ≤ b)
def pExp (b : Nat) : Nat := b / 4503599627370496 % 2048
def pWhole (b : Nat) : Nat := if pExp b = 2047 then b % 4503599627370496 else if pExp b = 0 then b % 4503599627370496 else b % 4503599627370496 + 4503599627370496
def pPower (b : Nat) : Int := if pExp b = 2047 then 0 else if pExp b = 0 then -1074 else (pExp b : Int) - 1075
def pOk (b : Nat) : Bool := decide (pExp b ≠ 2047)

theorem parts_any (w : World) (b : Nat) (hb : b < 18446744073709551616) :
    Calls Try.prog 60 #[.float .f64 b] w fun e w' => e = .returned (.tuple #[.bool (pSign b), .int .u64 ((pWhole b : Nat) : Int), .int .i64 (pPower b), .bool (pOk b)]) ∧ w' = w := by
  have c1 := fun w => call31 b w
  have HS : Hid (((b : Int) / 9223372036854775808 == 1) = pSign b) := by
    unfold Hid pSign
    rw [Bool.eq_iff_iff]
    simp
    omega
  have he : ((b : Int) / 4503599627370496 % 2048) = ((pExp b : Nat) : Int) := by simp [pExp]
  by_cases h1 : pExp b = 2047
  · have hx : ((b : Int) / 4503599627370496 % 2048) = 2047 := by omega
    have HV : Hid (pWhole b = b % 4503599627370496 ∧ pPower b = 0 ∧ pOk b = false) := by simp [Hid, pWhole, pPower, pOk, h1]
    clear h1 he
    go_enter Try.func60, Try.ntmps60
    go_wp2
    refine bodyPost_ret (results_tmp4 rfl _ _ _) rfl ?_
    refine ⟨?_, rfl⟩
    rw [(unhide HV).1, (unhide HV).2.1, (unhide HV).2.2, ← unhide HS]
    rfl
  · by_cases h0 : pExp b = 0
    · have hx : ((b : Int) / 4503599627370496 % 2048) = 0 := by omega
      have HV : Hid (pWhole b = b % 4503599627370496 ∧ pPower b = -1074 ∧ pOk b = true) := by simp [Hid, pWhole, pPower, pOk, h0]
      clear h1 h0 he
      go_enter Try.func60, Try.ntmps60
      go_wp2
      refine bodyPost_ret (results_tmp4 rfl _ _ _) rfl ?_
      refine ⟨?_, rfl⟩
      rw [(unhide HV).1, (unhide HV).2.1, (unhide HV).2.2, ← unhide HS]
      rfl
    · have hx : ((b : Int) / 4503599627370496 % 2048 == 0) = false := by rw [he]; simp; exact h0
      have hy : ((b : Int) / 4503599627370496 % 2048 == 2047) = false := by
        rw [he]
        have : ¬ ((pExp b : Nat) : Int) = 2047 := by omega
        simpa using this
      have HV : Hid (((pWhole b : Nat) : Int) = (b : Int) % 4503599627370496 + 4503599627370496 ∧ pPower b = (b : Int) / 4503599627370496 % 2048 - 1075 ∧ pOk b = true) := by
        rw [he]
        simp [Hid, pWhole, pPower, pOk, h0, h1]
      clear h1 h0 he
      go_enter Try.func60, Try.ntmps60
      go_wp2
      refine bodyPost_ret (results_tmp4 rfl _ _ _) rfl ?_
      refine ⟨?_, rfl⟩
      rw [(unhide HV).1, (unhide HV).2.1, (unhide HV).2.2, ← unhide HS]
      rfl

theorem rate_parts (b : Nat) (hb : b < 18446744073709551616) : rate b = (pOk b && !pSign b && (decide (pPower b < -52) || (decide (pPower b = -52) && decide (pWhole b = 4503599627370496)) || decide (pWhole b = 0))) := by
  unfold rate pOk pSign pPower pWhole
  have he : pExp b = b / 4503599627370496 % 2048 := rfl
  rw [Bool.eq_iff_iff]
  by_cases h1 : pExp b = 2047
  · simp [h1]; omega
  · by_cases h0 : pExp b = 0
    · simp [h0]; omega
    · simp [h1, h0]; omega

theorem rrate_any (w : World) (b : Nat) (hb : b < 18446744073709551616) : Calls Try.prog 36 #[.float .f64 b] w fun e w' => e = .returned (.bool (rate b)) ∧ w' = w := by
  have R := parts_any w b hb
  have HP := hide (rate_parts b hb)
  have hw : pWhole b < 9007199254740992 := by unfold pWhole; split; omega; split <;> omega
  generalize pSign b = s at R HP
  generalize pOk b = o at R HP
  generalize pWhole b = q at R HP hw
  generalize pPower b = p at R HP
  generalize rate b = r at HP ⊢
  go_enter Try.func36, Try.ntmps36
  go_wp2_with fail
  refine R.mono ?_
  rintro e w1 ⟨rfl, rfl⟩
  cases o with
  | false =>
    go_wp2
    go_ret
    exact ⟨by rw [unhide HP]; rfl, rfl⟩
  | true =>
    cases s with
    | true =>
      go_wp2
      go_ret
      exact ⟨by rw [unhide HP]; rfl, rfl⟩
    | false =>
      go_wp2
      all_goals
        go_ret
        refine ⟨?_, rfl⟩
        rw [unhide HP]
        first
          | (simp_all; done)
          | (simp_all; omega)
          | (simp_all; rw [Bool.eq_iff_iff]; simp; done)
          | (simp_all; rw [Bool.eq_iff_iff]; simp; omega)

end Go.Proofs.Ythgkdpepgnoepaa
