/- Amounts as texts, the way back: digitsOf, Parse. -/
import Derived.Test.YtighehbeeflhpabDoorS4
namespace Go.Proofs.YtighehbeeflhpabDoor
open Go.RowKit

theorem digN_take (s : List UInt8) (i : Nat) (h : i < s.length) : digN 0 (s.take (i + 1)) = if 48 ≤ s[i].toNat ∧ s[i].toNat ≤ 57 then 10 * digN 0 (s.take i) + (s[i].toNat - 48) else digN 0 (s.take i) := by
  rw [List.take_succ_eq_append_getElem h, digN_append]
  generalize digN 0 (s.take i) = n
  rfl

theorem digN_take_lt (s : List UInt8) (i : Nat) (h : i < 18) : digN 0 (s.take i) < 100000000000000000 := by
  have h1 := digN_bound (s.take i) 0
  have h2 : 10 ^ (s.take i).length ≤ 10 ^ 17 := Nat.pow_le_pow_right (by decide) (by simp; omega)
  omega

theorem digits_any (w : World) (s : List UInt8) (hl : s.length ≤ 18) :
    Calls Tryd.prog 17 #[.string ⟨s.toArray⟩] w fun e w' => e = .returned (.int .i64 ((digN 0 s : Nat) : Int)) ∧ w' = w := by
  go_enter Tryd.func17, Tryd.ntmps17
  go_wp2
  go_loopw [3, 4, 5, 8] (fun nv _ _ iv wr => ∃ (i d : Nat), i ≤ s.length ∧ iv = .int .i64 i ∧ nv = .int .i64 (d : Int) ∧ wr = w ∧ Hid (d = digN 0 (s.take i))) (fun _ _ _ iv _ => s.length - (intOf iv).toNat)
  case atStart => exact ⟨0, 0, Nat.zero_le _, rfl, rfl, rfl, by simp [Hid, digN]⟩
  case round =>
    obtain ⟨i, d, hi, rfl, rfl, rfl, HI⟩ := hrel
    by_cases hlt : i < s.length
    · have hd : d < 100000000000000000 := by rw [unhide HI]; exact digN_take_lt s i (by omega)
      have HS := hide (digN_take s i hlt)
      have HX : Hid (((⟨s.toArray⟩ : ByteArray)[i]'hlt).toNat = s[i].toNat) := rfl
      go_wp2
      all_goals
        have hx := unhide HX
        have hI := unhide HI
        have hS := unhide HS
        refine ⟨⟨i + 1, digN 0 (s.take (i + 1)), by omega, by go_num, ?_, trivial, rfl⟩, by simp [intOf]; omega⟩
        refine congrArg (Value.int .i64) ?_
        rw [hS, ← hI]
        clear hS hI HS HI HX
        split <;> omega
    · obtain rfl : i = s.length := by omega
      go_wp2
      go_ret
      exact ⟨by rw [unhide HI, List.take_length]; rfl, rfl⟩

/-- What Parse answers. -/
def parsed (s : List UInt8) : Option Int := if right (cand s) && decide (text (cand s) = s) then some (cand s) else none

theorem parsed_long (s : List UInt8) (h : 18 < s.length) : parsed s = none := by
  unfold parsed
  by_cases hr : right (cand s) = true
  · have h1 := text_length (cand s) (by have := (right_iff _).1 hr; omega)
    rw [if_neg]
    intro h2
    simp only [Bool.and_eq_true, decide_eq_true_eq] at h2
    rw [h2.2] at h1
    omega
  · rw [if_neg]
    intro h2
    simp only [Bool.and_eq_true] at h2
    exact hr h2.1

theorem prefix_minus (s : List UInt8) : Lib.hasPrefix s [45] = decide (s.head? = some 45) := by
  unfold Lib.hasPrefix
  cases s with
  | nil => rfl
  | cons c r =>
    show (45 == c && true) = decide (some c = some 45)
    rw [Bool.and_true]
    by_cases h : c = 45
    · subst h; rfl
    · have h2 : ¬ (some c = some (45 : UInt8)) := fun e => h (Option.some.inj e)
      rw [decide_eq_false h2]
      exact beq_eq_false_iff_ne.2 (fun e => h e.symm)

theorem parse_any (w : World) (s : List UInt8) (hl : s.length ≤ 140737488355328) (hT : Pow w) :
    Calls Tryd.prog 7 #[.string ⟨s.toArray⟩] w fun e w' => e = .returned (.tuple #[.int .i64 (rv (parsed s)), .int .i64 (re 1 (parsed s))]) ∧ Fr (fun _ => False) w w' := by
  by_cases hlong : 18 < s.length
  · rw [parsed_long s hlong]
    go_enter Tryd.func7, Tryd.ntmps7
    go_wp2
    go_ret2
    exact ⟨rfl, Fr.refl _ _⟩
  · have R1 := digits_any w s (by omega)
    have R2 := Tryd.strings_HasPrefix ⟨s.toArray⟩ ⟨#[45]⟩ w
    have hd := digN_small s (by omega)
    have e2 : Lib.hasPrefix (⟨s.toArray⟩ : ByteArray).data.toList (⟨#[45]⟩ : ByteArray).data.toList = decide (s.head? = some 45) := prefix_minus s
    rw [e2] at R2
    have HC : Hid (cand s = if decide (s.head? = some 45) = true then -((digN 0 s : Nat) : Int) else ((digN 0 s : Nat) : Int)) := by
      unfold Hid cand
      simp
    clear e2
    generalize decide (s.head? = some 45) = neg at R2 HC
    generalize digN 0 s = d at R1 hd HC
    have R3 := right_any w (cand s)
    have R4 : ∀ h : right (cand s) = true, Calls Tryd.prog 8 #[.int .i64 (cand s)] w fun e w' => e = .returned (.string ⟨(text (cand s)).toArray⟩) ∧ Fr (fun _ => False) w w' := fun h =>
      text_any w (cand s) (by have := (right_iff _).1 h; omega) (by have := (right_iff _).1 h; omega) hT
    have HP : Hid (parsed s = if right (cand s) && decide (text (cand s) = s) then some (cand s) else none) := rfl
    generalize cand s = c at R3 R4 HP HC
    generalize parsed s = P at HP ⊢
    have HR4 := hide R4
    clear R4
    cases neg with
    | true =>
      have hc : c = -((d : Nat) : Int) := by have := unhide HC; simpa using this
      subst hc
      clear HC
      go_enter Tryd.func7, Tryd.ntmps7
      go_wp2_with fail
      refine R1.mono ?_
      rintro e w1 ⟨rfl, rfl⟩
      go_wp2_with fail
      refine R2.mono ?_
      rintro e w1 ⟨rfl, rfl⟩
      go_wp2_with fail
      refine R3.mono ?_
      rintro e w1 ⟨rfl, rfl⟩
      by_cases hr : right (-((d : Nat) : Int)) = true
      · have R4 := unhide HR4 hr
        rw [hr] at HP ⊢
        clear hr R1 R2 R3 HR4
        go_wp2_with fail
        refine R4.mono ?_
        rintro e w2 ⟨rfl, hF⟩
        have HF := hide hF
        clear R4 hF
        generalize text (-((d : Nat) : Int)) = T at HP ⊢
        by_cases hts : T = s
        · have hb : (T == s) = true := by simpa using hts
          have HP' : Hid (P = some (-((d : Nat) : Int))) := hide (by have := unhide HP; simpa [hts] using this)
          clear HP hts
          go_wp2
          go_ret2
          exact ⟨by rw [unhide HP']; rfl, unhide HF⟩
        · have hb : (T == s) = false := by simpa using hts
          have HP' : Hid (P = none) := hide (by have := unhide HP; simpa [hts] using this)
          clear HP hts
          go_wp2
          go_ret2
          exact ⟨by rw [unhide HP']; rfl, unhide HF⟩
      · have hr' : right (-((d : Nat) : Int)) = false := by simpa using hr
        have HP' : Hid (P = none) := hide (by have := unhide HP; simpa [hr'] using this)
        rw [hr']
        clear hr hr' HP R1 R2 R3 HR4
        go_wp2
        go_ret2
        exact ⟨by rw [unhide HP']; rfl, Fr.refl _ _⟩
    | false =>
      have hc : c = ((d : Nat) : Int) := by have := unhide HC; simpa using this
      subst hc
      clear HC
      go_enter Tryd.func7, Tryd.ntmps7
      go_wp2_with fail
      refine R1.mono ?_
      rintro e w1 ⟨rfl, rfl⟩
      go_wp2_with fail
      refine R2.mono ?_
      rintro e w1 ⟨rfl, rfl⟩
      go_wp2_with fail
      refine R3.mono ?_
      rintro e w1 ⟨rfl, rfl⟩
      by_cases hr : right ((d : Nat) : Int) = true
      · have R4 := unhide HR4 hr
        rw [hr] at HP ⊢
        clear hr R1 R2 R3 HR4
        go_wp2_with fail
        refine R4.mono ?_
        rintro e w2 ⟨rfl, hF⟩
        have HF := hide hF
        clear R4 hF
        generalize text ((d : Nat) : Int) = T at HP ⊢
        by_cases hts : T = s
        · have hb : (T == s) = true := by simpa using hts
          have HP' : Hid (P = some ((d : Nat) : Int)) := hide (by have := unhide HP; simpa [hts] using this)
          clear HP hts
          go_wp2
          go_ret2
          exact ⟨by rw [unhide HP']; rfl, unhide HF⟩
        · have hb : (T == s) = false := by simpa using hts
          have HP' : Hid (P = none) := hide (by have := unhide HP; simpa [hts] using this)
          clear HP hts
          go_wp2
          go_ret2
          exact ⟨by rw [unhide HP']; rfl, unhide HF⟩
      · have hr' : right ((d : Nat) : Int) = false := by simpa using hr
        have HP' : Hid (P = none) := hide (by have := unhide HP; simpa [hr'] using this)
        rw [hr']
        clear hr hr' HP R1 R2 R3 HR4
        go_wp2
        go_ret2
        exact ⟨by rw [unhide HP']; rfl, Fr.refl _ _⟩

end Go.Proofs.YtighehbeeflhpabDoor
