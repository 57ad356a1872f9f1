import Derived.Test.YthgkifkcckandaaN6
/- Which taps may be: the program's tapError, the document's TapRight. -/
namespace Go.Proofs.Ythgkifkcckandaa
open Go.RowKit

/-- Is a number from lo to hi? -/
def isIn (n lo hi : Int) : Bool := decide (lo ≤ n) && decide (n ≤ hi)

theorem isIn_not {n lo : Int} (h : ¬ lo ≤ n) (hi : Int) : isIn n lo hi = false := by simp [isIn, h]

theorem isFrom_is {n lo hi : Int} {b : Bool} (hb : isIn n lo hi = b) (w : World) : Calls Try.prog 69 #[.int .i64 n, .int .i64 lo, .int .i64 hi] w fun e w' => e = .returned (.bool b) ∧ w' = w := by
  subst hb
  by_cases h1 : lo ≤ n
  · go_enter Try.func69, Try.ntmps69
    go_wp2
    go_ret
    exact ⟨by simp [isIn, h1], rfl⟩
  · have HN := hide (isIn_not h1 hi)
    go_enter Try.func69, Try.ntmps69
    go_wp2
    go_ret
    exact ⟨by rw [unhide HN]; rfl, rfl⟩

theorem ctime_is {n : Int} {b : Bool} (hb : isIn n 0 2147483648 = b) (w : World) : Calls Try.prog 49 #[.int .i64 n] w fun e w' => e = .returned (.bool b) ∧ w' = w := by
  subst hb
  by_cases h1 : 0 ≤ n
  · go_enter Try.func49, Try.ntmps49
    go_wp2
    go_ret
    exact ⟨by simp [isIn, h1], rfl⟩
  · have HN := hide (isIn_not h1 2147483648)
    go_enter Try.func49, Try.ntmps49
    go_wp2
    go_ret
    exact ⟨by rw [unhide HN]; rfl, rfl⟩

/-- Has a text eight bytes? -/
def isTok (s : ByteArray) : Bool := (s.size : Int) == 8

theorem isToken_is {s : ByteArray} {b : Bool} (hb : isTok s = b) (w : World) : Calls Try.prog 72 #[.string s] w fun e w' => e = .returned (.bool b) ∧ w' = w := by
  subst hb
  go_enter Try.func72, Try.ntmps72
  go_wp2
  go_ret
  exact ⟨rfl, rfl⟩

theorem errorUnless_any (b : Bool) (w : World) : Calls Try.prog 71 #[.bool b] w fun e w' => e = .returned (.int .i64 (if b then 0 else 80)) ∧ w' = w := by
  cases b
  · go_enter Try.func71, Try.ntmps71
    go_wp2
    go_ret
    exact ⟨rfl, rfl⟩
  · go_enter Try.func71, Try.ntmps71
    go_wp2
    go_ret
    exact ⟨rfl, rfl⟩

def mostPlace (kind : Int) : Int := if kind = 3 then 1000 else 65535

theorem greatestPlace_is {k m : Int} (hm : mostPlace k = m) (w : World) : Calls Try.prog 70 #[.int .i64 k] w fun e w' => e = .returned (.int .i64 m) ∧ w' = w := by
  subst hm
  by_cases h : k = 3
  · have hd : (k == 3) = true := by simp [h]
    have HH := hide h
    clear h
    go_enter Try.func70, Try.ntmps70
    go_wp2
    go_ret
    exact ⟨by simp [mostPlace, unhide HH], rfl⟩
  · have hd : (k == 3) = false := by simp [h]
    have HH := hide h
    clear h
    go_enter Try.func70, Try.ntmps70
    go_wp2
    go_ret
    exact ⟨by simp [mostPlace, unhide HH], rfl⟩

/-- A tap. -/
structure Tp where
  dev : Int
  ctr : Int
  tok : ByteArray
  kind : Int
  place : Int
  time : Int

def tpC (t : Tp) : Array Value := #[.int .i64 t.dev, .int .i64 t.ctr, .string t.tok, .int .i64 t.kind, .int .i64 t.place, .int .i64 t.time]

/-- May it be? -/
def tapOk (t : Tp) : Bool := ((isIn t.dev 1 65535 && isIn t.ctr 1 4294967295) && (isIn t.kind 1 3 && isIn t.place 1 (mostPlace t.kind))) && isTok t.tok && isIn t.time 0 2147483648
def tapE (t : Tp) : Int := if tapOk t then 0 else 80

theorem isIn_iff {n lo hi : Int} : isIn n lo hi = true ↔ lo ≤ n ∧ n ≤ hi := by simp [isIn]

theorem mostPlace_le (k : Int) : mostPlace k ≤ 65535 := by unfold mostPlace; split <;> omega

theorem tap_small (t : Tp) (h : tapOk t = true) : t.dev ≤ 9223372036854775807 ∧ t.ctr ≤ 9223372036854775807 ∧ t.kind ≤ 9223372036854775807 ∧ t.place ≤ 9223372036854775807 ∧ t.time ≤ 9223372036854775807 := by
  simp only [tapOk, Bool.and_eq_true, isIn_iff] at h
  have := mostPlace_le t.kind
  omega

set_option maxHeartbeats 1000000 in
theorem tapError_any (t : Tp) (w : World) : Calls Try.prog 59 #[.agg (tpC t)] w fun e w' => e = .returned (.int .i64 (tapE t)) ∧ Fr (fun _ => False) w w' := by
  obtain ⟨b1, hb1⟩ : ∃ b, isIn t.dev 1 65535 = b := ⟨_, rfl⟩
  obtain ⟨b2, hb2⟩ : ∃ b, isIn t.ctr 1 4294967295 = b := ⟨_, rfl⟩
  obtain ⟨b3, hb3⟩ : ∃ b, isIn t.kind 1 3 = b := ⟨_, rfl⟩
  obtain ⟨m, hm⟩ : ∃ m, mostPlace t.kind = m := ⟨_, rfl⟩
  obtain ⟨b4, hb4⟩ : ∃ b, isIn t.place 1 m = b := ⟨_, rfl⟩
  obtain ⟨b5, hb5⟩ : ∃ b, isTok t.tok = b := ⟨_, rfl⟩
  obtain ⟨b6, hb6⟩ : ∃ b, isIn t.time 0 2147483648 = b := ⟨_, rfl⟩
  have HE : Hid (tapE t = if ((b1 && b2) && (b3 && b4)) && b5 && b6 then 0 else 80) := hide (by unfold tapE tapOk; rw [hb1, hb2, hb3, hm, hb4, hb5, hb6])
  have R1 := hide (isFrom_is hb1)
  have R2 := hide (isFrom_is hb2)
  have R3 := hide (isFrom_is hb3)
  have RM := hide (greatestPlace_is hm)
  have R4 := hide (isFrom_is hb4)
  have R5 := hide (isToken_is hb5)
  have R6 := hide (ctime_is hb6)
  clear hb1 hb2 hb3 hb4 hb5 hb6 hm
  generalize hE : tapE t = E at HE ⊢
  clear hE
  unfold tpC
  obtain ⟨dev, ctr, tok, kind, place, time⟩ := t
  simp only at R1 R2 R3 RM R4 R5 R6 ⊢
  go_enter Try.func59, Try.ntmps59
  go_wp2_with fail
  refine (unhide R1 _).mono ?_
  rintro e w1 ⟨rfl, rfl⟩
  have hF : Fr (fun _ => False) w (w.alloc (.cells #[.int .i64 dev, .int .i64 ctr, .string tok, .int .i64 kind, .int .i64 place, .int .i64 time] 39)) := (Fr.refl _ _).alloc _
  have HF := hide hF
  clear hF
  have c2 : (w.alloc (.cells #[.int .i64 dev, .int .i64 ctr, .string tok, .int .i64 kind, .int .i64 place, .int .i64 time] 39)).cell? ⟨w.heap.size, 2, none⟩ = some (.string tok) := by simp
  have c3 : (w.alloc (.cells #[.int .i64 dev, .int .i64 ctr, .string tok, .int .i64 kind, .int .i64 place, .int .i64 time] 39)).cell? ⟨w.heap.size, 3, none⟩ = some (.int .i64 kind) := by simp
  have c4 : (w.alloc (.cells #[.int .i64 dev, .int .i64 ctr, .string tok, .int .i64 kind, .int .i64 place, .int .i64 time] 39)).cell? ⟨w.heap.size, 4, none⟩ = some (.int .i64 place) := by simp
  have c5 : (w.alloc (.cells #[.int .i64 dev, .int .i64 ctr, .string tok, .int .i64 kind, .int .i64 place, .int .i64 time] 39)).cell? ⟨w.heap.size, 5, none⟩ = some (.int .i64 time) := by simp
  have c1 : (w.alloc (.cells #[.int .i64 dev, .int .i64 ctr, .string tok, .int .i64 kind, .int .i64 place, .int .i64 time] 39)).cell? ⟨w.heap.size, 1, none⟩ = some (.int .i64 ctr) := by simp
  generalize w.alloc (.cells #[.int .i64 dev, .int .i64 ctr, .string tok, .int .i64 kind, .int .i64 place, .int .i64 time] 39) = wA at *
  generalize w.heap.size = B at *
  cases b1
  · go_wp2_with fail
    cases b3
    · go_quiet ((go_at_call_of 69 (Value.int IntKind.i64 kind); exact Calls.quiet_of_same (unhide R3 _)))
      go_wp2_with fail
      refine (errorUnless_any false _).mono ?_
      rintro e w1 ⟨rfl, rfl⟩
      go_wp2
      go_ret
      exact ⟨by rw [unhide HE]; rfl, (unhide HF).drewN _⟩
    · cases b4
      · go_quiet (first | (go_at_call_of 69 (Value.int IntKind.i64 kind); exact Calls.quiet_of_same (unhide R3 _)) | (go_at_call 70; exact Calls.quiet_of_same (unhide RM _)) | (go_at_call_of 69 (Value.int IntKind.i64 place); exact Calls.quiet_of_same (unhide R4 _)))
        go_wp2_with fail
        refine (errorUnless_any false _).mono ?_
        rintro e w1 ⟨rfl, rfl⟩
        go_wp2
        go_ret
        exact ⟨by rw [unhide HE]; rfl, (unhide HF).drewN _⟩
      · go_quiet (first | (go_at_call_of 69 (Value.int IntKind.i64 kind); exact Calls.quiet_of_same (unhide R3 _)) | (go_at_call 70; exact Calls.quiet_of_same (unhide RM _)) | (go_at_call_of 69 (Value.int IntKind.i64 place); exact Calls.quiet_of_same (unhide R4 _)))
        go_wp2_with fail
        refine (errorUnless_any false _).mono ?_
        rintro e w1 ⟨rfl, rfl⟩
        go_wp2
        go_ret
        exact ⟨by rw [unhide HE]; rfl, (unhide HF).drewN _⟩
  · go_wp2_with fail
    refine (unhide R2 _).mono ?_
    rintro e w1 ⟨rfl, rfl⟩
    cases b2
    · go_wp2_with fail
      cases b3
      · go_quiet ((go_at_call_of 69 (Value.int IntKind.i64 kind); exact Calls.quiet_of_same (unhide R3 _)))
        go_wp2_with fail
        refine (errorUnless_any false _).mono ?_
        rintro e w1 ⟨rfl, rfl⟩
        go_wp2
        go_ret
        exact ⟨by rw [unhide HE]; rfl, (unhide HF).drewN _⟩
      · cases b4
        · go_quiet (first | (go_at_call_of 69 (Value.int IntKind.i64 kind); exact Calls.quiet_of_same (unhide R3 _)) | (go_at_call 70; exact Calls.quiet_of_same (unhide RM _)) | (go_at_call_of 69 (Value.int IntKind.i64 place); exact Calls.quiet_of_same (unhide R4 _)))
          go_wp2_with fail
          refine (errorUnless_any false _).mono ?_
          rintro e w1 ⟨rfl, rfl⟩
          go_wp2
          go_ret
          exact ⟨by rw [unhide HE]; rfl, (unhide HF).drewN _⟩
        · go_quiet (first | (go_at_call_of 69 (Value.int IntKind.i64 kind); exact Calls.quiet_of_same (unhide R3 _)) | (go_at_call 70; exact Calls.quiet_of_same (unhide RM _)) | (go_at_call_of 69 (Value.int IntKind.i64 place); exact Calls.quiet_of_same (unhide R4 _)))
          go_wp2_with fail
          refine (errorUnless_any false _).mono ?_
          rintro e w1 ⟨rfl, rfl⟩
          go_wp2
          go_ret
          exact ⟨by rw [unhide HE]; rfl, (unhide HF).drewN _⟩
    · go_wp2_with fail
      cases b3
      · go_quiet ((go_at_call_of 69 (Value.int IntKind.i64 kind); exact Calls.quiet_of_same (unhide R3 _)))
        go_wp2_with fail
        refine (errorUnless_any false _).mono ?_
        rintro e w1 ⟨rfl, rfl⟩
        go_wp2
        go_ret
        exact ⟨by rw [unhide HE]; rfl, (unhide HF).drewN _⟩
      · cases b4
        · go_quiet (first | (go_at_call_of 69 (Value.int IntKind.i64 kind); exact Calls.quiet_of_same (unhide R3 _)) | (go_at_call 70; exact Calls.quiet_of_same (unhide RM _)) | (go_at_call_of 69 (Value.int IntKind.i64 place); exact Calls.quiet_of_same (unhide R4 _)))
          go_wp2_with fail
          refine (errorUnless_any false _).mono ?_
          rintro e w1 ⟨rfl, rfl⟩
          go_wp2
          go_ret
          exact ⟨by rw [unhide HE]; rfl, (unhide HF).drewN _⟩
        · go_quiet (first | (go_at_call_of 69 (Value.int IntKind.i64 kind); exact Calls.quiet_of_same (unhide R3 _)) | (go_at_call 70; exact Calls.quiet_of_same (unhide RM _)) | (go_at_call_of 69 (Value.int IntKind.i64 place); exact Calls.quiet_of_same (unhide R4 _)))
          go_wp2_with fail
          refine (unhide R5 _).mono ?_
          rintro e w1 ⟨rfl, rfl⟩
          cases b5
          · go_wp2_with fail
            refine (errorUnless_any false _).mono ?_
            rintro e w1 ⟨rfl, rfl⟩
            go_wp2
            go_ret
            exact ⟨by rw [unhide HE]; rfl, (unhide HF).drewN _⟩
          · go_wp2_with fail
            refine (unhide R6 _).mono ?_
            rintro e w1 ⟨rfl, rfl⟩
            cases b6
            · go_wp2_with fail
              refine (errorUnless_any false _).mono ?_
              rintro e w1 ⟨rfl, rfl⟩
              go_wp2
              go_ret
              exact ⟨by rw [unhide HE]; rfl, (unhide HF).drewN _⟩
            · go_wp2_with fail
              refine (errorUnless_any true _).mono ?_
              rintro e w1 ⟨rfl, rfl⟩
              go_wp2
              go_ret
              exact ⟨by rw [unhide HE]; rfl, (unhide HF).drewN _⟩

end Go.Proofs.Ythgkifkcckandaa

