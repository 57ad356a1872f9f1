import Derived.Test.YtlhgfnpialndaaaN6
/- Which taps may be: the program's tapError, the document's TapRight. -/
namespace Go.Proofs.Ytlhgfnpialndaaa
open Go.RowKit

/-- Is a number from lo to hi? -/
def isIn (n lo hi : Int) : Bool := decide (lo ≤ n) && decide (n ≤ hi)

theorem isIn_not {n lo : Int} (h : ¬ lo ≤ n) (hi : Int) : isIn n lo hi = false := by simp [isIn, h]

theorem isFrom_is {n lo hi : Int} {b : Bool} (hb : isIn n lo hi = b) (w : World) : Calls Try.prog 51 #[.int .i64 n, .int .i64 lo, .int .i64 hi] w fun e w' => e = .returned (.bool b) ∧ w' = w := by
  subst hb
  by_cases h1 : lo ≤ n
  · go_enter Try.func51, Try.ntmps51
    go_wp2
    go_ret
    exact ⟨by simp [isIn, h1], rfl⟩
  · have HN := hide (isIn_not h1 hi)
    go_enter Try.func51, Try.ntmps51
    go_wp2
    go_ret
    exact ⟨by rw [unhide HN]; rfl, rfl⟩

theorem within_is {n lo hi : Int} {b : Bool} (hb : isIn n lo hi = b) (w : World) : Calls Try.prog 34 #[.int .i64 n, .int .i64 lo, .int .i64 hi] w fun e w' => e = .returned (.bool b) ∧ w' = w := by
  subst hb
  by_cases h1 : lo ≤ n
  · go_enter Try.func34, Try.ntmps34
    go_wp2
    go_ret
    exact ⟨by simp [isIn, h1], rfl⟩
  · have HN := hide (isIn_not h1 hi)
    go_enter Try.func34, Try.ntmps34
    go_wp2
    go_ret
    exact ⟨by rw [unhide HN]; rfl, rfl⟩

theorem rmoney_is {n : Int} {b : Bool} (hb : isIn n (-9007199254740992) 9007199254740992 = b) (w : World) : Calls Try.prog 33 #[.int .i64 n] w fun e w' => e = .returned (.bool b) ∧ w' = w := by
  subst hb
  by_cases h1 : -9007199254740992 ≤ n
  · go_enter Try.func33, Try.ntmps33
    go_wp2
    go_ret
    exact ⟨by simp [isIn, h1], rfl⟩
  · have HN := hide (isIn_not h1 9007199254740992)
    go_enter Try.func33, Try.ntmps33
    go_wp2
    go_ret
    exact ⟨by rw [unhide HN]; rfl, rfl⟩

/-- Has a text eight bytes? -/
def isTok (s : ByteArray) : Bool := (s.size : Int) == 8

theorem isToken_is {s : ByteArray} {b : Bool} (hb : isTok s = b) (w : World) : Calls Try.prog 50 #[.string s] w fun e w' => e = .returned (.bool b) ∧ w' = w := by
  subst hb
  go_enter Try.func50, Try.ntmps50
  go_wp2
  go_ret
  exact ⟨rfl, rfl⟩

theorem errorUnless_any (b : Bool) (w : World) : Calls Try.prog 49 #[.bool b] w fun e w' => e = .returned (.int .i64 (if b then 0 else 80)) ∧ w' = w := by
  cases b
  · go_enter Try.func49, Try.ntmps49
    go_wp2
    go_ret
    exact ⟨rfl, rfl⟩
  · go_enter Try.func49, Try.ntmps49
    go_wp2
    go_ret
    exact ⟨rfl, rfl⟩

def mostPlace (kind : Int) : Int := if kind = 3 then 1000 else 65535

/-- A tap. -/
structure Tp where
  dev : Int
  ctr : Int
  tok : ByteArray
  kind : Int
  place : Int
  time : Int

def tpC (t : Tp) : Array Value := #[.int .i64 t.dev, .int .i64 t.ctr, .string t.tok, .int .i64 t.kind, .int .i64 t.place, .int .i64 t.time]

/-- May it be? -/
def tapOk (t : Tp) : Bool := ((isIn t.dev 1 65535 && isIn t.ctr 1 4294967295) && (isIn t.kind 1 3 && isIn t.place 1 (mostPlace t.kind))) && isTok t.tok && isIn t.time 0 2147483648
def tapE (t : Tp) : Int := if tapOk t then 0 else 80

theorem isIn_iff {n lo hi : Int} : isIn n lo hi = true ↔ lo ≤ n ∧ n ≤ hi := by simp [isIn]

theorem mostPlace_le (k : Int) : mostPlace k ≤ 65535 := by unfold mostPlace; split <;> omega

theorem tap_small (t : Tp) (h : tapOk t = true) : t.dev ≤ 9223372036854775807 ∧ t.ctr ≤ 9223372036854775807 ∧ t.kind ≤ 9223372036854775807 ∧ t.place ≤ 9223372036854775807 ∧ t.time ≤ 9223372036854775807 := by
  simp only [tapOk, Bool.and_eq_true, isIn_iff] at h
  have := mostPlace_le t.kind
  omega

end Go.Proofs.Ytlhgfnpialndaaa

