/- Amounts: Right, total, Add, Sub, Sum. -/
import Derived.Test.YtighehbeeflhpabDoorI1
import Derived.Test.YtighehbeeflhpabDoorProg
namespace Go.Proofs.YtighehbeeflhpabDoor
open Go.RowKit

/-- Is it an amount? -/
def right (n : Int) : Bool := decide (-9007199254740992 ≤ n) && decide (n ≤ 9007199254740992)

theorem right_iff (n : Int) : right n = true ↔ -9007199254740992 ≤ n ∧ n ≤ 9007199254740992 := by simp [right]
theorem right_not (n : Int) : right n = false ↔ ¬ (-9007199254740992 ≤ n ∧ n ≤ 9007199254740992) := by
  rw [← right_iff]; simp

/-- The sum from the front on, if none of the sums leaves the amounts. -/
def tot : Int → List Int → Option Int
  | s, [] => some s
  | s, x :: r => if right x && right (s + x) then tot (s + x) r else none

/-- What is answered: a number, and an error's. -/
def rv (o : Option Int) : Int := o.getD 0
def re (c : Int) (o : Option Int) : Int := if o.isSome then 0 else c

/-- A slice of ints. -/
def IAt (w : World) (ao : Option Addr) (l : List Int) : Prop :=
  0 < l.length → ∃ b off, ao = some ⟨b, off, none⟩ ∧ ∀ j (hj : j < l.length), w.cell? ⟨b, off + j, none⟩ = some (.int .i64 l[j])

theorem right_any (w : World) (n : Int) : Calls Tryd.prog 9 #[.int .i64 n] w fun e w' => e = .returned (.bool (right n)) ∧ w' = w := by
  by_cases h1 : -9007199254740992 ≤ n
  · by_cases h2 : n ≤ 9007199254740992
    · have hr : right n = true := (right_iff n).2 ⟨h1, h2⟩
      go_enter Tryd.func9, Tryd.ntmps9
      go_wp2
      go_ret
      exact ⟨by first | rfl | (rw [hr]; rfl), rfl⟩
    · have hr : right n = false := (right_not n).2 (fun h => h2 h.2)
      go_enter Tryd.func9, Tryd.ntmps9
      go_wp2
      go_ret
      exact ⟨by first | rfl | (rw [hr]; rfl), rfl⟩
  · have hr : right n = false := (right_not n).2 (fun h => h1 h.1)
    go_enter Tryd.func9, Tryd.ntmps9
    go_wp2
    go_ret
    exact ⟨by first | rfl | (rw [hr]; rfl), rfl⟩

theorem total_any (w : World) (ao : Option Addr) (cap : Nat) (l : List Int) (h : IAt w ao l) (hl : l.length ≤ 140737488355328) :
    Calls Tryd.prog 20 #[.slice ao l.length cap] w fun e w' => e = .returned (.tuple #[.int .i64 (rv (tot 0 l)), .int .i64 (re 50 (tot 0 l))]) ∧ w' = w := by
  have H := hide h
  clear h
  go_enter Tryd.func20, Tryd.ntmps20
  go_wp2
  go_loopw [4, 6, 9] (fun sv _ iv wr => ∃ (i : Nat) (s : Int), i ≤ l.length ∧ iv = .int .i64 i ∧ sv = .int .i64 s ∧ wr = w ∧ Hid (right s = true ∧ tot s (l.drop i) = tot 0 l)) (fun _ _ iv _ => l.length - (intOf iv).toNat)
  case atStart => exact ⟨0, 0, Nat.zero_le _, rfl, rfl, rfl, by simp [right], by simp⟩
  case round =>
    obtain ⟨i, s, hi, rfl, rfl, rfl, HI⟩ := hrel
    by_cases hlt : i < l.length
    · obtain ⟨b, off, rfl, hc⟩ := unhide H (by omega)
      have ci := hc i hlt
      have hd : l.drop i = l[i] :: l.drop (i + 1) := List.drop_eq_getElem_cons hlt
      have hs := (right_iff s).1 (unhide HI).1
      have ht := (unhide HI).2
      rw [hd] at ht
      generalize l[i] = x at ci ht
      clear hc hd HI H
      by_cases hx : right x = true
      · have hxb := (right_iff x).1 hx
        by_cases hy : right (s + x) = true
        · have ht' : tot (s + x) (l.drop (i + 1)) = tot 0 l := by rw [← ht]; simp [tot, hx, hy]
          have HT := hide (And.intro hy ht')
          have R1 := right_any wr x
          have R2 := right_any wr (s + x)
          rw [hx] at R1
          rw [hy] at R2
          clear ht ht' hx hy
          go_wp2_with fail
          refine R1.mono ?_
          rintro e w1 ⟨rfl, rfl⟩
          go_wp2_with fail
          refine R2.mono ?_
          rintro e w2 ⟨rfl, rfl⟩
          go_wp2
          exact ⟨⟨i + 1, s + x, by omega, by go_num, rfl, (by first | rfl | trivial), unhide HT⟩, by simp [intOf]; omega⟩
        · have hy' : right (s + x) = false := by simpa using hy
          have ht' : tot 0 l = none := by rw [← ht]; simp [tot, hx, hy']
          have R1 := right_any wr x
          have R2 := right_any wr (s + x)
          rw [hx] at R1
          rw [hy'] at R2
          have HN := hide ht'
          clear ht ht' hx hy hy'
          go_wp2_with fail
          refine R1.mono ?_
          rintro e w1 ⟨rfl, rfl⟩
          go_wp2_with fail
          refine R2.mono ?_
          rintro e w2 ⟨rfl, rfl⟩
          go_wp2
          go_ret2
          exact ⟨by rw [unhide HN]; rfl, rfl⟩
      · have hx' : right x = false := by simpa using hx
        have ht' : tot 0 l = none := by rw [← ht]; simp [tot, hx']
        have R1 := right_any wr x
        rw [hx'] at R1
        have HN := hide ht'
        clear ht ht' hx hx'
        go_wp2_with fail
        refine R1.mono ?_
        rintro e w1 ⟨rfl, rfl⟩
        go_wp2
        go_ret2
        exact ⟨by rw [unhide HN]; rfl, rfl⟩
    · obtain rfl : i = l.length := by omega
      have ht := (unhide HI).2
      rw [List.drop_length] at ht
      have HN := hide ht
      clear ht HI H
      go_wp2
      go_ret2
      exact ⟨by rw [← unhide HN]; rfl, rfl⟩

/-- Two ints, laid anew. -/
theorem iat_two (w : World) (a b : Int) (t : TypeId) : IAt (w.alloc (.cells #[.int .i64 a, .int .i64 b] t)) (some ⟨w.heap.size, 0, none⟩) [a, b] := by
  intro _
  refine ⟨_, _, rfl, fun j hj => ?_⟩
  rw [World.cell?_alloc_new]
  match j, hj with
  | 0, _ => rfl
  | 1, _ => rfl
  | n + 2, h => exact absurd h (by simp only [List.length_cons, List.length_nil]; omega)

theorem add_any (w : World) (a b : Int) : Calls Tryd.prog 12 #[.int .i64 a, .int .i64 b] w fun e w' => e = .returned (.tuple #[.int .i64 (rv (tot 0 [a, b])), .int .i64 (re 50 (tot 0 [a, b]))]) ∧ Fr (fun _ => False) w w' := by
  have HT := hide (total_any (w.alloc (.cells #[.int .i64 a, .int .i64 b] 3)) (some ⟨w.heap.size, 0, none⟩) 2 [a, b] (iat_two w a b 3) (by simp))
  generalize tot 0 [a, b] = T at HT ⊢
  go_enter Tryd.func12, Tryd.ntmps12
  go_wp2_with fail
  refine (unhide HT).mono ?_
  rintro e w' ⟨rfl, rfl⟩
  go_wp2
  go_ret2
  exact ⟨rfl, (Fr.refl _ w).alloc _⟩

/-- What Sub answers. -/
def dif (a b : Int) : Option Int := if right b then tot 0 [a, -b] else none

theorem sub_any (w : World) (a b : Int) (hb0 : -9223372036854775808 ≤ b) (hb1 : b ≤ 9223372036854775807) : Calls Tryd.prog 11 #[.int .i64 a, .int .i64 b] w fun e w' => e = .returned (.tuple #[.int .i64 (rv (dif a b)), .int .i64 (re 50 (dif a b))]) ∧ Fr (fun _ => False) w w' := by
  have R := right_any w b
  by_cases hb : right b = true
  · have hbb := (right_iff b).1 hb
    have e : dif a b = tot 0 [a, -b] := by simp [dif, hb]
    rw [e]
    rw [hb] at R
    have HT := hide (total_any (w.alloc (.cells #[.int .i64 a, .int .i64 (-b)] 3)) (some ⟨w.heap.size, 0, none⟩) 2 [a, -b] (iat_two w a (-b) 3) (by simp))
    generalize tot 0 [a, -b] = T at HT ⊢
    clear e hb
    go_enter Tryd.func11, Tryd.ntmps11
    go_wp2_with fail
    refine R.mono ?_
    rintro e w1 ⟨rfl, rfl⟩
    go_wp2_with fail
    refine (unhide HT).mono ?_
    rintro e w' ⟨rfl, rfl⟩
    go_wp2
    go_ret2
    exact ⟨rfl, (Fr.refl _ w1).alloc _⟩
  · have hb' : right b = false := by simpa using hb
    have e : dif a b = none := by simp [dif, hb']
    rw [e]
    rw [hb'] at R
    clear e hb hb'
    go_enter Tryd.func11, Tryd.ntmps11
    go_wp2_with fail
    refine R.mono ?_
    rintro e w1 ⟨rfl, rfl⟩
    go_wp2
    go_ret2
    exact ⟨rfl, Fr.refl _ _⟩

theorem sum_any (w : World) (ao : Option Addr) (cap : Nat) (l : List Int) (h : IAt w ao l) (hl : l.length ≤ 140737488355328) :
    Calls Tryd.prog 10 #[.slice ao l.length cap] w fun e w' => e = .returned (.tuple #[.int .i64 (rv (tot 0 l)), .int .i64 (re 50 (tot 0 l))]) ∧ w' = w := by
  have HT := hide (total_any w ao cap l h hl)
  generalize tot 0 l = T at HT ⊢
  clear h
  go_enter Tryd.func10, Tryd.ntmps10
  go_wp2_with fail
  refine (unhide HT).mono ?_
  rintro e w' ⟨rfl, rfl⟩
  go_wp2
  go_ret2
  exact ⟨rfl, rfl⟩

end Go.Proofs.YtighehbeeflhpabDoor
