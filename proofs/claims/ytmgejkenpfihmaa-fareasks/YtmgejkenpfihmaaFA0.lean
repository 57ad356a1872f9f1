import Derived.Test.YtmgejkenpfihmaaJJ0
import Derived.Test.YtmgejkenpfihmaaFK0
import Derived.Test.YtmgejkenpfihmaaQM3
import Derived.Test.YtmgejkenpfihmaaQUX
/- What a journey costs: the program's fare.isKind, right, single, ride, cost, Of. -/
namespace Go.Proofs.Ytmgejkenpfihmaa
open Go.RowKit

/-- Is it a journey's kind? -/
def jKind (k : Int) : Bool := decide (1 ≤ k) && decide (k ≤ 4)

/-- What is wrong with a journey, as far as no tariff is asked. -/
def jErr (j : Jn) : Int := if jKind j.kind = true then (if timeB j.st = true ∧ timeB j.en = true ∧ j.st ≤ j.en then (if j.free = true ∧ j.kind ≠ 4 then 1 else 0) else 60) else 1

/-- The fare of a whole journey. -/
def wholeV (t : Tf) (j : Jn) : Int × Int := if (stationOf t j.fr).isSome = true ∧ (stationOf t j.to).isSome = true then singleR t ((stationOf t j.fr).getD ⟨0, 0, 0⟩).zone ((stationOf t j.to).getD ⟨0, 0, 0⟩).zone (peakB t.bd j.st) else (0, 1)

/-- What a journey costs by a tariff that may be. -/
def costV (t : Tf) (j : Jn) : Int × Int := if jErr j = 0 then (if j.kind = 1 then wholeV t j else if j.kind = 4 then (if j.free = true then 0 else t.bus, 0) else (t.most, 0)) else (0, jErr j)

/-- What a journey costs. -/
def fareV (t : Tf) (j : Jn) : Int × Int := if rightE t = 0 then costV t j else (0, rightE t)

theorem isKind_any (w : World) (k : Int) : Calls Try.prog 66 #[.int .i64 k] w fun e w' => e = .returned (.bool (jKind k)) ∧ w' = w := by
  by_cases h1 : k = 1
  · subst h1
    go_enter Try.func66, Try.ntmps66
    go_wp2
    go_ret
    exact ⟨rfl, rfl⟩
  by_cases h2 : k = 2
  · subst h2
    go_enter Try.func66, Try.ntmps66
    go_wp2
    go_ret
    exact ⟨rfl, rfl⟩
  by_cases h3 : k = 3
  · subst h3
    go_enter Try.func66, Try.ntmps66
    go_wp2
    go_ret
    exact ⟨rfl, rfl⟩
  by_cases h4 : k = 4
  · subst h4
    go_enter Try.func66, Try.ntmps66
    go_wp2
    go_ret
    exact ⟨rfl, rfl⟩
  have e : jKind k = false := by
    have : ¬ (1 ≤ k ∧ k ≤ 4) := by omega
    simp [jKind]; omega
  rw [e]
  clear e
  go_enter Try.func66, Try.ntmps66
  go_wp2
  go_ret
  exact ⟨rfl, rfl⟩

theorem fright_any (w : World) (j : Jn) : Calls Try.prog 36 #[.agg (jC j)] w fun e w' => e = .returned (.int .i64 (jErr j)) ∧ Fr (fun _ => False) w w' := by
  obtain ⟨k, f, o, s, n, r⟩ := j
  have RK := hide (fun u => isKind_any u k)
  have RS := hide (fun u => ctimeB_any u s)
  have RN := hide (fun u => ctimeB_any u n)
  have HX : jErr ⟨k, f, o, s, n, r⟩ = if jKind k = true then (if timeB s = true ∧ timeB n = true ∧ s ≤ n then (if r = true ∧ k ≠ 4 then 1 else 0) else 60) else 1 := rfl
  rw [HX]
  clear HX
  simp only [jC]
  generalize jKind k = bk at *
  generalize timeB s = bs at *
  generalize timeB n = bn at *
  cases bk with
  | false =>
    rw [if_neg (by decide)]
    go_enter Try.func36, Try.ntmps36
    go_wp2_with fail
    refine (unhide RK _).mono ?_
    rintro e w1 ⟨rfl, rfl⟩
    go_wp2
    go_ret
    exact ⟨rfl, by with_reducible (first | exact Fr.refl _ _ | exact (Fr.refl _ _).alloc _)⟩
  | true =>
    rw [if_pos rfl]
    cases bs with
    | false =>
      rw [if_neg (fun h => absurd h.1 (by decide))]
      go_enter Try.func36, Try.ntmps36
      go_wp2_with fail
      refine (unhide RK _).mono ?_
      rintro e w1 ⟨rfl, rfl⟩
      go_wp2_with fail
      refine (unhide RS _).mono ?_
      rintro e w1 ⟨rfl, rfl⟩
      go_wp2
      go_ret
      exact ⟨rfl, by with_reducible (first | exact Fr.refl _ _ | exact (Fr.refl _ _).alloc _)⟩
    | true =>
      cases bn with
      | false =>
        rw [if_neg (fun h => absurd h.2.1 (by decide))]
        go_enter Try.func36, Try.ntmps36
        go_wp2_with fail
        refine (unhide RK _).mono ?_
        rintro e w1 ⟨rfl, rfl⟩
        go_wp2_with fail
        refine (unhide RS _).mono ?_
        rintro e w1 ⟨rfl, rfl⟩
        go_wp2_with fail
        refine (unhide RN _).mono ?_
        rintro e w1 ⟨rfl, rfl⟩
        go_wp2
        go_ret
        exact ⟨rfl, by with_reducible (first | exact Fr.refl _ _ | exact (Fr.refl _ _).alloc _)⟩
      | true =>
        by_cases hsn : s ≤ n
        · have hns : ¬ n < s := by omega
          rw [if_pos ⟨rfl, rfl, hsn⟩]
          clear hsn
          by_cases h4 : k = 4
          · subst h4
            rw [if_neg (fun h => h.2 rfl)]
            go_enter Try.func36, Try.ntmps36
            go_wp2_with fail
            refine (unhide RK _).mono ?_
            rintro e w1 ⟨rfl, rfl⟩
            go_wp2_with fail
            refine (unhide RS _).mono ?_
            rintro e w1 ⟨rfl, rfl⟩
            go_wp2_with fail
            refine (unhide RN _).mono ?_
            rintro e w1 ⟨rfl, rfl⟩
            go_wp2
            all_goals
              go_ret
              exact ⟨rfl, by with_reducible (first | exact Fr.refl _ _ | exact (Fr.refl _ _).alloc _)⟩
          · cases r with
            | true =>
              rw [if_pos ⟨rfl, h4⟩]
              go_enter Try.func36, Try.ntmps36
              go_wp2_with fail
              refine (unhide RK _).mono ?_
              rintro e w1 ⟨rfl, rfl⟩
              go_wp2_with fail
              refine (unhide RS _).mono ?_
              rintro e w1 ⟨rfl, rfl⟩
              go_wp2_with fail
              refine (unhide RN _).mono ?_
              rintro e w1 ⟨rfl, rfl⟩
              go_wp2
              go_ret
              exact ⟨rfl, by with_reducible (first | exact Fr.refl _ _ | exact (Fr.refl _ _).alloc _)⟩
            | false =>
              rw [if_neg (fun h => absurd h.1 (by decide))]
              go_enter Try.func36, Try.ntmps36
              go_wp2_with fail
              refine (unhide RK _).mono ?_
              rintro e w1 ⟨rfl, rfl⟩
              go_wp2_with fail
              refine (unhide RS _).mono ?_
              rintro e w1 ⟨rfl, rfl⟩
              go_wp2_with fail
              refine (unhide RN _).mono ?_
              rintro e w1 ⟨rfl, rfl⟩
              go_wp2
              go_ret
              exact ⟨rfl, by with_reducible (first | exact Fr.refl _ _ | exact (Fr.refl _ _).alloc _)⟩
        · have hns : n < s := by omega
          rw [if_neg (fun h => hsn h.2.2)]
          clear hsn
          go_enter Try.func36, Try.ntmps36
          go_wp2_with fail
          refine (unhide RK _).mono ?_
          rintro e w1 ⟨rfl, rfl⟩
          go_wp2_with fail
          refine (unhide RS _).mono ?_
          rintro e w1 ⟨rfl, rfl⟩
          go_wp2_with fail
          refine (unhide RN _).mono ?_
          rintro e w1 ⟨rfl, rfl⟩
          go_wp2
          go_ret
          exact ⟨rfl, by with_reducible (first | exact Fr.refl _ _ | exact (Fr.refl _ _).alloc _)⟩

end Go.Proofs.Ytmgejkenpfihmaa

