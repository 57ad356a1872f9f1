import Derived.Test.YtjgbllfppomcmaaCP0
import Derived.Test.YtjgbllfppomcmaaQV7
/- The program's sumOf, isOn, widen, capped, and the closures that tell a cap. -/
namespace Go.Proofs.Ytjgbllfppomcmaa
open Go.RowKit

/-- Where a kind is added up. -/
def sumP (g : Nat) (k : Int) : Option Addr := if k = 1 then some ⟨g, 1, none⟩ else if k = 2 ∨ k = 3 then some ⟨g, 4, none⟩ else if k = 4 then some ⟨g, 2, none⟩ else none

theorem sumOf_any (w : World) (g : Nat) (d : Dy) (h : Bx w g (dyC d) 43) (k : Int) :
    Calls Try.prog 33 #[.pointer (some ⟨g, 0, none⟩), .int .i64 k] w fun e w' => e = .returned (.pointer (sumP g k)) ∧ w' = w := by
  have HL := h.lt
  by_cases h1 : k = 1
  · subst h1
    go_enter Try.func33, Try.ntmps33
    go_wp2
    go_ret
    exact ⟨rfl, rfl⟩
  · by_cases h2 : k = 2
    · subst h2
      go_enter Try.func33, Try.ntmps33
      go_wp2
      go_ret
      exact ⟨rfl, rfl⟩
    · by_cases h3 : k = 3
      · subst h3
        go_enter Try.func33, Try.ntmps33
        go_wp2
        go_ret
        exact ⟨rfl, rfl⟩
      · by_cases h4 : k = 4
        · subst h4
          go_enter Try.func33, Try.ntmps33
          go_wp2
          go_ret
          exact ⟨rfl, rfl⟩
        · have e : sumP g k = none := by unfold sumP; rw [if_neg h1, if_neg (by omega), if_neg h4]
          rw [e]
          clear e
          go_enter Try.func33, Try.ntmps33
          go_wp2
          go_ret
          exact ⟨rfl, rfl⟩

theorem isOn_any (w : World) (day st : Int) : Calls Try.prog 34 #[.int .i64 day, .int .i64 st] w fun e w' => e = .returned (.bool (onB day st)) ∧ w' = w := by
  have R := hide (cday_any w st)
  have HE : Hid (onB day st = (decide (dayE st = 0) && decide (dayV st = day))) := rfl
  generalize onB day st = b at *
  generalize dayE st = e at *
  generalize dayV st = v at *
  by_cases he : e = 0
  · subst he
    by_cases hv : v = day
    · have hb : b = true := by rw [unhide HE]; simp [hv]
      subst hb
      have hq : (v == day) = true := by simp [hv]
      go_enter Try.func34, Try.ntmps34
      go_wp2_with fail
      refine (unhide R).mono ?_
      rintro e w1 ⟨rfl, rfl⟩
      go_wp2
      go_ret
      exact ⟨rfl, rfl⟩
    · have hb : b = false := by rw [unhide HE]; simp [hv]
      subst hb
      have hq : (v == day) = false := by simp [hv]
      go_enter Try.func34, Try.ntmps34
      go_wp2_with fail
      refine (unhide R).mono ?_
      rintro e w1 ⟨rfl, rfl⟩
      go_wp2
      go_ret
      exact ⟨rfl, rfl⟩
  · have hb : b = false := by rw [unhide HE]; simp [he]
    subst hb
    go_enter Try.func34, Try.ntmps34
    go_wp2_with fail
    refine (unhide R).mono ?_
    rintro e w1 ⟨rfl, rfl⟩
    go_wp2
    go_ret
    exact ⟨rfl, rfl⟩

theorem widen_any (w : World) (g : Nat) (d : Dy) (h : Bx w g (dyC d) 43) (lo hi : Int) :
    Calls Try.prog 14 #[.pointer (some ⟨g, 0, none⟩), .int .i64 lo, .int .i64 hi] w fun e w' => e = .returned (.tuple #[]) ∧ Bx w' g (dyC (widD d lo hi)) 43 ∧ Fr (fun k => k = g) w w' := by
  obtain ⟨a, b, c, e, f, x, y⟩ := d
  have c5 : w.cell? ⟨g, 5, none⟩ = some (.int .i64 x) := h.cell 5
  have c6 : w.cell? ⟨g, 6, none⟩ = some (.int .i64 y) := h.cell 6
  have f5 := h.frozen 5
  have f6 := h.frozen 6
  have HB := hide h
  have k2 := run_max
  have HX : Hid (∀ n, lowW x lo = n → ∀ u, u = (w.setCell ⟨g, 5, none⟩ (.int .i64 n)).setCell ⟨g, 6, none⟩ (.int .i64 (imax y hi)) → Bx u g (dyC (widD ⟨a, b, c, e, f, x, y⟩ lo hi)) 43 ∧ Fr (fun k => k = g) w u) := hide (fun n hn u hu => by
    subst hu
    refine ⟨?_,  ((Fr.refl (fun k => k = g) w).setCell (p := ⟨g, 5, none⟩) (fun _ => rfl) _).setCell (p := ⟨g, 6, none⟩) (fun _ => rfl) _⟩
    have e1 := ((unhide HB).setCell 5 (.int .i64 n)).setCell 6 (.int .i64 (imax y hi))
    rw [← hn] at e1 ⊢
    exact e1)
  have HY : Hid (∀ n, lowW x lo = n → n = x → ∀ u, u = w.setCell ⟨g, 6, none⟩ (.int .i64 (imax y hi)) → Bx u g (dyC (widD ⟨a, b, c, e, f, x, y⟩ lo hi)) 43 ∧ Fr (fun k => k = g) w u) := hide (fun n hn hx u hu => by
    subst hu
    refine ⟨?_, (Fr.refl (fun k => k = g) w).setCell (p := ⟨g, 6, none⟩) (fun _ => rfl) _⟩
    have e1 := (unhide HB).setCell 6 (.int .i64 (imax y hi))
    rw [hx] at hn
    unfold widD
    rw [hn]
    exact e1)
  have HN : Hid (lowW x lo = if x = 0 then lo else if 0 < lo ∧ lo < x then lo else x) := rfl
  clear h
  by_cases h0 : x = 0
  · subst h0
    have HN' := hide ((unhide HN).trans (if_pos rfl))
    clear HN
    go_enter Try.func14, Try.ntmps14
    go_wp2
    refine bodyPost_end (results_none rfl _ _ _) rfl ?_
    exact ⟨rfl, unhide HX _ (unhide HN') _ rfl⟩
  · have HN1 := hide ((unhide HN).trans (if_neg h0))
    clear HN
    by_cases h1 : 0 < lo
    · by_cases h2 : lo < x
      · have HN' := hide ((unhide HN1).trans (if_pos ⟨h1, h2⟩))
        clear HN1
        go_enter Try.func14, Try.ntmps14
        go_wp2
        refine bodyPost_end (results_none rfl _ _ _) rfl ?_
        exact ⟨rfl, unhide HX _ (unhide HN') _ rfl⟩
      · have HN' := hide ((unhide HN1).trans (if_neg (fun k => h2 k.2)))
        clear HN1
        go_enter Try.func14, Try.ntmps14
        go_wp2
        refine bodyPost_end (results_none rfl _ _ _) rfl ?_
        exact ⟨rfl, unhide HY _ (unhide HN') rfl _ rfl⟩
    · have HN' := hide ((unhide HN1).trans (if_neg (fun k => h1 k.1)))
      clear HN1
      go_enter Try.func14, Try.ntmps14
      go_wp2
      refine bodyPost_end (results_none rfl _ _ _) rfl ?_
      exact ⟨rfl, unhide HY _ (unhide HN') rfl _ rfl⟩

theorem day1_any (w : World) (s : Spn) : Calls Try.prog 18 #[spA s] w fun e w' => e = .returned (.int .i64 s.daily) ∧ Fr (fun _ => False) w w' := by
  obtain ⟨a, b, c, d, e⟩ := s
  unfold spA
  simp only []
  go_enter Try.func18, Try.ntmps18
  go_wp2
  go_ret
  exact ⟨rfl, (Fr.refl _ _).alloc _⟩

theorem week1_any (w : World) (s : Spn) : Calls Try.prog 16 #[spA s] w fun e w' => e = .returned (.int .i64 s.weekly) ∧ Fr (fun _ => False) w w' := by
  obtain ⟨a, b, c, d, e⟩ := s
  unfold spA
  simp only []
  go_enter Try.func16, Try.ntmps16
  go_wp2
  go_ret
  exact ⟨rfl, (Fr.refl _ _).alloc _⟩

end Go.Proofs.Ytjgbllfppomcmaa

