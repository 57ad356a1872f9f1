/- The looks at prices. -/
import Derived.Test.YthgkdpepgnoepaaT2
namespace Go.Proofs.Ythgkdpepgnoepaa
open Go.RowKit

def price (n : Int) : Bool := decide (0 ≤ n) && decide (n ≤ 1048576)

theorem price_cases (n : Int) : (price n = true ∧ 0 ≤ n ∧ n ≤ 1048576) ∨ (price n = false ∧ (¬ 0 ≤ n ∨ (0 ≤ n ∧ ¬ n ≤ 1048576))) := by
  cases h : price n with
  | true => refine .inl ⟨rfl, ?_⟩; simp [price] at h; omega
  | false =>
    refine .inr ⟨rfl, ?_⟩
    have : ¬ (0 ≤ n ∧ n ≤ 1048576) := by
      intro ⟨h1, h2⟩
      simp [price, h1, h2] at h
    omega

theorem isPrice_any (w : World) (n : Int) : Calls Try.prog 43 #[.int .i64 n] w fun e w' => e = .returned (.bool (price n)) ∧ w' = w := by
  rcases price_cases n with ⟨hp, h1, h2⟩ | ⟨hp, h1 | ⟨h1, h2⟩⟩
  all_goals
    rw [hp]
    clear hp
    go_enter Try.func43, Try.ntmps43
    go_wp2
    go_ret
    exact ⟨by first | rfl | (simp; done) | (simp; omega), rfl⟩

theorem rprice_any (w : World) (n : Int) : Calls Try.prog 45 #[.int .i64 n] w fun e w' => e = .returned (.bool (price n)) ∧ w' = w := by
  rcases price_cases n with ⟨hp, h1, h2⟩ | ⟨hp, h1 | ⟨h1, h2⟩⟩
  all_goals
    rw [hp]
    clear hp
    go_enter Try.func45, Try.ntmps45
    go_wp2
    go_ret
    exact ⟨by first | rfl | (simp; done) | (simp; omega), rfl⟩

theorem mustBePrices_any (w : World) (ao : Option Addr) (cap : Nat) (l : List Int) (h : CAt w ao (l.map (Value.int .i64))) (hl : l.length ≤ 1000) (n : Nat) (hn : n = l.length) :
    Calls Try.prog 55 #[.slice ao n cap] w fun e w' => e = look (l.all price) 50 ∧ w' = w := by
  subst hn
  have H := hide h
  clear h
  obtain ⟨y, HY⟩ : ∃ y, Hid (l.all price = y) := ⟨_, rfl⟩
  rw [unhide HY]
  go_enter Try.func55, Try.ntmps55
  go_wp2
  go_loopw [3, 6] (fun _ iv wr => ∃ (i : Nat), i ≤ l.length ∧ iv = .int .i64 i ∧ wr = w ∧ Hid ((l.drop i).all price = y)) (fun _ iv _ => l.length - (intOf iv).toNat)
  case atStart => exact ⟨0, Nat.zero_le _, rfl, rfl, hide (by simpa using unhide HY)⟩
  case round =>
    obtain ⟨i, hi, rfl, rfl, HI⟩ := hrel
    by_cases hil : i < l.length
    · obtain ⟨b, off, rfl, c0⟩ := (unhide H).ints hil
      have ht := unhide HI
      rw [List.drop_eq_getElem_cons hil, List.all_cons] at ht
      have HT := hide ht
      clear ht HI
      generalize l[i] = x at *
      have R := isPrice_any wr x
      cases hp : price x with
      | true =>
        have HT' : Hid ((l.drop (i + 1)).all price = y) := hide (by rw [← unhide HT, hp]; rfl)
        rw [hp] at R
        clear hp HT
        go_wp2_with fail
        refine R.mono ?_
        rintro e w2 ⟨rfl, rfl⟩
        go_wp2_with fail
        refine (must_ok 50 _).mono ?_
        rintro e w2 ⟨rfl, rfl⟩
        go_wp2
        exact ⟨⟨i + 1, by omega, by go_num, (by first | rfl | trivial), unhide HT'⟩, by simp [intOf]; omega⟩
      | false =>
        have HT' : Hid (y = false) := hide (by rw [← unhide HT, hp]; rfl)
        rw [hp] at R
        clear hp HT HY
        go_wp2_with fail
        refine R.mono ?_
        rintro e w2 ⟨rfl, rfl⟩
        go_wp2_with fail
        refine (must_no 50 _).mono ?_
        rintro e w2 ⟨rfl, rfl⟩
        go_wp2
        exact ⟨rfl, by rw [unhide HT']; rfl, rfl⟩
    · obtain rfl : i = l.length := by omega
      have HT' : Hid (y = true) := hide (by rw [← unhide HI, List.drop_length]; rfl)
      clear HI HY H
      go_wp2
      go_end0
      exact ⟨by rw [unhide HT']; rfl, rfl⟩

def spPrices (s : Spn) : Bool := [s.single, s.daily, s.weekly].all price
def pricesOk (t : Tf) : Bool := [t.bus, t.busDaily, t.busWeekly, t.most, t.threshold].all price && t.sp.all spPrices

theorem lookPrices_any (w : World) (A : Ad) (t : Tf) (h : TAt w A t) : Calls Try.prog 25 #[tv A t] w fun e w' => e = look (pricesOk t) 50 ∧ Fr (fun _ => False) w w' := by
  have R5 := mustBePrices_any _ _ 5 [t.bus, t.busDaily, t.busWeekly, t.most, t.threshold] (ints5 (w.alloc (.cells (tc A t) 27)) _ _ _ _ _) (by simp) 5 rfl
  rw [heap_alloc] at R5
  have HE : Hid (pricesOk t = ([t.bus, t.busDaily, t.busWeekly, t.most, t.threshold].all price && t.sp.all spPrices)) := rfl
  generalize [t.bus, t.busDaily, t.busWeekly, t.most, t.threshold].all price = p5 at *
  have HF0 : Hid (Fr (fun _ => False) w ((w.alloc (.cells (tc A t) 27)).alloc (.cells #[.int .i64 t.bus, .int .i64 t.busDaily, .int .i64 t.busWeekly, .int .i64 t.most, .int .i64 t.threshold] 3))) := hide (((Fr.refl _ w).alloc _).alloc _)
  cases p5 with
  | false =>
    have HT' : Hid (pricesOk t = false) := hide (by rw [unhide HE]; rfl)
    rw [look_false] at R5
    clear h HE
    unfold tv
    unfold tc at *
    go_enter Try.func25, Try.ntmps25
    go_wp2_with fail
    refine R5.mono ?_
    rintro e w2 ⟨rfl, rfl⟩
    clear R5
    go_wp2
    exact ⟨rfl, by rw [unhide HT']; rfl, unhide HF0⟩
  | true =>
    rw [look_true] at R5
    have HE' : Hid (pricesOk t = t.sp.all spPrices) := hide (by rw [unhide HE]; rfl)
    have hl := h.lP
    have H := hide h.sp
    have c1 : ((w.alloc (.cells (tc A t) 27)).alloc (.cells #[.int .i64 t.bus, .int .i64 t.busDaily, .int .i64 t.busWeekly, .int .i64 t.most, .int .i64 t.threshold] 3)).cell? ⟨w.heap.size, 1, none⟩ = some (.slice A.aP t.sp.length A.cP) := by
      rw [World.cell?_alloc_lt _ _ _ (by rw [heap_alloc]; exact Nat.lt_succ_self _), World.cell?_alloc_new]
      rfl
    clear h HE
    unfold tv
    unfold tc at *
    go_enter Try.func25, Try.ntmps25
    go_wp2_with fail
    refine R5.mono ?_
    rintro e w2 ⟨rfl, rfl⟩
    clear R5
    generalize (w.alloc (.cells #[.slice A.aS t.st.length A.cS, .slice A.aP t.sp.length A.cP, .slice A.aB t.bd.length A.cB, .float .f64 t.off, .int .i64 t.bus, .int .i64 t.busDaily, .int .i64 t.busWeekly, .int .i64 t.hopper, .int .i64 t.most, .int .i64 t.longest, .int .i64 t.change, .int .i64 t.passback, .int .i64 t.delay, .int .i64 t.threshold] 27)).alloc (.cells #[.int .i64 t.bus, .int .i64 t.busDaily, .int .i64 t.busWeekly, .int .i64 t.most, .int .i64 t.threshold] 3) = wm at *
    have H' := hide ((unhide H).keep (unhide HF0))
    clear H
    go_wp2
    clear c1
    go_loopw [3, 19] (fun _ iv wr => ∃ (i : Nat), i ≤ t.sp.length ∧ iv = .int .i64 i ∧ Hid (Fr (fun _ => False) wm wr ∧ (t.sp.drop i).all spPrices = t.sp.all spPrices)) (fun _ iv _ => t.sp.length - (intOf iv).toNat)
    case atStart => exact ⟨0, Nat.zero_le _, rfl, Fr.refl _ _, by simp⟩
    case round =>
      obtain ⟨i, hi, rfl, HI⟩ := hrel
      by_cases hil : i < t.sp.length
      · obtain ⟨b, off, eA, c0, c1, c2, c3, c4⟩ := ((unhide H').keep (unhide HI).1).sp hil
        have ht := (unhide HI).2
        rw [List.drop_eq_getElem_cons hil, List.all_cons] at ht
        have HT := hide ht
        have HF := hide (unhide HI).1
        clear ht HI
        generalize t.sp[i] = s at *
        obtain ⟨x0, x1, x2, x3, x4⟩ := s
        simp only at c0 c1 c2 c3 c4
        have R3 := mustBePrices_any _ _ 3 [x2, x3, x4] (ints3 (wr.alloc (.cells #[.int .i64 x0, .int .i64 x1, .int .i64 x2, .int .i64 x3, .int .i64 x4] 39)) _ _ _) (by simp) 3 rfl
        rw [heap_alloc] at R3
        have HS : Hid (spPrices ⟨x0, x1, x2, x3, x4⟩ = [x2, x3, x4].all price) := rfl
        generalize [x2, x3, x4].all price = q at *
        rw [eA]
        cases q with
        | true =>
          rw [look_true] at R3
          have HT' : Hid ((t.sp.drop (i + 1)).all spPrices = t.sp.all spPrices) := hide (by rw [← unhide HT, unhide HS]; rfl)
          clear HT HS
          go_wp2_with fail
          refine R3.mono ?_
          rintro e w2 ⟨rfl, rfl⟩
          go_wp2
          exact ⟨⟨i + 1, by omega, by go_num, (((unhide HF).alloc _).alloc _), unhide HT'⟩, by simp [intOf]; omega⟩
        | false =>
          rw [look_false] at R3
          have HT' : Hid (pricesOk t = false) := hide (by rw [unhide HE', ← unhide HT, unhide HS]; rfl)
          clear HT HS
          go_wp2_with fail
          refine R3.mono ?_
          rintro e w2 ⟨rfl, rfl⟩
          go_wp2
          exact ⟨rfl, by rw [unhide HT']; rfl, (unhide HF0).trans (((unhide HF).alloc _).alloc _) (fun _ _ t => t)⟩
      · obtain rfl : i = t.sp.length := by omega
        have HT' : Hid (pricesOk t = true) := hide (by rw [unhide HE', ← (unhide HI).2, List.drop_length]; rfl)
        have HF := hide ((unhide HF0).trans (unhide HI).1 (fun _ _ t => t))
        clear HI H' HE'
        go_wp2
        go_end0
        exact ⟨by rw [unhide HT']; rfl, unhide HF⟩

end Go.Proofs.Ythgkdpepgnoepaa
