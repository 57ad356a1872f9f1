import Derived.Test.YtjgbllfppomcmaaQUX
import Derived.Test.YtjgbllfppomcmaaQU2
/- What follows of a tariff that may be: fares there and back, out of the peak, of what lies within, at a lesser rate. -/
namespace Go.Proofs.Ytjgbllfppomcmaa

theorem rightE_zero {t : Tf} (h : rightE t = 0) : pricesOk t = true ∧ withinOk t.sp = true ∧ rate t.off = true := by
  unfold rightE at h
  cases h1 : stationsOk t.st <;> cases h2 : zonesOk t <;> cases h3 : pricesOk t <;> cases h4 : withinOk t.sp <;> cases h5 : bandsOk t.bd <;> cases h6 : rate t.off <;> simp [h1, h2, h3, h4, h5, h6] at h ⊢

theorem spanOf_comm (t : Tf) (a b : Int) : spanOf t a b = spanOf t b a := by
  unfold spanOf
  rw [Int.min_comm, Int.max_comm]

theorem singleR_comm (t : Tf) (a b : Int) (pk : Bool) : singleR t a b pk = singleR t b a pk := by
  unfold singleR
  rw [spanOf_comm]

theorem spanOf_some {t : Tf} {a b : Int} {s : Spn} (h : spanOf t a b = some s) : s ∈ t.sp ∧ s.fr = min a b ∧ s.to = max a b := by
  have h1 := List.mem_of_find?_eq_some h
  have h2 := List.find?_some h
  simp [wants, sameB] at h2
  exact ⟨h1, h2.1, h2.2⟩

theorem price_of {t : Tf} (h : pricesOk t = true) {s : Spn} (hs : s ∈ t.sp) : price s.single = true := by
  unfold pricesOk at h
  rw [Bool.and_eq_true] at h
  have h1 := List.all_eq_true.1 h.2 s hs
  simp [spPrices] at h1
  exact h1.1

theorem price_nat {n : Int} (h : price n = true) : ∃ m : Nat, n = (m : Int) ∧ m ≤ 1048576 := by
  simp [price] at h
  exact ⟨n.toNat, by omega, by omega⟩

theorem scaled_nat {m : Nat} {b : Nat} (hm : m ≤ 1048576) (hb : rate b = true) : rv (scaled (m : Int) b) = ((sc m b : Nat) : Int) ∧ scaleE (m : Int) b = 0 := by
  have ho : owed (m : Int) = true := by simp [owed, right]; omega
  exact ⟨by simp [scaled, ho, hb, rv], by simp [scaleE, ho, hb]⟩

theorem single_facts {t : Tf} (hr : rightE t = 0) (a b : Int) :
    (spanOf t a b = none ∧ ∀ pk, singleR t a b pk = (0, 1) ∧ singleR t b a pk = (0, 1)) ∨
    (∃ s n, spanOf t a b = some s ∧ s.single = ((n : Nat) : Int) ∧ singleR t a b true = ((n : Int), 0) ∧ singleR t b a true = ((n : Int), 0) ∧ singleR t a b false = (((sc n t.off : Nat) : Int), 0) ∧ sc n t.off ≤ n) := by
  obtain ⟨h1, _, h3⟩ := rightE_zero hr
  cases hs : spanOf t a b with
  | none => exact .inl ⟨rfl, fun pk => ⟨by simp [singleR, hs], by rw [singleR_comm]; simp [singleR, hs]⟩⟩
  | some s =>
    have hp := price_of h1 (spanOf_some hs).1
    obtain ⟨n, hn, hn2⟩ := price_nat hp
    have hsc := scaled_nat hn2 h3
    rw [← hn] at hsc
    refine .inr ⟨s, n, rfl, hn, ?_, ?_, ?_, ?_⟩
    · simp only [singleR, hs, hp, if_true]; rw [hn]
    · rw [singleR_comm]; simp only [singleR, hs, hp, if_true]; rw [hn]
    · simp only [singleR, hs, hp, if_true, Bool.false_eq_true, if_false, hsc.1, hsc.2]
    · exact sc_le (by simpa [rate] using h3)

theorem single_within {t : Tf} (hr : rightE t = 0) {a b c d : Int} {s s' : Spn} {n n' : Nat} (hs : spanOf t a b = some s) (hs' : spanOf t c d = some s') (hn : s.single = (n : Int)) (hn' : s'.single = (n' : Int))
    (h1 : min c d ≤ min a b) (h2 : max a b ≤ max c d) : n ≤ n' ∧ sc n t.off ≤ sc n' t.off := by
  obtain ⟨_, hw, _⟩ := rightE_zero hr
  obtain ⟨m1, e1, e2⟩ := spanOf_some hs
  obtain ⟨m2, e3, e4⟩ := spanOf_some hs'
  have h3 := List.all_eq_true.1 (List.all_eq_true.1 hw s' m2) s m1
  have h4 : withinB s s' = true := by simp [withinB, e1, e2, e3, e4, h1, h2]
  simp [fits, h4, noDearer] at h3
  have : n ≤ n' := by omega
  exact ⟨this, sc_mono_n this⟩

/-- The lesser, the greater one. -/
def imin (x y : Int) : Int := if y < x then y else x
def imax (x y : Int) : Int := if x < y then y else x
theorem imin_eq (x y : Int) : imin x y = min x y := by unfold imin; split <;> omega
theorem imax_eq (x y : Int) : imax x y = max x y := by unfold imax; split <;> omega

end Go.Proofs.Ytjgbllfppomcmaa

