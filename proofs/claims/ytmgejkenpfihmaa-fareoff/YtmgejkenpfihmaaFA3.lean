import Derived.Test.YtmgejkenpfihmaaFA2
/- What follows of fares: they are prices, as much back as there, in the peak no less. -/
namespace Go.Proofs.Ytmgejkenpfihmaa

theorem scaledE_or (n : Int) (b : Nat) : scaleE n b = 0 ∨ rv (scaled n b) = 0 := by
  unfold scaleE scaled
  cases owed n <;> cases rate b <;> simp [rv]

theorem singleR_or (t : Tf) (a b : Int) (pk : Bool) : (singleR t a b pk).2 = 0 ∨ (singleR t a b pk).1 = 0 := by
  unfold singleR
  split
  · exact .inr rfl
  · split
    · split
      · exact .inl rfl
      · exact scaledE_or _ _
    · exact .inr rfl

theorem wholeV_or (t : Tf) (j : Jn) : (wholeV t j).2 = 0 ∨ (wholeV t j).1 = 0 := by
  unfold wholeV
  split
  · exact singleR_or ..
  · exact .inr rfl

/-- What is refused costs nothing. -/
theorem fareV_or (t : Tf) (j : Jn) : (fareV t j).2 = 0 ∨ (fareV t j).1 = 0 := by
  unfold fareV
  split
  · unfold costV
    split
    · split
      · exact wholeV_or t j
      · split
        · exact .inl rfl
        · exact .inl rfl
    · exact .inr rfl
  · exact .inr rfl

theorem price_range {n : Int} (h : price n = true) : 0 ≤ n ∧ n ≤ 1048576 := by simpa [price] using h

theorem prices_bus {t : Tf} (h : pricesOk t = true) : price t.bus = true ∧ price t.most = true := by
  unfold pricesOk at h
  simp only [List.all_cons, Bool.and_eq_true] at h
  exact ⟨h.1.1, h.1.2.2.2.1⟩

/-- A single fare of a tariff that may be. -/
theorem single_range {t : Tf} (hr : rightE t = 0) (a b : Int) (pk : Bool) (h : (singleR t a b pk).2 = 0) : 0 ≤ (singleR t a b pk).1 ∧ (singleR t a b pk).1 ≤ 1048576 ∧ (∃ hi lo : Int, singleR t a b true = (hi, 0) ∧ singleR t a b false = (lo, 0) ∧ ∀ pk', singleR t a b pk' = (hi, 0) ∨ singleR t a b pk' = (lo, 0)) := by
  rcases single_facts hr a b with ⟨_, hx⟩ | ⟨s, n, hs, hn, x1, _, x3, hle⟩
  · rw [(hx pk).1] at h; cases h
  · obtain ⟨h1, _, _⟩ := rightE_zero hr
    have hp := price_range (price_of h1 (spanOf_some hs).1)
    rw [hn] at hp
    refine ⟨?_, ?_, (n : Int), ((sc n t.off : Nat) : Int), x1, x3, fun pk' => ?_⟩
    · cases pk <;> simp only [x1, x3] <;> omega
    · cases pk <;> simp only [x1, x3] <;> omega
    · cases pk' <;> simp only [x1, x3, true_or, or_true]

/-- The zones of a journey's stations. -/
def zoneF (t : Tf) (j : Jn) : Int := ((stationOf t j.fr).getD ⟨0, 0, 0⟩).zone
def zoneT (t : Tf) (j : Jn) : Int := ((stationOf t j.to).getD ⟨0, 0, 0⟩).zone
def backJ (j : Jn) : Jn := ⟨j.kind, j.to, j.fr, j.st, j.en, j.free⟩
def atJ (j : Jn) (x : Int) : Jn := ⟨j.kind, j.fr, j.to, x, x, j.free⟩

theorem costV_whole {t : Tf} {j : Jn} (hk : j.kind = 1) : costV t j = if jErr j = 0 then wholeV t j else (0, jErr j) := by
  unfold costV; simp only [hk, if_true]

theorem wholeV_zero {t : Tf} {j : Jn} (h : (wholeV t j).2 = 0) : (stationOf t j.fr).isSome = true ∧ (stationOf t j.to).isSome = true ∧ wholeV t j = singleR t (zoneF t j) (zoneT t j) (peakB t.bd j.st) := by
  unfold wholeV at h ⊢
  split at h
  · rename_i hs
    rw [if_pos hs]
    exact ⟨hs.1, hs.2, rfl⟩
  · cases h

/-- What a fare is that is not of a whole journey. -/
theorem fare_other {t : Tf} {j : Jn} (h : (fareV t j).2 = 0) (hk : j.kind ≠ 1) :
    0 ≤ (fareV t j).1 ∧ (fareV t j).1 ≤ 1048576 ∧ ((j.kind = 4 ∧ j.free = true ∧ (fareV t j).1 = 0) ∨ (j.kind = 4 ∧ j.free = false ∧ (fareV t j).1 = t.bus) ∨ (j.kind ≠ 4 ∧ j.free = false ∧ (fareV t j).1 = t.most)) := by
  unfold fareV at h ⊢
  split at h
  · rename_i hr
    obtain ⟨h1, _, _⟩ := rightE_zero hr
    obtain ⟨pb, pm⟩ := prices_bus h1
    have pb := price_range pb
    have pm := price_range pm
    rw [if_pos hr]
    unfold costV at h ⊢
    split at h
    · rename_i he
      rw [if_pos he, if_neg hk]
      by_cases h4 : j.kind = 4
      · rw [if_pos h4]
        cases hf : j.free
        · simp; exact ⟨pb.1, pb.2, .inl h4⟩
        · simp; exact h4
      · rw [if_neg h4]
        refine ⟨pm.1, pm.2, .inr (.inr ⟨h4, ?_, rfl⟩)⟩
        cases hf : j.free
        · rfl
        · unfold jErr at he
          rw [hf] at he
          split at he
          · split at he
            · rw [if_pos ⟨rfl, h4⟩] at he; cases he
            · cases he
          · cases he
    · rename_i he
      exact absurd h he
  · rename_i hr
    exact absurd h hr

/-- What a fare is of a whole journey. -/
theorem fare_whole {t : Tf} {j : Jn} (h : (fareV t j).2 = 0) (hk : j.kind = 1) (x : Int) :
    0 ≤ (fareV t j).1 ∧ (fareV t j).1 ≤ 1048576 ∧ fareV t (backJ j) = ((fareV t j).1, 0) ∧ ∃ hi lo : Int, singleR t (zoneF t j) (zoneT t j) true = (hi, 0) ∧ singleR t (zoneF t j) (zoneT t j) false = (lo, 0) ∧ ((fareV t j).1 = hi ∨ (fareV t j).1 = lo) ∧
      ((fareV t (atJ j x)).2 ≠ 0 ∨ (fareV t (atJ j x)).1 = hi ∨ (fareV t (atJ j x)).1 = lo) := by
  have hr : rightE t = 0 := by
    unfold fareV at h
    split at h
    · assumption
    · exact absurd h ‹_›
  have hf : ∀ j', fareV t j' = costV t j' := fun j' => by unfold fareV; rw [if_pos hr]
  rw [hf, costV_whole hk] at h
  have he : jErr j = 0 := by
    by_cases he : jErr j = 0
    · exact he
    · rw [if_neg he] at h; exact absurd h he
  rw [if_pos he] at h
  obtain ⟨s1, s2, hw⟩ := wholeV_zero h
  rw [hw] at h
  obtain ⟨r1, r2, hi, lo, e1, e2, e3⟩ := single_range hr _ _ _ h
  have e0 : fareV t j = singleR t (zoneF t j) (zoneT t j) (peakB t.bd j.st) := by rw [hf, costV_whole hk, if_pos he, hw]
  rw [e0]
  refine ⟨r1, r2, ?_, hi, lo, e1, e2, ?_, ?_⟩
  · have hb : jErr (backJ j) = 0 := he
    rw [hf, costV_whole (show (backJ j).kind = 1 from hk), if_pos hb]
    have : wholeV t (backJ j) = singleR t (zoneT t j) (zoneF t j) (peakB t.bd j.st) := by
      unfold wholeV
      rw [if_pos ⟨s2, s1⟩]
      rfl
    rw [this, singleR_comm]
    have h0 : (singleR t (zoneF t j) (zoneT t j) (peakB t.bd j.st)).2 = 0 := h
    exact Prod.ext rfl h0
  · rcases e3 (peakB t.bd j.st) with q | q
    · exact .inl (by rw [q])
    · exact .inr (by rw [q])
  · rw [hf, costV_whole (show (atJ j x).kind = 1 from hk)]
    by_cases hb : jErr (atJ j x) = 0
    · rw [if_pos hb]
      have : wholeV t (atJ j x) = singleR t (zoneF t j) (zoneT t j) (peakB t.bd x) := by
        unfold wholeV
        rw [if_pos ⟨s1, s2⟩]
        rfl
      rw [this]
      rcases e3 (peakB t.bd x) with q | q
      · exact .inr (.inl (by rw [q]))
      · exact .inr (.inr (by rw [q]))
    · rw [if_neg hb]
      exact .inl hb

/-- Where the rate out of the peak is 1 the peak does not count. -/
theorem single_one {t : Tf} (ho : t.off = 4607182418800017408) (hr : rightE t = 0) (a b : Int) (pk : Bool) : singleR t a b pk = singleR t a b true := by
  cases pk with
  | true => rfl
  | false =>
    rcases single_facts hr a b with ⟨_, hx⟩ | ⟨s, n, _, _, x1, _, x3, _⟩
    · rw [(hx false).1, (hx true).1]
    · rw [x1, x3, ho, sc_one]

theorem fare_off {t : Tf} (ho : t.off = 4607182418800017408) (j : Jn) (x : Int) : (fareV t j).2 ≠ 0 ∨ (fareV t (atJ j x)).2 ≠ 0 ∨ (fareV t j).1 = (fareV t (atJ j x)).1 := by
  by_cases hr : rightE t = 0
  · have hf : ∀ j', fareV t j' = costV t j' := fun j' => by unfold fareV; rw [if_pos hr]
    rw [hf, hf]
    unfold costV
    by_cases he : jErr j = 0
    · by_cases hb : jErr (atJ j x) = 0
      · rw [if_pos he, if_pos hb]
        refine .inr (.inr ?_)
        show (if j.kind = 1 then wholeV t j else if j.kind = 4 then (if j.free = true then 0 else t.bus, 0) else (t.most, 0)).1 = (if j.kind = 1 then wholeV t (atJ j x) else if j.kind = 4 then (if j.free = true then 0 else t.bus, 0) else (t.most, 0)).1
        have : wholeV t j = wholeV t (atJ j x) := by
          unfold wholeV
          rw [single_one ho hr, single_one ho hr ((stationOf t (atJ j x).fr).getD ⟨0, 0, 0⟩).zone]
          rfl
        rw [this]
      · rw [if_neg hb]
        exact .inr (.inl hb)
    · rw [if_neg he]
      exact .inl he
  · unfold fareV
    rw [if_neg hr]
    exact .inl hr

end Go.Proofs.Ytmgejkenpfihmaa

