import Derived.Test.YtdbnppbfoohjjaaRF2
/- What outages give back: mathematics. -/
namespace Go.Proofs.Ytdbnppbfoohjjaa
open Go.RowKit

theorem heldB_append (dl : Int) (l m : List Ou) (j : Jn) : heldB dl (l ++ m) j = (heldB dl l j || heldB dl m j) := by simp [heldB]
theorem ousE_nil : ousE [] = 0 := by decide
theorem backL_nil (dl : Int) (p : List (Jn × Int)) : backL dl [] p = p := by
  unfold backL
  have h : back1 dl [] = id := funext fun x => by simp [back1, heldB]
  rw [h, List.map_id]
theorem back1_twice (dl : Int) (l : List Ou) (x : Jn × Int) : back1 dl l (back1 dl l x) = back1 dl l x := by
  unfold back1
  by_cases h : heldB dl l x.1 = true
  · rw [if_pos h]; simp [h]
  · rw [if_neg h, if_neg h]
theorem backL_twice (dl : Int) (l : List Ou) (p : List (Jn × Int)) : backL dl l (backL dl l p) = backL dl l p := by
  simp only [backL, List.map_map]
  congr 1
  exact funext fun x => back1_twice dl l x
theorem backE_zero {t : Tf} {l : List Ou} {n : Nat} (h : backE t l n = 0) : rightE t = 0 ∧ ousE l = 0 ∧ n ≤ 2000 := by
  unfold backE at h
  by_cases h1 : rightE t = 0
  · rw [if_pos h1] at h
    by_cases h2 : ousE l = 0
    · rw [if_pos h2] at h
      by_cases h3 : 2000 < n
      · rw [if_pos h3] at h; simp at h
      · exact ⟨h1, h2, by omega⟩
    · rw [if_neg h2] at h; exact absurd h h2
  · rw [if_neg h1] at h; exact absurd h h1
theorem backE_nil {t : Tf} {l : List Ou} {n : Nat} (h : backE t l n = 0) : backE t [] n = 0 := by
  obtain ⟨h1, _, h3⟩ := backE_zero h
  unfold backE
  rw [if_pos h1, if_pos ousE_nil, if_neg (by omega)]
theorem appL_zero {t : Tf} {l : List Ou} {p : List (Jn × Int)} (h : backE t l p.length = 0) : appL t l p = backL t.delay l p := by unfold appL; rw [if_pos h]
theorem appL_nil {t : Tf} {l : List Ou} {p : List (Jn × Int)} (h : backE t l p.length = 0) : appL t [] p = p := by rw [appL_zero (backE_nil h), backL_nil]
theorem appL_length {t : Tf} {l : List Ou} {p : List (Jn × Int)} (h : backE t l p.length = 0) : (appL t l p).length = p.length := by rw [appL_zero h, backL_length]
theorem appL_twice {t : Tf} {l : List Ou} {p : List (Jn × Int)} (h : backE t l p.length = 0) : appL t l (appL t l p) = appL t l p ∧ backE t l (appL t l p).length = 0 := by
  have e : backE t l (appL t l p).length = 0 := by rw [appL_length h]; exact h
  exact ⟨by rw [appL_zero e, appL_zero h, backL_twice], e⟩
theorem appL_none {t : Tf} {l : List Ou} {p : List (Jn × Int)} (h : ¬ backE t l p.length = 0) : appL t l p = [] := by unfold appL; rw [if_neg h]

/-- What a journey costs with outages, and with more. -/
theorem back_cases (dl : Int) (l m : List Ou) (x : Jn × Int) : (back1 dl l x).1 = x.1 ∧ (back1 dl (l ++ m) x).1 = x.1 ∧ ((back1 dl l x).2 = x.2 ∨ (¬ (back1 dl l x).2 = x.2 ∧ (back1 dl l x).2 = 0)) ∧ ((back1 dl (l ++ m) x).2 = (back1 dl l x).2 ∨ (¬ (back1 dl (l ++ m) x).2 = (back1 dl l x).2 ∧ (back1 dl (l ++ m) x).2 = 0)) := by
  unfold back1
  rw [heldB_append]
  by_cases h : heldB dl l x.1 = true
  · simp [h]
    by_cases h2 : x.2 = 0
    · left; exact h2.symm
    · right; omega
  · by_cases h3 : heldB dl m x.1 = true
    · simp [h, h3]
      by_cases h2 : x.2 = 0
      · left; exact h2.symm
      · right; omega
    · simp [h, h3]

end Go.Proofs.Ytdbnppbfoohjjaa

