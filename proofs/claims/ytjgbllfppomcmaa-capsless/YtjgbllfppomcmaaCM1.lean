import Derived.Test.YtjgbllfppomcmaaCP3
/- Zones and spans of right tariffs; a day's zones; its cap as the document reckons it. -/
namespace Go.Proofs.Ytjgbllfppomcmaa
open Go.RowKit

theorem zmax_ge : ∀ (l : List Stn) (z : Int), z ≤ zmax z l ∧ ∀ s ∈ l, s.zone ≤ zmax z l
  | [], z => ⟨Int.le_refl _, fun s hs => by cases hs⟩
  | x :: r, z => by
    obtain ⟨h1, h2⟩ := zmax_ge r (max z x.zone)
    show z ≤ zmax (max z x.zone) r ∧ ∀ s ∈ x :: r, s.zone ≤ zmax (max z x.zone) r
    refine ⟨by omega, fun s hs => ?_⟩
    rcases List.mem_cons.1 hs with rfl | hs
    · omega
    · exact h2 s hs

theorem sameAll_has : ∀ (l : List Spn) (q : List (Int × Int)), sameAll l q = true → ∀ p ∈ q, ∃ x ∈ l, x.fr = p.1 ∧ x.to = p.2
  | [], [], _, p, hp => by cases hp
  | s :: r, p :: q, h, x, hx => by
    have h2 : (s.fr = p.1 ∧ s.to = p.2) ∧ sameAll r q = true := by simpa [sameAll] using h
    rcases List.mem_cons.1 hx with rfl | hx
    · exact ⟨s, List.mem_cons_self .., h2.1⟩
    · obtain ⟨y, hy, e⟩ := sameAll_has r q h2.2 x hx
      exact ⟨y, List.mem_cons_of_mem _ hy, e⟩
  | [], _ :: _, h, _, _ => by cases h
  | _ :: _, [], h, _, _ => by cases h

theorem toL_has (f : Int) : ∀ (n : Nat) (t b : Int), t ≤ b → b < t + n → (f, b) ∈ toL f t n
  | 0, t, b, h1, h2 => by omega
  | n + 1, t, b, h1, h2 => by
    rw [toL]
    by_cases h : b = t
    · rw [h]; exact List.mem_cons_self ..
    · exact List.mem_cons_of_mem _ (toL_has f n (t + 1) b (by omega) (by omega))
theorem prs_has : ∀ (n : Nat) (f a b : Int), f ≤ a → a ≤ b → b < f + n → (a, b) ∈ prs f n
  | 0, f, a, b, h1, h2, h3 => by omega
  | n + 1, f, a, b, h1, h2, h3 => by
    rw [prs]
    by_cases h : a = f
    · rw [h]; exact List.mem_append_left _ (toL_has f (n + 1) f b (by omega) (by omega))
    · exact List.mem_append_right _ (prs_has n (f + 1) a b (by omega) h2 (by omega))

/-- The greatest zone. -/
def Zt (t : Tf) : Int := zmax 1 t.st
theorem Zt_one (t : Tf) : 1 ≤ Zt t := (zmax_ge t.st 1).1

theorem span_has {t : Tf} (h : rightE t = 0) {a b : Int} (h1 : 1 ≤ a) (h2 : a ≤ b) (h3 : b ≤ Zt t) : (spanOf t a b).isSome = true := by
  obtain ⟨_, hz, _⟩ := rightE_all h
  unfold zonesOk at hz
  have hZ := Zt_one t
  obtain ⟨x, hx, e1, e2⟩ := sameAll_has _ _ hz (a, b) (prs_has _ 1 a b h1 h2 (by unfold Zt at h3 hZ; omega))
  unfold spanOf
  rw [List.find?_isSome]
  simp only at e1 e2
  exact ⟨x, hx, by simp [wants, sameB, e1, e2]; omega⟩
theorem span_in {t : Tf} (h : rightE t = 0) {a b : Int} (hs : (spanOf t a b).isSome = true) (hab : a ≤ b) : 1 ≤ a ∧ b ≤ Zt t := by
  obtain ⟨s, hs⟩ := Option.isSome_iff_exists.1 hs
  obtain ⟨hm, e1, e2⟩ := spanOf_some hs
  obtain ⟨_, hz, _⟩ := rightE_all h
  unfold zonesOk at hz
  have hZ := Zt_one t
  have := prs_mem 1 _ _ (sameAll_mem _ _ hz s hm)
  simp only at this
  unfold Zt at *
  omega
theorem span_none {t : Tf} (h : rightE t = 0) : (spanOf t 0 0).isSome = false := by
  cases hs : (spanOf t 0 0).isSome with
  | false => rfl
  | true => have := span_in h hs (Int.le_refl 0); omega
theorem station_zone {t : Tf} (h : rightE t = 0) {id : Int} (hs : (stationOf t id).isSome = true) : 1 ≤ ((stationOf t id).getD ⟨0, 0, 0⟩).zone ∧ ((stationOf t id).getD ⟨0, 0, 0⟩).zone ≤ Zt t := by
  obtain ⟨s, hs⟩ := Option.isSome_iff_exists.1 hs
  rw [hs]
  have hm := List.mem_of_find?_eq_some (show t.st.find? (hasId id) = some s from hs)
  exact ⟨((small_of h).st s hm).2.2.1, (zmax_ge t.st 1).2 s hm⟩
theorem span_vals {t : Tf} (h : rightE t = 0) {a b : Int} {s : Spn} (hs : spanOf t a b = some s) : (0 ≤ s.daily ∧ s.daily ≤ 1048576) ∧ (0 ≤ s.weekly ∧ s.weekly ≤ 1048576) := by
  have := (small_of h).sp s (spanOf_some hs).1
  exact ⟨this.2.2.1, this.2.2.2⟩
theorem span_mono {t : Tf} (h : rightE t = 0) {a b c d : Int} {s s' : Spn} (hs : spanOf t a b = some s) (hs' : spanOf t c d = some s') (h1 : c ≤ a) (h2 : b ≤ d) (h3 : a ≤ b) (h4 : c ≤ d) : s.daily ≤ s'.daily ∧ s.weekly ≤ s'.weekly := by
  obtain ⟨_, _, _, hw, _⟩ := rightE_all h
  obtain ⟨m1, e1, e2⟩ := spanOf_some hs
  obtain ⟨m2, e3, e4⟩ := spanOf_some hs'
  have h5 := List.all_eq_true.1 (List.all_eq_true.1 hw s' m2) s m1
  have h6 : withinB s s' = true := by simp [withinB, e1, e2, e3, e4]; omega
  simp [fits, h6, noDearer] at h5
  omega

/-- A day's zones: none, or some of the tariff. -/
def ZIn (t : Tf) (d : Dy) : Prop := (d.low = 0 ∧ d.high = 0) ∨ (1 ≤ d.low ∧ d.low ≤ d.high ∧ d.high ≤ Zt t)
def ZSum (t : Tf) (d : Dy) : Prop := ZIn t d ∧ (d.low = 0 → d.rail = 0)

theorem ZIn.widen {t : Tf} {d : Dy} (h : ZIn t d) {lo hi : Int} (hz : (lo = 0 ∧ hi = 0) ∨ (1 ≤ lo ∧ lo ≤ hi ∧ hi ≤ Zt t)) : ZIn t (widD d lo hi) := by
  unfold ZIn widD lowW at *
  simp only [imax_eq]
  split
  · omega
  · split
    · omega
    · omega

theorem pjE_zero {t : Tf} {day : Int} {p : Jn × Int} (h : pjE t day p = 0) : jk p.1.kind = true ∧ price p.2 = true ∧ onB day p.1.st = true ∧ (p.1.kind = 1 → (stationOf t p.1.fr).isSome = true ∧ (stationOf t p.1.to).isSome = true) := by
  unfold pjE at h
  split at h
  · rename_i h1
    split at h
    · rename_i h2
      split at h
      · rename_i h3
        split at h
        · split at h
          · rename_i h5
            exact ⟨h1, h2, h3, fun _ => h5⟩
          · exact absurd h (by decide)
        · rename_i h4
          exact ⟨h1, h2, h3, fun k => absurd k h4⟩
      · exact absurd h (by decide)
    · exact absurd h (by decide)
  · exact absurd h (by decide)

theorem zones_of {t : Tf} (hr : rightE t = 0) {day : Int} {p : Jn × Int} (h : pjE t day p = 0) (hk : p.1.kind = 1) : 1 ≤ imin (zF t p) (zT t p) ∧ imin (zF t p) (zT t p) ≤ imax (zF t p) (zT t p) ∧ imax (zF t p) (zT t p) ≤ Zt t := by
  obtain ⟨_, _, _, h1⟩ := pjE_zero h
  obtain ⟨h2, h3⟩ := h1 hk
  have h4 := station_zone hr h2
  have h5 := station_zone hr h3
  unfold zF zT
  rw [imin_eq, imax_eq]
  omega

theorem ZSum.put {t : Tf} (hr : rightE t = 0) {day : Int} {p : Jn × Int} (h : pjE t day p = 0) {d : Dy} (hd : ZSum t d) : ZSum t (putD t d p) := by
  by_cases hk : p.1.kind = 1
  · rw [putD_whole t d p hk]
    have hz := zones_of hr h hk
    have h1 : ZIn t (sumK d p.1.kind p.2) := by
      have := hd.1
      unfold ZIn sumK at *
      rw [if_pos hk]
      exact this
    refine ⟨h1.widen (.inr hz), fun h0 => ?_⟩
    exfalso
    have hd1 := hd.1
    unfold widD lowW sumK at h0
    unfold ZIn at hd1
    rw [if_pos hk] at h0
    simp only at h0
    split at h0
    · omega
    · split at h0 <;> omega
  · rw [putD_other t d p hk]
    unfold ZSum ZIn sumK at *
    rw [if_neg hk]
    split <;> exact hd

/-- A day's cap as the document reckons it. -/
theorem cap_day {t : Tf} (hr : rightE t = 0) {d : Dy} (hz : ZSum t d) (h0 : 0 ≤ d.rail) (c : Spn → Int) :
    capV t d c = if 0 < d.low then imin (d.rail + d.bus) (imax (c ((spanOf t d.low d.high).getD ⟨0, 0, 0, 0, 0⟩)) d.bus) else d.bus := by
  unfold capV
  rcases hz.1 with ⟨h1, h2⟩ | ⟨h1, h2, h3⟩
  · rw [h1, h2, span_none hr, if_neg (by decide), if_neg (by decide), hz.2 h1, Int.zero_add]
  · rw [if_pos (span_has hr h1 h2 h3), if_pos (by omega)]
    simp only [imin_eq, imax_eq]
    omega
theorem cap_week {t : Tf} (hr : rightE t = 0) {d : Dy} (hz : ZIn t d) (h0 : 0 ≤ d.rail) (c : Spn → Int) :
    capV t d c = if 0 < d.low then imin (d.rail + d.bus) (imax (c ((spanOf t d.low d.high).getD ⟨0, 0, 0, 0, 0⟩)) d.bus) else d.rail + d.bus := by
  unfold capV
  rcases hz with ⟨h1, h2⟩ | ⟨h1, h2, h3⟩
  · rw [h1, h2, span_none hr, if_neg (by decide), if_neg (by decide)]
  · rw [if_pos (span_has hr h1 h2 h3), if_pos (by omega)]
    simp only [imin_eq, imax_eq]
    omega

end Go.Proofs.Ytjgbllfppomcmaa

