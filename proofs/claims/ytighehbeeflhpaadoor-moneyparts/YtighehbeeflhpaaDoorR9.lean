/- What a Split's parts are like; the document's Split answers as the program's. -/
import Derived.Test.YtighehbeeflhpaaDoorR8
namespace Go.Proofs.YtighehbeeflhpaaDoor
open Go.RowKit

/-- What the document's Split answers. -/
def RSplitAns (w : World) (n p : Int) (e : Ending) (w' : World) : Prop :=
  ∃ ao cap g, e = .returned (.tuple #[.slice ao (splitL n p).length cap, .int .i64 (splitE n p)]) ∧ SRow w w' ao cap g (splitL n p)

theorem rsplit_any (w : World) (n p : Int) : Calls Tryd.prog 25 #[.int .i64 n, .int .i64 p] w (RSplitAns w n p) := by
  by_cases h1 : owed n = true
  · have hn : 0 ≤ n ∧ n ≤ 9007199254740992 := by
      have := h1; simp [owed, right] at this; omega
    by_cases h2 : 1 ≤ p ∧ p ≤ 1000
    · obtain ⟨m, rfl⟩ := Int.eq_ofNat_of_zero_le hn.1
      obtain ⟨k, rfl⟩ := Int.eq_ofNat_of_zero_le (show 0 ≤ p by omega)
      have e0 : splitE (m : Int) (k : Int) = 0 := by simp [splitE, h1, h2]
      have e1 : splitL (m : Int) (k : Int) = pl m k k := by simp [splitL, e0, pl]
      refine (rsplit_main w m k (by omega) (by omega) (by omega)).mono ?_
      rintro e w' ⟨ao, cap, g, rfl, hS⟩
      unfold RSplitAns
      rw [e0, e1, pl_length]
      exact ⟨ao, cap, g, rfl, hS⟩
    · have R := rright_any w n
      have e0 : splitE n p = 1 := by simp [splitE, h1, h2]
      have e1 : splitL n p = [] := by simp [splitL, e0]
      have hr : right n = true := (right_iff _).2 ⟨by omega, hn.2⟩
      rw [hr] at R
      unfold RSplitAns
      rw [e0, e1]
      have hn0 := hn.1
      clear e0 e1 h1 hr hn
      have hq : (decide (p < 1) = true) ∨ (decide (p < 1) = false ∧ decide (1000 < p) = true) := by simp; omega
      clear h2
      rcases hq with h | ⟨h, h'⟩
      · go_enter Tryd.func25, Tryd.ntmps25
        go_wp2_with fail
        refine R.mono ?_
        rintro e w1 ⟨rfl, rfl⟩
        go_wp2
        go_ret2
        exact ⟨none, 0, 0, rfl, VRow.nil _ _, Fr.refl _ _, fun h => absurd h (by omega)⟩
      · go_enter Tryd.func25, Tryd.ntmps25
        go_wp2_with fail
        refine R.mono ?_
        rintro e w1 ⟨rfl, rfl⟩
        go_wp2
        go_ret2
        exact ⟨none, 0, 0, rfl, VRow.nil _ _, Fr.refl _ _, fun h => absurd h (by omega)⟩
  · have h1' : owed n = false := by simpa using h1
    have R := rright_any w n
    have e0 : splitE n p = 50 := by simp [splitE, h1']
    have e1 : splitL n p = [] := by simp [splitL, e0]
    unfold RSplitAns
    rw [e0, e1]
    clear e0 e1
    by_cases hr : right n = true
    · have hneg : n < 0 := by
        have := h1'; rw [owed, hr] at this; simp at this; omega
      rw [hr] at R
      clear h1 h1' hr
      go_enter Tryd.func25, Tryd.ntmps25
      go_wp2_with fail
      refine R.mono ?_
      rintro e w1 ⟨rfl, rfl⟩
      go_wp2
      go_ret2
      exact ⟨none, 0, 0, rfl, VRow.nil _ _, Fr.refl _ _, fun h => absurd h (by omega)⟩
    · have hr' : right n = false := by simpa using hr
      rw [hr'] at R
      clear h1 h1' hr hr'
      go_enter Tryd.func25, Tryd.ntmps25
      go_wp2_with fail
      refine R.mono ?_
      rintro e w1 ⟨rfl, rfl⟩
      go_wp2
      go_ret2
      exact ⟨none, 0, 0, rfl, VRow.nil _ _, Fr.refl _ _, fun h => absurd h (by omega)⟩

/-- The sum of the first ones. -/
def sumTo : List Int → Nat → Int
  | _, 0 => 0
  | l, i + 1 => sumTo l i + l.getD i 0

theorem part_sum (m k i : Nat) : ∀ j, j ≤ i → sumTo (pl m k i) j = ((j * (m / k) + min j (m % k) : Nat) : Int) := by
  intro j
  induction j with
  | zero => intro _; simp [sumTo]
  | succ j ih =>
    intro hj
    have hg : (pl m k i).getD j 0 = (part m k j : Int) := by
      have : j < i := by omega
      simp [pl, List.getD, this]
    simp only [sumTo]
    rw [ih (by omega), hg]
    unfold part
    rw [Nat.add_mul, Nat.one_mul]
    generalize j * (m / k) = a
    generalize m / k = q
    by_cases h : j < m % k
    · rw [if_pos h]; omega
    · rw [if_neg h]; omega

theorem split_cases (n p : Int) : (splitE n p ≠ 0 ∧ splitL n p = []) ∨ (splitE n p = 0 ∧ ∃ m k : Nat, n = (m : Int) ∧ m ≤ 9007199254740992 ∧ 1 ≤ k ∧ k ≤ 1000 ∧ splitL n p = pl m k k) := by
  by_cases h : splitE n p = 0
  · refine .inr ⟨h, n.toNat, p.toNat, ?_⟩
    have h1 : owed n = true := by
      cases ho : owed n with
      | true => rfl
      | false => simp [splitE, ho] at h
    have h2 : 1 ≤ p ∧ p ≤ 1000 := by
      by_cases h2 : 1 ≤ p ∧ p ≤ 1000
      · exact h2
      · simp [splitE, h1, h2] at h
    have hn : 0 ≤ n ∧ n ≤ 9007199254740992 := by
      have := h1; simp [owed, right] at this; omega
    refine ⟨by omega, by omega, by omega, by omega, ?_⟩
    simp [splitL, h, pl]
  · exact .inl ⟨h, by simp [splitL, h]⟩

/-- What the law asks of the parts. -/
structure Parts (n E : Int) (L : List Int) : Prop where
  len : L.length ≤ 1000
  size : ∀ j (hj : j < L.length), 0 ≤ L[j] ∧ L[j] ≤ 9007199254740992
  down : ∀ j (hj : j + 1 < L.length), L[j + 1] ≤ L[j]
  near : ∀ j (hj : j < L.length), L[0] - 1 ≤ L[j]
  all : E = 0 → sumTo L L.length = n
  some : ∀ i, i ≤ L.length → 0 ≤ sumTo L i ∧ sumTo L i ≤ 9007199254740992

theorem split_facts (n p : Int) : Parts n (splitE n p) (splitL n p) := by
  rcases split_cases n p with ⟨h, e⟩ | ⟨h, m, k, rfl, hm, hk0, hk, e⟩
  · rw [e]
    refine ⟨by simp, fun j hj => absurd hj (by simp), fun j hj => absurd hj (by simp), fun j hj => absurd hj (by simp), fun h2 => absurd h2 h, fun i hi => ?_⟩
    obtain rfl : i = 0 := by simpa using hi
    simp [sumTo]
  · rw [e]
    have hlen := pl_length m k k
    have hq : m / k ≤ m := Nat.div_le_self m k
    have hdm := Nat.div_add_mod m k
    have hmk : m % k < k := Nat.mod_lt _ (by omega)
    have hget : ∀ j (hj : j < (pl m k k).length), (pl m k k)[j] = (part m k j : Int) := fun j hj => by simp [pl]
    have hpart : ∀ j, part m k j ≤ m := fun j => by
      unfold part
      split
      · rename_i hlt
        have : k * (m / k) + m % k = m := hdm
        have h1 : m / k ≤ k * (m / k) := Nat.le_mul_of_pos_left _ (by omega)
        omega
      · omega
    refine ⟨by omega, fun j hj => ?_, fun j hj => ?_, fun j hj => ?_, fun _ => ?_, fun i hi => ?_⟩
    · rw [hget j hj]; have := hpart j; omega
    · rw [hget, hget]
      unfold part
      generalize m / k = q
      split <;> split <;> omega
    · rw [hget, hget]
      unfold part
      generalize m / k = q
      split <;> split <;> omega
    · rw [hlen, part_sum m k k k (Nat.le_refl _), Nat.min_eq_right (by omega)]
      rw [hdm]
    · rw [hlen] at hi
      rw [part_sum m k k i hi]
      have h1 : i * (m / k) ≤ k * (m / k) := Nat.mul_le_mul_right _ hi
      generalize i * (m / k) = a at h1 ⊢
      generalize k * (m / k) = b at h1 hdm
      omega

theorem sumTo_succ (l : List Int) (i : Nat) (h : i < l.length) : sumTo l (i + 1) = sumTo l i + l[i] := by
  simp [sumTo, List.getD, h]

theorem VRow.set {w : World} {ao : Option Addr} {cap g : Nat} {vs : List Value} (h : VRow w ao cap g vs) (i : Nat) (hi : i < vs.length) (u : Value) (hu : u.oneCell' = true) : VRow (w.setCell ⟨g, i, none⟩ u) ao cap g (vs.set i u) := by
  refine ⟨by simpa using h.le, h.max, h.ad, fun j hj => ⟨?_, by rw [World.frozen?_setCell]; exact (h.room j hj).2⟩, fun j hj => ?_, fun x hx => ?_⟩
  · by_cases e : j = i
    · subst e; rw [World.cell?_setCell_same _ _ _ (h.cells j hi)]; rfl
    · rw [World.cell?_setCell_other _ _ _ _ (by intro t; injection t with _ t2; exact e t2.symm)]; exact (h.room j hj).1
  · have hj' : j < vs.length := by simpa using hj
    by_cases e : j = i
    · subst e; rw [World.cell?_setCell_same _ _ _ (h.cells j hj')]; simp
    · rw [World.cell?_setCell_other _ _ _ _ (by intro t; injection t with _ t2; exact e t2.symm), h.cells j hj', List.getElem_set_ne (by omega)]
  · rcases List.mem_or_eq_of_mem_set hx with h1 | h1
    · exact h.one x h1
    · rw [h1]; exact hu

end Go.Proofs.YtighehbeeflhpaaDoor
