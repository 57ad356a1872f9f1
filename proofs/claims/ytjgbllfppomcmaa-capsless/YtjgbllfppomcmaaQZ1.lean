import Derived.Test.YtjgbllfppomcmaaQU2
/- What follows of a tariff that may be: all that it holds is small. -/
namespace Go.Proofs.Ytjgbllfppomcmaa
open Go.RowKit

theorem rightE_cases (t : Tf) : rightE t = 0 ∨ rightE t = 50 ∨ rightE t = 51 ∨ rightE t = 70 := by
  unfold rightE
  repeat' split
  all_goals simp

theorem rightE_all {t : Tf} (h : rightE t = 0) : stationsOk t.st = true ∧ zonesOk t = true ∧ pricesOk t = true ∧ withinOk t.sp = true ∧ bandsOk t.bd = true ∧ rate t.off = true ∧ minutesOk t = true := by
  unfold rightE at h
  repeat' split at h
  all_goals simp_all

theorem stOk_all : ∀ (l : List Stn) (a : Int), 0 ≤ a → stOk a l = true → ∀ x ∈ l, 0 ≤ x.id ∧ x.id ≤ 65535 ∧ 1 ≤ x.zone ∧ x.zone ≤ 9 ∧ 0 ≤ x.group ∧ x.group ≤ 65535
  | [], _, _, _, x, hx => by simp at hx
  | s :: r, a, ha, h, x, hx => by
    have h' : stGood a s = true ∧ stOk s.id r = true := by simpa [stOk] using h
    rcases stGood_cases a s with ⟨_, k1, k2, k3, k4, k5, k6⟩ | ⟨hg, _⟩
    · rcases List.mem_cons.1 hx with rfl | hx
      · omega
      · exact stOk_all r s.id (by omega) h'.2 x hx
    · rw [h'.1] at hg; cases hg

theorem bdOk_all : ∀ (l : List (Int × Int)) (a : Int), 0 ≤ a → bdOk a l = true → ∀ x ∈ l, 0 ≤ x.1 ∧ x.1 ≤ 1440 ∧ 0 ≤ x.2 ∧ x.2 ≤ 1440
  | [], _, _, _, x, hx => by simp at hx
  | s :: r, a, ha, h, x, hx => by
    have h' : bdGood a s = true ∧ bdOk s.2 r = true := by simpa [bdOk] using h
    rcases bdGood_cases a s with ⟨_, k1, k2, k3⟩ | ⟨hg, _⟩
    · rcases List.mem_cons.1 hx with rfl | hx
      · omega
      · exact bdOk_all r s.2 (by omega) h'.2 x hx
    · rw [h'.1] at hg; cases hg

theorem toL_mem (f : Int) : ∀ (t : Int) (n : Nat) (x : Int × Int), x ∈ toL f t n → x.1 = f ∧ t ≤ x.2 ∧ x.2 < t + n
  | _, 0, x, h => by simp [toL] at h
  | t, n + 1, x, h => by
    rw [toL] at h
    rcases List.mem_cons.1 h with rfl | h
    · exact ⟨rfl, by simp only []; omega, by simp only []; omega⟩
    · have := toL_mem f (t + 1) n x h
      omega

theorem prs_mem : ∀ (f : Int) (n : Nat) (x : Int × Int), x ∈ prs f n → f ≤ x.1 ∧ x.1 < f + n ∧ f ≤ x.2 ∧ x.2 < f + n
  | _, 0, x, h => by simp [prs] at h
  | f, n + 1, x, h => by
    rw [prs] at h
    rcases List.mem_append.1 h with h | h
    · have := toL_mem f f (n + 1) x h
      omega
    · have := prs_mem (f + 1) n x h
      omega

theorem prs_few : ∀ (n : Nat) (f : Int), 2 * (prs f n).length = n * (n + 1)
  | 0, _ => rfl
  | n + 1, f => by
    rw [prs, List.length_append, toL_length]
    have := prs_few n (f + 1)
    have e : (n + 1) * (n + 1 + 1) = n * (n + 1) + 2 * (n + 1) := by rw [Nat.mul_comm (n + 1) (n + 1 + 1), show n + 1 + 1 = n + 2 from rfl, Nat.add_mul]
    omega

theorem sameAll_mem : ∀ (l : List Spn) (q : List (Int × Int)), sameAll l q = true → ∀ x ∈ l, (x.fr, x.to) ∈ q
  | [], [], _, x, hx => by simp at hx
  | s :: r, p :: q, h, x, hx => by
    have h2 : (s.fr = p.1 ∧ s.to = p.2) ∧ sameAll r q = true := by simpa [sameAll] using h
    rcases List.mem_cons.1 hx with rfl | hx
    · rw [h2.1.1, h2.1.2]; exact List.mem_cons_self ..
    · exact List.mem_cons_of_mem _ (sameAll_mem r q h2.2 x hx)
  | [], _ :: _, h, _, _ => by cases h
  | _ :: _, [], h, _, _ => by cases h

theorem price_iff (n : Int) : price n = true ↔ 0 ≤ n ∧ n ≤ 1048576 := by simp [price]
theorem minOk_iff (n : Int) : minOk n = true ↔ 0 ≤ n ∧ n ≤ 1440 := by simp [minOk]

/-- All that a tariff holds is small. -/
structure Small (t : Tf) : Prop where
  st : ∀ x ∈ t.st, 0 ≤ x.id ∧ x.id ≤ 65535 ∧ 1 ≤ x.zone ∧ x.zone ≤ 9 ∧ 0 ≤ x.group ∧ x.group ≤ 65535
  lS : t.st.length ≤ 200
  sp : ∀ x ∈ t.sp, (1 ≤ x.fr ∧ x.fr ≤ 9 ∧ 1 ≤ x.to ∧ x.to ≤ 9) ∧ (0 ≤ x.single ∧ x.single ≤ 1048576) ∧ (0 ≤ x.daily ∧ x.daily ≤ 1048576) ∧ (0 ≤ x.weekly ∧ x.weekly ≤ 1048576)
  lP : t.sp.length ≤ 45
  bd : ∀ x ∈ t.bd, 0 ≤ x.1 ∧ x.1 ≤ 1440 ∧ 0 ≤ x.2 ∧ x.2 ≤ 1440
  lB : t.bd.length ≤ 8
  off : t.off ≤ 4607182418800017408
  bus : 0 ≤ t.bus ∧ t.bus ≤ 1048576
  busDaily : 0 ≤ t.busDaily ∧ t.busDaily ≤ 1048576
  busWeekly : 0 ≤ t.busWeekly ∧ t.busWeekly ≤ 1048576
  hopper : 0 ≤ t.hopper ∧ t.hopper ≤ 1440
  most : 0 ≤ t.most ∧ t.most ≤ 1048576
  longest : 0 ≤ t.longest ∧ t.longest ≤ 1440
  change : 0 ≤ t.change ∧ t.change ≤ 1440
  passback : 0 ≤ t.passback ∧ t.passback ≤ 1440
  delay : 0 ≤ t.delay ∧ t.delay ≤ 1440
  threshold : 0 ≤ t.threshold ∧ t.threshold ≤ 1048576

theorem small_of {t : Tf} (h : rightE t = 0) : Small t := by
  obtain ⟨h1, h2, h3, _, h5, h6, h7⟩ := rightE_all h
  simp only [stationsOk, Bool.and_eq_true, decide_eq_true_eq] at h1
  simp only [bandsOk, Bool.and_eq_true, decide_eq_true_eq] at h5
  simp only [pricesOk, Bool.and_eq_true, List.all_cons, List.all_nil, Bool.and_true, price_iff] at h3
  simp only [minutesOk, Bool.and_eq_true, List.all_cons, List.all_nil, Bool.and_true, minOk_iff, decide_eq_true_eq] at h7
  simp only [rate, decide_eq_true_eq] at h6
  have hz := zmax_bound t.st 0 1 h1.2 (by omega) (by omega)
  unfold zonesOk at h2
  obtain ⟨Z, hZ⟩ : ∃ Z : Nat, (zmax 1 t.st).toNat = Z := ⟨_, rfl⟩
  rw [hZ] at h2
  have hZ9 : Z ≤ 9 := by omega
  have hlen : t.sp.length ≤ 45 := by
    rw [sameAll_length _ _ h2]
    have := prs_few Z 1
    have h9 : Z * (Z + 1) ≤ 9 * 10 := Nat.mul_le_mul hZ9 (by omega)
    omega
  have hp : ∀ x ∈ t.sp, spPrices x = true := List.all_eq_true.1 h3.2
  refine ⟨stOk_all _ 0 (by omega) h1.2, h1.1, fun x hx => ?_, hlen, bdOk_all _ 0 (by omega) h5.2, h5.1, h6, ?_, ?_, ?_, ?_, ?_, ?_, ?_, ?_, ?_, ?_⟩
  · have k1 := prs_mem 1 Z _ (sameAll_mem _ _ h2 x hx)
    have k2 := hp x hx
    simp only [spPrices, List.all_cons, List.all_nil, Bool.and_true, Bool.and_eq_true, price_iff] at k2
    simp only at k1
    omega
  all_goals omega

end Go.Proofs.Ytjgbllfppomcmaa

