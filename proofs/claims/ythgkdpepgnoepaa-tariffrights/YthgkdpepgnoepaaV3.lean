/- The document's own look at spans: all that there are up to a zone, in order. -/
import Derived.Test.YthgkdpepgnoepaaT7
namespace Go.Proofs.Ythgkdpepgnoepaa
open Go.RowKit

theorem sameAll_cons (l : List Spn) (n : Nat) (f t : Int) (q : List (Int × Int)) : (n < l.length ∧ ∃ s, l[n]? = some s ∧ sameAll (l.drop n) ((f, t) :: q) = ((s.fr == f && s.to == t) && sameAll (l.drop (n + 1)) q)) ∨ (¬ n < l.length ∧ sameAll (l.drop n) ((f, t) :: q) = false) := by
  by_cases h : n < l.length
  · exact .inl ⟨h, l[n], List.getElem?_eq_getElem h, by rw [List.drop_eq_getElem_cons h]; rfl⟩
  · exact .inr ⟨h, by rw [List.drop_of_length_le (by omega)]; rfl⟩

theorem sameAll_end (l : List Spn) (n : Nat) (h : n ≤ l.length) : sameAll (l.drop n) [] = decide (n = l.length) := by
  by_cases h2 : n < l.length
  · rw [List.drop_eq_getElem_cons h2]
    have : ¬ n = l.length := by omega
    simp [sameAll, this]
  · obtain rfl : n = l.length := by omega
    rw [List.drop_length]
    simp [sameAll]

theorem rspans_any (w : World) (ao : Option Addr) (cap : Nat) (l : List Spn) (h : CAt w ao (spV l)) (hl : (l.length + 1) * 40 ≤ 140737488355328) (Z : Nat) (hZ : Z ≤ 9) :
    Calls Try.prog 32 #[.slice ao l.length cap, .int .i64 (Z : Int)] w fun e w' => e = .returned (.bool (sameAll l (prs 1 Z))) ∧ w' = w := by
  obtain ⟨y, HY⟩ : ∃ y, Hid (sameAll l (prs 1 Z) = y) := ⟨_, rfl⟩
  rw [unhide HY]
  have H := hide h
  clear h
  go_enter Try.func32, Try.ntmps32
  go_wp2
  go_loopw [5, 6, 7] (fun nv fv _ wr => ∃ (n m : Nat) (f : Int), n ≤ l.length ∧ m ≤ 9 ∧ f + m = (Z : Int) + 1 ∧ 1 ≤ f ∧ nv = .int .i64 n ∧ fv = .int .i64 f ∧ wr = w ∧ Hid (sameAll (l.drop n) (prs f m) = y)) (fun _ fv _ _ => Z + 1 - (intOf fv).toNat)
  case atStart => exact ⟨0, Z, 1, Nat.zero_le _, hZ, by omega, by omega, rfl, rfl, rfl, hide (by simpa using unhide HY)⟩
  case round =>
    obtain ⟨n, m, f, hn, hm, hf, hf1, rfl, rfl, rfl, HI⟩ := hrel
    by_cases hlt : f ≤ (Z : Int)
    · obtain ⟨m, rfl⟩ : ∃ q, m = q + 1 := ⟨m - 1, by omega⟩
      go_wp2
      go_loopw [5, 7] (fun nv tv wq => ∃ (n k : Nat) (t : Int), n ≤ l.length ∧ k ≤ 9 ∧ t + k = (Z : Int) + 1 ∧ f ≤ t ∧ nv = .int .i64 n ∧ tv = .int .i64 t ∧ wq = wr ∧ Hid (sameAll (l.drop n) (toL f t k ++ prs (f + 1) m) = y)) (fun _ tv _ => Z + 1 - (intOf tv).toNat)
      case atStart => exact ⟨n, m + 1, f, hn, hm, by omega, by omega, rfl, rfl, rfl, unhide HI⟩
      case round =>
        obtain ⟨n, k, t, hn, hk, ht, ht1, rfl, rfl, rfl, HJ⟩ := hrel
        by_cases hlt2 : t ≤ (Z : Int)
        · obtain ⟨k, rfl⟩ : ∃ q, k = q + 1 := ⟨k - 1, by omega⟩
          have hs : sameAll (l.drop n) ((f, t) :: (toL f (t + 1) k ++ prs (f + 1) m)) = y := unhide HJ
          rcases sameAll_cons l n f t (toL f (t + 1) k ++ prs (f + 1) m) with ⟨hnl, s, hsn, he⟩ | ⟨hnl, he⟩
          · obtain ⟨b, off, rfl, c0, c1, c2, c3, c4⟩ := (unhide H).sp hnl
            have hsl : l[n] = s := by
              have := List.getElem?_eq_getElem hnl
              rw [this] at hsn
              exact Option.some.inj hsn
            rw [hsl] at c0 c1
            have HV : Hid (((s.fr == f && s.to == t) && sameAll (l.drop (n + 1)) (toL f (t + 1) k ++ prs (f + 1) m)) = y) := hide (he.symm.trans hs)
            clear he hs hsn hsl c2 c3 c4 HJ
            obtain ⟨x0, x1, x2, x3, x4⟩ := s
            by_cases g0 : x0 = f
            · by_cases g1 : x1 = t
              · have HV' : Hid (sameAll (l.drop (n + 1)) (toL f (t + 1) k ++ prs (f + 1) m) = y) := hide (by rw [← unhide HV]; simp [g0, g1])
                clear HV
                have q0 : (x0 != f) = false := by simp [g0]
                have q1 : (x1 != t) = false := by simp [g1]
                clear g0 g1
                go_wp2
                exact ⟨⟨n + 1, k, t + 1, by omega, by omega, by omega, by omega, by go_num, by go_num, (by first | rfl | trivial), unhide HV'⟩, by simp [intOf]; omega⟩
              · have HV' : Hid (y = false) := hide (by rw [← unhide HV]; simp [g1])
                clear HV
                have q0 : (x0 != f) = false := by simp [g0]
                have q1 : (x1 != t) = true := by simp [g1]
                clear g0 g1
                go_wp2
                go_ret
                exact ⟨by rw [unhide HV']; rfl, rfl⟩
            · have HV' : Hid (y = false) := hide (by rw [← unhide HV]; simp [g0])
              clear HV
              have q0 : (x0 != f) = true := by simp [g0]
              clear g0
              go_wp2
              go_ret
              exact ⟨by rw [unhide HV']; rfl, rfl⟩
          · have HV' : Hid (y = false) := hide (hs.symm.trans he)
            clear he hs HJ
            go_wp2
            go_ret
            exact ⟨by rw [unhide HV']; rfl, rfl⟩
        · obtain rfl : k = 0 := by omega
          have HV : Hid (sameAll (l.drop n) (prs (f + 1) m) = y) := hide (unhide HJ)
          clear HJ
          go_wp2
          exact ⟨⟨n, m, f + 1, hn, by omega, by omega, by omega, rfl, by go_num, (by first | rfl | trivial), unhide HV⟩, by simp [intOf]; omega⟩
    · obtain rfl : m = 0 := by omega
      have HV : Hid (y = ((n : Int) == (l.length : Int))) := hide (by
        rw [← unhide HI, prs, sameAll_end l n hn]
        by_cases e : n = l.length
        · simp [e]
        · have : ¬ (n : Int) = (l.length : Int) := by omega
          simp [e, this])
      clear HI
      go_wp2
      go_ret
      exact ⟨by rw [unhide HV]; rfl, rfl⟩

end Go.Proofs.Ythgkdpepgnoepaa
