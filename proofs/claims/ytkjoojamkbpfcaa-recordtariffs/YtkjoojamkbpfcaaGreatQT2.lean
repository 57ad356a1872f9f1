/- The looks at a tariff: must, lookAtStations, lookAtBands, lookAtMinutes. -/
import Derived.Test.YtkjoojamkbpfcaaGreatQT1
import Derived.Test.YtkjoojamkbpfcaaGreatK0
import Derived.Defers
import Derived.Recover
import Derived.Deep.QuietTactic
import Derived.BigQuiet
namespace Go.Proofs.YtkjoojamkbpfcaaGreat
open Go.RowKit

theorem must_okT (c : Int) (w : World) : Calls Tryz.prog 51 #[.bool true, .int .i64 c] w fun e w' => e = .returned (.tuple #[]) ∧ w' = w := by
  go_enter Tryz.func51, Tryz.ntmps51
  go_wp2
  go_end0
  exact ⟨rfl, rfl⟩

theorem must_noT (c : Int) (w : World) : Calls Tryz.prog 51 #[.bool false, .int .i64 c] w fun e w' => e = gave c ∧ w' = w := by
  go_enter Tryz.func51, Tryz.ntmps51
  go_wp2
  exact ⟨rfl, rfl, rfl⟩

theorem must_is {b : Bool} (hb : b = true) (c : Int) (w : World) : Calls Tryz.prog 51 #[.bool b, .int .i64 c] w fun e w' => e = .returned (.tuple #[]) ∧ w' = w := by subst hb; exact must_okT c w
theorem must_not {b : Bool} (hb : b = false) (c : Int) (w : World) : Calls Tryz.prog 51 #[.bool b, .int .i64 c] w fun e w' => e = gave c ∧ w' = w := by subst hb; exact must_noT c w

theorem ints5 (w : World) (a b c d e : Int) : CAt (w.alloc (.cells #[.int .i64 a, .int .i64 b, .int .i64 c, .int .i64 d, .int .i64 e] 3)) (some ⟨w.heap.size, 0, none⟩) ([a, b, c, d, e].map (Value.int .i64)) := by
  refine fun _ => ⟨_, _, rfl, fun j hj => ?_⟩
  rw [World.cell?_alloc_new, Nat.zero_add]
  match j, hj with
  | 0, _ => rfl
  | 1, _ => rfl
  | 2, _ => rfl
  | 3, _ => rfl
  | 4, _ => rfl
  | j + 5, hj => simp at hj; omega

theorem ints3 (w : World) (a b c : Int) : CAt (w.alloc (.cells #[.int .i64 a, .int .i64 b, .int .i64 c] 3)) (some ⟨w.heap.size, 0, none⟩) ([a, b, c].map (Value.int .i64)) := by
  refine fun _ => ⟨_, _, rfl, fun j hj => ?_⟩
  rw [World.cell?_alloc_new, Nat.zero_add]
  match j, hj with
  | 0, _ => rfl
  | 1, _ => rfl
  | 2, _ => rfl
  | j + 3, hj => simp at hj; omega

/-- May a station stand behind one of that Id? -/
def stGood (a : Int) (s : Stn) : Bool := decide (a < s.id) && decide (s.id ≤ 65535) && decide (1 ≤ s.zone) && decide (s.zone ≤ 9) && decide (0 ≤ s.group) && decide (s.group ≤ 65535)
def stOk : Int → List Stn → Bool
  | _, [] => true
  | a, s :: r => stGood a s && stOk s.id r
def stationsOk (l : List Stn) : Bool := decide (l.length ≤ 200) && stOk 0 l

theorem stGood_cases (a : Int) (s : Stn) : (stGood a s = true ∧ a < s.id ∧ s.id ≤ 65535 ∧ 1 ≤ s.zone ∧ s.zone ≤ 9 ∧ 0 ≤ s.group ∧ s.group ≤ 65535) ∨ (stGood a s = false ∧ (
    (¬ a < s.id ∨ (a < s.id ∧ ¬ s.id ≤ 65535)) ∨ (a < s.id ∧ s.id ≤ 65535 ∧ (¬ 1 ≤ s.zone ∨ (1 ≤ s.zone ∧ ¬ s.zone ≤ 9))) ∨ (a < s.id ∧ s.id ≤ 65535 ∧ 1 ≤ s.zone ∧ s.zone ≤ 9 ∧ (¬ 0 ≤ s.group ∨ (0 ≤ s.group ∧ ¬ s.group ≤ 65535))))) := by
  cases h : stGood a s with
  | true => refine .inl ⟨rfl, ?_⟩; simp [stGood] at h; omega
  | false =>
    refine .inr ⟨rfl, ?_⟩
    have : ¬ (a < s.id ∧ s.id ≤ 65535 ∧ 1 ≤ s.zone ∧ s.zone ≤ 9 ∧ 0 ≤ s.group ∧ s.group ≤ 65535) := by
      intro ⟨h1, h2, h3, h4, h5, h6⟩
      simp [stGood, h1, h2, h3, h4, h5, h6] at h
    omega

theorem lookStations_any (w : World) (ao : Option Addr) (cap : Nat) (l : List Stn) (h : CAt w ao (stV l)) (hl : (l.length + 1) * 24 ≤ 140737488355328) :
    Calls Tryz.prog 46 #[.slice ao l.length cap] w fun e w' => e = look (stationsOk l) 70 ∧ Fr (fun _ => False) w w' := by
  by_cases h200 : l.length ≤ 200
  · have HE : Hid (stationsOk l = stOk 0 l) := hide (by simp [stationsOk, h200])
    have H := hide h
    clear h
    go_enter Tryz.func46, Tryz.ntmps46
    go_wp2_with fail
    refine (must_is (by first | (simp; done) | (simp; omega) | simp_all) 70 _).mono ?_
    rintro e w1 ⟨rfl, rfl⟩
    go_wp2
    go_loopw [2, 4, 11] (fun av _ iv wr => ∃ (i : Nat) (a : Int), i ≤ l.length ∧ iv = .int .i64 i ∧ av = .int .i64 a ∧ Hid (Fr (fun _ => False) w1 wr ∧ stOk a (l.drop i) = stOk 0 l)) (fun _ _ iv _ => l.length - (intOf iv).toNat)
    case atStart => exact ⟨0, 0, Nat.zero_le _, rfl, rfl, Fr.refl _ _, by simp⟩
    case round =>
      obtain ⟨i, a, hi, rfl, rfl, HI⟩ := hrel
      by_cases hil : i < l.length
      · obtain ⟨b, off, rfl, c0, c1, c2⟩ := ((unhide H).keep (unhide HI).1).st hil
        have ht := (unhide HI).2
        rw [List.drop_eq_getElem_cons hil] at ht
        have HF := hide (unhide HI).1
        generalize l[i] = s at *
        obtain ⟨x0, x1, x2⟩ := s
        have HT : Hid (stOk 0 l = (stGood a ⟨x0, x1, x2⟩ && stOk x0 (l.drop (i + 1)))) := hide ht.symm
        clear ht HI
        rcases stGood_cases a ⟨x0, x1, x2⟩ with ⟨hg, k1, k2, k3, k4, k5, k6⟩ | ⟨hg, k⟩
        · have HT' : Hid (stOk x0 (l.drop (i + 1)) = stOk 0 l) := hide (by rw [unhide HT, hg]; rfl)
          clear HT hg
          simp only at k1 k2 k3 k4 k5 k6
          go_wp2_with fail
          refine (must_is (by first | (simp; done) | (simp; omega) | simp_all) 70 _).mono ?_
          rintro e w2 ⟨rfl, rfl⟩
          go_wp2_with fail
          refine (must_is (by first | (simp; done) | (simp; omega) | simp_all) 70 _).mono ?_
          rintro e w2 ⟨rfl, rfl⟩
          go_wp2_with fail
          refine (must_is (by first | (simp; done) | (simp; omega) | simp_all) 70 _).mono ?_
          rintro e w2 ⟨rfl, rfl⟩
          go_wp2
          exact ⟨⟨i + 1, x0, by omega, by go_num, rfl, ((unhide HF).alloc _).trans (Fr.refl _ _) (fun _ _ t => t), unhide HT'⟩, by simp [intOf]; omega⟩
        · have HT' : Hid (stationsOk l = false) := hide (by rw [unhide HE, unhide HT, hg]; rfl)
          clear HT hg HE
          simp only at k
          rcases k with k | k | k
          · rcases k with k | ⟨k1, k⟩
            all_goals
              go_wp2_with fail
              refine (must_not (by first | (simp; done) | (simp; omega) | simp_all) 70 _).mono ?_
              rintro e w2 ⟨rfl, rfl⟩
              go_wp2
              exact ⟨rfl, by rw [unhide HT']; rfl, ((unhide HF).alloc _).trans (Fr.refl _ _) (fun _ _ t => t)⟩
          · obtain ⟨k1, k2, k⟩ := k
            rcases k with k | ⟨k3, k⟩
            all_goals
              go_wp2_with fail
              refine (must_is (by first | (simp; done) | (simp; omega) | simp_all) 70 _).mono ?_
              rintro e w2 ⟨rfl, rfl⟩
              go_wp2_with fail
              refine (must_not (by first | (simp; done) | (simp; omega) | simp_all) 70 _).mono ?_
              rintro e w2 ⟨rfl, rfl⟩
              go_wp2
              exact ⟨rfl, by rw [unhide HT']; rfl, ((unhide HF).alloc _).trans (Fr.refl _ _) (fun _ _ t => t)⟩
          · obtain ⟨k1, k2, k3, k4, k⟩ := k
            rcases k with k | ⟨k5, k⟩
            all_goals
              go_wp2_with fail
              refine (must_is (by first | (simp; done) | (simp; omega) | simp_all) 70 _).mono ?_
              rintro e w2 ⟨rfl, rfl⟩
              go_wp2_with fail
              refine (must_is (by first | (simp; done) | (simp; omega) | simp_all) 70 _).mono ?_
              rintro e w2 ⟨rfl, rfl⟩
              go_wp2_with fail
              refine (must_not (by first | (simp; done) | (simp; omega) | simp_all) 70 _).mono ?_
              rintro e w2 ⟨rfl, rfl⟩
              go_wp2
              exact ⟨rfl, by rw [unhide HT']; rfl, ((unhide HF).alloc _).trans (Fr.refl _ _) (fun _ _ t => t)⟩
      · obtain rfl : i = l.length := by omega
        have HT : Hid (stationsOk l = true) := hide (by rw [unhide HE, ← (unhide HI).2, List.drop_length]; rfl)
        have HF := hide (unhide HI).1
        clear HI HE H
        go_wp2
        go_end0
        exact ⟨by rw [unhide HT]; rfl, unhide HF⟩
  · have HT' : Hid (stationsOk l = false) := hide (by simp [stationsOk, h200])
    clear h
    go_enter Tryz.func46, Tryz.ntmps46
    go_wp2_with fail
    refine (must_not (by first | (simp; done) | (simp; omega) | simp_all) 70 _).mono ?_
    rintro e w2 ⟨rfl, rfl⟩
    go_wp2
    exact ⟨rfl, by rw [unhide HT']; rfl, Fr.refl _ _⟩

end Go.Proofs.YtkjoojamkbpfcaaGreat
