/- The looks at bands and at minutes. -/
import Derived.Test.YthgkdpepgnoepaaT2
namespace Go.Proofs.Ythgkdpepgnoepaa
open Go.RowKit

def bdGood (a : Int) (s : Int × Int) : Bool := decide (a ≤ s.1) && decide (s.1 < s.2) && decide (s.2 ≤ 1440)
def bdOk : Int → List (Int × Int) → Bool
  | _, [] => true
  | a, s :: r => bdGood a s && bdOk s.2 r
def bandsOk (l : List (Int × Int)) : Bool := decide (l.length ≤ 8) && bdOk 0 l

theorem bdGood_cases (a : Int) (s : Int × Int) : (bdGood a s = true ∧ a ≤ s.1 ∧ s.1 < s.2 ∧ s.2 ≤ 1440) ∨ (bdGood a s = false ∧ (¬ a ≤ s.1 ∨ (a ≤ s.1 ∧ ¬ s.1 < s.2) ∨ (a ≤ s.1 ∧ s.1 < s.2 ∧ ¬ s.2 ≤ 1440))) := by
  cases h : bdGood a s with
  | true => refine .inl ⟨rfl, ?_⟩; simp [bdGood] at h; omega
  | false =>
    refine .inr ⟨rfl, ?_⟩
    have : ¬ (a ≤ s.1 ∧ s.1 < s.2 ∧ s.2 ≤ 1440) := by
      intro ⟨h1, h2, h3⟩
      simp [bdGood, h1, h2, h3] at h
    omega

theorem lookBands_any (w : World) (ao : Option Addr) (cap : Nat) (l : List (Int × Int)) (h : CAt w ao (bdV l)) (hl : (l.length + 1) * 16 ≤ 140737488355328) :
    Calls Try.prog 27 #[.slice ao l.length cap] w fun e w' => e = look (bandsOk l) 70 ∧ Fr (fun _ => False) w w' := by
  by_cases h200 : l.length ≤ 8
  · have HE : Hid (bandsOk l = bdOk 0 l) := hide (by simp [bandsOk, h200])
    have H := hide h
    clear h
    go_enter Try.func27, Try.ntmps27
    go_wp2_with fail
    refine (must_is (by first | (simp; done) | (simp; omega) | simp_all) 70 _).mono ?_
    rintro e w1 ⟨rfl, rfl⟩
    go_wp2
    go_loopw [2, 4, 11] (fun av _ iv wr => ∃ (i : Nat) (a : Int), i ≤ l.length ∧ iv = .int .i64 i ∧ av = .int .i64 a ∧ Hid (Fr (fun _ => False) w1 wr ∧ bdOk a (l.drop i) = bdOk 0 l)) (fun _ _ iv _ => l.length - (intOf iv).toNat)
    case atStart => exact ⟨0, 0, Nat.zero_le _, rfl, rfl, Fr.refl _ _, by simp⟩
    case round =>
      obtain ⟨i, a, hi, rfl, rfl, HI⟩ := hrel
      by_cases hil : i < l.length
      · obtain ⟨b, off, rfl, c0, c1⟩ := ((unhide H).keep (unhide HI).1).bd hil
        have ht := (unhide HI).2
        rw [List.drop_eq_getElem_cons hil] at ht
        have HF := hide (unhide HI).1
        generalize l[i] = s at *
        obtain ⟨x0, x1⟩ := s
        have HT : Hid (bdOk 0 l = (bdGood a ⟨x0, x1⟩ && bdOk x1 (l.drop (i + 1)))) := hide ht.symm
        clear ht HI
        rcases bdGood_cases a ⟨x0, x1⟩ with ⟨hg, k1, k2, k3⟩ | ⟨hg, k⟩
        · have HT' : Hid (bdOk x1 (l.drop (i + 1)) = bdOk 0 l) := hide (by rw [unhide HT, hg]; rfl)
          clear HT hg
          simp only at k1 k2 k3
          go_wp2_with fail
          refine (must_is (by first | (simp; done) | (simp; omega) | simp_all) 70 _).mono ?_
          rintro e w2 ⟨rfl, rfl⟩
          go_wp2
          exact ⟨⟨i + 1, x1, by omega, by go_num, rfl, ((unhide HF).alloc _).trans (Fr.refl _ _) (fun _ _ t => t), unhide HT'⟩, by simp [intOf]; omega⟩
        · have HT' : Hid (bandsOk l = false) := hide (by rw [unhide HE, unhide HT, hg]; rfl)
          clear HT hg HE
          simp only at k
          rcases k with k | ⟨k1, k⟩ | ⟨k1, k2, k⟩
          all_goals
            go_wp2_with fail
            refine (must_not (by first | (simp; done) | (simp; omega) | simp_all) 70 _).mono ?_
            rintro e w2 ⟨rfl, rfl⟩
            go_wp2
            exact ⟨rfl, by rw [unhide HT']; rfl, ((unhide HF).alloc _).trans (Fr.refl _ _) (fun _ _ t => t)⟩
      · obtain rfl : i = l.length := by omega
        have HT : Hid (bandsOk l = true) := hide (by rw [unhide HE, ← (unhide HI).2, List.drop_length]; rfl)
        have HF := hide (unhide HI).1
        clear HI HE H
        go_wp2
        go_end0
        exact ⟨by rw [unhide HT]; rfl, unhide HF⟩
  · have HT' : Hid (bandsOk l = false) := hide (by simp [bandsOk, h200])
    clear h
    go_enter Try.func27, Try.ntmps27
    go_wp2_with fail
    refine (must_not (by first | (simp; done) | (simp; omega) | simp_all) 70 _).mono ?_
    rintro e w2 ⟨rfl, rfl⟩
    go_wp2
    exact ⟨rfl, by rw [unhide HT']; rfl, Fr.refl _ _⟩

def minOk (n : Int) : Bool := decide (0 ≤ n) && decide (n ≤ 1440)
def minutesOk (t : Tf) : Bool := decide (1 ≤ t.longest) && ([t.longest, t.hopper, t.change, t.passback, t.delay].all minOk)

theorem min_cases (n : Int) : (minOk n = true ∧ 0 ≤ n ∧ n ≤ 1440) ∨ (minOk n = false ∧ (¬ 0 ≤ n ∨ (0 ≤ n ∧ ¬ n ≤ 1440))) := by
  cases h : minOk n with
  | true => refine .inl ⟨rfl, ?_⟩; simp [minOk] at h; omega
  | false =>
    refine .inr ⟨rfl, ?_⟩
    have : ¬ (0 ≤ n ∧ n ≤ 1440) := by
      intro ⟨h1, h2⟩
      simp [minOk, h1, h2] at h
    omega

theorem lookMinutes_any (w : World) (A : Ad) (t : Tf) : Calls Try.prog 30 #[tv A t] w fun e w' => e = look (minutesOk t) 70 ∧ Fr (fun _ => False) w w' := by
  unfold tv tc
  by_cases h1 : 1 ≤ t.longest
  · obtain ⟨l, hl⟩ : ∃ l, [t.longest, t.hopper, t.change, t.passback, t.delay] = l := ⟨_, rfl⟩
    have HE : Hid (minutesOk t = l.all minOk) := hide (by simp [minutesOk, h1, ← hl])
    have HL : Hid (l.length = 5 ∧ ∀ w, CAt (World.alloc w (.cells #[.int .i64 t.longest, .int .i64 t.hopper, .int .i64 t.change, .int .i64 t.passback, .int .i64 t.delay] 3)) (some ⟨w.heap.size, 0, none⟩) (l.map (Value.int .i64))) :=
      hide ⟨by rw [← hl]; rfl, fun w => by rw [← hl]; exact ints5 w _ _ _ _ _⟩
    clear hl
    go_enter Try.func30, Try.ntmps30
    go_wp2_with fail
    refine (must_is (by first | (simp; done) | (simp; omega) | simp_all) 70 _).mono ?_
    rintro e w2 ⟨rfl, rfl⟩
    go_wp2
    have H := hide ((unhide HL).2 (w.alloc (.cells #[.slice A.aS t.st.length A.cS, .slice A.aP t.sp.length A.cP, .slice A.aB t.bd.length A.cB, .float .f64 t.off, .int .i64 t.bus, .int .i64 t.busDaily, .int .i64 t.busWeekly, .int .i64 t.hopper, .int .i64 t.most, .int .i64 t.longest, .int .i64 t.change, .int .i64 t.passback, .int .i64 t.delay, .int .i64 t.threshold] 27)))
    rw [heap_alloc] at H
    have H5 := (unhide HL).1
    have HF : Hid (Fr (fun _ => False) w _) := hide (((Fr.refl _ w).alloc (.cells #[.slice A.aS t.st.length A.cS, .slice A.aP t.sp.length A.cP, .slice A.aB t.bd.length A.cB, .float .f64 t.off, .int .i64 t.bus, .int .i64 t.busDaily, .int .i64 t.busWeekly, .int .i64 t.hopper, .int .i64 t.most, .int .i64 t.longest, .int .i64 t.change, .int .i64 t.passback, .int .i64 t.delay, .int .i64 t.threshold] 27)).alloc (.cells #[.int .i64 t.longest, .int .i64 t.hopper, .int .i64 t.change, .int .i64 t.passback, .int .i64 t.delay] 3))
    generalize (w.alloc (.cells #[.slice A.aS t.st.length A.cS, .slice A.aP t.sp.length A.cP, .slice A.aB t.bd.length A.cB, .float .f64 t.off, .int .i64 t.bus, .int .i64 t.busDaily, .int .i64 t.busWeekly, .int .i64 t.hopper, .int .i64 t.most, .int .i64 t.longest, .int .i64 t.change, .int .i64 t.passback, .int .i64 t.delay, .int .i64 t.threshold] 27)).alloc (.cells #[.int .i64 t.longest, .int .i64 t.hopper, .int .i64 t.change, .int .i64 t.passback, .int .i64 t.delay] 3) = wm at *
    clear HL
    go_loopw [3, 20] (fun _ iv wr => ∃ (i : Nat), i ≤ 5 ∧ iv = .int .i64 i ∧ wr = wm ∧ Hid ((l.drop i).all minOk = l.all minOk)) (fun _ iv _ => 5 - (intOf iv).toNat)
    case atStart => exact ⟨0, Nat.zero_le _, rfl, rfl, hide (by simp)⟩
    case round =>
      obtain ⟨i, hi, rfl, rfl, HI⟩ := hrel
      by_cases hil : i < 5
      · obtain ⟨b, off, hb, c0⟩ := (unhide H).ints (show i < l.length by omega)
        injection hb with hb
        injection hb with hb1 hb2
        subst hb1 hb2
        rw [Nat.zero_add] at c0
        have ht := unhide HI
        rw [List.drop_eq_getElem_cons (show i < l.length by omega), List.all_cons] at ht
        have HT := hide ht
        clear ht HI
        generalize l[i] = x at *
        rcases min_cases x with ⟨hp, k1, k2⟩ | ⟨hp, k⟩
        · have HT' : Hid ((l.drop (i + 1)).all minOk = l.all minOk) := hide (by rw [← unhide HT, hp]; rfl)
          clear hp HT
          go_wp2_with fail
          refine (must_is (by first | (simp; done) | (simp; omega) | simp_all) 70 _).mono ?_
          rintro e w2 ⟨rfl, rfl⟩
          go_wp2
          exact ⟨⟨i + 1, by omega, by go_num, (by first | rfl | trivial), unhide HT'⟩, by simp [intOf]; omega⟩
        · have HT' : Hid (minutesOk t = false) := hide (by rw [unhide HE, ← unhide HT, hp]; rfl)
          clear hp HT
          rcases k with k | ⟨k1, k⟩
          all_goals
            go_wp2_with fail
            refine (must_not (by first | (simp; done) | (simp; omega) | simp_all) 70 _).mono ?_
            rintro e w2 ⟨rfl, rfl⟩
            go_wp2
            exact ⟨rfl, by rw [unhide HT']; rfl, unhide HF⟩
      · obtain rfl : i = 5 := by omega
        have HT' : Hid (minutesOk t = true) := hide (by rw [unhide HE, ← unhide HI, List.drop_of_length_le (by omega)]; rfl)
        clear HI H
        go_wp2
        go_end0
        exact ⟨by rw [unhide HT']; rfl, unhide HF⟩
  · have HT' : Hid (minutesOk t = false) := hide (by simp [minutesOk, h1])
    go_enter Try.func30, Try.ntmps30
    go_wp2_with fail
    refine (must_not (by first | (simp; done) | (simp; omega) | simp_all) 70 _).mono ?_
    rintro e w2 ⟨rfl, rfl⟩
    go_wp2
    exact ⟨rfl, by rw [unhide HT']; rfl, (Fr.refl _ w).alloc _⟩

end Go.Proofs.Ythgkdpepgnoepaa
