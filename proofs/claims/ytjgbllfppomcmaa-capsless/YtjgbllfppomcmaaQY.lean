import Derived.Test.YtjgbllfppomcmaaQT1
import Derived.Test.YtjgbllfppomcmaaK0
import Derived.Defers
import Derived.Recover
import Derived.Deep.QuietTactic
import Derived.BigQuiet
import Derived.Laws.StructEq
import Derived.Lib.QuietBelow
import Derived.Test.YtjgbllfppomcmaaQK1
/- The looks at a tariff: must, lookAtStations, lookAtBands, lookAtMinutes. -/
namespace Go.Proofs.Ytjgbllfppomcmaa
open Go.RowKit

theorem must_okT (c : Int) (w : World) : Calls Try.prog 25 #[.bool true, .int .i64 c] w fun e w' => e = .returned (.tuple #[]) ∧ w' = w := by
  go_enter Try.func25, Try.ntmps25
  go_wp2
  go_end0
  exact ⟨rfl, rfl⟩

theorem must_noT (c : Int) (w : World) : Calls Try.prog 25 #[.bool false, .int .i64 c] w fun e w' => e = gave c ∧ w' = w := by
  go_enter Try.func25, Try.ntmps25
  go_wp2
  exact ⟨rfl, rfl, rfl⟩

theorem must_is {b : Bool} (hb : b = true) (c : Int) (w : World) : Calls Try.prog 25 #[.bool b, .int .i64 c] w fun e w' => e = .returned (.tuple #[]) ∧ w' = w := by subst hb; exact must_okT c w
theorem must_not {b : Bool} (hb : b = false) (c : Int) (w : World) : Calls Try.prog 25 #[.bool b, .int .i64 c] w fun e w' => e = gave c ∧ w' = w := by subst hb; exact must_noT c w

theorem ints5 (w : World) (a b c d e : Int) : CAt (w.alloc (.cells #[.int .i64 a, .int .i64 b, .int .i64 c, .int .i64 d, .int .i64 e] 3)) (some ⟨w.heap.size, 0, none⟩) ([a, b, c, d, e].map (Value.int .i64)) := by
  refine fun _ => ⟨_, _, rfl, fun j hj => ?_⟩
  rw [World.cell?_alloc_new, Nat.zero_add]
  match j, hj with
  | 0, _ => rfl
  | 1, _ => rfl
  | 2, _ => rfl
  | 3, _ => rfl
  | 4, _ => rfl
  | j + 5, hj => simp at hj; omega

theorem ints3 (w : World) (a b c : Int) : CAt (w.alloc (.cells #[.int .i64 a, .int .i64 b, .int .i64 c] 3)) (some ⟨w.heap.size, 0, none⟩) ([a, b, c].map (Value.int .i64)) := by
  refine fun _ => ⟨_, _, rfl, fun j hj => ?_⟩
  rw [World.cell?_alloc_new, Nat.zero_add]
  match j, hj with
  | 0, _ => rfl
  | 1, _ => rfl
  | 2, _ => rfl
  | j + 3, hj => simp at hj; omega

/-- May a station stand behind one of that Id? -/
def stGood (a : Int) (s : Stn) : Bool := decide (a < s.id) && decide (s.id ≤ 65535) && decide (1 ≤ s.zone) && decide (s.zone ≤ 9) && decide (0 ≤ s.group) && decide (s.group ≤ 65535)
def stOk : Int → List Stn → Bool
  | _, [] => true
  | a, s :: r => stGood a s && stOk s.id r
def stationsOk (l : List Stn) : Bool := decide (l.length ≤ 200) && stOk 0 l

theorem stGood_cases (a : Int) (s : Stn) : (stGood a s = true ∧ a < s.id ∧ s.id ≤ 65535 ∧ 1 ≤ s.zone ∧ s.zone ≤ 9 ∧ 0 ≤ s.group ∧ s.group ≤ 65535) ∨ (stGood a s = false ∧ (
    (¬ a < s.id ∨ (a < s.id ∧ ¬ s.id ≤ 65535)) ∨ (a < s.id ∧ s.id ≤ 65535 ∧ (¬ 1 ≤ s.zone ∨ (1 ≤ s.zone ∧ ¬ s.zone ≤ 9))) ∨ (a < s.id ∧ s.id ≤ 65535 ∧ 1 ≤ s.zone ∧ s.zone ≤ 9 ∧ (¬ 0 ≤ s.group ∨ (0 ≤ s.group ∧ ¬ s.group ≤ 65535))))) := by
  cases h : stGood a s with
  | true => refine .inl ⟨rfl, ?_⟩; simp [stGood] at h; omega
  | false =>
    refine .inr ⟨rfl, ?_⟩
    have : ¬ (a < s.id ∧ s.id ≤ 65535 ∧ 1 ≤ s.zone ∧ s.zone ≤ 9 ∧ 0 ≤ s.group ∧ s.group ≤ 65535) := by
      intro ⟨h1, h2, h3, h4, h5, h6⟩
      simp [stGood, h1, h2, h3, h4, h5, h6] at h
    omega

theorem lookStations_any (w : World) (ao : Option Addr) (cap : Nat) (l : List Stn) (h : CAt w ao (stV l)) (hl : (l.length + 1) * 24 ≤ 140737488355328) :
    Calls Try.prog 20 #[.slice ao l.length cap] w fun e w' => e = look (stationsOk l) 70 ∧ Fr (fun _ => False) w w' := by
  by_cases h200 : l.length ≤ 200
  · have HE : Hid (stationsOk l = stOk 0 l) := hide (by simp [stationsOk, h200])
    have H := hide h
    clear h
    go_enter Try.func20, Try.ntmps20
    go_wp2_with fail
    refine (must_is (by first | (simp; done) | (simp; omega) | simp_all) 70 _).mono ?_
    rintro e w1 ⟨rfl, rfl⟩
    go_wp2
    go_loopw [2, 4, 11] (fun av _ iv wr => ∃ (i : Nat) (a : Int), i ≤ l.length ∧ iv = .int .i64 i ∧ av = .int .i64 a ∧ Hid (Fr (fun _ => False) w1 wr ∧ stOk a (l.drop i) = stOk 0 l)) (fun _ _ iv _ => l.length - (intOf iv).toNat)
    case atStart => exact ⟨0, 0, Nat.zero_le _, rfl, rfl, Fr.refl _ _, by simp⟩
    case round =>
      obtain ⟨i, a, hi, rfl, rfl, HI⟩ := hrel
      by_cases hil : i < l.length
      · obtain ⟨b, off, rfl, c0, c1, c2⟩ := ((unhide H).keep (unhide HI).1).st hil
        have ht := (unhide HI).2
        rw [List.drop_eq_getElem_cons hil] at ht
        have HF := hide (unhide HI).1
        generalize l[i] = s at *
        obtain ⟨x0, x1, x2⟩ := s
        have HT : Hid (stOk 0 l = (stGood a ⟨x0, x1, x2⟩ && stOk x0 (l.drop (i + 1)))) := hide ht.symm
        clear ht HI
        rcases stGood_cases a ⟨x0, x1, x2⟩ with ⟨hg, k1, k2, k3, k4, k5, k6⟩ | ⟨hg, k⟩
        · have HT' : Hid (stOk x0 (l.drop (i + 1)) = stOk 0 l) := hide (by rw [unhide HT, hg]; rfl)
          clear HT hg
          simp only at k1 k2 k3 k4 k5 k6
          go_wp2_with fail
          refine (must_is (by first | (simp; done) | (simp; omega) | simp_all) 70 _).mono ?_
          rintro e w2 ⟨rfl, rfl⟩
          go_wp2_with fail
          refine (must_is (by first | (simp; done) | (simp; omega) | simp_all) 70 _).mono ?_
          rintro e w2 ⟨rfl, rfl⟩
          go_wp2_with fail
          refine (must_is (by first | (simp; done) | (simp; omega) | simp_all) 70 _).mono ?_
          rintro e w2 ⟨rfl, rfl⟩
          go_wp2
          exact ⟨⟨i + 1, x0, by omega, by go_num, rfl, ((unhide HF).alloc _).trans (Fr.refl _ _) (fun _ _ t => t), unhide HT'⟩, by simp [intOf]; omega⟩
        · have HT' : Hid (stationsOk l = false) := hide (by rw [unhide HE, unhide HT, hg]; rfl)
          clear HT hg HE
          simp only at k
          rcases k with k | k | k
          · rcases k with k | ⟨k1, k⟩
            all_goals
              go_wp2_with fail
              refine (must_not (by first | (simp; done) | (simp; omega) | simp_all) 70 _).mono ?_
              rintro e w2 ⟨rfl, rfl⟩
              go_wp2
              exact ⟨rfl, by rw [unhide HT']; rfl, ((unhide HF).alloc _).trans (Fr.refl _ _) (fun _ _ t => t)⟩
          · obtain ⟨k1, k2, k⟩ := k
            rcases k with k | ⟨k3, k⟩
            all_goals
              go_wp2_with fail
              refine (must_is (by first | (simp; done) | (simp; omega) | simp_all) 70 _).mono ?_
              rintro e w2 ⟨rfl, rfl⟩
              go_wp2_with fail
              refine (must_not (by first | (simp; done) | (simp; omega) | simp_all) 70 _).mono ?_
              rintro e w2 ⟨rfl, rfl⟩
              go_wp2
              exact ⟨rfl, by rw [unhide HT']; rfl, ((unhide HF).alloc _).trans (Fr.refl _ _) (fun _ _ t => t)⟩
          · obtain ⟨k1, k2, k3, k4, k⟩ := k
            rcases k with k | ⟨k5, k⟩
            all_goals
              go_wp2_with fail
              refine (must_is (by first | (simp; done) | (simp; omega) | simp_all) 70 _).mono ?_
              rintro e w2 ⟨rfl, rfl⟩
              go_wp2_with fail
              refine (must_is (by first | (simp; done) | (simp; omega) | simp_all) 70 _).mono ?_
              rintro e w2 ⟨rfl, rfl⟩
              go_wp2_with fail
              refine (must_not (by first | (simp; done) | (simp; omega) | simp_all) 70 _).mono ?_
              rintro e w2 ⟨rfl, rfl⟩
              go_wp2
              exact ⟨rfl, by rw [unhide HT']; rfl, ((unhide HF).alloc _).trans (Fr.refl _ _) (fun _ _ t => t)⟩
      · obtain rfl : i = l.length := by omega
        have HT : Hid (stationsOk l = true) := hide (by rw [unhide HE, ← (unhide HI).2, List.drop_length]; rfl)
        have HF := hide (unhide HI).1
        clear HI HE H
        go_wp2
        go_end0
        exact ⟨by rw [unhide HT]; rfl, unhide HF⟩
  · have HT' : Hid (stationsOk l = false) := hide (by simp [stationsOk, h200])
    clear h
    go_enter Try.func20, Try.ntmps20
    go_wp2_with fail
    refine (must_not (by first | (simp; done) | (simp; omega) | simp_all) 70 _).mono ?_
    rintro e w2 ⟨rfl, rfl⟩
    go_wp2
    exact ⟨rfl, by rw [unhide HT']; rfl, Fr.refl _ _⟩

end Go.Proofs.Ytjgbllfppomcmaa

/- The looks at bands and at minutes. -/
namespace Go.Proofs.Ytjgbllfppomcmaa
open Go.RowKit

def bdGood (a : Int) (s : Int × Int) : Bool := decide (a ≤ s.1) && decide (s.1 < s.2) && decide (s.2 ≤ 1440)
def bdOk : Int → List (Int × Int) → Bool
  | _, [] => true
  | a, s :: r => bdGood a s && bdOk s.2 r
def bandsOk (l : List (Int × Int)) : Bool := decide (l.length ≤ 8) && bdOk 0 l

theorem bdGood_cases (a : Int) (s : Int × Int) : (bdGood a s = true ∧ a ≤ s.1 ∧ s.1 < s.2 ∧ s.2 ≤ 1440) ∨ (bdGood a s = false ∧ (¬ a ≤ s.1 ∨ (a ≤ s.1 ∧ ¬ s.1 < s.2) ∨ (a ≤ s.1 ∧ s.1 < s.2 ∧ ¬ s.2 ≤ 1440))) := by
  cases h : bdGood a s with
  | true => refine .inl ⟨rfl, ?_⟩; simp [bdGood] at h; omega
  | false =>
    refine .inr ⟨rfl, ?_⟩
    have : ¬ (a ≤ s.1 ∧ s.1 < s.2 ∧ s.2 ≤ 1440) := by
      intro ⟨h1, h2, h3⟩
      simp [bdGood, h1, h2, h3] at h
    omega

theorem lookBands_any (w : World) (ao : Option Addr) (cap : Nat) (l : List (Int × Int)) (h : CAt w ao (bdV l)) (hl : (l.length + 1) * 16 ≤ 140737488355328) :
    Calls Try.prog 24 #[.slice ao l.length cap] w fun e w' => e = look (bandsOk l) 70 ∧ Fr (fun _ => False) w w' := by
  by_cases h200 : l.length ≤ 8
  · have HE : Hid (bandsOk l = bdOk 0 l) := hide (by simp [bandsOk, h200])
    have H := hide h
    clear h
    go_enter Try.func24, Try.ntmps24
    go_wp2_with fail
    refine (must_is (by first | (simp; done) | (simp; omega) | simp_all) 70 _).mono ?_
    rintro e w1 ⟨rfl, rfl⟩
    go_wp2
    go_loopw [2, 4, 11] (fun av _ iv wr => ∃ (i : Nat) (a : Int), i ≤ l.length ∧ iv = .int .i64 i ∧ av = .int .i64 a ∧ Hid (Fr (fun _ => False) w1 wr ∧ bdOk a (l.drop i) = bdOk 0 l)) (fun _ _ iv _ => l.length - (intOf iv).toNat)
    case atStart => exact ⟨0, 0, Nat.zero_le _, rfl, rfl, Fr.refl _ _, by simp⟩
    case round =>
      obtain ⟨i, a, hi, rfl, rfl, HI⟩ := hrel
      by_cases hil : i < l.length
      · obtain ⟨b, off, rfl, c0, c1⟩ := ((unhide H).keep (unhide HI).1).bd hil
        have ht := (unhide HI).2
        rw [List.drop_eq_getElem_cons hil] at ht
        have HF := hide (unhide HI).1
        generalize l[i] = s at *
        obtain ⟨x0, x1⟩ := s
        have HT : Hid (bdOk 0 l = (bdGood a ⟨x0, x1⟩ && bdOk x1 (l.drop (i + 1)))) := hide ht.symm
        clear ht HI
        rcases bdGood_cases a ⟨x0, x1⟩ with ⟨hg, k1, k2, k3⟩ | ⟨hg, k⟩
        · have HT' : Hid (bdOk x1 (l.drop (i + 1)) = bdOk 0 l) := hide (by rw [unhide HT, hg]; rfl)
          clear HT hg
          simp only at k1 k2 k3
          go_wp2_with fail
          refine (must_is (by first | (simp; done) | (simp; omega) | simp_all) 70 _).mono ?_
          rintro e w2 ⟨rfl, rfl⟩
          go_wp2
          exact ⟨⟨i + 1, x1, by omega, by go_num, rfl, ((unhide HF).alloc _).trans (Fr.refl _ _) (fun _ _ t => t), unhide HT'⟩, by simp [intOf]; omega⟩
        · have HT' : Hid (bandsOk l = false) := hide (by rw [unhide HE, unhide HT, hg]; rfl)
          clear HT hg HE
          simp only at k
          rcases k with k | ⟨k1, k⟩ | ⟨k1, k2, k⟩
          all_goals
            go_wp2_with fail
            refine (must_not (by first | (simp; done) | (simp; omega) | simp_all) 70 _).mono ?_
            rintro e w2 ⟨rfl, rfl⟩
            go_wp2
            exact ⟨rfl, by rw [unhide HT']; rfl, ((unhide HF).alloc _).trans (Fr.refl _ _) (fun _ _ t => t)⟩
      · obtain rfl : i = l.length := by omega
        have HT : Hid (bandsOk l = true) := hide (by rw [unhide HE, ← (unhide HI).2, List.drop_length]; rfl)
        have HF := hide (unhide HI).1
        clear HI HE H
        go_wp2
        go_end0
        exact ⟨by rw [unhide HT]; rfl, unhide HF⟩
  · have HT' : Hid (bandsOk l = false) := hide (by simp [bandsOk, h200])
    clear h
    go_enter Try.func24, Try.ntmps24
    go_wp2_with fail
    refine (must_not (by first | (simp; done) | (simp; omega) | simp_all) 70 _).mono ?_
    rintro e w2 ⟨rfl, rfl⟩
    go_wp2
    exact ⟨rfl, by rw [unhide HT']; rfl, Fr.refl _ _⟩

def minOk (n : Int) : Bool := decide (0 ≤ n) && decide (n ≤ 1440)
def minutesOk (t : Tf) : Bool := decide (1 ≤ t.longest) && ([t.longest, t.hopper, t.change, t.passback, t.delay].all minOk)

theorem min_cases (n : Int) : (minOk n = true ∧ 0 ≤ n ∧ n ≤ 1440) ∨ (minOk n = false ∧ (¬ 0 ≤ n ∨ (0 ≤ n ∧ ¬ n ≤ 1440))) := by
  cases h : minOk n with
  | true => refine .inl ⟨rfl, ?_⟩; simp [minOk] at h; omega
  | false =>
    refine .inr ⟨rfl, ?_⟩
    have : ¬ (0 ≤ n ∧ n ≤ 1440) := by
      intro ⟨h1, h2⟩
      simp [minOk, h1, h2] at h
    omega

theorem lookMinutes_any (w : World) (A : Ad) (t : Tf) : Calls Try.prog 27 #[tv A t] w fun e w' => e = look (minutesOk t) 70 ∧ Fr (fun _ => False) w w' := by
  unfold tv tc
  by_cases h1 : 1 ≤ t.longest
  · obtain ⟨l, hl⟩ : ∃ l, [t.longest, t.hopper, t.change, t.passback, t.delay] = l := ⟨_, rfl⟩
    have HE : Hid (minutesOk t = l.all minOk) := hide (by simp [minutesOk, h1, ← hl])
    have HL : Hid (l.length = 5 ∧ ∀ w, CAt (World.alloc w (.cells #[.int .i64 t.longest, .int .i64 t.hopper, .int .i64 t.change, .int .i64 t.passback, .int .i64 t.delay] 3)) (some ⟨w.heap.size, 0, none⟩) (l.map (Value.int .i64))) :=
      hide ⟨by rw [← hl]; rfl, fun w => by rw [← hl]; exact ints5 w _ _ _ _ _⟩
    clear hl
    go_enter Try.func27, Try.ntmps27
    go_wp2_with fail
    refine (must_is (by first | (simp; done) | (simp; omega) | simp_all) 70 _).mono ?_
    rintro e w2 ⟨rfl, rfl⟩
    go_wp2
    have H := hide ((unhide HL).2 (w.alloc (.cells #[.slice A.aS t.st.length A.cS, .slice A.aP t.sp.length A.cP, .slice A.aB t.bd.length A.cB, .float .f64 t.off, .int .i64 t.bus, .int .i64 t.busDaily, .int .i64 t.busWeekly, .int .i64 t.hopper, .int .i64 t.most, .int .i64 t.longest, .int .i64 t.change, .int .i64 t.passback, .int .i64 t.delay, .int .i64 t.threshold] 27)))
    rw [heap_alloc] at H
    have H5 := (unhide HL).1
    have HF : Hid (Fr (fun _ => False) w _) := hide (((Fr.refl _ w).alloc (.cells #[.slice A.aS t.st.length A.cS, .slice A.aP t.sp.length A.cP, .slice A.aB t.bd.length A.cB, .float .f64 t.off, .int .i64 t.bus, .int .i64 t.busDaily, .int .i64 t.busWeekly, .int .i64 t.hopper, .int .i64 t.most, .int .i64 t.longest, .int .i64 t.change, .int .i64 t.passback, .int .i64 t.delay, .int .i64 t.threshold] 27)).alloc (.cells #[.int .i64 t.longest, .int .i64 t.hopper, .int .i64 t.change, .int .i64 t.passback, .int .i64 t.delay] 3))
    generalize (w.alloc (.cells #[.slice A.aS t.st.length A.cS, .slice A.aP t.sp.length A.cP, .slice A.aB t.bd.length A.cB, .float .f64 t.off, .int .i64 t.bus, .int .i64 t.busDaily, .int .i64 t.busWeekly, .int .i64 t.hopper, .int .i64 t.most, .int .i64 t.longest, .int .i64 t.change, .int .i64 t.passback, .int .i64 t.delay, .int .i64 t.threshold] 27)).alloc (.cells #[.int .i64 t.longest, .int .i64 t.hopper, .int .i64 t.change, .int .i64 t.passback, .int .i64 t.delay] 3) = wm at *
    clear HL
    go_loopw [3, 20] (fun _ iv wr => ∃ (i : Nat), i ≤ 5 ∧ iv = .int .i64 i ∧ wr = wm ∧ Hid ((l.drop i).all minOk = l.all minOk)) (fun _ iv _ => 5 - (intOf iv).toNat)
    case atStart => exact ⟨0, Nat.zero_le _, rfl, rfl, hide (by simp)⟩
    case round =>
      obtain ⟨i, hi, rfl, rfl, HI⟩ := hrel
      by_cases hil : i < 5
      · obtain ⟨b, off, hb, c0⟩ := (unhide H).ints (show i < l.length by omega)
        injection hb with hb
        injection hb with hb1 hb2
        subst hb1 hb2
        rw [Nat.zero_add] at c0
        have ht := unhide HI
        rw [List.drop_eq_getElem_cons (show i < l.length by omega), List.all_cons] at ht
        have HT := hide ht
        clear ht HI
        generalize l[i] = x at *
        rcases min_cases x with ⟨hp, k1, k2⟩ | ⟨hp, k⟩
        · have HT' : Hid ((l.drop (i + 1)).all minOk = l.all minOk) := hide (by rw [← unhide HT, hp]; rfl)
          clear hp HT
          go_wp2_with fail
          refine (must_is (by first | (simp; done) | (simp; omega) | simp_all) 70 _).mono ?_
          rintro e w2 ⟨rfl, rfl⟩
          go_wp2
          exact ⟨⟨i + 1, by omega, by go_num, (by first | rfl | trivial), unhide HT'⟩, by simp [intOf]; omega⟩
        · have HT' : Hid (minutesOk t = false) := hide (by rw [unhide HE, ← unhide HT, hp]; rfl)
          clear hp HT
          rcases k with k | ⟨k1, k⟩
          all_goals
            go_wp2_with fail
            refine (must_not (by first | (simp; done) | (simp; omega) | simp_all) 70 _).mono ?_
            rintro e w2 ⟨rfl, rfl⟩
            go_wp2
            exact ⟨rfl, by rw [unhide HT']; rfl, unhide HF⟩
      · obtain rfl : i = 5 := by omega
        have HT' : Hid (minutesOk t = true) := hide (by rw [unhide HE, ← unhide HI, List.drop_of_length_le (by omega)]; rfl)
        clear HI H
        go_wp2
        go_end0
        exact ⟨by rw [unhide HT']; rfl, unhide HF⟩
  · have HT' : Hid (minutesOk t = false) := hide (by simp [minutesOk, h1])
    go_enter Try.func27, Try.ntmps27
    go_wp2_with fail
    refine (must_not (by first | (simp; done) | (simp; omega) | simp_all) 70 _).mono ?_
    rintro e w2 ⟨rfl, rfl⟩
    go_wp2
    exact ⟨rfl, by rw [unhide HT']; rfl, (Fr.refl _ w).alloc _⟩

end Go.Proofs.Ytjgbllfppomcmaa

/- The looks at prices. -/
namespace Go.Proofs.Ytjgbllfppomcmaa
open Go.RowKit

def price (n : Int) : Bool := decide (0 ≤ n) && decide (n ≤ 1048576)

theorem price_cases (n : Int) : (price n = true ∧ 0 ≤ n ∧ n ≤ 1048576) ∨ (price n = false ∧ (¬ 0 ≤ n ∨ (0 ≤ n ∧ ¬ n ≤ 1048576))) := by
  cases h : price n with
  | true => refine .inl ⟨rfl, ?_⟩; simp [price] at h; omega
  | false =>
    refine .inr ⟨rfl, ?_⟩
    have : ¬ (0 ≤ n ∧ n ≤ 1048576) := by
      intro ⟨h1, h2⟩
      simp [price, h1, h2] at h
    omega

theorem isPrice_any (w : World) (n : Int) : Calls Try.prog 52 #[.int .i64 n] w fun e w' => e = .returned (.bool (price n)) ∧ w' = w := by
  rcases price_cases n with ⟨hp, h1, h2⟩ | ⟨hp, h1 | ⟨h1, h2⟩⟩
  all_goals
    rw [hp]
    clear hp
    go_enter Try.func52, Try.ntmps52
    go_wp2
    go_ret
    exact ⟨by first | rfl | (simp; done) | (simp; omega), rfl⟩

theorem mustBePrices_any (w : World) (ao : Option Addr) (cap : Nat) (l : List Int) (h : CAt w ao (l.map (Value.int .i64))) (hl : l.length ≤ 1000) (n : Nat) (hn : n = l.length) :
    Calls Try.prog 41 #[.slice ao n cap] w fun e w' => e = look (l.all price) 50 ∧ w' = w := by
  subst hn
  have H := hide h
  clear h
  obtain ⟨y, HY⟩ : ∃ y, Hid (l.all price = y) := ⟨_, rfl⟩
  rw [unhide HY]
  go_enter Try.func41, Try.ntmps41
  go_wp2
  go_loopw [3, 6] (fun _ iv wr => ∃ (i : Nat), i ≤ l.length ∧ iv = .int .i64 i ∧ wr = w ∧ Hid ((l.drop i).all price = y)) (fun _ iv _ => l.length - (intOf iv).toNat)
  case atStart => exact ⟨0, Nat.zero_le _, rfl, rfl, hide (by simpa using unhide HY)⟩
  case round =>
    obtain ⟨i, hi, rfl, rfl, HI⟩ := hrel
    by_cases hil : i < l.length
    · obtain ⟨b, off, rfl, c0⟩ := (unhide H).ints hil
      have ht := unhide HI
      rw [List.drop_eq_getElem_cons hil, List.all_cons] at ht
      have HT := hide ht
      clear ht HI
      generalize l[i] = x at *
      have R := isPrice_any wr x
      cases hp : price x with
      | true =>
        have HT' : Hid ((l.drop (i + 1)).all price = y) := hide (by rw [← unhide HT, hp]; rfl)
        rw [hp] at R
        clear hp HT
        go_wp2_with fail
        refine R.mono ?_
        rintro e w2 ⟨rfl, rfl⟩
        go_wp2_with fail
        refine (must_okT 50 _).mono ?_
        rintro e w2 ⟨rfl, rfl⟩
        go_wp2
        exact ⟨⟨i + 1, by omega, by go_num, (by first | rfl | trivial), unhide HT'⟩, by simp [intOf]; omega⟩
      | false =>
        have HT' : Hid (y = false) := hide (by rw [← unhide HT, hp]; rfl)
        rw [hp] at R
        clear hp HT HY
        go_wp2_with fail
        refine R.mono ?_
        rintro e w2 ⟨rfl, rfl⟩
        go_wp2_with fail
        refine (must_noT 50 _).mono ?_
        rintro e w2 ⟨rfl, rfl⟩
        go_wp2
        exact ⟨rfl, by rw [unhide HT']; rfl, rfl⟩
    · obtain rfl : i = l.length := by omega
      have HT' : Hid (y = true) := hide (by rw [← unhide HI, List.drop_length]; rfl)
      clear HI HY H
      go_wp2
      go_end0
      exact ⟨by rw [unhide HT']; rfl, rfl⟩

def spPrices (s : Spn) : Bool := [s.single, s.daily, s.weekly].all price
def pricesOk (t : Tf) : Bool := [t.bus, t.busDaily, t.busWeekly, t.most, t.threshold].all price && t.sp.all spPrices

theorem lookPrices_any (w : World) (A : Ad) (t : Tf) (h : TAt w A t) : Calls Try.prog 22 #[tv A t] w fun e w' => e = look (pricesOk t) 50 ∧ Fr (fun _ => False) w w' := by
  have R5 := mustBePrices_any _ _ 5 [t.bus, t.busDaily, t.busWeekly, t.most, t.threshold] (ints5 (w.alloc (.cells (tc A t) 27)) _ _ _ _ _) (by simp) 5 rfl
  rw [heap_alloc] at R5
  have HE : Hid (pricesOk t = ([t.bus, t.busDaily, t.busWeekly, t.most, t.threshold].all price && t.sp.all spPrices)) := rfl
  generalize [t.bus, t.busDaily, t.busWeekly, t.most, t.threshold].all price = p5 at *
  have HF0 : Hid (Fr (fun _ => False) w ((w.alloc (.cells (tc A t) 27)).alloc (.cells #[.int .i64 t.bus, .int .i64 t.busDaily, .int .i64 t.busWeekly, .int .i64 t.most, .int .i64 t.threshold] 3))) := hide (((Fr.refl _ w).alloc _).alloc _)
  cases p5 with
  | false =>
    have HT' : Hid (pricesOk t = false) := hide (by rw [unhide HE]; rfl)
    rw [look_false] at R5
    clear h HE
    unfold tv
    unfold tc at *
    go_enter Try.func22, Try.ntmps22
    go_wp2_with fail
    refine R5.mono ?_
    rintro e w2 ⟨rfl, rfl⟩
    clear R5
    go_wp2
    exact ⟨rfl, by rw [unhide HT']; rfl, unhide HF0⟩
  | true =>
    rw [look_true] at R5
    have HE' : Hid (pricesOk t = t.sp.all spPrices) := hide (by rw [unhide HE]; rfl)
    have hl := h.lP
    have H := hide h.sp
    have c1 : ((w.alloc (.cells (tc A t) 27)).alloc (.cells #[.int .i64 t.bus, .int .i64 t.busDaily, .int .i64 t.busWeekly, .int .i64 t.most, .int .i64 t.threshold] 3)).cell? ⟨w.heap.size, 1, none⟩ = some (.slice A.aP t.sp.length A.cP) := by
      rw [World.cell?_alloc_lt _ _ _ (by rw [heap_alloc]; exact Nat.lt_succ_self _), World.cell?_alloc_new]
      rfl
    clear h HE
    unfold tv
    unfold tc at *
    go_enter Try.func22, Try.ntmps22
    go_wp2_with fail
    refine R5.mono ?_
    rintro e w2 ⟨rfl, rfl⟩
    clear R5
    generalize (w.alloc (.cells #[.slice A.aS t.st.length A.cS, .slice A.aP t.sp.length A.cP, .slice A.aB t.bd.length A.cB, .float .f64 t.off, .int .i64 t.bus, .int .i64 t.busDaily, .int .i64 t.busWeekly, .int .i64 t.hopper, .int .i64 t.most, .int .i64 t.longest, .int .i64 t.change, .int .i64 t.passback, .int .i64 t.delay, .int .i64 t.threshold] 27)).alloc (.cells #[.int .i64 t.bus, .int .i64 t.busDaily, .int .i64 t.busWeekly, .int .i64 t.most, .int .i64 t.threshold] 3) = wm at *
    have H' := hide ((unhide H).keep (unhide HF0))
    clear H
    go_wp2
    clear c1
    go_loopw [3, 19] (fun _ iv wr => ∃ (i : Nat), i ≤ t.sp.length ∧ iv = .int .i64 i ∧ Hid (Fr (fun _ => False) wm wr ∧ (t.sp.drop i).all spPrices = t.sp.all spPrices)) (fun _ iv _ => t.sp.length - (intOf iv).toNat)
    case atStart => exact ⟨0, Nat.zero_le _, rfl, Fr.refl _ _, by simp⟩
    case round =>
      obtain ⟨i, hi, rfl, HI⟩ := hrel
      by_cases hil : i < t.sp.length
      · obtain ⟨b, off, eA, c0, c1, c2, c3, c4⟩ := ((unhide H').keep (unhide HI).1).sp hil
        have ht := (unhide HI).2
        rw [List.drop_eq_getElem_cons hil, List.all_cons] at ht
        have HT := hide ht
        have HF := hide (unhide HI).1
        clear ht HI
        generalize t.sp[i] = s at *
        obtain ⟨x0, x1, x2, x3, x4⟩ := s
        simp only at c0 c1 c2 c3 c4
        have R3 := mustBePrices_any _ _ 3 [x2, x3, x4] (ints3 (wr.alloc (.cells #[.int .i64 x0, .int .i64 x1, .int .i64 x2, .int .i64 x3, .int .i64 x4] 57)) _ _ _) (by simp) 3 rfl
        rw [heap_alloc] at R3
        have HS : Hid (spPrices ⟨x0, x1, x2, x3, x4⟩ = [x2, x3, x4].all price) := rfl
        generalize [x2, x3, x4].all price = q at *
        rw [eA]
        cases q with
        | true =>
          rw [look_true] at R3
          have HT' : Hid ((t.sp.drop (i + 1)).all spPrices = t.sp.all spPrices) := hide (by rw [← unhide HT, unhide HS]; rfl)
          clear HT HS
          go_wp2_with fail
          refine R3.mono ?_
          rintro e w2 ⟨rfl, rfl⟩
          go_wp2
          exact ⟨⟨i + 1, by omega, by go_num, (((unhide HF).alloc _).alloc _), unhide HT'⟩, by simp [intOf]; omega⟩
        | false =>
          rw [look_false] at R3
          have HT' : Hid (pricesOk t = false) := hide (by rw [unhide HE', ← unhide HT, unhide HS]; rfl)
          clear HT HS
          go_wp2_with fail
          refine R3.mono ?_
          rintro e w2 ⟨rfl, rfl⟩
          go_wp2
          exact ⟨rfl, by rw [unhide HT']; rfl, (unhide HF0).trans (((unhide HF).alloc _).alloc _) (fun _ _ t => t)⟩
      · obtain rfl : i = t.sp.length := by omega
        have HT' : Hid (pricesOk t = true) := hide (by rw [unhide HE', ← (unhide HI).2, List.drop_length]; rfl)
        have HF := hide ((unhide HF0).trans (unhide HI).1 (fun _ _ t => t))
        clear HI H' HE'
        go_wp2
        go_end0
        exact ⟨by rw [unhide HT']; rfl, unhide HF⟩

end Go.Proofs.Ytjgbllfppomcmaa

/- The look at what lies within. -/
namespace Go.Proofs.Ytjgbllfppomcmaa
open Go.RowKit

def withinB (s o : Spn) : Bool := decide (o.fr ≤ s.fr) && decide (s.to ≤ o.to)
def noDearer (s o : Spn) : Bool := decide (s.single ≤ o.single) && decide (s.daily ≤ o.daily) && decide (s.weekly ≤ o.weekly)
def fits (o s : Spn) : Bool := !withinB s o || noDearer s o
def withinOk (l : List Spn) : Bool := l.all fun o => l.all fun s => fits o s

theorem isWithin_any (w : World) (s o : Spn) : Calls Try.prog 42 #[.agg #[.int .i64 s.fr, .int .i64 s.to, .int .i64 s.single, .int .i64 s.daily, .int .i64 s.weekly], .agg #[.int .i64 o.fr, .int .i64 o.to, .int .i64 o.single, .int .i64 o.daily, .int .i64 o.weekly]] w
    fun e w' => e = .returned (.bool (withinB s o)) ∧ Fr (fun _ => False) w w' := by
  unfold withinB
  obtain ⟨x0, x1, x2, x3, x4⟩ := s
  obtain ⟨y0, y1, y2, y3, y4⟩ := o
  by_cases h1 : y0 ≤ x0
  · by_cases h2 : x1 ≤ y1
    all_goals
      go_enter Try.func42, Try.ntmps42
      go_wp2
      go_ret
      exact ⟨by first | (simp; done) | (simp; omega) | simp_all, ((Fr.refl _ w).alloc _).alloc _⟩
  · go_enter Try.func42, Try.ntmps42
    go_wp2
    go_ret
    exact ⟨by first | (simp; done) | (simp; omega) | simp_all, ((Fr.refl _ w).alloc _).alloc _⟩

theorem noDearer_any (w : World) (s o : Spn) : Calls Try.prog 43 #[.agg #[.int .i64 s.fr, .int .i64 s.to, .int .i64 s.single, .int .i64 s.daily, .int .i64 s.weekly], .agg #[.int .i64 o.fr, .int .i64 o.to, .int .i64 o.single, .int .i64 o.daily, .int .i64 o.weekly]] w
    fun e w' => e = .returned (.bool (noDearer s o)) ∧ Fr (fun _ => False) w w' := by
  unfold noDearer
  obtain ⟨x0, x1, x2, x3, x4⟩ := s
  obtain ⟨y0, y1, y2, y3, y4⟩ := o
  by_cases h1 : x2 ≤ y2
  · by_cases h2 : x3 ≤ y3
    · by_cases h3 : x4 ≤ y4
      all_goals
        go_enter Try.func43, Try.ntmps43
        go_wp2
        go_ret
        exact ⟨by first | (simp; done) | (simp; omega) | simp_all, ((Fr.refl _ w).alloc _).alloc _⟩
    · go_enter Try.func43, Try.ntmps43
      go_wp2
      go_ret
      exact ⟨by first | (simp; done) | (simp; omega) | simp_all, ((Fr.refl _ w).alloc _).alloc _⟩
  · go_enter Try.func43, Try.ntmps43
    go_wp2
    go_ret
    exact ⟨by first | (simp; done) | (simp; omega) | simp_all, ((Fr.refl _ w).alloc _).alloc _⟩

theorem lookWithin_any (w : World) (ao : Option Addr) (cap : Nat) (l : List Spn) (h : CAt w ao (spV l)) (hl : (l.length + 1) * 40 ≤ 140737488355328) :
    Calls Try.prog 23 #[.slice ao l.length cap] w fun e w' => e = look (withinOk l) 70 ∧ Fr (fun _ => False) w w' := by
  have H := hide h
  have HW := isWithin_any
  have HD := noDearer_any
  have HE : Hid (withinOk l = l.all fun o => l.all fun s => fits o s) := rfl
  generalize withinOk l = y at *
  clear h
  go_enter Try.func23, Try.ntmps23
  go_wp2
  go_loopw [3, 5, 8, 12, 13, 14] (fun _ _ iv _ _ _ wr => ∃ (i : Nat), i ≤ l.length ∧ iv = .int .i64 i ∧ Hid (Fr (fun _ => False) w wr ∧ ((l.drop i).all fun o => l.all fun s => fits o s) = y)) (fun _ _ iv _ _ _ _ => l.length - (intOf iv).toNat)
  case atStart => exact ⟨0, Nat.zero_le _, rfl, Fr.refl _ _, by rw [unhide HE]; simp⟩
  case round =>
    obtain ⟨i, hi, rfl, HI⟩ := hrel
    by_cases hil : i < l.length
    · obtain ⟨b, off, rfl, c0, c1, c2, c3, c4⟩ := ((unhide H).keep (unhide HI).1).sp hil
      have ht := (unhide HI).2
      rw [List.drop_eq_getElem_cons hil, List.all_cons] at ht
      have HT := hide ht
      have HF := hide (unhide HI).1
      clear ht HI
      generalize l[i] = o at *
      have HO : Hid (∀ wq, Fr (fun _ => False) (wr.alloc (.cells #[.int .i64 o.fr, .int .i64 o.to, .int .i64 o.single, .int .i64 o.daily, .int .i64 o.weekly] 57)) wq → wq.cell? ⟨wr.heap.size, 0, none⟩ = some (.int .i64 o.fr) ∧ wq.cell? ⟨wr.heap.size, 1, none⟩ = some (.int .i64 o.to) ∧ wq.cell? ⟨wr.heap.size, 2, none⟩ = some (.int .i64 o.single) ∧ wq.cell? ⟨wr.heap.size, 3, none⟩ = some (.int .i64 o.daily) ∧ wq.cell? ⟨wr.heap.size, 4, none⟩ = some (.int .i64 o.weekly)) := by
        refine hide fun wq hq => ?_
        have hlt : wr.heap.size < (wr.alloc (.cells #[.int .i64 o.fr, .int .i64 o.to, .int .i64 o.single, .int .i64 o.daily, .int .i64 o.weekly] 57)).heap.size := by rw [heap_alloc]; exact Nat.lt_succ_self _
        refine ⟨?_, ?_, ?_, ?_, ?_⟩ <;> (rw [hq.cell hlt (fun t => t), World.cell?_alloc_new]; rfl)
      have HF1 := hide ((unhide HF).alloc (.cells #[.int .i64 o.fr, .int .i64 o.to, .int .i64 o.single, .int .i64 o.daily, .int .i64 o.weekly] 57))
      go_wp2
      generalize wr.alloc (.cells #[.int .i64 o.fr, .int .i64 o.to, .int .i64 o.single, .int .i64 o.daily, .int .i64 o.weekly] 57) = wo at *
      generalize wr.heap.size = N at *
      clear c0 c1 c2 c3 c4 HF
      go_loopw [5, 14] (fun _ kv wq => ∃ (k : Nat), k ≤ l.length ∧ kv = .int .i64 k ∧ Hid (Fr (fun _ => False) wo wq ∧ (l.drop k).all (fits o) = l.all (fits o))) (fun _ kv _ => l.length - (intOf kv).toNat)
      case atStart => exact ⟨0, Nat.zero_le _, rfl, Fr.refl _ _, by simp⟩
      case round =>
        obtain ⟨k, hk, rfl, HK⟩ := hrel
        by_cases hkl : k < l.length
        · obtain ⟨b', off', eA, d0, d1, d2, d3, d4⟩ := ((unhide H).keep ((unhide HF1).trans (unhide HK).1 (fun _ _ t => t))).sp hkl
          injection eA with eA
          injection eA with eA1 eA2
          subst eA1 eA2
          have hu := (unhide HK).2
          rw [List.drop_eq_getElem_cons hkl, List.all_cons] at hu
          have HU := hide hu
          have HF2 := hide (unhide HK).1
          clear hu HK
          generalize l[k] = s at *
          obtain ⟨o0, o1, o2, o3, o4⟩ := unhide HO _ ((unhide HF2).alloc (.cells #[.int .i64 s.fr, .int .i64 s.to, .int .i64 s.single, .int .i64 s.daily, .int .i64 s.weekly] 57))
          have HS : Hid (fits o s = (!withinB s o || noDearer s o)) := rfl
          have RW := fun w => HW w s o
          have RD := fun w => HD w s o
          generalize withinB s o = p at *
          generalize noDearer s o = q at *
          have HF2' := hide ((unhide HF2).alloc (.cells #[.int .i64 s.fr, .int .i64 s.to, .int .i64 s.single, .int .i64 s.daily, .int .i64 s.weekly] 57))
          have HG : Hid (∀ wz, Fr (fun _ => False) (wr.alloc (.cells #[.int .i64 s.fr, .int .i64 s.to, .int .i64 s.single, .int .i64 s.daily, .int .i64 s.weekly] 57)) wz → wz.cell? ⟨wr.heap.size, 0, none⟩ = some (.int .i64 s.fr) ∧ wz.cell? ⟨wr.heap.size, 1, none⟩ = some (.int .i64 s.to) ∧ wz.cell? ⟨wr.heap.size, 2, none⟩ = some (.int .i64 s.single) ∧ wz.cell? ⟨wr.heap.size, 3, none⟩ = some (.int .i64 s.daily) ∧ wz.cell? ⟨wr.heap.size, 4, none⟩ = some (.int .i64 s.weekly)) := by
            refine hide fun wz hq => ?_
            have hlt : wr.heap.size < (wr.alloc (.cells #[.int .i64 s.fr, .int .i64 s.to, .int .i64 s.single, .int .i64 s.daily, .int .i64 s.weekly] 57)).heap.size := by rw [heap_alloc]; exact Nat.lt_succ_self _
            refine ⟨?_, ?_, ?_, ?_, ?_⟩ <;> (rw [hq.cell hlt (fun t => t), World.cell?_alloc_new]; rfl)
          cases p with
          | false =>
            have HU' : Hid ((l.drop (k + 1)).all (fits o) = l.all (fits o)) := hide (by rw [← unhide HU, unhide HS]; rfl)
            clear HU HS HG
            go_wp2_with fail
            refine (RW _).mono ?_
            rintro e w2 ⟨rfl, hF2⟩
            have HF3 := hide ((unhide HF2').trans hF2 (fun _ _ t => t))
            clear hF2
            go_wp2_with fail
            refine (must_is (by first | (simp; done) | (simp; omega) | simp_all) 70 _).mono ?_
            rintro e w3 ⟨rfl, rfl⟩
            go_wp2
            exact ⟨⟨k + 1, by omega, by go_num, unhide HF3, unhide HU'⟩, by simp [intOf]; omega⟩
          | true =>
            cases q with
            | true =>
              have HU' : Hid ((l.drop (k + 1)).all (fits o) = l.all (fits o)) := hide (by rw [← unhide HU, unhide HS]; rfl)
              clear HU HS
              go_wp2_with fail
              refine (RW _).mono ?_
              rintro e w2 ⟨rfl, hF2⟩
              have HF3 := hide ((unhide HF2').trans hF2 (fun _ _ t => t))
              obtain ⟨p0, p1, p2, p3, p4⟩ := unhide HO _ (unhide HF3)
              obtain ⟨s0, s1, s2, s3, s4⟩ := unhide HG _ hF2
              clear hF2
              go_wp2_with fail
              refine (RD _).mono ?_
              rintro e w3 ⟨rfl, hF3⟩
              have HF4 := hide ((unhide HF3).trans hF3 (fun _ _ t => t))
              clear hF3
              go_wp2_with fail
              refine (must_is (by first | (simp; done) | (simp; omega) | simp_all) 70 _).mono ?_
              rintro e w4 ⟨rfl, rfl⟩
              go_wp2
              exact ⟨⟨k + 1, by omega, by go_num, unhide HF4, unhide HU'⟩, by simp [intOf]; omega⟩
            | false =>
              have HT' : Hid (y = false) := hide (by rw [← unhide HT, ← unhide HU, unhide HS]; rfl)
              clear HU HS
              go_wp2_with fail
              refine (RW _).mono ?_
              rintro e w2 ⟨rfl, hF2⟩
              have HF3 := hide ((unhide HF2').trans hF2 (fun _ _ t => t))
              obtain ⟨p0, p1, p2, p3, p4⟩ := unhide HO _ (unhide HF3)
              obtain ⟨s0, s1, s2, s3, s4⟩ := unhide HG _ hF2
              clear hF2
              go_wp2_with fail
              refine (RD _).mono ?_
              rintro e w3 ⟨rfl, hF3⟩
              have HF4 := hide ((unhide HF3).trans hF3 (fun _ _ t => t))
              clear hF3
              go_wp2_with fail
              refine (must_not (by first | (simp; done) | (simp; omega) | simp_all) 70 _).mono ?_
              rintro e w4 ⟨rfl, rfl⟩
              go_wp2
              exact ⟨rfl, by rw [unhide HT']; rfl, (unhide HF1).trans (unhide HF4) (fun _ _ t => t)⟩
        · obtain rfl : k = l.length := by omega
          have HU : Hid (l.all (fits o) = true) := hide (by rw [← (unhide HK).2, List.drop_length]; rfl)
          have HT' : Hid (((l.drop (i + 1)).all fun o => l.all fun s => fits o s) = y) := hide (by
            have h2 := unhide HT
            rw [show (l.all fun s => fits o s) = true from unhide HU] at h2
            exact h2)
          have HF := hide ((unhide HF1).trans (unhide HK).1 (fun _ _ t => t))
          clear HK HU HT HO HF1
          go_wp2
          exact ⟨⟨i + 1, by omega, by go_num, unhide HF, unhide HT'⟩, by simp [intOf]; omega⟩
    · obtain rfl : i = l.length := by omega
      have HT' : Hid (y = true) := hide (by rw [← (unhide HI).2, List.drop_length]; rfl)
      have HF := hide (unhide HI).1
      clear HI H HE
      go_wp2
      go_end0
      exact ⟨by rw [unhide HT']; rfl, unhide HF⟩

end Go.Proofs.Ytjgbllfppomcmaa

/- Stations, spans and bands compared as whole structs. -/
namespace Go.Proofs.Ytjgbllfppomcmaa
open Go.RowKit

theorem eq39 (w : World) (a0 a1 a2 a3 a4 b0 b1 b2 b3 b4 : Int) : (Op.equalIn 10000 57 (.agg #[.int .i64 a0, .int .i64 a1, .int .i64 a2, .int .i64 a3, .int .i64 a4]) (.agg #[.int .i64 b0, .int .i64 b1, .int .i64 b2, .int .i64 b3, .int .i64 b4])).run Try.prog w = .ok (a0 == b0 && a1 == b1 && a2 == b2 && a3 == b3 && a4 == b4) w := by
  have u3 := Try.underlying3
  have hS : Try.prog.underlying 57 = some (.struct (Try.prog.fieldsOf 57)) := by kernel_rfl
  have hp : Try.prog.stoodInHeld 57 = false := by kernel_rfl
  rw [show (10000 : Nat) = 9999 + 1 from rfl, run_equalIn_agg w 9999 57 _ _ hS hp]
  simp only [Program.fieldsOf, Try.underlying57]
  go_simp
  by_cases h0 : a0 = b0 <;> by_cases h1 : a1 = b1 <;> by_cases h2 : a2 = b2 <;> by_cases h3 : a3 = b3 <;> by_cases h4 : a4 = b4 <;> simp [h0, h1, h2, h3, h4]

theorem eq35 (w : World) (a0 a1 a2 b0 b1 b2 : Int) : (Op.equalIn 10000 60 (.agg #[.int .i64 a0, .int .i64 a1, .int .i64 a2]) (.agg #[.int .i64 b0, .int .i64 b1, .int .i64 b2])).run Try.prog w = .ok (a0 == b0 && a1 == b1 && a2 == b2) w := by
  have u3 := Try.underlying3
  have hS : Try.prog.underlying 60 = some (.struct (Try.prog.fieldsOf 60)) := by kernel_rfl
  have hp : Try.prog.stoodInHeld 60 = false := by kernel_rfl
  rw [show (10000 : Nat) = 9999 + 1 from rfl, run_equalIn_agg w 9999 60 _ _ hS hp]
  simp only [Program.fieldsOf, Try.underlying60]
  go_simp
  by_cases h0 : a0 = b0 <;> by_cases h1 : a1 = b1 <;> by_cases h2 : a2 = b2 <;> simp [h0, h1, h2]

theorem eq46 (w : World) (a0 a1 b0 b1 : Int) : (Op.equalIn 10000 87 (.agg #[.int .i64 a0, .int .i64 a1]) (.agg #[.int .i64 b0, .int .i64 b1])).run Try.prog w = .ok (a0 == b0 && a1 == b1) w := by
  have u3 := Try.underlying3
  have hS : Try.prog.underlying 87 = some (.struct (Try.prog.fieldsOf 87)) := by kernel_rfl
  have hp : Try.prog.stoodInHeld 87 = false := by kernel_rfl
  rw [show (10000 : Nat) = 9999 + 1 from rfl, run_equalIn_agg w 9999 87 _ _ hS hp]
  simp only [Program.fieldsOf, Try.underlying87]
  go_simp
  by_cases h0 : a0 = b0 <;> by_cases h1 : a1 = b1 <;> simp [h0, h1]

theorem eg39 : Try.prog.eqGuardType Try.prog.depth 57 = false := by kernel_rfl
theorem eg35 : Try.prog.eqGuardType Try.prog.depth 60 = false := by kernel_rfl
theorem eg46 : Try.prog.eqGuardType Try.prog.depth 87 = false := by kernel_rfl

end Go.Proofs.Ytjgbllfppomcmaa

/- A span without its prices, and the closures that compare such spans as whole structs. -/
namespace Go.Proofs.Ytjgbllfppomcmaa
open Go.RowKit

theorem fr_below {w w' : World} (h : Fr (fun _ => False) w w') : Below w.heap.size w w' := h.below (Nat.le_refl _) (fun _ t => t.elim)
theorem below_fr {w w' : World} (h : Below w.heap.size w w') : Fr (fun _ => False) w w' := Fr.of_below h (fun k hk hk2 => absurd hk (by omega))

/-- A span as a value. -/
abbrev spA (s : Spn) : Value := .agg #[.int .i64 s.fr, .int .i64 s.to, .int .i64 s.single, .int .i64 s.daily, .int .i64 s.weekly]

theorem bare_any (w : World) (s : Spn) : Calls Try.prog 40 #[spA s] w fun e w' => e = .returned (.agg #[.int .i64 s.fr, .int .i64 s.to, .int .i64 0, .int .i64 0, .int .i64 0]) ∧ Fr (fun _ => False) w w' := by
  obtain ⟨x0, x1, x2, x3, x4⟩ := s
  go_enter Try.func40, Try.ntmps40
  go_wp2
  refine bodyPost_ret (v := .agg #[.int .i64 x0, .int .i64 x1, .int .i64 0, .int .i64 0, .int .i64 0]) (by simp [results, Try.results40, go_sem]) rfl ⟨rfl, ?_⟩
  exact ((Fr.refl _ w).alloc _).alloc _

def sameB (s x : Spn) : Bool := s.fr == x.fr && s.to == x.to && 0 == x.single && 0 == x.daily && 0 == x.weekly

theorem two_boxes (w : World) (x y : Spn) : Hid (∀ W, W = (w.alloc (.cells #[.int .i64 x.fr, .int .i64 x.to, .int .i64 x.single, .int .i64 x.daily, .int .i64 x.weekly] 57)).alloc (.cells #[.int .i64 y.fr, .int .i64 y.to, .int .i64 y.single, .int .i64 y.daily, .int .i64 y.weekly] 57) →
    (W.cell? ⟨w.heap.size, 0, none⟩ = some (.int .i64 x.fr) ∧ W.cell? ⟨w.heap.size, 1, none⟩ = some (.int .i64 x.to) ∧ W.cell? ⟨w.heap.size, 2, none⟩ = some (.int .i64 x.single) ∧ W.cell? ⟨w.heap.size, 3, none⟩ = some (.int .i64 x.daily) ∧ W.cell? ⟨w.heap.size, 4, none⟩ = some (.int .i64 x.weekly)) ∧
    (W.cell? ⟨w.heap.size + 1, 0, none⟩ = some (.int .i64 y.fr) ∧ W.cell? ⟨w.heap.size + 1, 1, none⟩ = some (.int .i64 y.to) ∧ W.cell? ⟨w.heap.size + 1, 2, none⟩ = some (.int .i64 y.single) ∧ W.cell? ⟨w.heap.size + 1, 3, none⟩ = some (.int .i64 y.daily) ∧ W.cell? ⟨w.heap.size + 1, 4, none⟩ = some (.int .i64 y.weekly)) ∧
    Fr (fun _ => False) w W) := by
  refine hide fun W hW => ?_
  subst hW
  have hlt : w.heap.size < (w.alloc (.cells #[.int .i64 x.fr, .int .i64 x.to, .int .i64 x.single, .int .i64 x.daily, .int .i64 x.weekly] 57)).heap.size := by rw [heap_alloc]; exact Nat.lt_succ_self _
  refine ⟨⟨?_, ?_, ?_, ?_, ?_⟩, ⟨?_, ?_, ?_, ?_, ?_⟩, ((Fr.refl _ w).alloc _).alloc _⟩
  iterate 5 (first | (rw [World.cell?_alloc_lt _ _ _ hlt, World.cell?_alloc_new]; rfl) | skip)
  all_goals (rw [← heap_alloc w (.cells #[.int .i64 x.fr, .int .i64 x.to, .int .i64 x.single, .int .i64 x.daily, .int .i64 x.weekly] 57), World.cell?_alloc_new]; rfl)

theorem zones1_any (w : World) (s x : Spn) : Calls Try.prog 39 #[spA s, spA x] w fun e w' => e = .returned (.bool (sameB s x)) ∧ Fr (fun _ => False) w w' := by
  have HB := two_boxes w s x
  obtain ⟨y0, y1, y2, y3, y4⟩ := x
  obtain ⟨x0, x1, x2, x3, x4⟩ := s
  go_enter Try.func39, Try.ntmps39
  go_wp2_with fail
  obtain ⟨W, hW⟩ : ∃ W, W = (w.alloc (.cells #[.int .i64 x0, .int .i64 x1, .int .i64 x2, .int .i64 x3, .int .i64 x4] 57)).alloc (.cells #[.int .i64 y0, .int .i64 y1, .int .i64 y2, .int .i64 y3, .int .i64 y4] 57) := ⟨_, rfl⟩
  obtain ⟨⟨c0, c1, c2, c3, c4⟩, ⟨d0, d1, d2, d3, d4⟩, hF⟩ := unhide HB W hW
  rw [← hW]
  have HF := hide hF
  clear hF HB hW
  have X0 := fun d os => cell_regrown c0 d os
  have X1 := fun d os => cell_regrown c1 d os
  have X2 := fun d os => cell_regrown c2 d os
  have X3 := fun d os => cell_regrown c3 d os
  have X4 := fun d os => cell_regrown c4 d os
  have Y0 := fun d os => cell_regrown d0 d os
  have Y1 := fun d os => cell_regrown d1 d os
  have Y2 := fun d os => cell_regrown d2 d os
  have Y3 := fun d os => cell_regrown d3 d os
  have Y4 := fun d os => cell_regrown d4 d os
  clear c0 c1 c2 c3 c4 d0 d1 d2 d3 d4
  have e1 := eg39
  have e2 := eq39
  refine wp_region_quiet_below (by kernel_rfl) (by kernel_rfl) ?_
  (go_big_quiet_want; go_big_quiet_op; go_big_quiet_on)
  (go_big_quiet_want; go_big_quiet_op; go_big_quiet_call (exact Calls.regrown_of ((bare_any _ ⟨x0, x1, x2, x3, x4⟩).mono fun _ _ h => ⟨h.1, fr_below h.2⟩)))
  repeat (first | go_big_quiet_skip | (go_big_quiet_want; go_big_quiet_op; go_big_quiet_on))
  refine wpQuiet_nil ?_
  intro _ hw'
  obtain ⟨⟨dq, osq⟩, hw''⟩ := hw'
  subst hw''
  have HB := hide ((unhide HF).trans (below_fr (below_regrown W dq osq)) (fun _ _ t => t))
  go_wp2
  go_ret
  exact ⟨rfl, unhide HB⟩

theorem span1_any (w : World) (s x : Spn) (k : Nat) (d0 : w.cell? ⟨k, 0, none⟩ = some (.int .i64 x.fr)) (d1 : w.cell? ⟨k, 1, none⟩ = some (.int .i64 x.to)) (d2 : w.cell? ⟨k, 2, none⟩ = some (.int .i64 x.single)) (d3 : w.cell? ⟨k, 3, none⟩ = some (.int .i64 x.daily)) (d4 : w.cell? ⟨k, 4, none⟩ = some (.int .i64 x.weekly)) :
    Calls Try.prog 48 #[spA s, .pointer (some ⟨k, 0, none⟩)] w fun e w' => e = .returned (.bool (sameB s x)) ∧ Fr (fun _ => False) w w' := by
  have hlt := World.block_lt_of_cell? _ _ d0
  obtain ⟨y0, y1, y2, y3, y4⟩ := x
  obtain ⟨x0, x1, x2, x3, x4⟩ := s
  simp only at d0 d1 d2 d3 d4 hlt
  go_enter Try.func48, Try.ntmps48
  go_wp2_with fail
  obtain ⟨W, hW⟩ : ∃ W, W = w.alloc (.cells #[.int .i64 x0, .int .i64 x1, .int .i64 x2, .int .i64 x3, .int .i64 x4] 57) := ⟨_, rfl⟩
  have hF : Fr (fun _ => False) w W := by rw [hW]; exact (Fr.refl _ w).alloc _
  have c0 : W.cell? ⟨w.heap.size, 0, none⟩ = some (.int .i64 x0) := by rw [hW, World.cell?_alloc_new]; rfl
  have c1 : W.cell? ⟨w.heap.size, 1, none⟩ = some (.int .i64 x1) := by rw [hW, World.cell?_alloc_new]; rfl
  have c2 : W.cell? ⟨w.heap.size, 2, none⟩ = some (.int .i64 x2) := by rw [hW, World.cell?_alloc_new]; rfl
  have c3 : W.cell? ⟨w.heap.size, 3, none⟩ = some (.int .i64 x3) := by rw [hW, World.cell?_alloc_new]; rfl
  have c4 : W.cell? ⟨w.heap.size, 4, none⟩ = some (.int .i64 x4) := by rw [hW, World.cell?_alloc_new]; rfl
  have d0 := (hF.cell (a := ⟨k, 0, none⟩) hlt (fun t => t)).trans d0
  have d1 := (hF.cell (a := ⟨k, 1, none⟩) hlt (fun t => t)).trans d1
  have d2 := (hF.cell (a := ⟨k, 2, none⟩) hlt (fun t => t)).trans d2
  have d3 := (hF.cell (a := ⟨k, 3, none⟩) hlt (fun t => t)).trans d3
  have d4 := (hF.cell (a := ⟨k, 4, none⟩) hlt (fun t => t)).trans d4
  rw [← hW]
  have HF := hide hF
  clear hF hW
  have X0 := fun d os => cell_regrown c0 d os
  have X1 := fun d os => cell_regrown c1 d os
  have X2 := fun d os => cell_regrown c2 d os
  have X3 := fun d os => cell_regrown c3 d os
  have X4 := fun d os => cell_regrown c4 d os
  have Y0 := fun d os => cell_regrown d0 d os
  have Y1 := fun d os => cell_regrown d1 d os
  have Y2 := fun d os => cell_regrown d2 d os
  have Y3 := fun d os => cell_regrown d3 d os
  have Y4 := fun d os => cell_regrown d4 d os
  clear c0 c1 c2 c3 c4 d0 d1 d2 d3 d4
  have e1 := eg39
  have e2 := eq39
  refine wp_region_quiet_below (by kernel_rfl) (by kernel_rfl) ?_
  (go_big_quiet_want; go_big_quiet_op; go_big_quiet_on)
  (go_big_quiet_want; go_big_quiet_op; go_big_quiet_call (exact Calls.regrown_of ((bare_any _ ⟨x0, x1, x2, x3, x4⟩).mono fun _ _ h => ⟨h.1, fr_below h.2⟩)))
  repeat (first | go_big_quiet_skip | (go_big_quiet_want; go_big_quiet_op; go_big_quiet_on))
  refine wpQuiet_nil ?_
  intro _ hw'
  obtain ⟨⟨dq, osq⟩, hw''⟩ := hw'
  subst hw''
  have HB := hide ((unhide HF).trans (below_fr (below_regrown W dq osq)) (fun _ _ t => t))
  go_wp2
  go_ret
  exact ⟨rfl, unhide HB⟩

/-- A station as a value. -/
abbrev stA (s : Stn) : Value := .agg #[.int .i64 s.id, .int .i64 s.zone, .int .i64 s.group]

theorem station1_any (w : World) (s : Stn) (id : Int) (k : Nat) (d0 : w.cell? ⟨k, 0, none⟩ = some (.int .i64 id)) :
    Calls Try.prog 51 #[stA s, .pointer (some ⟨k, 0, none⟩)] w fun e w' => e = .returned (.bool (s.id == id)) ∧ Fr (fun _ => False) w w' := by
  have hlt := World.block_lt_of_cell? _ _ d0
  obtain ⟨x0, x1, x2⟩ := s
  simp only at hlt
  go_enter Try.func51, Try.ntmps51
  go_wp2
  go_ret
  exact ⟨rfl, (Fr.refl _ w).alloc _⟩

end Go.Proofs.Ytjgbllfppomcmaa

/- The look at zones: greatestZone, bareSpans, EqualFunc, lookAtZones. -/
namespace Go.Proofs.Ytjgbllfppomcmaa
open Go.RowKit

def zmax : Int → List Stn → Int
  | z, [] => z
  | z, s :: r => zmax (max z s.zone) r

theorem zmax_bound : ∀ (l : List Stn) (a z : Int), stOk a l = true → 1 ≤ z → z ≤ 9 → 1 ≤ zmax z l ∧ zmax z l ≤ 9
  | [], _, z, _, h1, h2 => ⟨h1, h2⟩
  | s :: r, a, z, h, h1, h2 => by
    have h' : stGood a s = true ∧ stOk s.id r = true := by simpa [stOk] using h
    rcases stGood_cases a s with ⟨_, _, _, k3, k4, _, _⟩ | ⟨hg, _⟩
    · exact zmax_bound r s.id (max z s.zone) h'.2 (by omega) (by omega)
    · rw [h'.1] at hg; cases hg

theorem greatest_any (w : World) (ao : Option Addr) (cap : Nat) (l : List Stn) (h : CAt w ao (stV l)) (hl : (l.length + 1) * 24 ≤ 140737488355328) :
    Calls Try.prog 37 #[.slice ao l.length cap] w fun e w' => e = .returned (.int .i64 (zmax 1 l)) ∧ Fr (fun _ => False) w w' := by
  have H := hide h
  obtain ⟨y, HY⟩ : ∃ y, Hid (zmax 1 l = y) := ⟨_, rfl⟩
  rw [unhide HY]
  clear h
  go_enter Try.func37, Try.ntmps37
  go_wp2
  go_loopw [3, 5, 8] (fun zv _ iv wr => ∃ (i : Nat) (z : Int), i ≤ l.length ∧ iv = .int .i64 i ∧ zv = .int .i64 z ∧ Hid (Fr (fun _ => False) w wr ∧ zmax z (l.drop i) = y)) (fun _ _ iv _ => l.length - (intOf iv).toNat)
  case atStart => exact ⟨0, 1, Nat.zero_le _, rfl, rfl, Fr.refl _ _, by simpa using unhide HY⟩
  case round =>
    obtain ⟨i, z, hi, rfl, rfl, HI⟩ := hrel
    by_cases hil : i < l.length
    · obtain ⟨b, off, rfl, c0, c1, c2⟩ := ((unhide H).keep (unhide HI).1).st hil
      have ht := (unhide HI).2
      rw [List.drop_eq_getElem_cons hil] at ht
      have HF := hide (unhide HI).1
      generalize l[i] = s at *
      obtain ⟨x0, x1, x2⟩ := s
      have HT : Hid (zmax (max z x1) (l.drop (i + 1)) = y) := hide ht
      clear ht HI
      rcases Int.lt_trichotomy z x1 with hz | hz | hz
      · rw [Int.max_eq_right (by omega)] at HT
        go_wp2
        exact ⟨⟨i + 1, _, by omega, by go_num, rfl, (unhide HF).alloc _, unhide HT⟩, by simp [intOf]; omega⟩
      · subst hz
        rw [Int.max_self] at HT
        go_wp2
        exact ⟨⟨i + 1, _, by omega, by go_num, rfl, (unhide HF).alloc _, unhide HT⟩, by simp [intOf]; omega⟩
      · rw [Int.max_eq_left (by omega)] at HT
        go_wp2
        exact ⟨⟨i + 1, _, by omega, by go_num, rfl, (unhide HF).alloc _, unhide HT⟩, by simp [intOf]; omega⟩
    · obtain rfl : i = l.length := by omega
      have HT : Hid (y = z) := hide (by rw [← (unhide HI).2, List.drop_length]; rfl)
      have HF := hide (unhide HI).1
      clear HI H HY
      go_wp2
      go_ret
      exact ⟨by rw [unhide HT]; rfl, unhide HF⟩

/-- From a zone to so many more, from the one on. -/
def toL (f : Int) : Int → Nat → List (Int × Int)
  | _, 0 => []
  | t, n + 1 => (f, t) :: toL f (t + 1) n
/-- All pairs of zones from one on. -/
def prs : Int → Nat → List (Int × Int)
  | _, 0 => []
  | f, n + 1 => toL f f (n + 1) ++ prs (f + 1) n

theorem toL_length (f : Int) : ∀ (t : Int) (n : Nat), (toL f t n).length = n
  | _, 0 => rfl
  | t, n + 1 => by rw [toL, List.length_cons, toL_length f (t + 1) n]

theorem prs_length : ∀ (f : Int) (n : Nat), (prs f n).length ≤ n * n
  | _, 0 => Nat.zero_le _
  | f, n + 1 => by
    rw [prs, List.length_append, toL_length]
    have := prs_length (f + 1) n
    rw [Nat.add_mul, Nat.mul_add]
    omega

def mk (p : Int × Int) : Spn := ⟨p.1, p.2, 0, 0, 0⟩

theorem info39 : (Try.prog.info? 57).map (fun i => (i.zero, i.size, i.bytes)) = some (some (.agg #[.int .i64 0, .int .i64 0, .int .i64 0, .int .i64 0, .int .i64 0]), 5, 40) := by kernel_rfl

theorem src_new (w : World) (f t : Int) : Src Try.prog 5 23 (.slice (some ⟨w.heap.size, 0, none⟩) 1 1) 1 (spV [mk (f, t)]) (w.alloc (.cells #[.int .i64 f, .int .i64 t, .int .i64 0, .int .i64 0, .int .i64 0] 57)) := by
  refine Src.ofSlice _ Try.underlying23 ⟨w.heap.size, 0, none⟩ 1 1 _ rfl (fun j u hj => ?_) (spV_one _)
  rw [Addr.add_lit, Nat.zero_add, World.cell?_alloc_new]
  match j, hj with
  | 0, hj => exact hj
  | 1, hj => exact hj
  | 2, hj => exact hj
  | 3, hj => exact hj
  | 4, hj => exact hj
  | j + 5, hj => simp [spV, spC] at hj

theorem KRow.cat {w : World} {ao : Option Addr} {cap g k : Nat} {vs : List Value} (h : KRow w ao cap g k vs) : CAt w ao vs := fun hl => by
  have hc : 0 < cap := by
    rcases Nat.eq_zero_or_pos cap with e | e
    · have := h.le; rw [e] at this; omega
    · exact e
  exact ⟨g, 0, h.ad hc, fun j hj => by rw [Nat.zero_add]; exact h.cells j hj⟩

theorem spV_append (l m : List Spn) : spV (l ++ m) = spV l ++ spV m := by simp [spV]

theorem bareSpans_any (w : World) (Z : Nat) (hZ : Z ≤ 9) :
    Calls Try.prog 36 #[.int .i64 (Z : Int)] w fun e w' => ∃ ao cap, e = .returned (.slice ao (prs 1 Z).length cap) ∧ CAt w' ao (spV ((prs 1 Z).map mk)) ∧ Fr (fun _ => False) w w' := by
  obtain ⟨info, hi, hzz⟩ := Option.map_eq_some_iff.1 info39
  simp only [Prod.mk.injEq] at hzz
  obtain ⟨hz0, hz1, hz2⟩ := hzz
  obtain ⟨L, hL⟩ : ∃ L, prs 1 Z = L := ⟨_, rfl⟩
  have HL : Hid (L.length ≤ 81) := hide (by
    rw [← hL]
    exact Nat.le_trans (prs_length 1 Z) (Nat.mul_le_mul hZ hZ))
  have HI0 : Hid (info.zero = some (.agg #[.int .i64 0, .int .i64 0, .int .i64 0, .int .i64 0, .int .i64 0]) ∧ info.size = 5 ∧ info.bytes = 40 ∧ Try.prog.info? 57 = some info) := hide ⟨hz0, hz1, hz2, hi⟩
  rw [hL]
  have HL0 := hide hL
  clear hL hz0 hz1 hz2 hi
  go_enter Try.func36, Try.ntmps36
  go_wp2
  go_loopw [3, 4, 5] (fun lv fv _ wr => ∃ (n : Nat) (f : Int) (acc : List (Int × Int)) (ao : Option Addr) (cap g : Nat), n ≤ 9 ∧ f + n = (Z : Int) + 1 ∧ 1 ≤ f ∧ fv = .int .i64 f ∧ lv = .slice ao acc.length cap ∧ Hid (acc ++ prs f n = L ∧ KRow wr ao cap g 5 (spV (acc.map mk)) ∧ Fr (fun _ => False) w wr ∧ (0 < cap → w.heap.size ≤ g))) (fun _ fv _ _ => Z + 1 - (intOf fv).toNat)
  case atStart => exact ⟨Z, 1, [], none, 0, 0, hZ, by omega, by omega, rfl, rfl, by simpa using unhide HL0, KRow.nil _ _ _, Fr.refl _ _, fun h => absurd h (by omega)⟩
  case round =>
    obtain ⟨n, f, acc, ao, cap, g, hn, hf, hf1, rfl, rfl, HI⟩ := hrel
    by_cases hlt : f ≤ (Z : Int)
    · obtain ⟨n, rfl⟩ : ∃ m, n = m + 1 := ⟨n - 1, by omega⟩
      go_wp2
      go_loopw [3, 5] (fun lv tv wq => ∃ (m : Nat) (t : Int) (acc : List (Int × Int)) (ao : Option Addr) (cap g : Nat), m ≤ 9 ∧ t + m = (Z : Int) + 1 ∧ f ≤ t ∧ tv = .int .i64 t ∧ lv = .slice ao acc.length cap ∧ Hid (acc ++ (toL f t m ++ prs (f + 1) n) = L ∧ KRow wq ao cap g 5 (spV (acc.map mk)) ∧ Fr (fun _ => False) w wq ∧ (0 < cap → w.heap.size ≤ g))) (fun _ tv _ => Z + 1 - (intOf tv).toNat)
      case atStart => exact ⟨n + 1, f, acc, ao, cap, g, hn, by omega, by omega, rfl, rfl, (unhide HI).1, (unhide HI).2⟩
      case round =>
        obtain ⟨m, t, acc, ao, cap, g, hm, ht, ht1, rfl, rfl, HJ⟩ := hrel
        by_cases hlt2 : t ≤ (Z : Int)
        · obtain ⟨m, rfl⟩ : ∃ q, m = q + 1 := ⟨m - 1, by omega⟩
          have hlen : acc.length + 1 ≤ 81 := by
            have h1 := congrArg List.length (unhide HJ).1
            have h2 := unhide HL
            rw [List.length_append, List.length_append, toL_length] at h1
            omega
          have hK := (unhide HJ).2.1.keep (by omega) ((Fr.refl _ wr).alloc (.cells #[.int .i64 f, .int .i64 t, .int .i64 0, .int .i64 0, .int .i64 0] 57))
          have hS := src_new wr f t
          have hvl : (spV (acc.map mk)).length = acc.length * 5 := by rw [spV_length, List.length_map]
          go_wp2_with (at_builtin; refine wpList_append_krow _ rfl (.tmp 17) (.tmp 21) 23 23 rfl 57 info _ 5 (by omega) Try.underlying23 (unhide HI0).2.2.2 (unhide HI0).1 rfl (unhide HI0).2.1 rfl hK hvl _ _ 1 rfl hS (by rw [(unhide HI0).2.2.1]; omega) (by omega) ?_)
          intro ao' cap' w' g' hK' hG
          have HK : Hid (acc ++ [(f, t)] ++ (toL f (t + 1) m ++ prs (f + 1) n) = L ∧ KRow w' ao' cap' g' 5 (spV ((acc ++ [(f, t)]).map mk)) ∧ Fr (fun _ => False) w w' ∧ (0 < cap' → w.heap.size ≤ g')) := by
            obtain ⟨j1, j2, j3, j4⟩ := unhide HJ
            have h0 := j3.alloc (.cells #[.int .i64 f, .int .i64 t, .int .i64 0, .int .i64 0, .int .i64 0] 57)
            refine hide ⟨by rw [← j1, toL]; simp, by rw [List.map_append, spV_append]; exact hK', ?_, ?_⟩
            · rcases hG with ⟨_, _, hF⟩ | ⟨_, _, hF⟩
              · exact h0.trans hF (fun q hq hh => by have := j4 hh.2; omega)
              · exact h0.trans hF (fun _ _ t => t)
            · intro hc
              rcases hG with ⟨e1, e2, _⟩ | ⟨e1, _, _⟩
              · rw [e1]; exact j4 (by omega)
              · exact Nat.le_trans h0.size e1
          clear HJ hK' hG hK hS hvl
          go_wp2
          exact ⟨⟨m, t + 1, acc ++ [(f, t)], ao', cap', g', by omega, by omega, by omega, by go_num, by simp, unhide HK⟩, by simp [intOf]; omega⟩
        · obtain rfl : m = 0 := by omega
          have HK : Hid (acc ++ prs (f + 1) n = L ∧ KRow wr ao cap g 5 (spV (acc.map mk)) ∧ Fr (fun _ => False) w wr ∧ (0 < cap → w.heap.size ≤ g)) := hide ⟨by have := (unhide HJ).1; simpa [toL] using this, (unhide HJ).2⟩
          clear HJ
          go_wp2
          exact ⟨⟨n, f + 1, acc, ao, cap, g, by omega, by omega, by omega, by go_num, rfl, unhide HK⟩, by simp [intOf]; omega⟩
    · obtain rfl : n = 0 := by omega
      obtain ⟨j1, j2, j3, j4⟩ := unhide HI
      have HE : Hid (acc = L) := hide (by simpa [prs] using j1)
      have HC := hide (And.intro j2.cat j3)
      clear j1 j2 j3 j4 HI
      go_wp2
      go_ret
      exact ⟨ao, ⟨cap, by rw [← unhide HE]; rfl⟩, by rw [← unhide HE]; exact (unhide HC).1, (unhide HC).2⟩

/-- Are the spans just those of these zones? -/
def sameAll : List Spn → List (Int × Int) → Bool
  | [], [] => true
  | s :: r, p :: q => (s.fr == p.1 && s.to == p.2) && sameAll r q
  | _, _ => false

theorem sameAll_length : ∀ (l : List Spn) (q : List (Int × Int)), sameAll l q = true → l.length = q.length
  | [], [], _ => rfl
  | s :: r, p :: q, h => by
    have h2 : sameAll r q = true := by
      rw [sameAll, Bool.and_eq_true] at h
      exact h.2
    rw [List.length_cons, List.length_cons, sameAll_length r q h2]
  | [], _ :: _, h => by cases h
  | _ :: _, [], h => by cases h

theorem sameB_mk (s : Spn) (p : Int × Int) : sameB s (mk p) = (s.fr == p.1 && s.to == p.2) := by simp [sameB, mk]

theorem equal_any (w : World) (ao : Option Addr) (cap : Nat) (l : List Spn) (h : CAt w ao (spV l)) (hl : (l.length + 1) * 40 ≤ 140737488355328) (ao2 : Option Addr) (cap2 : Nat) (q : List (Int × Int)) (h2 : CAt w ao2 (spV (q.map mk))) :
    Calls Try.prog 38 #[.slice ao l.length cap, .slice ao2 q.length cap2, .func (.func 39) #[] #[]] w fun e w' => e = .returned (.bool (sameAll l q)) ∧ Fr (fun _ => False) w w' := by
  have H := hide (And.intro h h2)
  have HZ := zones1_any
  obtain ⟨y, HY⟩ : ∃ y, Hid (sameAll l q = y) := ⟨_, rfl⟩
  rw [unhide HY]
  clear h h2
  by_cases hlen : l.length = q.length
  · have hne : ((l.length : Int) == (q.length : Int)) = true := by simp; omega
    have hne' : ((l.length : Int) != (q.length : Int)) = false := by simp; omega
    have HLE := hide hlen
    clear hlen
    go_enter Try.func38, Try.ntmps38
    go_wp2
    clear hne hne'
    go_loopw [7, 8, 9, 17] (fun _ _ _ iv wr => ∃ (i : Nat), i ≤ l.length ∧ iv = .int .i64 i ∧ Hid (Fr (fun _ => False) w wr ∧ sameAll (l.drop i) (q.drop i) = y)) (fun _ _ _ iv _ => l.length - (intOf iv).toNat)
    case atStart => exact ⟨0, Nat.zero_le _, rfl, Fr.refl _ _, by simpa using unhide HY⟩
    case round =>
      obtain ⟨i, hi, rfl, HI⟩ := hrel
      by_cases hil : i < l.length
      · have hiq : i < q.length := by have := unhide HLE; omega
        obtain ⟨b, off, rfl, c0, c1, c2, c3, c4⟩ := ((unhide H).1.keep (unhide HI).1).sp hil
        obtain ⟨b2, off2, rfl, k0, k1, k2, k3, k4⟩ := ((unhide H).2.keep (unhide HI).1).sp (i := i) (by simpa using hiq)
        have ht := (unhide HI).2
        rw [List.drop_eq_getElem_cons hil, List.drop_eq_getElem_cons hiq, sameAll, ← sameB_mk] at ht
        have HF := hide (unhide HI).1
        simp only [List.getElem_map] at k0 k1 k2 k3 k4
        have l1 := World.block_lt_of_cell? _ _ k0
        simp only at l1
        generalize mk q[i] = x at *
        generalize l[i] = s at *
        have HT := hide ht
        have RZ := fun w => HZ w s x
        generalize sameB s x = p at *
        clear ht HI HZ
        cases p with
        | true =>
          have HT' : Hid (sameAll (l.drop (i + 1)) (q.drop (i + 1)) = y) := hide (by have := unhide HT; simpa using this)
          clear HT
          go_wp2_with fail
          refine (RZ _).mono ?_
          rintro e w2 ⟨rfl, hF⟩
          have HF2 := hide ((((unhide HF).alloc _).alloc _).trans hF (fun _ _ t => t))
          clear hF
          go_wp2
          exact ⟨⟨i + 1, by omega, by go_num, unhide HF2, unhide HT'⟩, by simp [intOf]; omega⟩
        | false =>
          have HT' : Hid (y = false) := hide (by have := unhide HT; simpa using this.symm)
          clear HT HY
          go_wp2_with fail
          refine (RZ _).mono ?_
          rintro e w2 ⟨rfl, hF⟩
          have HF2 := hide ((((unhide HF).alloc _).alloc _).trans hF (fun _ _ t => t))
          clear hF
          go_wp2
          go_ret
          exact ⟨by rw [unhide HT']; rfl, unhide HF2⟩
      · obtain rfl : i = l.length := by omega
        have HT' : Hid (y = true) := hide (by
          have h1 := (unhide HI).2
          rw [List.drop_length, unhide HLE, List.drop_length] at h1
          rw [← h1]; rfl)
        have HF := hide (unhide HI).1
        clear HI H HY
        go_wp2
        go_ret
        exact ⟨by rw [unhide HT']; rfl, unhide HF⟩
  · have HF : Hid (y = false) := hide (by
      rw [← unhide HY]
      cases hs : sameAll l q with
      | true => exact absurd (sameAll_length l q hs) hlen
      | false => rfl)
    have hne : ¬ ((l.length : Int) = (q.length : Int)) := by omega
    clear H HY hlen
    go_enter Try.func38, Try.ntmps38
    go_wp2
    go_ret
    exact ⟨by rw [unhide HF]; rfl, Fr.refl _ _⟩

def zonesOk (t : Tf) : Bool := sameAll t.sp (prs 1 (zmax 1 t.st).toNat)

theorem lookZones_any (w : World) (A : Ad) (t : Tf) (h : TAt w A t) (hs : stationsOk t.st = true) : Calls Try.prog 21 #[tv A t] w fun e w' => e = look (zonesOk t) 70 ∧ Fr (fun _ => False) w w' := by
  have hzb := zmax_bound t.st 0 1 (by
    have h1 := hs
    rw [stationsOk, Bool.and_eq_true] at h1
    exact h1.2) (by omega) (by omega)
  have R1 := hide (fun (w' : World) (hf : Fr (fun _ => False) w w') => greatest_any w' A.aS A.cS t.st (h.st.keep hf) h.lS)
  obtain ⟨Z, hZ⟩ : ∃ Z : Nat, zmax 1 t.st = (Z : Int) := ⟨(zmax 1 t.st).toNat, by omega⟩
  have HE : Hid (zonesOk t = sameAll t.sp (prs 1 Z)) := hide (by rw [zonesOk, hZ]; rfl)
  have R2 := fun w' => bareSpans_any w' Z (by omega)
  have R3 := hide (fun (w' : World) (hf : Fr (fun _ => False) w w') (ao2 : Option Addr) (cap2 : Nat) (h2 : CAt w' ao2 (spV ((prs 1 Z).map mk))) => equal_any w' A.aP A.cP t.sp (h.sp.keep hf) h.lP ao2 cap2 (prs 1 Z) h2)
  rw [hZ] at R1
  generalize prs 1 Z = L at *
  generalize sameAll t.sp L = y at *
  rw [unhide HE]
  clear HE hzb hZ hs h
  obtain ⟨W, hW⟩ : ∃ W, W = w.alloc (.cells (tc A t) 27) := ⟨_, rfl⟩
  have hF0 : Fr (fun _ => False) w W := by rw [hW]; exact (Fr.refl _ w).alloc _
  have hlt : w.heap.size < W.heap.size := by rw [hW, heap_alloc]; exact Nat.lt_succ_self _
  have c1 : W.cell? ⟨w.heap.size, 1, none⟩ = some (.slice A.aP t.sp.length A.cP) := by rw [hW, World.cell?_alloc_new]; rfl
  unfold tv
  unfold tc at *
  go_enter Try.func21, Try.ntmps21
  go_wp2_with fail
  rw [← hW]
  refine (unhide R1 W hF0).mono ?_
  rintro e w1 ⟨rfl, hF1⟩
  go_wp2_with fail
  refine (R2 _).mono ?_
  rintro e w2 ⟨ao, cap, rfl, hC, hF2⟩
  have hF3 := hF1.trans hF2 (fun _ _ t => t)
  have c1' := (hF3.cell (a := ⟨w.heap.size, 1, none⟩) hlt (fun t => t)).trans c1
  have R4 := unhide R3 w2 (hF0.trans hF3 (fun _ _ t => t)) ao cap hC
  have HF := hide (hF0.trans hF3 (fun _ _ t => t))
  clear hF0 hF1 hF2 hF3 hC R1 R2 R3 c1 hlt hW
  go_wp2_with fail
  refine R4.mono ?_
  rintro e w3 ⟨rfl, hF4⟩
  have HF4 := hide ((unhide HF).trans hF4 (fun _ _ t => t))
  clear hF4 R4 c1' HF
  cases y with
  | true =>
    go_wp2_with fail
    refine (must_okT 70 _).mono ?_
    rintro e w4 ⟨rfl, rfl⟩
    go_wp2
    go_end0
    exact ⟨rfl, unhide HF4⟩
  | false =>
    go_wp2_with fail
    refine (must_noT 70 _).mono ?_
    rintro e w4 ⟨rfl, rfl⟩
    go_wp2
    exact ⟨rfl, rfl, unhide HF4⟩

end Go.Proofs.Ytjgbllfppomcmaa

