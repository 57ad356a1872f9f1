import Derived.Test.YtkjoojamkbpfcabGreatQT2
/- The looks at bands and at minutes. -/
namespace Go.Proofs.YtkjoojamkbpfcabGreat
open Go.RowKit

def bdGood (a : Int) (s : Int × Int) : Bool := decide (a ≤ s.1) && decide (s.1 < s.2) && decide (s.2 ≤ 1440)
def bdOk : Int → List (Int × Int) → Bool
  | _, [] => true
  | a, s :: r => bdGood a s && bdOk s.2 r
def bandsOk (l : List (Int × Int)) : Bool := decide (l.length ≤ 8) && bdOk 0 l

theorem bdGood_cases (a : Int) (s : Int × Int) : (bdGood a s = true ∧ a ≤ s.1 ∧ s.1 < s.2 ∧ s.2 ≤ 1440) ∨ (bdGood a s = false ∧ (¬ a ≤ s.1 ∨ (a ≤ s.1 ∧ ¬ s.1 < s.2) ∨ (a ≤ s.1 ∧ s.1 < s.2 ∧ ¬ s.2 ≤ 1440))) := by
  cases h : bdGood a s with
  | true => refine .inl ⟨rfl, ?_⟩; simp [bdGood] at h; omega
  | false =>
    refine .inr ⟨rfl, ?_⟩
    have : ¬ (a ≤ s.1 ∧ s.1 < s.2 ∧ s.2 ≤ 1440) := by
      intro ⟨h1, h2, h3⟩
      simp [bdGood, h1, h2, h3] at h
    omega

theorem lookBands_any (w : World) (ao : Option Addr) (cap : Nat) (l : List (Int × Int)) (h : CAt w ao (bdV l)) (hl : (l.length + 1) * 16 ≤ 140737488355328) :
    Calls Tryz.prog 82 #[.slice ao l.length cap] w fun e w' => e = look (bandsOk l) 70 ∧ Fr (fun _ => False) w w' := by
  by_cases h200 : l.length ≤ 8
  · have HE : Hid (bandsOk l = bdOk 0 l) := hide (by simp [bandsOk, h200])
    have H := hide h
    clear h
    go_enter Tryz.func82, Tryz.ntmps82
    go_wp2_with fail
    refine (must_is (by first | (simp; done) | (simp; omega) | simp_all) 70 _).mono ?_
    rintro e w1 ⟨rfl, rfl⟩
    go_wp2
    go_loopw [2, 4, 11] (fun av _ iv wr => ∃ (i : Nat) (a : Int), i ≤ l.length ∧ iv = .int .i64 i ∧ av = .int .i64 a ∧ Hid (Fr (fun _ => False) w1 wr ∧ bdOk a (l.drop i) = bdOk 0 l)) (fun _ _ iv _ => l.length - (intOf iv).toNat)
    case atStart => exact ⟨0, 0, Nat.zero_le _, rfl, rfl, Fr.refl _ _, by simp⟩
    case round =>
      obtain ⟨i, a, hi, rfl, rfl, HI⟩ := hrel
      by_cases hil : i < l.length
      · obtain ⟨b, off, rfl, c0, c1⟩ := ((unhide H).keep (unhide HI).1).bd hil
        have ht := (unhide HI).2
        rw [List.drop_eq_getElem_cons hil] at ht
        have HF := hide (unhide HI).1
        generalize l[i] = s at *
        obtain ⟨x0, x1⟩ := s
        have HT : Hid (bdOk 0 l = (bdGood a ⟨x0, x1⟩ && bdOk x1 (l.drop (i + 1)))) := hide ht.symm
        clear ht HI
        rcases bdGood_cases a ⟨x0, x1⟩ with ⟨hg, k1, k2, k3⟩ | ⟨hg, k⟩
        · have HT' : Hid (bdOk x1 (l.drop (i + 1)) = bdOk 0 l) := hide (by rw [unhide HT, hg]; rfl)
          clear HT hg
          simp only at k1 k2 k3
          go_wp2_with fail
          refine (must_is (by first | (simp; done) | (simp; omega) | simp_all) 70 _).mono ?_
          rintro e w2 ⟨rfl, rfl⟩
          go_wp2
          exact ⟨⟨i + 1, x1, by omega, by go_num, rfl, ((unhide HF).alloc _).trans (Fr.refl _ _) (fun _ _ t => t), unhide HT'⟩, by simp [intOf]; omega⟩
        · have HT' : Hid (bandsOk l = false) := hide (by rw [unhide HE, unhide HT, hg]; rfl)
          clear HT hg HE
          simp only at k
          rcases k with k | ⟨k1, k⟩ | ⟨k1, k2, k⟩
          all_goals
            go_wp2_with fail
            refine (must_not (by first | (simp; done) | (simp; omega) | simp_all) 70 _).mono ?_
            rintro e w2 ⟨rfl, rfl⟩
            go_wp2
            exact ⟨rfl, by rw [unhide HT']; rfl, ((unhide HF).alloc _).trans (Fr.refl _ _) (fun _ _ t => t)⟩
      · obtain rfl : i = l.length := by omega
        have HT : Hid (bandsOk l = true) := hide (by rw [unhide HE, ← (unhide HI).2, List.drop_length]; rfl)
        have HF := hide (unhide HI).1
        clear HI HE H
        go_wp2
        go_end0
        exact ⟨by rw [unhide HT]; rfl, unhide HF⟩
  · have HT' : Hid (bandsOk l = false) := hide (by simp [bandsOk, h200])
    clear h
    go_enter Tryz.func82, Tryz.ntmps82
    go_wp2_with fail
    refine (must_not (by first | (simp; done) | (simp; omega) | simp_all) 70 _).mono ?_
    rintro e w2 ⟨rfl, rfl⟩
    go_wp2
    exact ⟨rfl, by rw [unhide HT']; rfl, Fr.refl _ _⟩

def minOk (n : Int) : Bool := decide (0 ≤ n) && decide (n ≤ 1440)
def minutesOk (t : Tf) : Bool := decide (1 ≤ t.longest) && ([t.longest, t.hopper, t.change, t.passback, t.delay].all minOk)

theorem min_cases (n : Int) : (minOk n = true ∧ 0 ≤ n ∧ n ≤ 1440) ∨ (minOk n = false ∧ (¬ 0 ≤ n ∨ (0 ≤ n ∧ ¬ n ≤ 1440))) := by
  cases h : minOk n with
  | true => refine .inl ⟨rfl, ?_⟩; simp [minOk] at h; omega
  | false =>
    refine .inr ⟨rfl, ?_⟩
    have : ¬ (0 ≤ n ∧ n ≤ 1440) := by
      intro ⟨h1, h2⟩
      simp [minOk, h1, h2] at h
    omega

theorem lookMinutes_any (w : World) (A : Ad) (t : Tf) : Calls Tryz.prog 85 #[tv A t] w fun e w' => e = look (minutesOk t) 70 ∧ Fr (fun _ => False) w w' := by
  unfold tv tc
  by_cases h1 : 1 ≤ t.longest
  · obtain ⟨l, hl⟩ : ∃ l, [t.longest, t.hopper, t.change, t.passback, t.delay] = l := ⟨_, rfl⟩
    have HE : Hid (minutesOk t = l.all minOk) := hide (by simp [minutesOk, h1, ← hl])
    have HL : Hid (l.length = 5 ∧ ∀ w, CAt (World.alloc w (.cells #[.int .i64 t.longest, .int .i64 t.hopper, .int .i64 t.change, .int .i64 t.passback, .int .i64 t.delay] 3)) (some ⟨w.heap.size, 0, none⟩) (l.map (Value.int .i64))) :=
      hide ⟨by rw [← hl]; rfl, fun w => by rw [← hl]; exact ints5 w _ _ _ _ _⟩
    clear hl
    go_enter Tryz.func85, Tryz.ntmps85
    go_wp2_with fail
    refine (must_is (by first | (simp; done) | (simp; omega) | simp_all) 70 _).mono ?_
    rintro e w2 ⟨rfl, rfl⟩
    go_wp2
    have H := hide ((unhide HL).2 (w.alloc (.cells #[.slice A.aS t.st.length A.cS, .slice A.aP t.sp.length A.cP, .slice A.aB t.bd.length A.cB, .float .f64 t.off, .int .i64 t.bus, .int .i64 t.busDaily, .int .i64 t.busWeekly, .int .i64 t.hopper, .int .i64 t.most, .int .i64 t.longest, .int .i64 t.change, .int .i64 t.passback, .int .i64 t.delay, .int .i64 t.threshold] 37)))
    rw [heap_alloc] at H
    have H5 := (unhide HL).1
    have HF : Hid (Fr (fun _ => False) w _) := hide (((Fr.refl _ w).alloc (.cells #[.slice A.aS t.st.length A.cS, .slice A.aP t.sp.length A.cP, .slice A.aB t.bd.length A.cB, .float .f64 t.off, .int .i64 t.bus, .int .i64 t.busDaily, .int .i64 t.busWeekly, .int .i64 t.hopper, .int .i64 t.most, .int .i64 t.longest, .int .i64 t.change, .int .i64 t.passback, .int .i64 t.delay, .int .i64 t.threshold] 37)).alloc (.cells #[.int .i64 t.longest, .int .i64 t.hopper, .int .i64 t.change, .int .i64 t.passback, .int .i64 t.delay] 3))
    generalize (w.alloc (.cells #[.slice A.aS t.st.length A.cS, .slice A.aP t.sp.length A.cP, .slice A.aB t.bd.length A.cB, .float .f64 t.off, .int .i64 t.bus, .int .i64 t.busDaily, .int .i64 t.busWeekly, .int .i64 t.hopper, .int .i64 t.most, .int .i64 t.longest, .int .i64 t.change, .int .i64 t.passback, .int .i64 t.delay, .int .i64 t.threshold] 37)).alloc (.cells #[.int .i64 t.longest, .int .i64 t.hopper, .int .i64 t.change, .int .i64 t.passback, .int .i64 t.delay] 3) = wm at *
    clear HL
    go_loopw [3, 20] (fun _ iv wr => ∃ (i : Nat), i ≤ 5 ∧ iv = .int .i64 i ∧ wr = wm ∧ Hid ((l.drop i).all minOk = l.all minOk)) (fun _ iv _ => 5 - (intOf iv).toNat)
    case atStart => exact ⟨0, Nat.zero_le _, rfl, rfl, hide (by simp)⟩
    case round =>
      obtain ⟨i, hi, rfl, rfl, HI⟩ := hrel
      by_cases hil : i < 5
      · obtain ⟨b, off, hb, c0⟩ := (unhide H).ints (show i < l.length by omega)
        injection hb with hb
        injection hb with hb1 hb2
        subst hb1 hb2
        rw [Nat.zero_add] at c0
        have ht := unhide HI
        rw [List.drop_eq_getElem_cons (show i < l.length by omega), List.all_cons] at ht
        have HT := hide ht
        clear ht HI
        generalize l[i] = x at *
        rcases min_cases x with ⟨hp, k1, k2⟩ | ⟨hp, k⟩
        · have HT' : Hid ((l.drop (i + 1)).all minOk = l.all minOk) := hide (by rw [← unhide HT, hp]; rfl)
          clear hp HT
          go_wp2_with fail
          refine (must_is (by first | (simp; done) | (simp; omega) | simp_all) 70 _).mono ?_
          rintro e w2 ⟨rfl, rfl⟩
          go_wp2
          exact ⟨⟨i + 1, by omega, by go_num, (by first | rfl | trivial), unhide HT'⟩, by simp [intOf]; omega⟩
        · have HT' : Hid (minutesOk t = false) := hide (by rw [unhide HE, ← unhide HT, hp]; rfl)
          clear hp HT
          rcases k with k | ⟨k1, k⟩
          all_goals
            go_wp2_with fail
            refine (must_not (by first | (simp; done) | (simp; omega) | simp_all) 70 _).mono ?_
            rintro e w2 ⟨rfl, rfl⟩
            go_wp2
            exact ⟨rfl, by rw [unhide HT']; rfl, unhide HF⟩
      · obtain rfl : i = 5 := by omega
        have HT' : Hid (minutesOk t = true) := hide (by rw [unhide HE, ← unhide HI, List.drop_of_length_le (by omega)]; rfl)
        clear HI H
        go_wp2
        go_end0
        exact ⟨by rw [unhide HT']; rfl, unhide HF⟩
  · have HT' : Hid (minutesOk t = false) := hide (by simp [minutesOk, h1])
    go_enter Tryz.func85, Tryz.ntmps85
    go_wp2_with fail
    refine (must_not (by first | (simp; done) | (simp; omega) | simp_all) 70 _).mono ?_
    rintro e w2 ⟨rfl, rfl⟩
    go_wp2
    exact ⟨rfl, by rw [unhide HT']; rfl, (Fr.refl _ w).alloc _⟩

end Go.Proofs.YtkjoojamkbpfcabGreat

/- The looks at prices. -/
namespace Go.Proofs.YtkjoojamkbpfcabGreat
open Go.RowKit

def price (n : Int) : Bool := decide (0 ≤ n) && decide (n ≤ 1048576)

theorem price_cases (n : Int) : (price n = true ∧ 0 ≤ n ∧ n ≤ 1048576) ∨ (price n = false ∧ (¬ 0 ≤ n ∨ (0 ≤ n ∧ ¬ n ≤ 1048576))) := by
  cases h : price n with
  | true => refine .inl ⟨rfl, ?_⟩; simp [price] at h; omega
  | false =>
    refine .inr ⟨rfl, ?_⟩
    have : ¬ (0 ≤ n ∧ n ≤ 1048576) := by
      intro ⟨h1, h2⟩
      simp [price, h1, h2] at h
    omega

theorem isPrice_any (w : World) (n : Int) : Calls Tryz.prog 148 #[.int .i64 n] w fun e w' => e = .returned (.bool (price n)) ∧ w' = w := by
  rcases price_cases n with ⟨hp, h1, h2⟩ | ⟨hp, h1 | ⟨h1, h2⟩⟩
  all_goals
    rw [hp]
    clear hp
    go_enter Tryz.func148, Tryz.ntmps148
    go_wp2
    go_ret
    exact ⟨by first | rfl | (simp; done) | (simp; omega), rfl⟩

theorem mustBePrices_any (w : World) (ao : Option Addr) (cap : Nat) (l : List Int) (h : CAt w ao (l.map (Value.int .i64))) (hl : l.length ≤ 1000) (n : Nat) (hn : n = l.length) :
    Calls Tryz.prog 116 #[.slice ao n cap] w fun e w' => e = look (l.all price) 50 ∧ w' = w := by
  subst hn
  have H := hide h
  clear h
  obtain ⟨y, HY⟩ : ∃ y, Hid (l.all price = y) := ⟨_, rfl⟩
  rw [unhide HY]
  go_enter Tryz.func116, Tryz.ntmps116
  go_wp2
  go_loopw [3, 6] (fun _ iv wr => ∃ (i : Nat), i ≤ l.length ∧ iv = .int .i64 i ∧ wr = w ∧ Hid ((l.drop i).all price = y)) (fun _ iv _ => l.length - (intOf iv).toNat)
  case atStart => exact ⟨0, Nat.zero_le _, rfl, rfl, hide (by simpa using unhide HY)⟩
  case round =>
    obtain ⟨i, hi, rfl, rfl, HI⟩ := hrel
    by_cases hil : i < l.length
    · obtain ⟨b, off, rfl, c0⟩ := (unhide H).ints hil
      have ht := unhide HI
      rw [List.drop_eq_getElem_cons hil, List.all_cons] at ht
      have HT := hide ht
      clear ht HI
      generalize l[i] = x at *
      have R := isPrice_any wr x
      cases hp : price x with
      | true =>
        have HT' : Hid ((l.drop (i + 1)).all price = y) := hide (by rw [← unhide HT, hp]; rfl)
        rw [hp] at R
        clear hp HT
        go_wp2_with fail
        refine R.mono ?_
        rintro e w2 ⟨rfl, rfl⟩
        go_wp2_with fail
        refine (must_okT 50 _).mono ?_
        rintro e w2 ⟨rfl, rfl⟩
        go_wp2
        exact ⟨⟨i + 1, by omega, by go_num, (by first | rfl | trivial), unhide HT'⟩, by simp [intOf]; omega⟩
      | false =>
        have HT' : Hid (y = false) := hide (by rw [← unhide HT, hp]; rfl)
        rw [hp] at R
        clear hp HT HY
        go_wp2_with fail
        refine R.mono ?_
        rintro e w2 ⟨rfl, rfl⟩
        go_wp2_with fail
        refine (must_noT 50 _).mono ?_
        rintro e w2 ⟨rfl, rfl⟩
        go_wp2
        exact ⟨rfl, by rw [unhide HT']; rfl, rfl⟩
    · obtain rfl : i = l.length := by omega
      have HT' : Hid (y = true) := hide (by rw [← unhide HI, List.drop_length]; rfl)
      clear HI HY H
      go_wp2
      go_end0
      exact ⟨by rw [unhide HT']; rfl, rfl⟩

def spPrices (s : Spn) : Bool := [s.single, s.daily, s.weekly].all price
def pricesOk (t : Tf) : Bool := [t.bus, t.busDaily, t.busWeekly, t.most, t.threshold].all price && t.sp.all spPrices

theorem lookPrices_any (w : World) (A : Ad) (t : Tf) (h : TAt w A t) : Calls Tryz.prog 80 #[tv A t] w fun e w' => e = look (pricesOk t) 50 ∧ Fr (fun _ => False) w w' := by
  have R5 := mustBePrices_any _ _ 5 [t.bus, t.busDaily, t.busWeekly, t.most, t.threshold] (ints5 (w.alloc (.cells (tc A t) 37)) _ _ _ _ _) (by simp) 5 rfl
  rw [heap_alloc] at R5
  have HE : Hid (pricesOk t = ([t.bus, t.busDaily, t.busWeekly, t.most, t.threshold].all price && t.sp.all spPrices)) := rfl
  generalize [t.bus, t.busDaily, t.busWeekly, t.most, t.threshold].all price = p5 at *
  have HF0 : Hid (Fr (fun _ => False) w ((w.alloc (.cells (tc A t) 37)).alloc (.cells #[.int .i64 t.bus, .int .i64 t.busDaily, .int .i64 t.busWeekly, .int .i64 t.most, .int .i64 t.threshold] 3))) := hide (((Fr.refl _ w).alloc _).alloc _)
  cases p5 with
  | false =>
    have HT' : Hid (pricesOk t = false) := hide (by rw [unhide HE]; rfl)
    rw [look_false] at R5
    clear h HE
    unfold tv
    unfold tc at *
    go_enter Tryz.func80, Tryz.ntmps80
    go_wp2_with fail
    refine R5.mono ?_
    rintro e w2 ⟨rfl, rfl⟩
    clear R5
    go_wp2
    exact ⟨rfl, by rw [unhide HT']; rfl, unhide HF0⟩
  | true =>
    rw [look_true] at R5
    have HE' : Hid (pricesOk t = t.sp.all spPrices) := hide (by rw [unhide HE]; rfl)
    have hl := h.lP
    have H := hide h.sp
    have c1 : ((w.alloc (.cells (tc A t) 37)).alloc (.cells #[.int .i64 t.bus, .int .i64 t.busDaily, .int .i64 t.busWeekly, .int .i64 t.most, .int .i64 t.threshold] 3)).cell? ⟨w.heap.size, 1, none⟩ = some (.slice A.aP t.sp.length A.cP) := by
      rw [World.cell?_alloc_lt _ _ _ (by rw [heap_alloc]; exact Nat.lt_succ_self _), World.cell?_alloc_new]
      rfl
    clear h HE
    unfold tv
    unfold tc at *
    go_enter Tryz.func80, Tryz.ntmps80
    go_wp2_with fail
    refine R5.mono ?_
    rintro e w2 ⟨rfl, rfl⟩
    clear R5
    generalize (w.alloc (.cells #[.slice A.aS t.st.length A.cS, .slice A.aP t.sp.length A.cP, .slice A.aB t.bd.length A.cB, .float .f64 t.off, .int .i64 t.bus, .int .i64 t.busDaily, .int .i64 t.busWeekly, .int .i64 t.hopper, .int .i64 t.most, .int .i64 t.longest, .int .i64 t.change, .int .i64 t.passback, .int .i64 t.delay, .int .i64 t.threshold] 37)).alloc (.cells #[.int .i64 t.bus, .int .i64 t.busDaily, .int .i64 t.busWeekly, .int .i64 t.most, .int .i64 t.threshold] 3) = wm at *
    have H' := hide ((unhide H).keep (unhide HF0))
    clear H
    go_wp2
    clear c1
    go_loopw [3, 19] (fun _ iv wr => ∃ (i : Nat), i ≤ t.sp.length ∧ iv = .int .i64 i ∧ Hid (Fr (fun _ => False) wm wr ∧ (t.sp.drop i).all spPrices = t.sp.all spPrices)) (fun _ iv _ => t.sp.length - (intOf iv).toNat)
    case atStart => exact ⟨0, Nat.zero_le _, rfl, Fr.refl _ _, by simp⟩
    case round =>
      obtain ⟨i, hi, rfl, HI⟩ := hrel
      by_cases hil : i < t.sp.length
      · obtain ⟨b, off, eA, c0, c1, c2, c3, c4⟩ := ((unhide H').keep (unhide HI).1).sp hil
        have ht := (unhide HI).2
        rw [List.drop_eq_getElem_cons hil, List.all_cons] at ht
        have HT := hide ht
        have HF := hide (unhide HI).1
        clear ht HI
        generalize t.sp[i] = s at *
        obtain ⟨x0, x1, x2, x3, x4⟩ := s
        simp only at c0 c1 c2 c3 c4
        have R3 := mustBePrices_any _ _ 3 [x2, x3, x4] (ints3 (wr.alloc (.cells #[.int .i64 x0, .int .i64 x1, .int .i64 x2, .int .i64 x3, .int .i64 x4] 110)) _ _ _) (by simp) 3 rfl
        rw [heap_alloc] at R3
        have HS : Hid (spPrices ⟨x0, x1, x2, x3, x4⟩ = [x2, x3, x4].all price) := rfl
        generalize [x2, x3, x4].all price = q at *
        rw [eA]
        cases q with
        | true =>
          rw [look_true] at R3
          have HT' : Hid ((t.sp.drop (i + 1)).all spPrices = t.sp.all spPrices) := hide (by rw [← unhide HT, unhide HS]; rfl)
          clear HT HS
          go_wp2_with fail
          refine R3.mono ?_
          rintro e w2 ⟨rfl, rfl⟩
          go_wp2
          exact ⟨⟨i + 1, by omega, by go_num, (((unhide HF).alloc _).alloc _), unhide HT'⟩, by simp [intOf]; omega⟩
        | false =>
          rw [look_false] at R3
          have HT' : Hid (pricesOk t = false) := hide (by rw [unhide HE', ← unhide HT, unhide HS]; rfl)
          clear HT HS
          go_wp2_with fail
          refine R3.mono ?_
          rintro e w2 ⟨rfl, rfl⟩
          go_wp2
          exact ⟨rfl, by rw [unhide HT']; rfl, (unhide HF0).trans (((unhide HF).alloc _).alloc _) (fun _ _ t => t)⟩
      · obtain rfl : i = t.sp.length := by omega
        have HT' : Hid (pricesOk t = true) := hide (by rw [unhide HE', ← (unhide HI).2, List.drop_length]; rfl)
        have HF := hide ((unhide HF0).trans (unhide HI).1 (fun _ _ t => t))
        clear HI H' HE'
        go_wp2
        go_end0
        exact ⟨by rw [unhide HT']; rfl, unhide HF⟩

end Go.Proofs.YtkjoojamkbpfcabGreat

/- The look at what lies within. -/
namespace Go.Proofs.YtkjoojamkbpfcabGreat
open Go.RowKit

def withinB (s o : Spn) : Bool := decide (o.fr ≤ s.fr) && decide (s.to ≤ o.to)
def noDearer (s o : Spn) : Bool := decide (s.single ≤ o.single) && decide (s.daily ≤ o.daily) && decide (s.weekly ≤ o.weekly)
def fits (o s : Spn) : Bool := !withinB s o || noDearer s o
def withinOk (l : List Spn) : Bool := l.all fun o => l.all fun s => fits o s

theorem isWithin_any (w : World) (s o : Spn) : Calls Tryz.prog 117 #[.agg #[.int .i64 s.fr, .int .i64 s.to, .int .i64 s.single, .int .i64 s.daily, .int .i64 s.weekly], .agg #[.int .i64 o.fr, .int .i64 o.to, .int .i64 o.single, .int .i64 o.daily, .int .i64 o.weekly]] w
    fun e w' => e = .returned (.bool (withinB s o)) ∧ Fr (fun _ => False) w w' := by
  unfold withinB
  obtain ⟨x0, x1, x2, x3, x4⟩ := s
  obtain ⟨y0, y1, y2, y3, y4⟩ := o
  by_cases h1 : y0 ≤ x0
  · by_cases h2 : x1 ≤ y1
    all_goals
      go_enter Tryz.func117, Tryz.ntmps117
      go_wp2
      go_ret
      exact ⟨by first | (simp; done) | (simp; omega) | simp_all, ((Fr.refl _ w).alloc _).alloc _⟩
  · go_enter Tryz.func117, Tryz.ntmps117
    go_wp2
    go_ret
    exact ⟨by first | (simp; done) | (simp; omega) | simp_all, ((Fr.refl _ w).alloc _).alloc _⟩

theorem noDearer_any (w : World) (s o : Spn) : Calls Tryz.prog 118 #[.agg #[.int .i64 s.fr, .int .i64 s.to, .int .i64 s.single, .int .i64 s.daily, .int .i64 s.weekly], .agg #[.int .i64 o.fr, .int .i64 o.to, .int .i64 o.single, .int .i64 o.daily, .int .i64 o.weekly]] w
    fun e w' => e = .returned (.bool (noDearer s o)) ∧ Fr (fun _ => False) w w' := by
  unfold noDearer
  obtain ⟨x0, x1, x2, x3, x4⟩ := s
  obtain ⟨y0, y1, y2, y3, y4⟩ := o
  by_cases h1 : x2 ≤ y2
  · by_cases h2 : x3 ≤ y3
    · by_cases h3 : x4 ≤ y4
      all_goals
        go_enter Tryz.func118, Tryz.ntmps118
        go_wp2
        go_ret
        exact ⟨by first | (simp; done) | (simp; omega) | simp_all, ((Fr.refl _ w).alloc _).alloc _⟩
    · go_enter Tryz.func118, Tryz.ntmps118
      go_wp2
      go_ret
      exact ⟨by first | (simp; done) | (simp; omega) | simp_all, ((Fr.refl _ w).alloc _).alloc _⟩
  · go_enter Tryz.func118, Tryz.ntmps118
    go_wp2
    go_ret
    exact ⟨by first | (simp; done) | (simp; omega) | simp_all, ((Fr.refl _ w).alloc _).alloc _⟩

theorem lookWithin_any (w : World) (ao : Option Addr) (cap : Nat) (l : List Spn) (h : CAt w ao (spV l)) (hl : (l.length + 1) * 40 ≤ 140737488355328) :
    Calls Tryz.prog 81 #[.slice ao l.length cap] w fun e w' => e = look (withinOk l) 70 ∧ Fr (fun _ => False) w w' := by
  have H := hide h
  have HW := isWithin_any
  have HD := noDearer_any
  have HE : Hid (withinOk l = l.all fun o => l.all fun s => fits o s) := rfl
  generalize withinOk l = y at *
  clear h
  go_enter Tryz.func81, Tryz.ntmps81
  go_wp2
  go_loopw [3, 5, 8, 12, 13, 14] (fun _ _ iv _ _ _ wr => ∃ (i : Nat), i ≤ l.length ∧ iv = .int .i64 i ∧ Hid (Fr (fun _ => False) w wr ∧ ((l.drop i).all fun o => l.all fun s => fits o s) = y)) (fun _ _ iv _ _ _ _ => l.length - (intOf iv).toNat)
  case atStart => exact ⟨0, Nat.zero_le _, rfl, Fr.refl _ _, by rw [unhide HE]; simp⟩
  case round =>
    obtain ⟨i, hi, rfl, HI⟩ := hrel
    by_cases hil : i < l.length
    · obtain ⟨b, off, rfl, c0, c1, c2, c3, c4⟩ := ((unhide H).keep (unhide HI).1).sp hil
      have ht := (unhide HI).2
      rw [List.drop_eq_getElem_cons hil, List.all_cons] at ht
      have HT := hide ht
      have HF := hide (unhide HI).1
      clear ht HI
      generalize l[i] = o at *
      have HO : Hid (∀ wq, Fr (fun _ => False) (wr.alloc (.cells #[.int .i64 o.fr, .int .i64 o.to, .int .i64 o.single, .int .i64 o.daily, .int .i64 o.weekly] 110)) wq → wq.cell? ⟨wr.heap.size, 0, none⟩ = some (.int .i64 o.fr) ∧ wq.cell? ⟨wr.heap.size, 1, none⟩ = some (.int .i64 o.to) ∧ wq.cell? ⟨wr.heap.size, 2, none⟩ = some (.int .i64 o.single) ∧ wq.cell? ⟨wr.heap.size, 3, none⟩ = some (.int .i64 o.daily) ∧ wq.cell? ⟨wr.heap.size, 4, none⟩ = some (.int .i64 o.weekly)) := by
        refine hide fun wq hq => ?_
        have hlt : wr.heap.size < (wr.alloc (.cells #[.int .i64 o.fr, .int .i64 o.to, .int .i64 o.single, .int .i64 o.daily, .int .i64 o.weekly] 110)).heap.size := by rw [heap_alloc]; exact Nat.lt_succ_self _
        refine ⟨?_, ?_, ?_, ?_, ?_⟩ <;> (rw [hq.cell hlt (fun t => t), World.cell?_alloc_new]; rfl)
      have HF1 := hide ((unhide HF).alloc (.cells #[.int .i64 o.fr, .int .i64 o.to, .int .i64 o.single, .int .i64 o.daily, .int .i64 o.weekly] 110))
      go_wp2
      generalize wr.alloc (.cells #[.int .i64 o.fr, .int .i64 o.to, .int .i64 o.single, .int .i64 o.daily, .int .i64 o.weekly] 110) = wo at *
      generalize wr.heap.size = N at *
      clear c0 c1 c2 c3 c4 HF
      go_loopw [5, 14] (fun _ kv wq => ∃ (k : Nat), k ≤ l.length ∧ kv = .int .i64 k ∧ Hid (Fr (fun _ => False) wo wq ∧ (l.drop k).all (fits o) = l.all (fits o))) (fun _ kv _ => l.length - (intOf kv).toNat)
      case atStart => exact ⟨0, Nat.zero_le _, rfl, Fr.refl _ _, by simp⟩
      case round =>
        obtain ⟨k, hk, rfl, HK⟩ := hrel
        by_cases hkl : k < l.length
        · obtain ⟨b', off', eA, d0, d1, d2, d3, d4⟩ := ((unhide H).keep ((unhide HF1).trans (unhide HK).1 (fun _ _ t => t))).sp hkl
          injection eA with eA
          injection eA with eA1 eA2
          subst eA1 eA2
          have hu := (unhide HK).2
          rw [List.drop_eq_getElem_cons hkl, List.all_cons] at hu
          have HU := hide hu
          have HF2 := hide (unhide HK).1
          clear hu HK
          generalize l[k] = s at *
          obtain ⟨o0, o1, o2, o3, o4⟩ := unhide HO _ ((unhide HF2).alloc (.cells #[.int .i64 s.fr, .int .i64 s.to, .int .i64 s.single, .int .i64 s.daily, .int .i64 s.weekly] 110))
          have HS : Hid (fits o s = (!withinB s o || noDearer s o)) := rfl
          have RW := fun w => HW w s o
          have RD := fun w => HD w s o
          generalize withinB s o = p at *
          generalize noDearer s o = q at *
          have HF2' := hide ((unhide HF2).alloc (.cells #[.int .i64 s.fr, .int .i64 s.to, .int .i64 s.single, .int .i64 s.daily, .int .i64 s.weekly] 110))
          have HG : Hid (∀ wz, Fr (fun _ => False) (wr.alloc (.cells #[.int .i64 s.fr, .int .i64 s.to, .int .i64 s.single, .int .i64 s.daily, .int .i64 s.weekly] 110)) wz → wz.cell? ⟨wr.heap.size, 0, none⟩ = some (.int .i64 s.fr) ∧ wz.cell? ⟨wr.heap.size, 1, none⟩ = some (.int .i64 s.to) ∧ wz.cell? ⟨wr.heap.size, 2, none⟩ = some (.int .i64 s.single) ∧ wz.cell? ⟨wr.heap.size, 3, none⟩ = some (.int .i64 s.daily) ∧ wz.cell? ⟨wr.heap.size, 4, none⟩ = some (.int .i64 s.weekly)) := by
            refine hide fun wz hq => ?_
            have hlt : wr.heap.size < (wr.alloc (.cells #[.int .i64 s.fr, .int .i64 s.to, .int .i64 s.single, .int .i64 s.daily, .int .i64 s.weekly] 110)).heap.size := by rw [heap_alloc]; exact Nat.lt_succ_self _
            refine ⟨?_, ?_, ?_, ?_, ?_⟩ <;> (rw [hq.cell hlt (fun t => t), World.cell?_alloc_new]; rfl)
          cases p with
          | false =>
            have HU' : Hid ((l.drop (k + 1)).all (fits o) = l.all (fits o)) := hide (by rw [← unhide HU, unhide HS]; rfl)
            clear HU HS HG
            go_wp2_with fail
            refine (RW _).mono ?_
            rintro e w2 ⟨rfl, hF2⟩
            have HF3 := hide ((unhide HF2').trans hF2 (fun _ _ t => t))
            clear hF2
            go_wp2_with fail
            refine (must_is (by first | (simp; done) | (simp; omega) | simp_all) 70 _).mono ?_
            rintro e w3 ⟨rfl, rfl⟩
            go_wp2
            exact ⟨⟨k + 1, by omega, by go_num, unhide HF3, unhide HU'⟩, by simp [intOf]; omega⟩
          | true =>
            cases q with
            | true =>
              have HU' : Hid ((l.drop (k + 1)).all (fits o) = l.all (fits o)) := hide (by rw [← unhide HU, unhide HS]; rfl)
              clear HU HS
              go_wp2_with fail
              refine (RW _).mono ?_
              rintro e w2 ⟨rfl, hF2⟩
              have HF3 := hide ((unhide HF2').trans hF2 (fun _ _ t => t))
              obtain ⟨p0, p1, p2, p3, p4⟩ := unhide HO _ (unhide HF3)
              obtain ⟨s0, s1, s2, s3, s4⟩ := unhide HG _ hF2
              clear hF2
              go_wp2_with fail
              refine (RD _).mono ?_
              rintro e w3 ⟨rfl, hF3⟩
              have HF4 := hide ((unhide HF3).trans hF3 (fun _ _ t => t))
              clear hF3
              go_wp2_with fail
              refine (must_is (by first | (simp; done) | (simp; omega) | simp_all) 70 _).mono ?_
              rintro e w4 ⟨rfl, rfl⟩
              go_wp2
              exact ⟨⟨k + 1, by omega, by go_num, unhide HF4, unhide HU'⟩, by simp [intOf]; omega⟩
            | false =>
              have HT' : Hid (y = false) := hide (by rw [← unhide HT, ← unhide HU, unhide HS]; rfl)
              clear HU HS
              go_wp2_with fail
              refine (RW _).mono ?_
              rintro e w2 ⟨rfl, hF2⟩
              have HF3 := hide ((unhide HF2').trans hF2 (fun _ _ t => t))
              obtain ⟨p0, p1, p2, p3, p4⟩ := unhide HO _ (unhide HF3)
              obtain ⟨s0, s1, s2, s3, s4⟩ := unhide HG _ hF2
              clear hF2
              go_wp2_with fail
              refine (RD _).mono ?_
              rintro e w3 ⟨rfl, hF3⟩
              have HF4 := hide ((unhide HF3).trans hF3 (fun _ _ t => t))
              clear hF3
              go_wp2_with fail
              refine (must_not (by first | (simp; done) | (simp; omega) | simp_all) 70 _).mono ?_
              rintro e w4 ⟨rfl, rfl⟩
              go_wp2
              exact ⟨rfl, by rw [unhide HT']; rfl, (unhide HF1).trans (unhide HF4) (fun _ _ t => t)⟩
        · obtain rfl : k = l.length := by omega
          have HU : Hid (l.all (fits o) = true) := hide (by rw [← (unhide HK).2, List.drop_length]; rfl)
          have HT' : Hid (((l.drop (i + 1)).all fun o => l.all fun s => fits o s) = y) := hide (by
            have h2 := unhide HT
            rw [show (l.all fun s => fits o s) = true from unhide HU] at h2
            exact h2)
          have HF := hide ((unhide HF1).trans (unhide HK).1 (fun _ _ t => t))
          clear HK HU HT HO HF1
          go_wp2
          exact ⟨⟨i + 1, by omega, by go_num, unhide HF, unhide HT'⟩, by simp [intOf]; omega⟩
    · obtain rfl : i = l.length := by omega
      have HT' : Hid (y = true) := hide (by rw [← (unhide HI).2, List.drop_length]; rfl)
      have HF := hide (unhide HI).1
      clear HI H HE
      go_wp2
      go_end0
      exact ⟨by rw [unhide HT']; rfl, unhide HF⟩

end Go.Proofs.YtkjoojamkbpfcabGreat

