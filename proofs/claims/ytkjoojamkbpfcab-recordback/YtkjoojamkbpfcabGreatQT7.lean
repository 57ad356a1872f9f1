import Derived.Test.YtkjoojamkbpfcabGreatQT6
import Derived.Test.YtkjoojamkbpfcabGreatQK1
/- The look at zones: greatestZone, bareSpans, EqualFunc, lookAtZones. -/
namespace Go.Proofs.YtkjoojamkbpfcabGreat
open Go.RowKit

def zmax : Int → List Stn → Int
  | z, [] => z
  | z, s :: r => zmax (max z s.zone) r

theorem zmax_bound : ∀ (l : List Stn) (a z : Int), stOk a l = true → 1 ≤ z → z ≤ 9 → 1 ≤ zmax z l ∧ zmax z l ≤ 9
  | [], _, z, _, h1, h2 => ⟨h1, h2⟩
  | s :: r, a, z, h, h1, h2 => by
    have h' : stGood a s = true ∧ stOk s.id r = true := by simpa [stOk] using h
    rcases stGood_cases a s with ⟨_, _, _, k3, k4, _, _⟩ | ⟨hg, _⟩
    · exact zmax_bound r s.id (max z s.zone) h'.2 (by omega) (by omega)
    · rw [h'.1] at hg; cases hg

theorem greatest_any (w : World) (ao : Option Addr) (cap : Nat) (l : List Stn) (h : CAt w ao (stV l)) (hl : (l.length + 1) * 24 ≤ 140737488355328) :
    Calls Tryz.prog 112 #[.slice ao l.length cap] w fun e w' => e = .returned (.int .i64 (zmax 1 l)) ∧ Fr (fun _ => False) w w' := by
  have H := hide h
  obtain ⟨y, HY⟩ : ∃ y, Hid (zmax 1 l = y) := ⟨_, rfl⟩
  rw [unhide HY]
  clear h
  go_enter Tryz.func112, Tryz.ntmps112
  go_wp2
  go_loopw [3, 5, 8] (fun zv _ iv wr => ∃ (i : Nat) (z : Int), i ≤ l.length ∧ iv = .int .i64 i ∧ zv = .int .i64 z ∧ Hid (Fr (fun _ => False) w wr ∧ zmax z (l.drop i) = y)) (fun _ _ iv _ => l.length - (intOf iv).toNat)
  case atStart => exact ⟨0, 1, Nat.zero_le _, rfl, rfl, Fr.refl _ _, by simpa using unhide HY⟩
  case round =>
    obtain ⟨i, z, hi, rfl, rfl, HI⟩ := hrel
    by_cases hil : i < l.length
    · obtain ⟨b, off, rfl, c0, c1, c2⟩ := ((unhide H).keep (unhide HI).1).st hil
      have ht := (unhide HI).2
      rw [List.drop_eq_getElem_cons hil] at ht
      have HF := hide (unhide HI).1
      generalize l[i] = s at *
      obtain ⟨x0, x1, x2⟩ := s
      have HT : Hid (zmax (max z x1) (l.drop (i + 1)) = y) := hide ht
      clear ht HI
      rcases Int.lt_trichotomy z x1 with hz | hz | hz
      · rw [Int.max_eq_right (by omega)] at HT
        go_wp2
        exact ⟨⟨i + 1, _, by omega, by go_num, rfl, (unhide HF).alloc _, unhide HT⟩, by simp [intOf]; omega⟩
      · subst hz
        rw [Int.max_self] at HT
        go_wp2
        exact ⟨⟨i + 1, _, by omega, by go_num, rfl, (unhide HF).alloc _, unhide HT⟩, by simp [intOf]; omega⟩
      · rw [Int.max_eq_left (by omega)] at HT
        go_wp2
        exact ⟨⟨i + 1, _, by omega, by go_num, rfl, (unhide HF).alloc _, unhide HT⟩, by simp [intOf]; omega⟩
    · obtain rfl : i = l.length := by omega
      have HT : Hid (y = z) := hide (by rw [← (unhide HI).2, List.drop_length]; rfl)
      have HF := hide (unhide HI).1
      clear HI H HY
      go_wp2
      go_ret
      exact ⟨by rw [unhide HT]; rfl, unhide HF⟩

/-- From a zone to so many more, from the one on. -/
def toL (f : Int) : Int → Nat → List (Int × Int)
  | _, 0 => []
  | t, n + 1 => (f, t) :: toL f (t + 1) n
/-- All pairs of zones from one on. -/
def prs : Int → Nat → List (Int × Int)
  | _, 0 => []
  | f, n + 1 => toL f f (n + 1) ++ prs (f + 1) n

theorem toL_length (f : Int) : ∀ (t : Int) (n : Nat), (toL f t n).length = n
  | _, 0 => rfl
  | t, n + 1 => by rw [toL, List.length_cons, toL_length f (t + 1) n]

theorem prs_length : ∀ (f : Int) (n : Nat), (prs f n).length ≤ n * n
  | _, 0 => Nat.zero_le _
  | f, n + 1 => by
    rw [prs, List.length_append, toL_length]
    have := prs_length (f + 1) n
    rw [Nat.add_mul, Nat.mul_add]
    omega

def mk (p : Int × Int) : Spn := ⟨p.1, p.2, 0, 0, 0⟩

theorem info39 : (Tryz.prog.info? 110).map (fun i => (i.zero, i.size, i.bytes)) = some (some (.agg #[.int .i64 0, .int .i64 0, .int .i64 0, .int .i64 0, .int .i64 0]), 5, 40) := by kernel_rfl

theorem src_new (w : World) (f t : Int) : Src Tryz.prog 5 33 (.slice (some ⟨w.heap.size, 0, none⟩) 1 1) 1 (spV [mk (f, t)]) (w.alloc (.cells #[.int .i64 f, .int .i64 t, .int .i64 0, .int .i64 0, .int .i64 0] 110)) := by
  refine Src.ofSlice _ Tryz.underlying33 ⟨w.heap.size, 0, none⟩ 1 1 _ rfl (fun j u hj => ?_) (spV_one _)
  rw [Addr.add_lit, Nat.zero_add, World.cell?_alloc_new]
  match j, hj with
  | 0, hj => exact hj
  | 1, hj => exact hj
  | 2, hj => exact hj
  | 3, hj => exact hj
  | 4, hj => exact hj
  | j + 5, hj => simp [spV, spC] at hj

theorem KRow.cat {w : World} {ao : Option Addr} {cap g k : Nat} {vs : List Value} (h : KRow w ao cap g k vs) : CAt w ao vs := fun hl => by
  have hc : 0 < cap := by
    rcases Nat.eq_zero_or_pos cap with e | e
    · have := h.le; rw [e] at this; omega
    · exact e
  exact ⟨g, 0, h.ad hc, fun j hj => by rw [Nat.zero_add]; exact h.cells j hj⟩

theorem spV_append (l m : List Spn) : spV (l ++ m) = spV l ++ spV m := by simp [spV]

theorem bareSpans_any (w : World) (Z : Nat) (hZ : Z ≤ 9) :
    Calls Tryz.prog 111 #[.int .i64 (Z : Int)] w fun e w' => ∃ ao cap, e = .returned (.slice ao (prs 1 Z).length cap) ∧ CAt w' ao (spV ((prs 1 Z).map mk)) ∧ Fr (fun _ => False) w w' := by
  obtain ⟨info, hi, hzz⟩ := Option.map_eq_some_iff.1 info39
  simp only [Prod.mk.injEq] at hzz
  obtain ⟨hz0, hz1, hz2⟩ := hzz
  obtain ⟨L, hL⟩ : ∃ L, prs 1 Z = L := ⟨_, rfl⟩
  have HL : Hid (L.length ≤ 81) := hide (by
    rw [← hL]
    exact Nat.le_trans (prs_length 1 Z) (Nat.mul_le_mul hZ hZ))
  have HI0 : Hid (info.zero = some (.agg #[.int .i64 0, .int .i64 0, .int .i64 0, .int .i64 0, .int .i64 0]) ∧ info.size = 5 ∧ info.bytes = 40 ∧ Tryz.prog.info? 110 = some info) := hide ⟨hz0, hz1, hz2, hi⟩
  rw [hL]
  have HL0 := hide hL
  clear hL hz0 hz1 hz2 hi
  go_enter Tryz.func111, Tryz.ntmps111
  go_wp2
  go_loopw [3, 4, 5] (fun lv fv _ wr => ∃ (n : Nat) (f : Int) (acc : List (Int × Int)) (ao : Option Addr) (cap g : Nat), n ≤ 9 ∧ f + n = (Z : Int) + 1 ∧ 1 ≤ f ∧ fv = .int .i64 f ∧ lv = .slice ao acc.length cap ∧ Hid (acc ++ prs f n = L ∧ KRow wr ao cap g 5 (spV (acc.map mk)) ∧ Fr (fun _ => False) w wr ∧ (0 < cap → w.heap.size ≤ g))) (fun _ fv _ _ => Z + 1 - (intOf fv).toNat)
  case atStart => exact ⟨Z, 1, [], none, 0, 0, hZ, by omega, by omega, rfl, rfl, by simpa using unhide HL0, KRow.nil _ _ _, Fr.refl _ _, fun h => absurd h (by omega)⟩
  case round =>
    obtain ⟨n, f, acc, ao, cap, g, hn, hf, hf1, rfl, rfl, HI⟩ := hrel
    by_cases hlt : f ≤ (Z : Int)
    · obtain ⟨n, rfl⟩ : ∃ m, n = m + 1 := ⟨n - 1, by omega⟩
      go_wp2
      go_loopw [3, 5] (fun lv tv wq => ∃ (m : Nat) (t : Int) (acc : List (Int × Int)) (ao : Option Addr) (cap g : Nat), m ≤ 9 ∧ t + m = (Z : Int) + 1 ∧ f ≤ t ∧ tv = .int .i64 t ∧ lv = .slice ao acc.length cap ∧ Hid (acc ++ (toL f t m ++ prs (f + 1) n) = L ∧ KRow wq ao cap g 5 (spV (acc.map mk)) ∧ Fr (fun _ => False) w wq ∧ (0 < cap → w.heap.size ≤ g))) (fun _ tv _ => Z + 1 - (intOf tv).toNat)
      case atStart => exact ⟨n + 1, f, acc, ao, cap, g, hn, by omega, by omega, rfl, rfl, (unhide HI).1, (unhide HI).2⟩
      case round =>
        obtain ⟨m, t, acc, ao, cap, g, hm, ht, ht1, rfl, rfl, HJ⟩ := hrel
        by_cases hlt2 : t ≤ (Z : Int)
        · obtain ⟨m, rfl⟩ : ∃ q, m = q + 1 := ⟨m - 1, by omega⟩
          have hlen : acc.length + 1 ≤ 81 := by
            have h1 := congrArg List.length (unhide HJ).1
            have h2 := unhide HL
            rw [List.length_append, List.length_append, toL_length] at h1
            omega
          have hK := (unhide HJ).2.1.keep (by omega) ((Fr.refl _ wr).alloc (.cells #[.int .i64 f, .int .i64 t, .int .i64 0, .int .i64 0, .int .i64 0] 110))
          have hS := src_new wr f t
          have hvl : (spV (acc.map mk)).length = acc.length * 5 := by rw [spV_length, List.length_map]
          go_wp2_with (at_builtin; refine wpList_append_krow _ rfl (.tmp 17) (.tmp 21) 33 33 rfl 110 info _ 5 (by omega) Tryz.underlying33 (unhide HI0).2.2.2 (unhide HI0).1 rfl (unhide HI0).2.1 rfl hK hvl _ _ 1 rfl hS (by rw [(unhide HI0).2.2.1]; omega) (by omega) ?_)
          intro ao' cap' w' g' hK' hG
          have HK : Hid (acc ++ [(f, t)] ++ (toL f (t + 1) m ++ prs (f + 1) n) = L ∧ KRow w' ao' cap' g' 5 (spV ((acc ++ [(f, t)]).map mk)) ∧ Fr (fun _ => False) w w' ∧ (0 < cap' → w.heap.size ≤ g')) := by
            obtain ⟨j1, j2, j3, j4⟩ := unhide HJ
            have h0 := j3.alloc (.cells #[.int .i64 f, .int .i64 t, .int .i64 0, .int .i64 0, .int .i64 0] 110)
            refine hide ⟨by rw [← j1, toL]; simp, by rw [List.map_append, spV_append]; exact hK', ?_, ?_⟩
            · rcases hG with ⟨_, _, hF⟩ | ⟨_, _, hF⟩
              · exact h0.trans hF (fun q hq hh => by have := j4 hh.2; omega)
              · exact h0.trans hF (fun _ _ t => t)
            · intro hc
              rcases hG with ⟨e1, e2, _⟩ | ⟨e1, _, _⟩
              · rw [e1]; exact j4 (by omega)
              · exact Nat.le_trans h0.size e1
          clear HJ hK' hG hK hS hvl
          go_wp2
          exact ⟨⟨m, t + 1, acc ++ [(f, t)], ao', cap', g', by omega, by omega, by omega, by go_num, by simp, unhide HK⟩, by simp [intOf]; omega⟩
        · obtain rfl : m = 0 := by omega
          have HK : Hid (acc ++ prs (f + 1) n = L ∧ KRow wr ao cap g 5 (spV (acc.map mk)) ∧ Fr (fun _ => False) w wr ∧ (0 < cap → w.heap.size ≤ g)) := hide ⟨by have := (unhide HJ).1; simpa [toL] using this, (unhide HJ).2⟩
          clear HJ
          go_wp2
          exact ⟨⟨n, f + 1, acc, ao, cap, g, by omega, by omega, by omega, by go_num, rfl, unhide HK⟩, by simp [intOf]; omega⟩
    · obtain rfl : n = 0 := by omega
      obtain ⟨j1, j2, j3, j4⟩ := unhide HI
      have HE : Hid (acc = L) := hide (by simpa [prs] using j1)
      have HC := hide (And.intro j2.cat j3)
      clear j1 j2 j3 j4 HI
      go_wp2
      go_ret
      exact ⟨ao, ⟨cap, by rw [← unhide HE]; rfl⟩, by rw [← unhide HE]; exact (unhide HC).1, (unhide HC).2⟩

/-- Are the spans just those of these zones? -/
def sameAll : List Spn → List (Int × Int) → Bool
  | [], [] => true
  | s :: r, p :: q => (s.fr == p.1 && s.to == p.2) && sameAll r q
  | _, _ => false

theorem sameAll_length : ∀ (l : List Spn) (q : List (Int × Int)), sameAll l q = true → l.length = q.length
  | [], [], _ => rfl
  | s :: r, p :: q, h => by
    have h2 : sameAll r q = true := by
      rw [sameAll, Bool.and_eq_true] at h
      exact h.2
    rw [List.length_cons, List.length_cons, sameAll_length r q h2]
  | [], _ :: _, h => by cases h
  | _ :: _, [], h => by cases h

theorem sameB_mk (s : Spn) (p : Int × Int) : sameB s (mk p) = (s.fr == p.1 && s.to == p.2) := by simp [sameB, mk]

theorem equal_any (w : World) (ao : Option Addr) (cap : Nat) (l : List Spn) (h : CAt w ao (spV l)) (hl : (l.length + 1) * 40 ≤ 140737488355328) (ao2 : Option Addr) (cap2 : Nat) (q : List (Int × Int)) (h2 : CAt w ao2 (spV (q.map mk))) :
    Calls Tryz.prog 113 #[.slice ao l.length cap, .slice ao2 q.length cap2, .func (.func 114) #[] #[]] w fun e w' => e = .returned (.bool (sameAll l q)) ∧ Fr (fun _ => False) w w' := by
  have H := hide (And.intro h h2)
  have HZ := zones1_any
  obtain ⟨y, HY⟩ : ∃ y, Hid (sameAll l q = y) := ⟨_, rfl⟩
  rw [unhide HY]
  clear h h2
  by_cases hlen : l.length = q.length
  · have hne : ((l.length : Int) == (q.length : Int)) = true := by simp; omega
    have hne' : ((l.length : Int) != (q.length : Int)) = false := by simp; omega
    have HLE := hide hlen
    clear hlen
    go_enter Tryz.func113, Tryz.ntmps113
    go_wp2
    clear hne hne'
    go_loopw [7, 8, 9, 17] (fun _ _ _ iv wr => ∃ (i : Nat), i ≤ l.length ∧ iv = .int .i64 i ∧ Hid (Fr (fun _ => False) w wr ∧ sameAll (l.drop i) (q.drop i) = y)) (fun _ _ _ iv _ => l.length - (intOf iv).toNat)
    case atStart => exact ⟨0, Nat.zero_le _, rfl, Fr.refl _ _, by simpa using unhide HY⟩
    case round =>
      obtain ⟨i, hi, rfl, HI⟩ := hrel
      by_cases hil : i < l.length
      · have hiq : i < q.length := by have := unhide HLE; omega
        obtain ⟨b, off, rfl, c0, c1, c2, c3, c4⟩ := ((unhide H).1.keep (unhide HI).1).sp hil
        obtain ⟨b2, off2, rfl, k0, k1, k2, k3, k4⟩ := ((unhide H).2.keep (unhide HI).1).sp (i := i) (by simpa using hiq)
        have ht := (unhide HI).2
        rw [List.drop_eq_getElem_cons hil, List.drop_eq_getElem_cons hiq, sameAll, ← sameB_mk] at ht
        have HF := hide (unhide HI).1
        simp only [List.getElem_map] at k0 k1 k2 k3 k4
        have l1 := World.block_lt_of_cell? _ _ k0
        simp only at l1
        generalize mk q[i] = x at *
        generalize l[i] = s at *
        have HT := hide ht
        have RZ := fun w => HZ w s x
        generalize sameB s x = p at *
        clear ht HI HZ
        cases p with
        | true =>
          have HT' : Hid (sameAll (l.drop (i + 1)) (q.drop (i + 1)) = y) := hide (by have := unhide HT; simpa using this)
          clear HT
          go_wp2_with fail
          refine (RZ _).mono ?_
          rintro e w2 ⟨rfl, hF⟩
          have HF2 := hide ((((unhide HF).alloc _).alloc _).trans hF (fun _ _ t => t))
          clear hF
          go_wp2
          exact ⟨⟨i + 1, by omega, by go_num, unhide HF2, unhide HT'⟩, by simp [intOf]; omega⟩
        | false =>
          have HT' : Hid (y = false) := hide (by have := unhide HT; simpa using this.symm)
          clear HT HY
          go_wp2_with fail
          refine (RZ _).mono ?_
          rintro e w2 ⟨rfl, hF⟩
          have HF2 := hide ((((unhide HF).alloc _).alloc _).trans hF (fun _ _ t => t))
          clear hF
          go_wp2
          go_ret
          exact ⟨by rw [unhide HT']; rfl, unhide HF2⟩
      · obtain rfl : i = l.length := by omega
        have HT' : Hid (y = true) := hide (by
          have h1 := (unhide HI).2
          rw [List.drop_length, unhide HLE, List.drop_length] at h1
          rw [← h1]; rfl)
        have HF := hide (unhide HI).1
        clear HI H HY
        go_wp2
        go_ret
        exact ⟨by rw [unhide HT']; rfl, unhide HF⟩
  · have HF : Hid (y = false) := hide (by
      rw [← unhide HY]
      cases hs : sameAll l q with
      | true => exact absurd (sameAll_length l q hs) hlen
      | false => rfl)
    have hne : ¬ ((l.length : Int) = (q.length : Int)) := by omega
    clear H HY hlen
    go_enter Tryz.func113, Tryz.ntmps113
    go_wp2
    go_ret
    exact ⟨by rw [unhide HF]; rfl, Fr.refl _ _⟩

def zonesOk (t : Tf) : Bool := sameAll t.sp (prs 1 (zmax 1 t.st).toNat)

theorem lookZones_any (w : World) (A : Ad) (t : Tf) (h : TAt w A t) (hs : stationsOk t.st = true) : Calls Tryz.prog 79 #[tv A t] w fun e w' => e = look (zonesOk t) 70 ∧ Fr (fun _ => False) w w' := by
  have hzb := zmax_bound t.st 0 1 (by
    have h1 := hs
    rw [stationsOk, Bool.and_eq_true] at h1
    exact h1.2) (by omega) (by omega)
  have R1 := hide (fun (w' : World) (hf : Fr (fun _ => False) w w') => greatest_any w' A.aS A.cS t.st (h.st.keep hf) h.lS)
  obtain ⟨Z, hZ⟩ : ∃ Z : Nat, zmax 1 t.st = (Z : Int) := ⟨(zmax 1 t.st).toNat, by omega⟩
  have HE : Hid (zonesOk t = sameAll t.sp (prs 1 Z)) := hide (by rw [zonesOk, hZ]; rfl)
  have R2 := fun w' => bareSpans_any w' Z (by omega)
  have R3 := hide (fun (w' : World) (hf : Fr (fun _ => False) w w') (ao2 : Option Addr) (cap2 : Nat) (h2 : CAt w' ao2 (spV ((prs 1 Z).map mk))) => equal_any w' A.aP A.cP t.sp (h.sp.keep hf) h.lP ao2 cap2 (prs 1 Z) h2)
  rw [hZ] at R1
  generalize prs 1 Z = L at *
  generalize sameAll t.sp L = y at *
  rw [unhide HE]
  clear HE hzb hZ hs h
  obtain ⟨W, hW⟩ : ∃ W, W = w.alloc (.cells (tc A t) 37) := ⟨_, rfl⟩
  have hF0 : Fr (fun _ => False) w W := by rw [hW]; exact (Fr.refl _ w).alloc _
  have hlt : w.heap.size < W.heap.size := by rw [hW, heap_alloc]; exact Nat.lt_succ_self _
  have c1 : W.cell? ⟨w.heap.size, 1, none⟩ = some (.slice A.aP t.sp.length A.cP) := by rw [hW, World.cell?_alloc_new]; rfl
  unfold tv
  unfold tc at *
  go_enter Tryz.func79, Tryz.ntmps79
  go_wp2_with fail
  rw [← hW]
  refine (unhide R1 W hF0).mono ?_
  rintro e w1 ⟨rfl, hF1⟩
  go_wp2_with fail
  refine (R2 _).mono ?_
  rintro e w2 ⟨ao, cap, rfl, hC, hF2⟩
  have hF3 := hF1.trans hF2 (fun _ _ t => t)
  have c1' := (hF3.cell (a := ⟨w.heap.size, 1, none⟩) hlt (fun t => t)).trans c1
  have R4 := unhide R3 w2 (hF0.trans hF3 (fun _ _ t => t)) ao cap hC
  have HF := hide (hF0.trans hF3 (fun _ _ t => t))
  clear hF0 hF1 hF2 hF3 hC R1 R2 R3 c1 hlt hW
  go_wp2_with fail
  refine R4.mono ?_
  rintro e w3 ⟨rfl, hF4⟩
  have HF4 := hide ((unhide HF).trans hF4 (fun _ _ t => t))
  clear hF4 R4 c1' HF
  cases y with
  | true =>
    go_wp2_with fail
    refine (must_okT 70 _).mono ?_
    rintro e w4 ⟨rfl, rfl⟩
    go_wp2
    go_end0
    exact ⟨rfl, unhide HF4⟩
  | false =>
    go_wp2_with fail
    refine (must_noT 70 _).mono ?_
    rintro e w4 ⟨rfl, rfl⟩
    go_wp2
    exact ⟨rfl, rfl, unhide HF4⟩

end Go.Proofs.YtkjoojamkbpfcabGreat

