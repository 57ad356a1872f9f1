/- The walk of the law SumTells. -/
import Derived.Test.YtgbaofdbdpopnaaDoorS8
import Derived.Test.YtgbaofdbdpopnaaDoorS9
namespace Go.Proofs.YtgbaofdbdpopnaaDoor
open Go.RowKit

/-- What has become of the frame behind i changes, from place k on. -/
def Chg (f y : List UInt8) (k i : Nat) (l : List UInt8) : Prop := l.length = f.length ∧ ∀ j, j < f.length → l[j]? = some (if k ≤ j ∧ j < k + i then f.getD j 0 ^^^ y.getD (j - k) 0 else f.getD j 0)

theorem Chg.start (f y : List UInt8) (k : Nat) : Chg f y k 0 f := ⟨rfl, fun j hj => by rw [if_neg (by omega)]; simp [hj]⟩

theorem Chg.here {f y l : List UInt8} {k i : Nat} (h : Chg f y k i l) (hi : k + i < f.length) : l[k + i]? = some (f.getD (k + i) 0) := by rw [h.2 _ hi, if_neg (by omega)]

theorem Chg.next {f y l : List UInt8} {k i : Nat} (h : Chg f y k i l) (hi : k + i < f.length) : Chg f y k (i + 1) (l.set (k + i) (f.getD (k + i) 0 ^^^ y.getD i 0)) := by
  refine ⟨by rw [List.length_set, h.1], fun j hj => ?_⟩
  rw [List.getElem?_set]
  by_cases e : k + i = j
  · subst e
    rw [if_pos rfl, if_pos (by rw [h.1]; exact hi), if_pos (by omega), Nat.add_sub_cancel_left]
  · rw [if_neg e, h.2 j hj]
    by_cases h1 : k ≤ j ∧ j < k + i
    · rw [if_pos h1, if_pos (by omega)]
    · rw [if_neg h1, if_neg (by omega)]

theorem Chg.done {f y l : List UInt8} {k i : Nat} (h : Chg f y k i l) (hy : y.length = 4) (hi : i ≤ 4) (hki : k + i ≤ f.length) :
    l = xor2 f (List.replicate k 0 ++ y.take i ++ List.replicate (f.length - k - i) 0) := by
  apply List.ext_getElem?
  intro j
  by_cases hj : j < f.length
  · rw [h.2 j hj]
    unfold xor2
    rw [List.getElem?_zipWith]
    have hf : f[j]? = some (f.getD j 0) := by simp [hj]
    rw [hf]
    by_cases h1 : j < k
    · rw [if_neg (by omega), List.append_assoc, List.getElem?_append_left (by simpa using h1)]
      simp [h1]
    · by_cases h2 : j < k + i
      · rw [if_pos (by omega), List.append_assoc, List.getElem?_append_right (by simp; omega), List.length_replicate, List.getElem?_append_left (by rw [List.length_take]; omega)]
        have hyj : (y.take i)[j - k]? = some (y.getD (j - k) 0) := by
          rw [List.getElem?_take, if_pos (by omega)]
          simp [show j - k < y.length by omega]
        rw [hyj]
      · rw [if_neg (by omega), List.getElem?_append_right (by simp; omega)]
        have : (List.replicate (f.length - k - i) (0 : UInt8))[j - (List.replicate k (0 : UInt8) ++ y.take i).length]? = some 0 := by
          rw [List.getElem?_replicate, if_pos]
          simp
          omega
        rw [this]
        simp
  · have h1 : l[j]? = none := List.getElem?_eq_none (by rw [h.1]; omega)
    rw [h1]
    symm
    apply List.getElem?_eq_none
    unfold xor2
    rw [List.length_zipWith]
    omega

theorem Row.set {w : World} {v : Value} {g : Nat} {bs : List UInt8} (h : Row w v g bs) (j : Nat) (hj : j < bs.length) (x : UInt8) : Row (w.setCell ⟨g, j, none⟩ (.int .u8 x.toNat)) v g (bs.set j x) := by
  obtain ⟨ao, cap, hv, h1, h2, h3, h4⟩ := h.shape
  refine ⟨⟨ao, cap, by rw [List.length_set]; exact hv, by rw [List.length_set]; exact h1, h2, h3, fun i hi => ⟨?_, by rw [World.frozen?_setCell]; exact (h4 i hi).2⟩⟩, fun i hi => ?_⟩
  · by_cases e : i = j
    · subst e
      rw [World.cell?_setCell_same _ _ _ (h.cells i hj)]; rfl
    · rw [World.cell?_setCell_other _ _ _ _ (by intro t; injection t with t1 t2; exact e t2.symm)]
      exact (h4 i hi).1
  · rw [List.length_set] at hi
    by_cases e : i = j
    · subst e
      rw [World.cell?_setCell_same _ _ _ (h.cells i hj), List.getElem_set_self]
    · rw [World.cell?_setCell_other _ _ _ _ (by intro t; injection t with t1 t2; exact e t2.symm), h.cells i hi, List.getElem_set_ne (fun t => e t.symm)]

/-- Are the first i of them nought? -/
def nought (y : List UInt8) (i : Nat) : Bool := (y.take i).all (· == 0)

theorem nought_iff (y : List UInt8) (i : Nat) : nought y i = decide (∀ c ∈ y.take i, c = 0) := by
  unfold nought
  by_cases h : ∀ c ∈ y.take i, c = 0
  · rw [decide_eq_true h]
    exact List.all_eq_true.2 fun c hc => by simp [h c hc]
  · rw [decide_eq_false h]
    by_cases h2 : (y.take i).all (· == 0) = true
    · exact absurd (fun c hc => by simpa using List.all_eq_true.1 h2 c hc) h
    · simpa using h2

theorem tells_open {b y l : List UInt8} {k i : Nat} (h : Chg (frameF b) y k i l) (hy : y.length = 4) (hi : i ≤ 4) (hki : k + i ≤ b.length + 4) : openF l = if nought y i = true then some b else none := by
  have hfl := frameF_length b
  have hl := h.done hy hi (by omega)
  have hyi : (y.take i).length = i := by rw [List.length_take]; omega
  have ho := open_changed b k (y.take i) ((frameF b).length - k - i) (by omega) (by omega)
  rw [← hl, ← nought_iff] at ho
  by_cases hn : nought y i = true
  · rw [if_pos hn]
    have hz : ∀ c ∈ List.replicate k (0 : UInt8) ++ y.take i ++ List.replicate ((frameF b).length - k - i) 0, c = 0 := by
      intro c hc
      rw [nought_iff] at hn
      have hn := of_decide_eq_true hn
      rcases List.mem_append.1 hc with hc | hc
      · rcases List.mem_append.1 hc with hc | hc
        · exact (List.mem_replicate.1 hc).2
        · exact hn c hc
      · exact (List.mem_replicate.1 hc).2
    rw [hl, xor2_zero _ _ (by simp; omega) hz, frameF, openF_parts b _ rfl, if_pos rfl]
  · rw [if_neg hn]
    have hf : nought y i = false := by simpa using hn
    rw [hf] at ho
    exact Option.isNone_iff_eq_none.1 (by simpa using ho)

set_option maxHeartbeats 4000000 in
set_option maxRecDepth 100000 in
theorem tells_walk (w : World) (hT : TabAt w) (bo : Option Addr) (cb : Nat) (b : List UInt8) (hB : BAt w bo cb b) (hfit : b.length + 4 ≤ 140737488355328) (t : Int) (h1 : -9223372036854775808 ≤ t) (h2 : t ≤ 9223372036854775807) (y0 y1 y2 y3 : UInt8) :
    Calls Tryd.prog 7 #[.slice bo b.length cb, .int .i64 t, .agg #[.int .u8 y0.toNat, .int .u8 y1.toNat, .int .u8 y2.toNat, .int .u8 y3.toNat]] w fun e w' => e = .returned (.bool true) ∧ Fr (fun _ => False) w w' := by
  have HT := hide hT
  have HB := hide hB
  clear hT hB
  go_enter Tryd.func7, Tryd.ntmps7
  go_wp2_with fail
  have hF0 := (Fr.refl (fun _ => False) w).alloc (.cells #[.int .u8 y0.toNat, .int .u8 y1.toNat, .int .u8 y2.toNat, .int .u8 y3.toNat] 38)
  have hY : ∀ i, i < 4 → (w.alloc (.cells #[.int .u8 y0.toNat, .int .u8 y1.toNat, .int .u8 y2.toNat, .int .u8 y3.toNat] 38)).cell? ⟨w.heap.size, i, none⟩ = some (.int .u8 (([y0, y1, y2, y3] : List UInt8).getD i 0).toNat) := by
    intro i hi
    rw [World.cell?_alloc_new]
    match i, hi with
    | 0, _ => rfl
    | 1, _ => rfl
    | 2, _ => rfl
    | 3, _ => rfl
  have hpb : w.heap.size < (w.alloc (.cells #[.int .u8 y0.toNat, .int .u8 y1.toNat, .int .u8 y2.toNat, .int .u8 y3.toNat] 38)).heap.size := by simp
  have HW0 := hide (And.intro hF0 (And.intro hY hpb))
  clear hF0 hY hpb
  generalize (w.alloc (.cells #[.int .u8 (y0.toNat : Int), .int .u8 y1.toNat, .int .u8 y2.toNat, .int .u8 y3.toNat] 38)) = w0 at *
  refine (awake_any w0 ((unhide HT).later (unhide HW0).1)).mono ?_
  rintro e w1 ⟨rfl, hF1⟩
  have HF1 := hide hF1
  clear hF1
  go_wp2_with fail
  refine (frame_any w1 ((unhide HT).later ((unhide HW0).1.trans (unhide HF1) (fun _ _ t => t))) bo cb b ((unhide HB).later ((unhide HW0).1.trans (unhide HF1) (fun _ _ t => t))) hfit).mono ?_
  rintro e w2 ⟨v, rfl, g, hrow, hF, hg⟩
  obtain ⟨f, hf⟩ : ∃ f, frameF b = f := ⟨_, rfl⟩
  have hfl : b.length + 4 = f.length := by rw [← hf, frameF_length]
  rw [hf] at hrow
  obtain ⟨fo, fc, rfl, hfc, _, hfad, _⟩ := hrow.shape
  obtain rfl := hfad (by omega)
  have hF02 := (unhide HF1).trans hF (fun _ _ t => t)
  have hFw2 := (unhide HW0).1.trans hF02 (fun _ _ t => t)
  have hgw : w0.heap.size ≤ g := Nat.le_trans (unhide HF1).size hg
  have hY2 : ∀ i, i < 4 → w2.cell? ⟨w.heap.size, i, none⟩ = some (.int .u8 (([y0, y1, y2, y3] : List UInt8).getD i 0).toNat) := fun i hi => (hF02.cell (a := ⟨w.heap.size, i, none⟩) (unhide HW0).2.2 (fun t => t)).trans ((unhide HW0).2.1 i hi)
  have hpg : w.heap.size ≠ g := by have := (unhide HW0).2.2; omega
  have hwg : w.heap.size ≤ g := by have := (unhide HW0).1.size; omega
  have HR := hide (And.intro hrow (And.intro hFw2 (And.intro hY2 (And.intro hpg hwg))))
  obtain ⟨y, hy⟩ : ∃ y : List UInt8, [y0, y1, y2, y3] = y := ⟨_, rfl⟩
  have hyl : y.length = 4 := by rw [← hy]; rfl
  rw [hy] at HR
  have HYL := hide hyl
  have Hf := hide hf
  clear hrow hF hF02 hFw2 hgw hY2 hpg hwg hyl hy hg HF1 HW0 hf hfad
  obtain ⟨L, hL⟩ : ∃ L, f.length = L := ⟨_, rfl⟩
  rw [hL] at hfl hfc ⊢
  have HL := hide hL
  have hne : ((L : Int) != (b.length : Int) + 4) = false := by simp; omega
  have hL4 : 4 ≤ L := by omega
  have hLm : L ≤ 140737488355328 := by omega
  rw [hL] at HR
  have HFL := hide hfl
  clear hL hfl
  by_cases hneg : t < 0
  · have hd : decide (t < 0) = true := decide_eq_true hneg
    obtain ⟨k, hk, hkL⟩ : ∃ k : Nat, -(t + 1).tmod (L : Int) = k ∧ k < L := by
      obtain ⟨m, hm⟩ : ∃ m : Nat, t + 1 = -(m : Int) := ⟨(-(t + 1)).toNat, by omega⟩
      refine ⟨m % L, ?_, Nat.mod_lt _ (by omega)⟩
      rw [hm, Int.neg_tmod, Int.neg_neg, Int.tmod_eq_emod_of_nonneg (by omega)]
      rfl
    go_wp2
    try rw [hk]
    clear hk hneg hd h1 h2
    go_loopw [10, 11] (fun sv iv wr => ∃ i : Nat, i ≤ 4 ∧ k + i ≤ L ∧ iv = .int .i64 i ∧ sv = .bool (nought y i) ∧ ∃ l, Hid (Row wr (.slice (some ⟨g, 0, none⟩) L fc) g l ∧ Chg f y k i l ∧ Fr (fun _ => False) w wr ∧ ∀ j, j < 4 → wr.cell? ⟨w.heap.size, j, none⟩ = some (.int .u8 (y.getD j 0).toNat))) (fun _ iv _ => 4 - (intOf iv).toNat)
    case atStart => exact ⟨0, by omega, by omega, rfl, rfl, f, (unhide HR).1, Chg.start f y k, (unhide HR).2.1, (unhide HR).2.2.1⟩
    case round =>
      obtain ⟨i, hi, hki, rfl, rfl, l, HS⟩ := hrel
      by_cases hgo : i < 4 ∧ k + i < L
      · have hd1 : decide ((i : Int) < 4) = true := decide_eq_true (by omega)
        have hd2 : decide ((k : Int) + (i : Int) < (L : Int)) = true := decide_eq_true (by omega)
        obtain ⟨s1, s2, s3, s4⟩ := unhide HS
        have hll : l.length = L := by rw [s2.1, unhide HL]
        have hkl : k + i < l.length := by omega
        have c1 := s1.cells (k + i) hkl
        have hh := s2.here (by rw [unhide HL]; omega)
        rw [List.getElem?_eq_getElem hkl] at hh
        rw [Option.some.inj hh] at c1
        have c2 := s4 i hgo.1
        have hfz : wr.frozen? ⟨g, k + i, none⟩ = false := by
          obtain ⟨ao9, cap9, hv9, _, _, _, h94⟩ := s1.shape
          injection hv9 with e91 e92 e93
          exact (h94 (k + i) (by omega)).2
        obtain ⟨p, hp⟩ : ∃ p, f.getD (k + i) 0 = p := ⟨_, rfl⟩
        obtain ⟨q, hq⟩ : ∃ q, y.getD i 0 = q := ⟨_, rfl⟩
        have hnx := s2.next (by rw [unhide HL]; omega)
        rw [hp, hq] at hnx
        rw [hp] at c1
        rw [hq] at c2
        have hxx := u8_xor_nat p.toNat q.toNat (UInt8.toNat_lt _) (UInt8.toNat_lt _)
        rw [← UInt8.toNat_xor] at hxx
        have hrow2 := s1.set (k + i) hkl (p ^^^ q)
        have hsame : nought y (i + 1) = (nought y i && (q == 0)) := by
          have hiy : i < y.length := by rw [unhide HYL]; exact hgo.1
          have hqy : y[i] = q := by rw [← hq]; simp [hiy]
          unfold nought
          rw [List.take_succ_eq_append_getElem hiy, List.all_append, hqy]
          simp
        have hq0 : ((q.toNat : Int) == 0) = (q == 0) := by
          by_cases hz : q = 0
          · subst hz; rfl
          · have : q.toNat ≠ 0 := fun t => hz (UInt8.toNat_inj.1 (by simpa using t))
            rw [beq_eq_false_iff_ne.2 hz]
            simp
            exact this
        have hF2 := s3.setCell (p := ⟨g, k + i, none⟩) (fun t => absurd t (by have := (unhide HR).2.2.2.2; simp only []; omega)) (.int .u8 ((p ^^^ q).toNat : Int))
        have hY2 : ∀ j, j < 4 → (wr.setCell ⟨g, k + i, none⟩ (.int .u8 ((p ^^^ q).toNat : Int))).cell? ⟨w.heap.size, j, none⟩ = some (.int .u8 (y.getD j 0).toNat) := fun j hj => (World.cell?_setCell_other _ _ _ _ (by intro t; injection t with t1 t2; exact (unhide HR).2.2.2.1 t1.symm)).trans (s4 j hj)
        rw [UInt8.toNat_xor] at hrow2 hF2 hY2
        have HN := hide (And.intro hrow2 (And.intro hnx (And.intro hF2 hY2)))
        have HSM := hide hsame
        have b1 : k + i < L := hgo.2
        have b2 : (i : Int) < 4 := by omega
        have hpn : w.heap.size ≠ g := (unhide HR).2.2.2.1
        clear s1 s2 s3 s4 hll hkl hh hp hq hnx hrow2 hsame hF2 hY2 HS hgo
        obtain ⟨sm, hsm⟩ : ∃ z, nought y i = z := ⟨_, rfl⟩
        rw [hsm] at HSM ⊢
        clear hsm
        cases sm with
        | false =>
          go_wp2
          go_region
          all_goals
            go_wp2
            obtain ⟨n1, n2, n3, n4⟩ := unhide HN
            exact ⟨⟨i + 1, by omega, by omega, by go_num, by rw [unhide HSM]; rfl, _, n1.stay (fun _ => rfl), n2, n3.drew, n4⟩, by simp [intOf]; omega⟩
        | true =>
          go_wp2
          go_region
          all_goals
            go_wp2
            obtain ⟨n1, n2, n3, n4⟩ := unhide HN
            exact ⟨⟨i + 1, by omega, by omega, by go_num, by rw [unhide HSM]; simp, _, n1.stay (fun _ => rfl), n2, n3.drew, n4⟩, by simp [intOf]; omega⟩
      · have hex : (decide ((i : Int) < 4) && decide ((k : Int) + (i : Int) < (L : Int))) = false := by
          by_cases h4 : i < 4
          · rw [decide_eq_false (show ¬ ((k : Int) + (i : Int) < (L : Int)) by omega), Bool.and_false]
          · rw [decide_eq_false (show ¬ ((i : Int) < 4) by omega), Bool.false_and]
        obtain ⟨s1, s2, s3, s4⟩ := unhide HS
        have hll : l.length = L := by rw [s2.1, unhide HL]
        have hbf : k + i ≤ b.length + 4 := by have := unhide HFL; omega
        have hop := tells_open (b := b) (by rw [unhide Hf]; exact s2) (unhide HYL) hi hbf
        have hBl := (s1.bat (by omega)).2
        have hoa := open_any wr ((unhide HT).later s3) (some ⟨g, 0, none⟩) fc l hBl (by omega)
        rw [hll, hop] at hoa
        have HOA := hide hoa
        have HF := hide s3
        have hbl : b.length ≤ 140737488355328 := by omega
        clear s1 s2 s3 s4 hll hop hBl hoa HS
        obtain ⟨sm, hsm⟩ : ∃ z, nought y i = z := ⟨_, rfl⟩
        rw [hsm] at HOA ⊢
        clear hsm
        obtain ⟨d1, hd1⟩ : ∃ z, decide ((i : Int) < 4) = z := ⟨_, rfl⟩
        obtain ⟨d2, hd2⟩ : ∃ z, decide ((k : Int) + (i : Int) < (L : Int)) = z := ⟨_, rfl⟩
        rw [hd1, hd2] at hex
        clear hgo
        cases sm with
        | true =>
          rw [if_pos rfl] at HOA
          cases d1 <;> cases d2 <;> first | (cases hex; done) | skip
          all_goals
            go_wp2_with fail
            refine (unhide HOA).mono ?_
            rintro e w7 ⟨v, rfl, g7, hrow7, hF7, _⟩
            obtain ⟨xo, xc, rfl, _⟩ := hrow7.shape
            have cx := conv_bytes (show BAt w7 xo xc b from (hrow7.bat hbl).2)
            have cy := conv_bytes ((unhide HB).later ((unhide HF).trans hF7 (fun _ _ t => t)))
            have HF9 := hide ((unhide HF).trans hF7 (fun _ _ t => t))
            clear hrow7 hF7
            go_wp2
            go_ret
            exact ⟨rfl, unhide HF9⟩
        | false =>
          rw [if_neg (by simp)] at HOA
          cases d1 <;> cases d2 <;> first | (cases hex; done) | skip
          all_goals
            go_wp2_with fail
            refine (unhide HOA).mono ?_
            rintro e w7 ⟨v, rfl, g7, hrow7, hF7, _⟩
            obtain ⟨xo, xc, rfl, _⟩ := hrow7.shape
            have HF9 := hide ((unhide HF).trans hF7 (fun _ _ t => t))
            clear hrow7 hF7
            go_wp2
            go_ret
            exact ⟨rfl, unhide HF9⟩
  · have hd : decide (t < 0) = false := decide_eq_false hneg
    obtain ⟨k, hk, hkL⟩ : ∃ k : Nat, t % (L : Int) = k ∧ k < L := by
      obtain ⟨m, hm⟩ : ∃ m : Nat, t = m := ⟨t.toNat, by omega⟩
      exact ⟨m % L, by rw [hm]; rfl, Nat.mod_lt _ (by omega)⟩
    go_wp2
    try rw [hk]
    clear hk hneg hd h1 h2
    go_loopw [10, 11] (fun sv iv wr => ∃ i : Nat, i ≤ 4 ∧ k + i ≤ L ∧ iv = .int .i64 i ∧ sv = .bool (nought y i) ∧ ∃ l, Hid (Row wr (.slice (some ⟨g, 0, none⟩) L fc) g l ∧ Chg f y k i l ∧ Fr (fun _ => False) w wr ∧ ∀ j, j < 4 → wr.cell? ⟨w.heap.size, j, none⟩ = some (.int .u8 (y.getD j 0).toNat))) (fun _ iv _ => 4 - (intOf iv).toNat)
    case atStart => exact ⟨0, by omega, by omega, rfl, rfl, f, (unhide HR).1, Chg.start f y k, (unhide HR).2.1, (unhide HR).2.2.1⟩
    case round =>
      obtain ⟨i, hi, hki, rfl, rfl, l, HS⟩ := hrel
      by_cases hgo : i < 4 ∧ k + i < L
      · have hd1 : decide ((i : Int) < 4) = true := decide_eq_true (by omega)
        have hd2 : decide ((k : Int) + (i : Int) < (L : Int)) = true := decide_eq_true (by omega)
        obtain ⟨s1, s2, s3, s4⟩ := unhide HS
        have hll : l.length = L := by rw [s2.1, unhide HL]
        have hkl : k + i < l.length := by omega
        have c1 := s1.cells (k + i) hkl
        have hh := s2.here (by rw [unhide HL]; omega)
        rw [List.getElem?_eq_getElem hkl] at hh
        rw [Option.some.inj hh] at c1
        have c2 := s4 i hgo.1
        have hfz : wr.frozen? ⟨g, k + i, none⟩ = false := by
          obtain ⟨ao9, cap9, hv9, _, _, _, h94⟩ := s1.shape
          injection hv9 with e91 e92 e93
          exact (h94 (k + i) (by omega)).2
        obtain ⟨p, hp⟩ : ∃ p, f.getD (k + i) 0 = p := ⟨_, rfl⟩
        obtain ⟨q, hq⟩ : ∃ q, y.getD i 0 = q := ⟨_, rfl⟩
        have hnx := s2.next (by rw [unhide HL]; omega)
        rw [hp, hq] at hnx
        rw [hp] at c1
        rw [hq] at c2
        have hxx := u8_xor_nat p.toNat q.toNat (UInt8.toNat_lt _) (UInt8.toNat_lt _)
        rw [← UInt8.toNat_xor] at hxx
        have hrow2 := s1.set (k + i) hkl (p ^^^ q)
        have hsame : nought y (i + 1) = (nought y i && (q == 0)) := by
          have hiy : i < y.length := by rw [unhide HYL]; exact hgo.1
          have hqy : y[i] = q := by rw [← hq]; simp [hiy]
          unfold nought
          rw [List.take_succ_eq_append_getElem hiy, List.all_append, hqy]
          simp
        have hq0 : ((q.toNat : Int) == 0) = (q == 0) := by
          by_cases hz : q = 0
          · subst hz; rfl
          · have : q.toNat ≠ 0 := fun t => hz (UInt8.toNat_inj.1 (by simpa using t))
            rw [beq_eq_false_iff_ne.2 hz]
            simp
            exact this
        have hF2 := s3.setCell (p := ⟨g, k + i, none⟩) (fun t => absurd t (by have := (unhide HR).2.2.2.2; simp only []; omega)) (.int .u8 ((p ^^^ q).toNat : Int))
        have hY2 : ∀ j, j < 4 → (wr.setCell ⟨g, k + i, none⟩ (.int .u8 ((p ^^^ q).toNat : Int))).cell? ⟨w.heap.size, j, none⟩ = some (.int .u8 (y.getD j 0).toNat) := fun j hj => (World.cell?_setCell_other _ _ _ _ (by intro t; injection t with t1 t2; exact (unhide HR).2.2.2.1 t1.symm)).trans (s4 j hj)
        rw [UInt8.toNat_xor] at hrow2 hF2 hY2
        have HN := hide (And.intro hrow2 (And.intro hnx (And.intro hF2 hY2)))
        have HSM := hide hsame
        have b1 : k + i < L := hgo.2
        have b2 : (i : Int) < 4 := by omega
        have hpn : w.heap.size ≠ g := (unhide HR).2.2.2.1
        clear s1 s2 s3 s4 hll hkl hh hp hq hnx hrow2 hsame hF2 hY2 HS hgo
        obtain ⟨sm, hsm⟩ : ∃ z, nought y i = z := ⟨_, rfl⟩
        rw [hsm] at HSM ⊢
        clear hsm
        cases sm with
        | false =>
          go_wp2
          go_region
          all_goals
            go_wp2
            obtain ⟨n1, n2, n3, n4⟩ := unhide HN
            exact ⟨⟨i + 1, by omega, by omega, by go_num, by rw [unhide HSM]; rfl, _, n1.stay (fun _ => rfl), n2, n3.drew, n4⟩, by simp [intOf]; omega⟩
        | true =>
          go_wp2
          go_region
          all_goals
            go_wp2
            obtain ⟨n1, n2, n3, n4⟩ := unhide HN
            exact ⟨⟨i + 1, by omega, by omega, by go_num, by rw [unhide HSM]; simp, _, n1.stay (fun _ => rfl), n2, n3.drew, n4⟩, by simp [intOf]; omega⟩
      · have hex : (decide ((i : Int) < 4) && decide ((k : Int) + (i : Int) < (L : Int))) = false := by
          by_cases h4 : i < 4
          · rw [decide_eq_false (show ¬ ((k : Int) + (i : Int) < (L : Int)) by omega), Bool.and_false]
          · rw [decide_eq_false (show ¬ ((i : Int) < 4) by omega), Bool.false_and]
        obtain ⟨s1, s2, s3, s4⟩ := unhide HS
        have hll : l.length = L := by rw [s2.1, unhide HL]
        have hbf : k + i ≤ b.length + 4 := by have := unhide HFL; omega
        have hop := tells_open (b := b) (by rw [unhide Hf]; exact s2) (unhide HYL) hi hbf
        have hBl := (s1.bat (by omega)).2
        have hoa := open_any wr ((unhide HT).later s3) (some ⟨g, 0, none⟩) fc l hBl (by omega)
        rw [hll, hop] at hoa
        have HOA := hide hoa
        have HF := hide s3
        have hbl : b.length ≤ 140737488355328 := by omega
        clear s1 s2 s3 s4 hll hop hBl hoa HS
        obtain ⟨sm, hsm⟩ : ∃ z, nought y i = z := ⟨_, rfl⟩
        rw [hsm] at HOA ⊢
        clear hsm
        obtain ⟨d1, hd1⟩ : ∃ z, decide ((i : Int) < 4) = z := ⟨_, rfl⟩
        obtain ⟨d2, hd2⟩ : ∃ z, decide ((k : Int) + (i : Int) < (L : Int)) = z := ⟨_, rfl⟩
        rw [hd1, hd2] at hex
        clear hgo
        cases sm with
        | true =>
          rw [if_pos rfl] at HOA
          cases d1 <;> cases d2 <;> first | (cases hex; done) | skip
          all_goals
            go_wp2_with fail
            refine (unhide HOA).mono ?_
            rintro e w7 ⟨v, rfl, g7, hrow7, hF7, _⟩
            obtain ⟨xo, xc, rfl, _⟩ := hrow7.shape
            have cx := conv_bytes (show BAt w7 xo xc b from (hrow7.bat hbl).2)
            have cy := conv_bytes ((unhide HB).later ((unhide HF).trans hF7 (fun _ _ t => t)))
            have HF9 := hide ((unhide HF).trans hF7 (fun _ _ t => t))
            clear hrow7 hF7
            go_wp2
            go_ret
            exact ⟨rfl, unhide HF9⟩
        | false =>
          rw [if_neg (by simp)] at HOA
          cases d1 <;> cases d2 <;> first | (cases hex; done) | skip
          all_goals
            go_wp2_with fail
            refine (unhide HOA).mono ?_
            rintro e w7 ⟨v, rfl, g7, hrow7, hF7, _⟩
            obtain ⟨xo, xc, rfl, _⟩ := hrow7.shape
            have HF9 := hide ((unhide HF).trans hF7 (fun _ _ t => t))
            clear hrow7 hF7
            go_wp2
            go_ret
            exact ⟨rfl, unhide HF9⟩

end Go.Proofs.YtgbaofdbdpopnaaDoor
