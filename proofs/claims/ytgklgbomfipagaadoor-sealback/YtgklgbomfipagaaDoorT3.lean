/- The walk of SealBack. -/
import Derived.Test.YtgklgbomfipagaaDoorT2
namespace Go.Proofs.YtgklgbomfipagaaDoor
open Go.RowKit

theorem BAt.put {w : World} {g cap : Nat} {bs : List UInt8} (h : BAt w (some ⟨g, 0, none⟩) cap bs) (j : Nat) (hj : j < bs.length) (v : UInt8) : BAt (w.setCell ⟨g, j, none⟩ (.int .u8 v.toNat)) (some ⟨g, 0, none⟩) cap (bs.set j v) := by
  obtain ⟨b, off, e, hc⟩ := h.2.1 (by omega)
  injection e with e
  injection e with e1 e2
  subst e1 e2
  refine ⟨fun e => (by cases e), fun _ => ⟨g, 0, rfl, fun k hk => ?_⟩, by rw [List.length_set]; exact h.2.2⟩
  rw [List.length_set] at hk
  have hck := hc k hk
  have hcj := hc j hj
  rw [Nat.zero_add] at hck hcj ⊢
  rw [List.getElem_set]
  by_cases e : j = k
  · subst e
    rw [World.cell?_setCell_same _ _ _ hcj, if_pos rfl]
  · rw [World.cell?_setCell_other _ _ _ _ (by intro t; injection t with _ t; exact e t), hck, if_neg e]

theorem set_same (T : List UInt8) (q : Nat) (hq : q < T.length) (v : UInt8) : T = T.set q v ↔ T.getD q 0 = v := by
  constructor
  · intro h
    have := congrArg (fun l => l.getD q 0) h
    simpa [List.getD, hq] using this
  · intro h
    apply List.ext_getElem (by simp)
    intro i h1 h2
    rw [List.getElem_set]
    split
    · rename_i e
      subst e
      simpa [List.getD, hq] using h
    · rfl

set_option maxHeartbeats 4000000 in
set_option maxRecDepth 100000 in
theorem back_walk (w : World) (hT : TabP w) (s : List UInt8) (bo : Option Addr) (bc : Nat) (b : List UInt8) (hB : BAt w bo bc b) (hcb : b.length ≤ bc) (hfb : b.length + 16 ≤ 140737488355328) (at' : Int) (hat : -9223372036854775808 ≤ at' ∧ at' ≤ 9223372036854775807) (to : UInt8) (ro : Option Addr) (rc : Nat) (r : List UInt8) (hR : BAt w ro rc r) (hcr : r.length ≤ rc) :
    Calls Tryd.prog 6 #[.string ⟨s.toArray⟩, .slice bo b.length bc, .int .i64 at', .int .u8 to.toNat, .slice ro r.length rc] w fun e w' => e = .returned (.bool true) ∧ Fr (fun _ => False) w w' := by
  have HT := hide hT
  have HB := hide hB
  have HR := hide hR
  clear hT hB hR
  go_enter Tryd.func6, Tryd.ntmps6
  go_wp2_with fail
  refine (awake_any w (unhide HT)).mono ?_
  rintro e w1 ⟨rfl, hF1⟩
  have HF1 := hide hF1
  clear hF1
  by_cases hs : 200 < s.length
  · have hd : decide ((200 : Int) < (s.length : Int)) = true := by simp; omega
    go_wp2_with fail
    refine (open_long w1 s hs _).mono ?_
    rintro e w2 ⟨rfl, rfl⟩
    go_wp2_with fail
    refine (seal_long w2 s hs _).mono ?_
    rintro e w2 ⟨rfl, rfl⟩
    go_wp2
    go_ret
    exact ⟨rfl, unhide HF1⟩
  · have hs' : s.length ≤ 200 := by omega
    clear hs
    by_cases hr : r.length < 16
    · go_wp2_with fail
      refine (open_short w1 s hs' ro r.length rc hr).mono ?_
      rintro e w2 ⟨rfl, rfl⟩
      have HF2 := HF1
      go_wp2_with fail
      refine (seal_any w2 ((unhide HT).later (unhide HF2)) s hs' bo bc b ((unhide HB).later (unhide HF2)) hcb hfb).mono ?_
      rintro e w3 ⟨so, sc, rfl, g3, r1, r2, r3⟩
      have b3 := r1.batn (by omega)
      obtain ⟨_, _, esh, hlc, _, had, hroom⟩ := r1.shape
      injection esh with e1 e2 e3
      subst e1 e3
      obtain rfl := had (by omega)
      have hlc2 : b.length + 16 ≤ sc := b3.2.2
      have hg3 : w.heap.size ≤ g3 := Nat.le_trans (unhide HF2).size r3
      have hl3 : g3 < w3.heap.size := World.block_lt_of_cell? _ _ (r1.cells 0 (by rw [sealed_length]; omega))
      have hF3 := (unhide HF2).trans r2 (fun _ _ t => t)
      have HO := hide (open_ok w3 ((unhide HT).later hF3) s hs' (some ⟨g3, 0, none⟩) sc b ((hmac s b).take 16) b.length rfl (take16 _ _) b3.1 hlc2 rfl)
      have H3 := hide (And.intro b3.1 (And.intro hroom hF3))
      clear r1 r2 r3 b3 hroom had hlc e2 hF3
      go_wp2_with fail
      refine (unhide HO).mono ?_
      rintro e w4 ⟨yo, yc, rfl, g4, r1, r2, r3⟩
      have hF4 := (unhide H3).2.2.trans r2 (fun _ _ t => t)
      have cvy := conv_bytes (r1.batn (by omega)).1
      have cvb := conv_bytes ((unhide HB).later hF4)
      have hbt := (unhide H3).1.later r2
      have HT4 := hide ((unhide HT).later hF4)
      have fk : ∀ q, q < 16 → w4.frozen? ⟨g3, b.length + q, none⟩ = false := fun q hq => (r2.frozen (a := ⟨g3, b.length + q, none⟩) hl3 (fun t => t)).trans ((unhide H3).2.1 _ (by omega)).2
      have HF4 := hide hF4
      have HFK := hide fk
      clear hF4 r1 r2 r3 H3 HO fk
      obtain ⟨T, hT16⟩ : ∃ T, T = (hmac s b).take 16 := ⟨_, rfl⟩
      have hTl : T.length = 16 := by rw [hT16]; exact take16 _ _
      have hbt2 : BAt w4 (some ⟨g3, 0, none⟩) sc (b ++ T) := by rw [hT16]; exact hbt
      have HTT := hide hT16
      clear hbt hT16
      have main : ∀ q, q < 16 → w4.cell? ⟨g3, b.length + q, none⟩ = some (.int .u8 (T.getD q 0).toNat) ∧ BAt (w4.setCell ⟨g3, b.length + q, none⟩ (.int .u8 to.toNat)) (some ⟨g3, 0, none⟩) sc (b ++ T.set q to) := fun q hq => by
        constructor
        · obtain ⟨bb, off, e, hc⟩ := hbt2.2.1 (by rw [List.length_append]; omega)
          injection e with e
          injection e with e1 e2
          subst e1 e2
          have := hc (b.length + q) (by rw [List.length_append]; omega)
          rw [Nat.zero_add] at this
          rw [this, List.getElem_append_right (by omega)]
          simp [List.getD, hTl, hq]
        · have := hbt2.put (b.length + q) (by rw [List.length_append]; omega) to
          rw [List.set_append_right _ _ (by omega)] at this
          simpa using this
      have HMn := hide main
      have HTl := hide hTl
      clear main hbt2 hTl
      by_cases h0 : at' < 0
      · have hd0 : decide (at' < 0) = true := decide_eq_true h0
        obtain ⟨q, hq, hq16⟩ : ∃ q : Nat, (at' + 1).tmod 16 = -(q : Int) ∧ q < 16 := by
          refine ⟨((-(at' + 1)) % 16).toNat, ?_, by omega⟩
          have e : (at' + 1).tmod 16 = -((-(at' + 1)).tmod 16) := by rw [Int.neg_tmod]; omega
          rw [e, Int.tmod_eq_emod_of_nonneg (by omega)]
          omega
        have ck := (unhide HMn q hq16).1
        have fk := unhide HFK q hq16
        have hset := set_same T q (by rw [unhide HTl]; exact hq16) to
        have HSet := hide hset
        clear hset
        by_cases hy : T.getD q 0 = to
        · rw [hy] at ck
          have hbq : (((to.toNat : Nat) : Int) == ((to.toNat : Nat) : Int)) = true := by simp
          have hTs : T = T.set q to := (unhide HSet).2 hy
          have HB5 := hide (unhide HMn q hq16).2
          rw [← hTs] at HB5
          have hF5 := (unhide HF4).setCell (p := ⟨g3, b.length + q, none⟩) (fun t => absurd t (by simp only []; omega)) (.int .u8 to.toNat)
          have HO := hide (open_ok (w4.setCell ⟨g3, b.length + q, none⟩ (.int .u8 to.toNat)) ((unhide HT).later hF5) s hs' (some ⟨g3, 0, none⟩) sc b T b.length rfl (unhide HTl) (unhide HB5) hlc2 (unhide HTT).symm)
          have HF5 := hide hF5
          clear hTs hF5 hy
          go_wp2_with fail
          refine (unhide HO).mono ?_
          rintro e w6 ⟨zo, zc, rfl, g6, r1, r2, r3⟩
          have HF6 := hide ((unhide HF5).trans r2 (fun _ _ t => t))
          clear r1 r2 r3 HO HF5
          go_wp2
          go_ret
          exact ⟨rfl, unhide HF6⟩
        · obtain ⟨y, hyy⟩ : ∃ y, y = T.getD q 0 := ⟨_, rfl⟩
          rw [← hyy] at ck hy
          have hbq : (((y.toNat : Nat) : Int) == ((to.toNat : Nat) : Int)) = false := by
            simp only [beq_eq_false_iff_ne, ne_eq]
            intro e
            exact hy (UInt8.toNat_inj.1 (by omega))
          have hne : ¬ T = T.set q to := fun e => hy (hyy.trans ((unhide HSet).1 e))
          have hF5 := (unhide HF4).setCell (p := ⟨g3, b.length + q, none⟩) (fun t => absurd t (by simp only []; omega)) (.int .u8 to.toNat)
          have HO := hide (open_bad (w4.setCell ⟨g3, b.length + q, none⟩ (.int .u8 to.toNat)) ((unhide HT).later hF5) s hs' (some ⟨g3, 0, none⟩) sc b (T.set q to) b.length rfl (by rw [List.length_set]; exact unhide HTl) (unhide HMn q hq16).2 hlc2 (by rw [← unhide HTT]; exact hne))
          have HF5 := hide hF5
          clear hne hF5 hy hyy
          go_wp2_with fail
          refine (unhide HO).mono ?_
          rintro e w6 ⟨rfl, r2⟩
          have HF6 := hide ((unhide HF5).trans r2 (fun _ _ t => t))
          clear r2 HO HF5
          go_wp2
          go_ret
          exact ⟨rfl, unhide HF6⟩
      · have hd0 : decide (at' < 0) = false := decide_eq_false h0
        obtain ⟨q, hq, hq16⟩ : ∃ q : Nat, at'.tmod 16 = (q : Int) ∧ q < 16 := by
          refine ⟨(at' % 16).toNat, ?_, by omega⟩
          rw [Int.tmod_eq_emod_of_nonneg (by omega)]
          omega
        have ck := (unhide HMn q hq16).1
        have fk := unhide HFK q hq16
        have hset := set_same T q (by rw [unhide HTl]; exact hq16) to
        have HSet := hide hset
        clear hset
        by_cases hy : T.getD q 0 = to
        · rw [hy] at ck
          have hbq : (((to.toNat : Nat) : Int) == ((to.toNat : Nat) : Int)) = true := by simp
          have hTs : T = T.set q to := (unhide HSet).2 hy
          have HB5 := hide (unhide HMn q hq16).2
          rw [← hTs] at HB5
          have hF5 := (unhide HF4).setCell (p := ⟨g3, b.length + q, none⟩) (fun t => absurd t (by simp only []; omega)) (.int .u8 to.toNat)
          have HO := hide (open_ok (w4.setCell ⟨g3, b.length + q, none⟩ (.int .u8 to.toNat)) ((unhide HT).later hF5) s hs' (some ⟨g3, 0, none⟩) sc b T b.length rfl (unhide HTl) (unhide HB5) hlc2 (unhide HTT).symm)
          have HF5 := hide hF5
          clear hTs hF5 hy
          go_wp2_with fail
          refine (unhide HO).mono ?_
          rintro e w6 ⟨zo, zc, rfl, g6, r1, r2, r3⟩
          have HF6 := hide ((unhide HF5).trans r2 (fun _ _ t => t))
          clear r1 r2 r3 HO HF5
          go_wp2
          go_ret
          exact ⟨rfl, unhide HF6⟩
        · obtain ⟨y, hyy⟩ : ∃ y, y = T.getD q 0 := ⟨_, rfl⟩
          rw [← hyy] at ck hy
          have hbq : (((y.toNat : Nat) : Int) == ((to.toNat : Nat) : Int)) = false := by
            simp only [beq_eq_false_iff_ne, ne_eq]
            intro e
            exact hy (UInt8.toNat_inj.1 (by omega))
          have hne : ¬ T = T.set q to := fun e => hy (hyy.trans ((unhide HSet).1 e))
          have hF5 := (unhide HF4).setCell (p := ⟨g3, b.length + q, none⟩) (fun t => absurd t (by simp only []; omega)) (.int .u8 to.toNat)
          have HO := hide (open_bad (w4.setCell ⟨g3, b.length + q, none⟩ (.int .u8 to.toNat)) ((unhide HT).later hF5) s hs' (some ⟨g3, 0, none⟩) sc b (T.set q to) b.length rfl (by rw [List.length_set]; exact unhide HTl) (unhide HMn q hq16).2 hlc2 (by rw [← unhide HTT]; exact hne))
          have HF5 := hide hF5
          clear hne hF5 hy hyy
          go_wp2_with fail
          refine (unhide HO).mono ?_
          rintro e w6 ⟨rfl, r2⟩
          have HF6 := hide ((unhide HF5).trans r2 (fun _ _ t => t))
          clear r2 HO HF5
          go_wp2
          go_ret
          exact ⟨rfl, unhide HF6⟩
    · obtain ⟨m, hm⟩ : ∃ m, r.length = m + 16 := ⟨r.length - 16, by omega⟩
      obtain ⟨x, hx⟩ : ∃ x, x = r.take m := ⟨_, rfl⟩
      obtain ⟨y, hy⟩ : ∃ y, y = r.drop m := ⟨_, rfl⟩
      have hxl : x.length = m := by rw [hx, List.length_take]; omega
      have hyl : y.length = 16 := by rw [hy, List.length_drop]; omega
      have hxy : x ++ y = r := by rw [hx, hy]; exact List.take_append_drop m r
      have hR1 : BAt w1 ro rc (x ++ y) := by rw [hxy]; exact (unhide HR).later (unhide HF1)
      by_cases he : (hmac s x).take 16 = y
      · have HO := hide (open_ok w1 ((unhide HT).later (unhide HF1)) s hs' ro rc x y m hxl hyl hR1 (by omega) he)
        rw [← hm] at HO
        have hse : sealed s x = r := by unfold sealed; rw [he, hxy]
        have HSE := hide (And.intro hse hxl)
        have hmf : m + 16 ≤ 140737488355328 := by have := (unhide HR).2.2; omega
        have HMM := hide hm
        clear hx hy hyl hxy hR1 he hse hxl hm hr
        go_wp2_with fail
        refine (unhide HO).mono ?_
        rintro e w2 ⟨xo, xc, rfl, g2, r1, r2, r3⟩
        have b2 := r1.batn (by omega)
        have hF2 := (unhide HF1).trans r2 (fun _ _ t => t)
        have HS := hide (seal_any w2 ((unhide HT).later hF2) s hs' xo xc x b2.1 (by omega) (by omega))
        rw [b2.2.1, (unhide HSE).1] at HS
        have HF2 := hide hF2
        clear r1 r2 r3 b2 hF2 HO
        go_wp2_with fail
        refine (unhide HS).mono ?_
        rintro e w2 ⟨ao, ac, rfl, g2, r1, r2, r3⟩
        have b2 := r1.batn (by omega)
        have hF2 := (unhide HF2).trans r2 (fun _ _ t => t)
        have cva := conv_bytes b2.1
        rw [b2.2.1] at cva
        have cvr := conv_bytes ((unhide HR).later hF2)
        have HF2 := hide hF2
        clear r1 r2 r3 b2 hF2 HS
        go_wp2_with fail
        refine (seal_any w2 ((unhide HT).later (unhide HF2)) s hs' bo bc b ((unhide HB).later (unhide HF2)) hcb hfb).mono ?_
        rintro e w3 ⟨so, sc, rfl, g3, r1, r2, r3⟩
        have b3 := r1.batn (by omega)
        obtain ⟨_, _, esh, hlc, _, had, hroom⟩ := r1.shape
        injection esh with e1 e2 e3
        subst e1 e3
        obtain rfl := had (by omega)
        have hlc2 : b.length + 16 ≤ sc := b3.2.2
        have hg3 : w.heap.size ≤ g3 := Nat.le_trans (unhide HF2).size r3
        have hl3 : g3 < w3.heap.size := World.block_lt_of_cell? _ _ (r1.cells 0 (by rw [sealed_length]; omega))
        have hF3 := (unhide HF2).trans r2 (fun _ _ t => t)
        have HO := hide (open_ok w3 ((unhide HT).later hF3) s hs' (some ⟨g3, 0, none⟩) sc b ((hmac s b).take 16) b.length rfl (take16 _ _) b3.1 hlc2 rfl)
        have H3 := hide (And.intro b3.1 (And.intro hroom hF3))
        clear r1 r2 r3 b3 hroom had hlc e2 hF3
        go_wp2_with fail
        refine (unhide HO).mono ?_
        rintro e w4 ⟨yo, yc, rfl, g4, r1, r2, r3⟩
        have hF4 := (unhide H3).2.2.trans r2 (fun _ _ t => t)
        have cvy := conv_bytes (r1.batn (by omega)).1
        have cvb := conv_bytes ((unhide HB).later hF4)
        have hbt := (unhide H3).1.later r2
        have HT4 := hide ((unhide HT).later hF4)
        have fk : ∀ q, q < 16 → w4.frozen? ⟨g3, b.length + q, none⟩ = false := fun q hq => (r2.frozen (a := ⟨g3, b.length + q, none⟩) hl3 (fun t => t)).trans ((unhide H3).2.1 _ (by omega)).2
        have HF4 := hide hF4
        have HFK := hide fk
        clear hF4 r1 r2 r3 H3 HO fk
        obtain ⟨T, hT16⟩ : ∃ T, T = (hmac s b).take 16 := ⟨_, rfl⟩
        have hTl : T.length = 16 := by rw [hT16]; exact take16 _ _
        have hbt2 : BAt w4 (some ⟨g3, 0, none⟩) sc (b ++ T) := by rw [hT16]; exact hbt
        have HTT := hide hT16
        clear hbt hT16
        have main : ∀ q, q < 16 → w4.cell? ⟨g3, b.length + q, none⟩ = some (.int .u8 (T.getD q 0).toNat) ∧ BAt (w4.setCell ⟨g3, b.length + q, none⟩ (.int .u8 to.toNat)) (some ⟨g3, 0, none⟩) sc (b ++ T.set q to) := fun q hq => by
          constructor
          · obtain ⟨bb, off, e, hc⟩ := hbt2.2.1 (by rw [List.length_append]; omega)
            injection e with e
            injection e with e1 e2
            subst e1 e2
            have := hc (b.length + q) (by rw [List.length_append]; omega)
            rw [Nat.zero_add] at this
            rw [this, List.getElem_append_right (by omega)]
            simp [List.getD, hTl, hq]
          · have := hbt2.put (b.length + q) (by rw [List.length_append]; omega) to
            rw [List.set_append_right _ _ (by omega)] at this
            simpa using this
        have HMn := hide main
        have HTl := hide hTl
        clear main hbt2 hTl
        by_cases h0 : at' < 0
        · have hd0 : decide (at' < 0) = true := decide_eq_true h0
          obtain ⟨q, hq, hq16⟩ : ∃ q : Nat, (at' + 1).tmod 16 = -(q : Int) ∧ q < 16 := by
            refine ⟨((-(at' + 1)) % 16).toNat, ?_, by omega⟩
            have e : (at' + 1).tmod 16 = -((-(at' + 1)).tmod 16) := by rw [Int.neg_tmod]; omega
            rw [e, Int.tmod_eq_emod_of_nonneg (by omega)]
            omega
          have ck := (unhide HMn q hq16).1
          have fk := unhide HFK q hq16
          have hset := set_same T q (by rw [unhide HTl]; exact hq16) to
          have HSet := hide hset
          clear hset
          by_cases hy : T.getD q 0 = to
          · rw [hy] at ck
            have hbq : (((to.toNat : Nat) : Int) == ((to.toNat : Nat) : Int)) = true := by simp
            have hTs : T = T.set q to := (unhide HSet).2 hy
            have HB5 := hide (unhide HMn q hq16).2
            rw [← hTs] at HB5
            have hF5 := (unhide HF4).setCell (p := ⟨g3, b.length + q, none⟩) (fun t => absurd t (by simp only []; omega)) (.int .u8 to.toNat)
            have HO := hide (open_ok (w4.setCell ⟨g3, b.length + q, none⟩ (.int .u8 to.toNat)) ((unhide HT).later hF5) s hs' (some ⟨g3, 0, none⟩) sc b T b.length rfl (unhide HTl) (unhide HB5) hlc2 (unhide HTT).symm)
            have HF5 := hide hF5
            clear hTs hF5 hy
            go_wp2_with fail
            refine (unhide HO).mono ?_
            rintro e w6 ⟨zo, zc, rfl, g6, r1, r2, r3⟩
            have HF6 := hide ((unhide HF5).trans r2 (fun _ _ t => t))
            clear r1 r2 r3 HO HF5
            go_wp2
            go_ret
            exact ⟨rfl, unhide HF6⟩
          · obtain ⟨y, hyy⟩ : ∃ y, y = T.getD q 0 := ⟨_, rfl⟩
            rw [← hyy] at ck hy
            have hbq : (((y.toNat : Nat) : Int) == ((to.toNat : Nat) : Int)) = false := by
              simp only [beq_eq_false_iff_ne, ne_eq]
              intro e
              exact hy (UInt8.toNat_inj.1 (by omega))
            have hne : ¬ T = T.set q to := fun e => hy (hyy.trans ((unhide HSet).1 e))
            have hF5 := (unhide HF4).setCell (p := ⟨g3, b.length + q, none⟩) (fun t => absurd t (by simp only []; omega)) (.int .u8 to.toNat)
            have HO := hide (open_bad (w4.setCell ⟨g3, b.length + q, none⟩ (.int .u8 to.toNat)) ((unhide HT).later hF5) s hs' (some ⟨g3, 0, none⟩) sc b (T.set q to) b.length rfl (by rw [List.length_set]; exact unhide HTl) (unhide HMn q hq16).2 hlc2 (by rw [← unhide HTT]; exact hne))
            have HF5 := hide hF5
            clear hne hF5 hy hyy
            go_wp2_with fail
            refine (unhide HO).mono ?_
            rintro e w6 ⟨rfl, r2⟩
            have HF6 := hide ((unhide HF5).trans r2 (fun _ _ t => t))
            clear r2 HO HF5
            go_wp2
            go_ret
            exact ⟨rfl, unhide HF6⟩
        · have hd0 : decide (at' < 0) = false := decide_eq_false h0
          obtain ⟨q, hq, hq16⟩ : ∃ q : Nat, at'.tmod 16 = (q : Int) ∧ q < 16 := by
            refine ⟨(at' % 16).toNat, ?_, by omega⟩
            rw [Int.tmod_eq_emod_of_nonneg (by omega)]
            omega
          have ck := (unhide HMn q hq16).1
          have fk := unhide HFK q hq16
          have hset := set_same T q (by rw [unhide HTl]; exact hq16) to
          have HSet := hide hset
          clear hset
          by_cases hy : T.getD q 0 = to
          · rw [hy] at ck
            have hbq : (((to.toNat : Nat) : Int) == ((to.toNat : Nat) : Int)) = true := by simp
            have hTs : T = T.set q to := (unhide HSet).2 hy
            have HB5 := hide (unhide HMn q hq16).2
            rw [← hTs] at HB5
            have hF5 := (unhide HF4).setCell (p := ⟨g3, b.length + q, none⟩) (fun t => absurd t (by simp only []; omega)) (.int .u8 to.toNat)
            have HO := hide (open_ok (w4.setCell ⟨g3, b.length + q, none⟩ (.int .u8 to.toNat)) ((unhide HT).later hF5) s hs' (some ⟨g3, 0, none⟩) sc b T b.length rfl (unhide HTl) (unhide HB5) hlc2 (unhide HTT).symm)
            have HF5 := hide hF5
            clear hTs hF5 hy
            go_wp2_with fail
            refine (unhide HO).mono ?_
            rintro e w6 ⟨zo, zc, rfl, g6, r1, r2, r3⟩
            have HF6 := hide ((unhide HF5).trans r2 (fun _ _ t => t))
            clear r1 r2 r3 HO HF5
            go_wp2
            go_ret
            exact ⟨rfl, unhide HF6⟩
          · obtain ⟨y, hyy⟩ : ∃ y, y = T.getD q 0 := ⟨_, rfl⟩
            rw [← hyy] at ck hy
            have hbq : (((y.toNat : Nat) : Int) == ((to.toNat : Nat) : Int)) = false := by
              simp only [beq_eq_false_iff_ne, ne_eq]
              intro e
              exact hy (UInt8.toNat_inj.1 (by omega))
            have hne : ¬ T = T.set q to := fun e => hy (hyy.trans ((unhide HSet).1 e))
            have hF5 := (unhide HF4).setCell (p := ⟨g3, b.length + q, none⟩) (fun t => absurd t (by simp only []; omega)) (.int .u8 to.toNat)
            have HO := hide (open_bad (w4.setCell ⟨g3, b.length + q, none⟩ (.int .u8 to.toNat)) ((unhide HT).later hF5) s hs' (some ⟨g3, 0, none⟩) sc b (T.set q to) b.length rfl (by rw [List.length_set]; exact unhide HTl) (unhide HMn q hq16).2 hlc2 (by rw [← unhide HTT]; exact hne))
            have HF5 := hide hF5
            clear hne hF5 hy hyy
            go_wp2_with fail
            refine (unhide HO).mono ?_
            rintro e w6 ⟨rfl, r2⟩
            have HF6 := hide ((unhide HF5).trans r2 (fun _ _ t => t))
            clear r2 HO HF5
            go_wp2
            go_ret
            exact ⟨rfl, unhide HF6⟩
      · have HO := hide (open_bad w1 ((unhide HT).later (unhide HF1)) s hs' ro rc x y m hxl hyl hR1 (by omega) he)
        rw [← hm] at HO
        clear hx hy hyl hxy hR1 he hxl hm hr
        go_wp2_with fail
        refine (unhide HO).mono ?_
        rintro e w2 ⟨rfl, r2⟩
        have HF2 := hide ((unhide HF1).trans r2 (fun _ _ t => t))
        clear r2 HO
        go_wp2_with fail
        refine (seal_any w2 ((unhide HT).later (unhide HF2)) s hs' bo bc b ((unhide HB).later (unhide HF2)) hcb hfb).mono ?_
        rintro e w3 ⟨so, sc, rfl, g3, r1, r2, r3⟩
        have b3 := r1.batn (by omega)
        obtain ⟨_, _, esh, hlc, _, had, hroom⟩ := r1.shape
        injection esh with e1 e2 e3
        subst e1 e3
        obtain rfl := had (by omega)
        have hlc2 : b.length + 16 ≤ sc := b3.2.2
        have hg3 : w.heap.size ≤ g3 := Nat.le_trans (unhide HF2).size r3
        have hl3 : g3 < w3.heap.size := World.block_lt_of_cell? _ _ (r1.cells 0 (by rw [sealed_length]; omega))
        have hF3 := (unhide HF2).trans r2 (fun _ _ t => t)
        have HO := hide (open_ok w3 ((unhide HT).later hF3) s hs' (some ⟨g3, 0, none⟩) sc b ((hmac s b).take 16) b.length rfl (take16 _ _) b3.1 hlc2 rfl)
        have H3 := hide (And.intro b3.1 (And.intro hroom hF3))
        clear r1 r2 r3 b3 hroom had hlc e2 hF3
        go_wp2_with fail
        refine (unhide HO).mono ?_
        rintro e w4 ⟨yo, yc, rfl, g4, r1, r2, r3⟩
        have hF4 := (unhide H3).2.2.trans r2 (fun _ _ t => t)
        have cvy := conv_bytes (r1.batn (by omega)).1
        have cvb := conv_bytes ((unhide HB).later hF4)
        have hbt := (unhide H3).1.later r2
        have HT4 := hide ((unhide HT).later hF4)
        have fk : ∀ q, q < 16 → w4.frozen? ⟨g3, b.length + q, none⟩ = false := fun q hq => (r2.frozen (a := ⟨g3, b.length + q, none⟩) hl3 (fun t => t)).trans ((unhide H3).2.1 _ (by omega)).2
        have HF4 := hide hF4
        have HFK := hide fk
        clear hF4 r1 r2 r3 H3 HO fk
        obtain ⟨T, hT16⟩ : ∃ T, T = (hmac s b).take 16 := ⟨_, rfl⟩
        have hTl : T.length = 16 := by rw [hT16]; exact take16 _ _
        have hbt2 : BAt w4 (some ⟨g3, 0, none⟩) sc (b ++ T) := by rw [hT16]; exact hbt
        have HTT := hide hT16
        clear hbt hT16
        have main : ∀ q, q < 16 → w4.cell? ⟨g3, b.length + q, none⟩ = some (.int .u8 (T.getD q 0).toNat) ∧ BAt (w4.setCell ⟨g3, b.length + q, none⟩ (.int .u8 to.toNat)) (some ⟨g3, 0, none⟩) sc (b ++ T.set q to) := fun q hq => by
          constructor
          · obtain ⟨bb, off, e, hc⟩ := hbt2.2.1 (by rw [List.length_append]; omega)
            injection e with e
            injection e with e1 e2
            subst e1 e2
            have := hc (b.length + q) (by rw [List.length_append]; omega)
            rw [Nat.zero_add] at this
            rw [this, List.getElem_append_right (by omega)]
            simp [List.getD, hTl, hq]
          · have := hbt2.put (b.length + q) (by rw [List.length_append]; omega) to
            rw [List.set_append_right _ _ (by omega)] at this
            simpa using this
        have HMn := hide main
        have HTl := hide hTl
        clear main hbt2 hTl
        by_cases h0 : at' < 0
        · have hd0 : decide (at' < 0) = true := decide_eq_true h0
          obtain ⟨q, hq, hq16⟩ : ∃ q : Nat, (at' + 1).tmod 16 = -(q : Int) ∧ q < 16 := by
            refine ⟨((-(at' + 1)) % 16).toNat, ?_, by omega⟩
            have e : (at' + 1).tmod 16 = -((-(at' + 1)).tmod 16) := by rw [Int.neg_tmod]; omega
            rw [e, Int.tmod_eq_emod_of_nonneg (by omega)]
            omega
          have ck := (unhide HMn q hq16).1
          have fk := unhide HFK q hq16
          have hset := set_same T q (by rw [unhide HTl]; exact hq16) to
          have HSet := hide hset
          clear hset
          by_cases hy : T.getD q 0 = to
          · rw [hy] at ck
            have hbq : (((to.toNat : Nat) : Int) == ((to.toNat : Nat) : Int)) = true := by simp
            have hTs : T = T.set q to := (unhide HSet).2 hy
            have HB5 := hide (unhide HMn q hq16).2
            rw [← hTs] at HB5
            have hF5 := (unhide HF4).setCell (p := ⟨g3, b.length + q, none⟩) (fun t => absurd t (by simp only []; omega)) (.int .u8 to.toNat)
            have HO := hide (open_ok (w4.setCell ⟨g3, b.length + q, none⟩ (.int .u8 to.toNat)) ((unhide HT).later hF5) s hs' (some ⟨g3, 0, none⟩) sc b T b.length rfl (unhide HTl) (unhide HB5) hlc2 (unhide HTT).symm)
            have HF5 := hide hF5
            clear hTs hF5 hy
            go_wp2_with fail
            refine (unhide HO).mono ?_
            rintro e w6 ⟨zo, zc, rfl, g6, r1, r2, r3⟩
            have HF6 := hide ((unhide HF5).trans r2 (fun _ _ t => t))
            clear r1 r2 r3 HO HF5
            go_wp2
            go_ret
            exact ⟨rfl, unhide HF6⟩
          · obtain ⟨y, hyy⟩ : ∃ y, y = T.getD q 0 := ⟨_, rfl⟩
            rw [← hyy] at ck hy
            have hbq : (((y.toNat : Nat) : Int) == ((to.toNat : Nat) : Int)) = false := by
              simp only [beq_eq_false_iff_ne, ne_eq]
              intro e
              exact hy (UInt8.toNat_inj.1 (by omega))
            have hne : ¬ T = T.set q to := fun e => hy (hyy.trans ((unhide HSet).1 e))
            have hF5 := (unhide HF4).setCell (p := ⟨g3, b.length + q, none⟩) (fun t => absurd t (by simp only []; omega)) (.int .u8 to.toNat)
            have HO := hide (open_bad (w4.setCell ⟨g3, b.length + q, none⟩ (.int .u8 to.toNat)) ((unhide HT).later hF5) s hs' (some ⟨g3, 0, none⟩) sc b (T.set q to) b.length rfl (by rw [List.length_set]; exact unhide HTl) (unhide HMn q hq16).2 hlc2 (by rw [← unhide HTT]; exact hne))
            have HF5 := hide hF5
            clear hne hF5 hy hyy
            go_wp2_with fail
            refine (unhide HO).mono ?_
            rintro e w6 ⟨rfl, r2⟩
            have HF6 := hide ((unhide HF5).trans r2 (fun _ _ t => t))
            clear r2 HO HF5
            go_wp2
            go_ret
            exact ⟨rfl, unhide HF6⟩
        · have hd0 : decide (at' < 0) = false := decide_eq_false h0
          obtain ⟨q, hq, hq16⟩ : ∃ q : Nat, at'.tmod 16 = (q : Int) ∧ q < 16 := by
            refine ⟨(at' % 16).toNat, ?_, by omega⟩
            rw [Int.tmod_eq_emod_of_nonneg (by omega)]
            omega
          have ck := (unhide HMn q hq16).1
          have fk := unhide HFK q hq16
          have hset := set_same T q (by rw [unhide HTl]; exact hq16) to
          have HSet := hide hset
          clear hset
          by_cases hy : T.getD q 0 = to
          · rw [hy] at ck
            have hbq : (((to.toNat : Nat) : Int) == ((to.toNat : Nat) : Int)) = true := by simp
            have hTs : T = T.set q to := (unhide HSet).2 hy
            have HB5 := hide (unhide HMn q hq16).2
            rw [← hTs] at HB5
            have hF5 := (unhide HF4).setCell (p := ⟨g3, b.length + q, none⟩) (fun t => absurd t (by simp only []; omega)) (.int .u8 to.toNat)
            have HO := hide (open_ok (w4.setCell ⟨g3, b.length + q, none⟩ (.int .u8 to.toNat)) ((unhide HT).later hF5) s hs' (some ⟨g3, 0, none⟩) sc b T b.length rfl (unhide HTl) (unhide HB5) hlc2 (unhide HTT).symm)
            have HF5 := hide hF5
            clear hTs hF5 hy
            go_wp2_with fail
            refine (unhide HO).mono ?_
            rintro e w6 ⟨zo, zc, rfl, g6, r1, r2, r3⟩
            have HF6 := hide ((unhide HF5).trans r2 (fun _ _ t => t))
            clear r1 r2 r3 HO HF5
            go_wp2
            go_ret
            exact ⟨rfl, unhide HF6⟩
          · obtain ⟨y, hyy⟩ : ∃ y, y = T.getD q 0 := ⟨_, rfl⟩
            rw [← hyy] at ck hy
            have hbq : (((y.toNat : Nat) : Int) == ((to.toNat : Nat) : Int)) = false := by
              simp only [beq_eq_false_iff_ne, ne_eq]
              intro e
              exact hy (UInt8.toNat_inj.1 (by omega))
            have hne : ¬ T = T.set q to := fun e => hy (hyy.trans ((unhide HSet).1 e))
            have hF5 := (unhide HF4).setCell (p := ⟨g3, b.length + q, none⟩) (fun t => absurd t (by simp only []; omega)) (.int .u8 to.toNat)
            have HO := hide (open_bad (w4.setCell ⟨g3, b.length + q, none⟩ (.int .u8 to.toNat)) ((unhide HT).later hF5) s hs' (some ⟨g3, 0, none⟩) sc b (T.set q to) b.length rfl (by rw [List.length_set]; exact unhide HTl) (unhide HMn q hq16).2 hlc2 (by rw [← unhide HTT]; exact hne))
            have HF5 := hide hF5
            clear hne hF5 hy hyy
            go_wp2_with fail
            refine (unhide HO).mono ?_
            rintro e w6 ⟨rfl, r2⟩
            have HF6 := hide ((unhide HF5).trans r2 (fun _ _ t => t))
            clear r2 HO HF5
            go_wp2
            go_ret
            exact ⟨rfl, unhide HF6⟩

end Go.Proofs.YtgklgbomfipagaaDoor
