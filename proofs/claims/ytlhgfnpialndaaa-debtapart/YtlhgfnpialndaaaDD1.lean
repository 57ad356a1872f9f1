import Derived.Test.YtlhgfnpialndaaaDD0
/- The walk of DebtApart. -/
namespace Go.Proofs.Ytlhgfnpialndaaa
open Go.RowKit Go.Maps

/-- The two books of DebtApart. -/
structure TwoB (w wr : World) (p1 b1 p2 b2 : Nat) (l m : List Ac) : Prop where
  one : BM wr p1 b1 l
  two : BM wr p2 b2 m
  fr : Fr (fun _ => False) w wr
  new : w.heap.size ≤ p1 ∧ w.heap.size ≤ b1 ∧ w.heap.size ≤ p2 ∧ w.heap.size ≤ b2 ∧ p1 ≠ b2 ∧ b1 ≠ p2 ∧ b1 ≠ b2
theorem TwoB.left {w wr w' : World} {p1 b1 p2 b2 : Nat} {l m l' : List Ac} (h : TwoB w wr p1 b1 p2 b2 l m) (hb : BM w' p1 b1 l') (hf : Fr (fun k => k = b1) wr w') : TwoB w w' p1 b1 p2 b2 l' m :=
  ⟨hb, h.two.frame hf (by have := h.new; omega) (by have := h.new; omega), h.fr.trans hf (fun i hi t => by have := h.new; omega), h.new⟩
theorem TwoB.right {w wr w' : World} {p1 b1 p2 b2 : Nat} {l m m' : List Ac} (h : TwoB w wr p1 b1 p2 b2 l m) (hb : BM w' p2 b2 m') (hf : Fr (fun k => k = b2) wr w') : TwoB w w' p1 b1 p2 b2 l m' :=
  ⟨h.one.frame hf (by have := h.new; omega) (by have := h.new; omega), hb, h.fr.trans hf (fun i hi t => by have := h.new; omega), h.new⟩
theorem TwoB.keep {w wr w' : World} {p1 b1 p2 b2 : Nat} {l m : List Ac} (h : TwoB w wr p1 b1 p2 b2 l m) (hf : Fr (fun _ => False) wr w') : TwoB w w' p1 b1 p2 b2 l m :=
  ⟨h.one.keep hf, h.two.keep hf, h.fr.trans hf (fun _ _ t => t), h.new⟩
/-- What a loop over at most sixty calls has done. -/
theorem take_min {f : List Opd} {i : Nat} (hi : i ≤ f.length) (h6 : i ≤ 60) (h : ¬ (i < f.length ∧ i < 60)) : f.take i = f.take 60 := by
  by_cases c : i = 60
  · rw [c]
  · have e : i = f.length := by omega
    rw [e, List.take_length, List.take_of_length_le (by omega)]

set_option maxHeartbeats 2000000 in
set_option maxRecDepth 20000 in
theorem apart_walk (w : World) (a b : ByteArray) (ha : a.size ≤ maxLen) (hb : b.size ≤ maxLen) (ao1 : Option Addr) (cap1 : Nat) (f : List Opd) (h1 : CAt w ao1 (opV f)) (ao2 : Option Addr) (cap2 : Nat) (g : List Opd) (h2 : CAt w ao2 (opV g)) :
    Calls Try.prog 6 #[.string a, .string b, .slice ao1 f.length cap1, .slice ao2 g.length cap2] w fun e w' => e = .returned (.bool true) ∧ Fr (fun _ => False) w w' := by
  have H1 := hide h1
  have H2 := hide h2
  have HSZ := hide (And.intro ha hb)
  have HAW := hide (awakeK_any w)
  clear h1 h2 ha hb
  go_enter Try.func6, Try.ntmps6
  go_wp2_with fail
  refine (unhide HAW).mono ?_
  rintro e w1 ⟨rfl, hf⟩
  have HF1 := hide hf
  clear hf HAW
  go_wp2_with fail
  refine (bnew_any w1).mono ?_
  rintro e w2 ⟨p1, b1, rfl, hbm, hf, hp, hb⟩
  have HF2 : Hid (Fr (fun _ => False) w w2) := hide ((unhide HF1).trans hf (fun _ _ t => t))
  have HPB1 : Hid (w.heap.size ≤ p1 ∧ w.heap.size ≤ b1) := hide (by have := (unhide HF1).size; omega)
  have HB1 := hide hbm
  clear hbm hf hp hb HF1
  go_wp2_with fail
  refine (bnew_any w2).mono ?_
  rintro e w3 ⟨p2, b2, rfl, hbm, hf, hp, hb⟩
  have HTW : Hid (TwoB w w3 p1 b1 p2 b2 [] []) := hide ⟨(unhide HB1).keep hf, hbm, (unhide HF2).trans hf (fun _ _ t => t), by have := (unhide HF2).size; have := (unhide HB1).plt; have := (unhide HB1).mlt; have := unhide HPB1; omega⟩
  clear hbm hf hp hb HF2 HB1 HPB1
  by_cases hab : a = b
  · subst hab
    go_wp2
    go_ret
    exact ⟨rfl, (unhide HTW).fr⟩
  · have hne : (a.toList == b.toList) = false := by
      rw [← Bool.not_eq_true, beq_iff_eq]
      exact fun e => hab (toList_same e)
    have HEQ := hide (runK_apart hab (f.take 60) (g.take 60) (by rw [List.length_take]; omega) (by rw [List.length_take]; omega))
    clear hab
    go_upto_block 0 with (fail)
    go_cut [12] from 34 to 50 (fun _ wc => Hid (TwoB w wc p1 b1 p2 b2 (runK a [] (f.take 60)) []))
    case first =>
      go_wp2
      go_loopw [12] (fun iv wr => ∃ i : Nat, i ≤ f.length ∧ i ≤ 60 ∧ iv = .int .i64 i ∧ Hid (TwoB w wr p1 b1 p2 b2 (runK a [] (f.take i)) [])) (fun iv _ => 60 - (intOf iv).toNat)
      case atStart => exact ⟨0, Nat.zero_le _, Nat.zero_le _, rfl, unhide HTW⟩
      case round =>
        obtain ⟨i, hi, hi6, rfl, HI⟩ := hrel
        clear HTW
        by_cases hil : i < f.length
        · have hil2 : (i : Int) < (f.length : Int) := by omega
          by_cases h60 : i < 60
          · have h602 : (i : Int) < 60 := by omega
            obtain ⟨bz, off, rfl, c0, c1, c2⟩ := ((unhide H1).keep (unhide HI).fr).opK hil
            have HC0 := hide (change_any (unhide HI).one (unhide HSZ).1 f[i])
            have HLT := hide (And.intro hil h60)
            have HR0 := hide (runK_step a [] f hil)
            go_wp2_with fail
            refine (unhide HC0).mono ?_
            rintro e w5 ⟨⟨v, rfl⟩, hbm, hf⟩
            have HI5 := hide ((unhide HI).left hbm hf)
            clear hbm hf HC0
            clear c0 c1 c2
            go_wp2
            exact ⟨⟨i + 1, by have := unhide HLT; omega, by have := unhide HLT; omega, by go_num, by have h9 := unhide HI5; rw [← unhide HR0] at h9; exact h9⟩, by have := unhide HLT; simp [intOf]; omega⟩
          · have h602 : ¬ (i : Int) < 60 := by omega
            have HE := hide (take_min hi hi6 (by omega))
            clear hi hi6 h60 hil
            go_wp2
            go_meet
            exact by have h9 := unhide HI; rw [unhide HE] at h9; exact h9
        · have hil2 : ¬ (i : Int) < (f.length : Int) := by omega
          have HE := hide (take_min hi hi6 (by omega))
          clear hi hi6 hil
          go_wp2
          go_meet
          exact by have h9 := unhide HI; rw [unhide HE] at h9; exact h9
    case rest =>
      have HTW := hcut
      clear hcut
      go_upto_block 2 with (fail)
      go_cut [13] from 51 to 74 (fun _ wc => Hid (TwoB w wc p1 b1 p2 b2 (runK b (runK a [] (f.take 60)) (g.take 60)) (runK b [] (g.take 60))))
      case first =>
        go_wp2
        go_loopw [13] (fun iv wr => ∃ i : Nat, i ≤ g.length ∧ i ≤ 60 ∧ iv = .int .i64 i ∧ Hid (TwoB w wr p1 b1 p2 b2 (runK b (runK a [] (f.take 60)) (g.take i)) (runK b [] (g.take i)))) (fun iv _ => 60 - (intOf iv).toNat)
        case atStart => exact ⟨0, Nat.zero_le _, Nat.zero_le _, rfl, unhide HTW⟩
        case round =>
          obtain ⟨i, hi, hi6, rfl, HI⟩ := hrel
          clear HTW
          by_cases hil : i < g.length
          · have hil2 : (i : Int) < (g.length : Int) := by omega
            by_cases h60 : i < 60
            · have h602 : (i : Int) < 60 := by omega
              obtain ⟨bz, off, rfl, c0, c1, c2⟩ := ((unhide H2).keep (unhide HI).fr).opK hil
              have HC0 := hide (change_any (unhide HI).one (unhide HSZ).2 g[i])
              have HLT := hide (And.intro hil h60)
              have HR0 := hide (runK_step b (runK a [] (f.take 60)) g hil)
              have HR1 := hide (runK_step b [] g hil)
              go_wp2_with fail
              refine (unhide HC0).mono ?_
              rintro e w5 ⟨⟨v, rfl⟩, hbm, hf⟩
              have HI5 := hide ((unhide HI).left hbm hf)
              clear hbm hf HC0
              obtain ⟨bz2, off2, e2, d0, d1, d2⟩ := ((unhide H2).keep (unhide HI5).fr).opK hil
              injection e2 with e2
              injection e2 with e3 e4
              subst e3 e4
              clear c0 c1 c2
              have HC1 := hide (change_any (unhide HI5).two (unhide HSZ).2 g[i])
              go_wp2_with fail
              refine (unhide HC1).mono ?_
              rintro e w6 ⟨⟨v6, rfl⟩, hbm, hf⟩
              have HI6 := hide ((unhide HI5).right hbm hf)
              clear hbm hf HC1 HI5 d0 d1 d2
              go_wp2
              exact ⟨⟨i + 1, by have := unhide HLT; omega, by have := unhide HLT; omega, by go_num, by have h9 := unhide HI6; rw [← unhide HR0, ← unhide HR1] at h9; exact h9⟩, by have := unhide HLT; simp [intOf]; omega⟩
            · have h602 : ¬ (i : Int) < 60 := by omega
              have HE := hide (take_min hi hi6 (by omega))
              clear hi hi6 h60 hil
              go_wp2
              go_meet
              exact by have h9 := unhide HI; rw [unhide HE] at h9; exact h9
          · have hil2 : ¬ (i : Int) < (g.length : Int) := by omega
            have HE := hide (take_min hi hi6 (by omega))
            clear hi hi6 hil
            go_wp2
            go_meet
            exact by have h9 := unhide HI; rw [unhide HE] at h9; exact h9
      case rest =>
        have HTW := hcut
        clear hcut
        go_upto_block 4 with (fail)
        go_cut [14] from 75 to 91 (fun _ wc => Hid (TwoB w wc p1 b1 p2 b2 (runK b (runK a [] (f.take 60)) (g.take 60)) (runK a (runK b [] (g.take 60)) (f.take 60))))
        case first =>
          go_wp2
          go_loopw [14] (fun iv wr => ∃ i : Nat, i ≤ f.length ∧ i ≤ 60 ∧ iv = .int .i64 i ∧ Hid (TwoB w wr p1 b1 p2 b2 (runK b (runK a [] (f.take 60)) (g.take 60)) (runK a (runK b [] (g.take 60)) (f.take i)))) (fun iv _ => 60 - (intOf iv).toNat)
          case atStart => exact ⟨0, Nat.zero_le _, Nat.zero_le _, rfl, unhide HTW⟩
          case round =>
            obtain ⟨i, hi, hi6, rfl, HI⟩ := hrel
            clear HTW
            by_cases hil : i < f.length
            · have hil2 : (i : Int) < (f.length : Int) := by omega
              by_cases h60 : i < 60
              · have h602 : (i : Int) < 60 := by omega
                obtain ⟨bz, off, rfl, c0, c1, c2⟩ := ((unhide H1).keep (unhide HI).fr).opK hil
                have HC0 := hide (change_any (unhide HI).two (unhide HSZ).1 f[i])
                have HLT := hide (And.intro hil h60)
                have HR0 := hide (runK_step a (runK b [] (g.take 60)) f hil)
                go_wp2_with fail
                refine (unhide HC0).mono ?_
                rintro e w5 ⟨⟨v, rfl⟩, hbm, hf⟩
                have HI5 := hide ((unhide HI).right hbm hf)
                clear hbm hf HC0
                clear c0 c1 c2
                go_wp2
                exact ⟨⟨i + 1, by have := unhide HLT; omega, by have := unhide HLT; omega, by go_num, by have h9 := unhide HI5; rw [← unhide HR0] at h9; exact h9⟩, by have := unhide HLT; simp [intOf]; omega⟩
              · have h602 : ¬ (i : Int) < 60 := by omega
                have HE := hide (take_min hi hi6 (by omega))
                clear hi hi6 h60 hil
                go_wp2
                go_meet
                exact by have h9 := unhide HI; rw [unhide HE] at h9; exact h9
            · have hil2 : ¬ (i : Int) < (f.length : Int) := by omega
              have HE := hide (take_min hi hi6 (by omega))
              clear hi hi6 hil
              go_wp2
              go_meet
              exact by have h9 := unhide HI; rw [unhide HE] at h9; exact h9
        case rest =>
          have HTW := hcut
          clear hcut
          have HEND : Hid (TwoB w wc p1 b1 p2 b2 (runK b (runK a [] (f.take 60)) (g.take 60)) (runK b (runK a [] (f.take 60)) (g.take 60))) := by rw [unhide HEQ] at HTW ⊢; exact HTW
          clear HTW HEQ H1 H2
          generalize runK b (runK a [] (f.take 60)) (g.take 60) = L at *
          go_wp2_with fail
          refine (baccounts_any (unhide HEND).one).mono ?_
          rintro e w5 ⟨ao5, cap5, g5, rfl, hA⟩
          have HA := hide hA
          have HE5 := hide ((unhide HEND).keep hA.fr)
          clear hA HEND
          go_wp2_with fail
          refine (baccounts_any (unhide HE5).two).mono ?_
          rintro e w6 ⟨ao6, cap6, g6, rfl, hA⟩
          have HA6 := hide hA
          have HE6 := hide ((unhide HE5).keep hA.fr)
          have HC5 := hide ((unhide HA).row.catK.keep hA.fr)
          clear hA HE5
          go_wp2_with fail
          refine (sameA_is _ L ao5 cap5 ao6 cap6 (unhide HC5) (unhide HA6).row.catK (by have := (unhide HE6).one.bk.few; omega)).mono ?_
          rintro e w7 ⟨rfl, hf⟩
          have HF7 := hide ((unhide HE6).fr.trans hf (fun _ _ t => t))
          clear hf HE6 HC5 HA6 HA
          go_wp2
          go_ret
          exact ⟨rfl, unhide HF7⟩
end Go.Proofs.Ytlhgfnpialndaaa

