import Derived.Test.YtlhgfnpialndaaaDE0
/- The walk of DebtListed. -/
namespace Go.Proofs.Ytlhgfnpialndaaa
open Go.RowKit Go.Maps

set_option maxHeartbeats 2000000 in
set_option maxRecDepth 20000 in
theorem listed_walk (w : World) (ao : Option Addr) (cap : Nat) (l : List Ac) (h : CAt w ao (acV l)) (hl : l.length ≤ 140737488355328) (n : Int) (t : ByteArray) (ht : t.size ≤ maxLen) :
    Calls Try.prog 5 #[.slice ao l.length cap, .int .i64 n, .string t] w fun e w' => e = .returned (.bool true) ∧ Fr (fun _ => False) w w' := by
  have H := hide h
  have HT := hide ht
  have HAW := hide (awakeK_any w)
  have HOP := hide (fun (u : World) (hu : Fr (fun _ => False) w u) => bopen_any u ao cap l (h.keep hu) hl)
  clear h ht
  go_enter Try.func5, Try.ntmps5
  go_wp2_with fail
  refine (unhide HAW).mono ?_
  rintro e w1 ⟨rfl, hf⟩
  have HF1 := hide hf
  clear hf HAW
  go_wp2_with fail
  refine (unhide HOP w1 (unhide HF1)).mono ?_
  rintro e w2 ⟨hf, ho⟩
  have HF2 : Hid (Fr (fun _ => False) w w2) := hide ((unhide HF1).trans hf (fun _ _ t => t))
  rcases ho with ⟨h0, p, b, rfl, hbm, hp, hb⟩ | ⟨h0, rfl⟩
  · have HPB : Hid (w.heap.size ≤ p ∧ w.heap.size ≤ b) := hide (by have := (unhide HF1).size; omega)
    have HB2 := hide hbm
    clear hf hbm hp hb HOP HF1 h0
    go_wp2_with fail
    refine (blisted_any (unhide HB2) n).mono ?_
    rintro e w3 ⟨aq, cq, g, rfl, hT, _, hf⟩
    have HTR := hide hT
    have HB3 := hide ((unhide HB2).keep hf)
    have HF3 : Hid (Fr (fun _ => False) w w3) := hide ((unhide HF2).trans hf (fun _ _ t => t))
    clear hf hT HB2 HF2
    have HRK := hide (unhide HB3).bk
    obtain ⟨L, hL⟩ : ∃ L, listK l n = L := ⟨_, rfl⟩
    have HL := hide hL
    rw [hL] at HTR
    rw [hL]
    clear hL
    have HLE : Hid (L.length ≤ 1000 ∧ l.length ≤ 1000) := hide ⟨by have a1 := cntK_all (unhide HRK).rk n; have a2 := cntK_le l n l.length; rw [unhide HL] at a1; have := (unhide HRK).few; omega, (unhide HRK).few⟩
    go_upto_block 0 with (fail)
    go_cut [11, 12] from 53 to 89 (fun kv _ wc => kv = .int .i64 L.length ∧ Hid (Fr (fun _ => False) w3 wc))
    case first =>
      go_wp2
      go_loopw [11, 12] (fun kv iv wr => ∃ i : Nat, i ≤ l.length ∧ kv = .int .i64 (cntK l n i : Nat) ∧ iv = .int .i64 i ∧ Hid (Fr (fun _ => False) w3 wr)) (fun _ iv _ => l.length - (intOf iv).toNat)
      case atStart => exact ⟨0, Nat.zero_le _, rfl, rfl, Fr.refl _ _⟩
      case round =>
        obtain ⟨i, hi, rfl, rfl, HI⟩ := hrel
        by_cases hil : i < l.length
        · have hil2 : (i : Int) < (l.length : Int) := by omega
          obtain ⟨bz, off, rfl, c0, c1, c2⟩ := ((unhide H).keep ((unhide HF3).trans (unhide HI) (fun _ _ t => t))).ac hil
          have hac := acc_in ((unhide HRK).ok l[i] (List.getElem_mem hil))
          have hw1 : IntKind.i64.wrap (l[i].charged - l[i].paid) = l[i].charged - l[i].paid := by rw [IntKind.wrap_i64]; omega
          have HLT := hide hil
          by_cases hp : n < owedA l[i]
          · obtain ⟨k1, k2⟩ := cntK_yes (unhide HRK).rk hil hp
            rw [unhide HL] at k2
            have hp2 : decide (n < l[i].charged - l[i].paid) = true := decide_eq_true hp
            have hkl : cntK l n i < L.length := (List.getElem?_eq_some_iff.1 k2).1
            obtain ⟨rfl, d0⟩ := ((unhide HTR).keep (unhide HI)).at hkl
            rw [(List.getElem?_eq_some_iff.1 k2).2] at d0
            have HK1 := hide k1
            have hk9 : ((cntK l n i : Nat) : Int) ≤ 1000 := by have := (unhide HLE).1; omega
            clear k1 k2 hp hac
            generalize l[i].tok = xt at *
            generalize l[i].charged = xc at *
            generalize l[i].paid = xp at *
            generalize cntK l n i = k at *
            have hnk : ¬ ((L.length : Int) ≤ (k : Int)) := by omega
            go_wp2_with fail
            go_quiet (fail)
            go_wp2_with fail
            go_quiet (fail)
            go_wp2
            refine ⟨⟨i + 1, by have := unhide HLT; omega, ?_, by go_num, ?_⟩, by have := unhide HLT; simp [intOf]; omega⟩
            · rw [unhide HK1]
              go_num
            · first
              | exact ((unhide HI).drewN _).drewN _
              | exact (unhide HI).drewN _
          · have HK1 := hide (cntK_no hil hp)
            have hp2 : ¬ (n < l[i].charged - l[i].paid) := hp
            clear hp hac
            generalize l[i].tok = xt at *
            generalize l[i].charged = xc at *
            generalize l[i].paid = xp at *
            go_wp2_with fail
            go_quiet (fail)
            go_wp2
            exact ⟨⟨i + 1, by have := unhide HLT; omega, by rw [unhide HK1], by go_num, (unhide HI).drewN _⟩, by have := unhide HLT; simp [intOf]; omega⟩
        · obtain rfl : i = l.length := by omega
          have HE : Hid (cntK l n l.length = L.length) := hide (by rw [cntK_all (unhide HRK).rk, unhide HL])
          have hil2 : ¬ (l.length : Int) < (l.length : Int) := by omega
          go_wp2
          go_meet
          exact ⟨by rw [unhide HE], unhide HI⟩
    case rest =>
      obtain ⟨rfl, HC⟩ := hcut
      have HBC := hide ((unhide HB3).keep (unhide HC))
      have HFC := hide ((unhide HF3).trans (unhide HC) (fun _ _ t => t))
      have HLL : Hid (L.length ≤ 1000) := hide (unhide HLE).1
      have hl3 : (L.length : Int) ≤ 1000 := by have := unhide HLL; omega
      clear HC HB3 HF3 HTR HL HLE hl H
      obtain ⟨D, hD⟩ : ∃ D, debtK l t = D := ⟨_, rfl⟩
      have HD := hide hD
      have RD := hide (bdebt_any (unhide HBC) (unhide HT))
      rw [hD] at RD
      clear hD
      go_wp2_with fail
      refine (unhide RD).mono ?_
      rintro e w5 ⟨rfl, hf⟩
      have HB5 := hide ((unhide HBC).keep hf)
      have HF5 := hide ((unhide HFC).trans hf (fun _ _ t => t))
      clear hf HBC HFC RD
      have RA := hide (baccount_any (unhide HB5) (unhide HT))
      cases hat : atK l t with
      | none =>
        rw [hat] at RA
        have hg : getK l t = zA := getK_none (by rw [hat]; rfl)
        have hD0 : D = 0 := by rw [← unhide HD]; exact owed_none (by rw [hat]; rfl)
        subst hD0
        rw [hg] at RA
        have hacC : acC zA = #[.string ⟨#[]⟩, .int .i64 0, .int .i64 0] := rfl
        rw [hacC] at RA
        clear hacC hg hat HRK
        go_wp2_with fail
        refine (unhide RA).mono ?_
        rintro e w6 ⟨rfl, hf⟩
        have HF6 := hide ((unhide HF5).trans hf (fun _ _ t => t))
        clear hf HF5 RA HB5
        go_wp2
        go_ret
        exact ⟨rfl, (unhide HF6).alloc _⟩
      | some a =>
        rw [hat] at RA
        have hg : getK l t = a := by unfold getK; rw [hat]; rfl
        rw [hg] at RA
        have hacC : acC a = #[.string a.tok, .int .i64 a.charged, .int .i64 a.paid] := rfl
        rw [hacC] at RA
        have HSS := hide (set_same (unhide HRK) hat)
        have HGA : Hid (acC (getK l t) = #[.string a.tok, .int .i64 a.charged, .int .i64 a.paid] ∧ (atK l t).isSome = true) := hide ⟨by rw [hg]; rfl, by rw [hat]; rfl⟩
        clear hacC hg hat
        generalize a.tok = xt at *
        generalize a.charged = xc at *
        generalize a.paid = xp at *
        go_wp2_with fail
        refine (unhide RA).mono ?_
        rintro e w6 ⟨rfl, hf⟩
        clear RA
        have HB6 := hide ((unhide HB5).keep (hf.alloc (.cells #[.string xt, .int .i64 xc, .int .i64 xp] 26)))
        have HF6 := hide (((unhide HF5).trans hf (fun _ _ t => t)).alloc (.cells #[.string xt, .int .i64 xc, .int .i64 xp] 26))
        have HX6 := hide (Bx.new w6 #[.string xt, .int .i64 xc, .int .i64 xp] 26)
        have HBL : Hid (b < w6.heap.size) := hide (by have := (unhide HB5).mlt; have := hf.size; omega)
        clear hf HB5 HF5
        have RS := hide (bset_any (unhide HB6) (unhide HT) xc)
        rw [unhide HSS] at RS
        go_wp2_with fail
        refine (unhide RS).mono ?_
        rintro e w7 ⟨rfl, hbm, hf⟩
        have HB7 := hide hbm
        have HF7 : Hid (Fr (fun _ => False) w w7) := hide ((unhide HF6).trans hf (fun i hi t => by have := (unhide HPB).2; omega))
        have HX7 := hide ((unhide HX6).frame hf (by have := unhide HBL; omega))
        clear hbm hf RS HB6 HF6 HX6
        have RA2 := hide (baccount_any (unhide HB7) (unhide HT))
        rw [(unhide HGA).1, (unhide HGA).2] at RA2
        go_wp2_with fail
        refine (unhide RA2).mono ?_
        rintro e w8 ⟨rfl, hf⟩
        have HB8 := hide ((unhide HB7).keep (hf.alloc (.cells #[.string xt, .int .i64 xc, .int .i64 xp] 26)))
        have HF8 := hide (((unhide HF7).trans hf (fun _ _ t => t)).alloc (.cells #[.string xt, .int .i64 xc, .int .i64 xp] 26))
        have HX8 := (unhide HX7).keep (hf.alloc (.cells #[.string xt, .int .i64 xc, .int .i64 xp] 26))
        have a0 := HX8.cell 0
        have a1 := HX8.cell 1
        have a2 := HX8.cell 2
        simp only [List.getElem?_toArray, List.getElem?_cons_zero, List.getElem?_cons_succ] at a0 a1 a2
        have q1 : Try.prog.eqGuardType Try.prog.depth 26 = false := by kernel_rfl
        have q2 := eqAccK
        clear hf HB7 HF7 HX7 RA2 HX8
        by_cases hd0 : D = 0
        · subst hd0
          go_wp2
          go_ret
          exact ⟨rfl, unhide HF8⟩
        · have hdd : ((D : Int) == 0) = false := by rw [← Bool.not_eq_true, beq_iff_eq]; exact hd0
          obtain ⟨l', hpy, hdz⟩ := pay_all (unhide HRK) (t := t) (by rw [unhide HD]; exact hd0)
          rw [unhide HD] at hpy
          have HDZ := hide hdz
          have RP := hide (bpay_any (unhide HB8) (unhide HT) D)
          rw [hpy] at RP
          clear hpy hdz hd0
          go_wp2_with fail
          refine (unhide RP).mono ?_
          rintro e w9 ⟨rfl, hbm, hf⟩
          have HB9 := hide hbm
          have HF9 : Hid (Fr (fun _ => False) w w9) := hide ((unhide HF8).trans hf (fun i hi t => by have := (unhide HPB).2; omega))
          clear hbm hf HB8 HF8 RP a0 a1 a2 q1 q2
          have km : ∀ ts ty u, (Builtin.max_ ts ty #[.int .i64 n, .int .i64 0]).run Try.prog u = .ok (.int .i64 (max n 0)) u := fun ts ty u => run_maxB ts ty n 0 u
          have HM : Hid (0 ≤ max n 0) := hide (by omega)
          generalize max n 0 = m at *
          have HNL := hide (not_listed (unhide HDZ) (unhide HM))
          have hfew := (unhide HB9).bk
          have HLN : Hid ((listK l' m).length ≤ 1000) := hide (by have a1 := cntK_all hfew.rk m; have a2 := cntK_le l' m l'.length; have := hfew.few; omega)
          have RL := hide (blisted_any (unhide HB9) m)
          generalize listK l' m = Q at *
          have hq9 : (Q.length : Int) ≤ 1000 := by have := unhide HLN; omega
          clear hfew
          go_wp2_with fail
          refine (unhide RL).mono ?_
          rintro e w10 ⟨aq2, cq2, g2, rfl, hT, _, hf⟩
          have HTQ := hide hT
          have HB10 := hide ((unhide HB9).keep hf)
          have HF10 := hide ((unhide HF9).trans hf (fun _ _ t => t))
          clear hT hf HB9 HF9 RL
          have RD := hide (bdebt_any (unhide HB10) (unhide HT))
          rw [unhide HDZ] at RD
          go_wp2
          go_loopw [23, 24] (fun lv iv wr => ∃ i : Nat, i ≤ Q.length ∧ lv = .bool false ∧ iv = .int .i64 i ∧ wr = w10) (fun _ iv _ => Q.length - (intOf iv).toNat)
          case atStart => exact ⟨0, Nat.zero_le _, rfl, rfl, by first | rfl | trivial⟩
          case round =>
            obtain ⟨i, hi, rfl, rfl, rfl⟩ := hrel
            by_cases hil : i < Q.length
            · have hil2 : (i : Int) < (Q.length : Int) := by omega
              obtain ⟨rfl, d0⟩ := (unhide HTQ).at hil
              have hne := unhide HNL Q[i] (List.getElem_mem hil)
              generalize Q[i] = s at *
              go_wp2
              exact ⟨⟨i + 1, by omega, rfl, by go_num, by first | rfl | trivial⟩, by simp [intOf]; omega⟩
            · have hil2 : ¬ (i : Int) < (Q.length : Int) := by omega
              go_wp2_with fail
              refine (unhide RD).mono ?_
              rintro e w11 ⟨rfl, hf⟩
              have HF11 := hide ((unhide HF10).trans hf (fun _ _ t => t))
              clear hf
              go_wp2
              go_ret
              exact ⟨rfl, unhide HF11⟩
  · have h02 : ((opA l : Int) != 0) = true := by rw [bne_iff_ne]; exact h0
    clear hf HOP HF1 h0
    generalize opA l = E at *
    go_wp2
    go_ret
    exact ⟨rfl, unhide HF2⟩
end Go.Proofs.Ytlhgfnpialndaaa

