import Derived.Test.YtmhljehkodhggaaU9
/- The walk of the law RiskThere. -/
namespace Go.Proofs.Ytmhljehkodhggaa
open Go.RowKit

theorem memS_take (ts : List ByteArray) (s : ByteArray) {i : Nat} (hi : i < ts.length) : memS (ts.take (i + 1)) s = (memS (ts.take i) s || eqS ts[i] s) := by
  unfold memS
  rw [List.take_succ_eq_append_getElem hi, List.any_append]
  simp

theorem there_all (l : Rl) (ts : List ByteArray) (hv : l.ver ≤ 9223372036854775807) : ∃ dv dA dG E, diffR l ts = (⟨dv, dA, dG⟩, E) ∧ (E ≠ 0 → dv = 0 ∧ dA = [] ∧ dG = []) ∧ (E = 0 → dv = l.ver + 1 ∧ 0 ≤ l.ver ∧ l.ver < 9223372036854775807 ∧ applyR l ⟨dv, dA, dG⟩ = (⟨l.ver + 1, riseL ts⟩, 0) ∧ rightE ⟨l.ver + 1, riseL ts⟩ = 0 ∧ (l.ver + 1 ≠ 9223372036854775807 → diffR ⟨l.ver + 1, riseL ts⟩ l.toks = (⟨l.ver + 1 + 1, dG, dA⟩, 0)) ∧ dA.length ≤ 1000 ∧ dG.length ≤ 1000 ∧ (riseL ts).length ≤ 1000 ∧ l.toks.length ≤ 1000) := by
  refine ⟨(diffR l ts).1.ver, (diffR l ts).1.add, (diffR l ts).1.gone, (diffR l ts).2, rfl, fun h => ?_, fun h => ?_⟩
  · rw [diffR_bad h]
    exact ⟨rfl, rfl, rfl⟩
  · obtain ⟨t1, t2, t3, t4⟩ := there h
    obtain ⟨o1, o2, o3, o4, o5⟩ := diffR_ok h
    have k := rightE_ok o1
    have kl := listOk_ris k.1
    refine ⟨by rw [o5], t3, by omega, t1, t2, t4, ?_, ?_, o4, listOk_len k.1⟩
    · rw [o5]; exact Nat.le_trans (woL_le (riseL_ris ts) kl) o4
    · rw [o5]; exact Nat.le_trans (woL_le kl (riseL_ris ts)) (listOk_len k.1)

set_option maxHeartbeats 8000000 in
set_option maxRecDepth 20000 in
theorem there_walk (w : World) (l : Rl) (a : Option Addr) (c : Nat) (hl : RIn w l a c) (ts : List ByteArray) (at' : Option Addr) (ct : Nat) (ht : SAt w at' ts) (hlt : ts.length * 16 ≤ 140737488355328) (other : ByteArray) :
    Calls Try.prog 3 #[.agg (rlC l a c), .slice at' ts.length ct, .string other] w fun e w' => e = .returned (.bool true) ∧ Fr (fun _ => False) w w' := by
  obtain ⟨dv, dA, dG, E, HDE, HBAD, HOK⟩ := there_all l ts hl.ver
  have R1 := hide (fun (w' : World) (hf : Fr (fun _ => False) w w') => diff_any w' l a c (hl.keep hf) ts at' ct (ht.keep hf) hlt)
  rw [HDE] at R1
  have R2 := hide (fun (w' : World) (hf : Fr (fun _ => False) w w') a1 c1 a2 c2 (hd : DI w' ⟨dv, dA, dG⟩ a1 c1 a2 c2) => apply_any w' l a c (hl.keep hf) ⟨dv, dA, dG⟩ a1 c1 a2 c2 hd)
  have HOKh := hide HOK
  have HBADh := hide HBAD
  have HL := hide hl
  have HTS := hide ht
  have HLT := hide hlt
  obtain ⟨B, HB⟩ : ∃ B, Hid (w.heap.size = B) := ⟨_, rfl⟩
  have HXl : Hid (∀ w', Fr (fun _ => False) (w.alloc (.cells (rlC l a c) 24)) w' → Fr (fun _ => False) w w' ∧ w'.cell? ⟨B, 0, none⟩ = some (.int .i64 l.ver) ∧ w'.cell? ⟨B, 1, none⟩ = some (.slice a l.toks.length c)) := hide (fun w' hf => by
    have hb := (Bx.new w (rlC l a c) 24).keep hf
    rw [unhide HB] at hb
    exact ⟨((Fr.refl _ _).alloc _).trans hf (fun _ _ t => t), hb.cell 0, hb.cell 1⟩)
  clear hl ht HOK HBAD HDE
  have hmlt : ts.length ≤ 140737488355328 := by omega
  clear hlt
  unfold Delta2 dlC rlC at R1
  unfold Applied rlC dlC at R2
  unfold rlC at HXl ⊢
  simp only at R1 R2
  go_enter Try.func3, Try.ntmps3
  go_wp2_with fail
  refine (awake13_any _).mono ?_
  rintro e w1 ⟨rfl, hF⟩
  rw [unhide HB]
  have HF1 := hide hF
  obtain ⟨_, x0, x1⟩ := unhide HXl w1 hF
  clear hF
  go_wp2_with fail
  refine (unhide R1 w1 (unhide HXl w1 (unhide HF1)).1).mono ?_
  rintro e w2 ⟨a1, c1, g1, a2, c2, g2, rfl, hD, hF⟩
  have HF2 := hide ((unhide HF1).trans hF (fun _ _ t => t))
  clear x0 x1 hF HF1 R1
  by_cases h0 : E = 0
  · subst h0
    obtain ⟨rfl, k1, k2, k3, k4, k5, k6, k7, k8, k9⟩ := unhide HOKh rfl
    rw [k3] at R2
    have HF3 : Hid (Fr (fun _ => False) (w.alloc (.cells #[.int .i64 l.ver, .slice a l.toks.length c] 24)) (w2.alloc (.cells #[.int .i64 (l.ver + 1), .slice a1 dA.length c1, .slice a2 dG.length c2] 27))) := hide ((unhide HF2).alloc _)
    have HDI : Hid (∀ w', Fr (fun _ => False) (w2.alloc (.cells #[.int .i64 (l.ver + 1), .slice a1 dA.length c1, .slice a2 dG.length c2] 27)) w' → DI w' ⟨l.ver + 1, dA, dG⟩ a1 c1 a2 c2 ∧ Bx w' w2.heap.size #[.int .i64 (l.ver + 1), .slice a1 dA.length c1, .slice a2 dG.length c2] 27) := hide (fun w' hf => by
      have hg : Fr (fun _ => False) w2 w' := ((Fr.refl _ _).alloc _).trans hf (fun _ _ t => t)
      exact ⟨⟨hD.add.sat.keep hg, hD.gone.sat.keep hg, by show dA.length ≤ _; omega, by show dG.length ≤ _; omega, by show l.ver + 1 ≤ _; omega, hD.add.len, hD.gone.len⟩, (Bx.new _ _ _).keep hf⟩)
    obtain ⟨M, HM⟩ : ∃ M, Hid (w2.heap.size = M) := ⟨_, rfl⟩
    rw [unhide HM] at HDI
    obtain ⟨_, x0, x1⟩ := unhide HXl _ (unhide HF3)
    have HVV := hide (And.intro k1 (And.intro k2 (And.intro k4 (And.intro k5 (And.intro k6 (And.intro k7 (And.intro k8 k9)))))))
    clear hD HF2 HOKh HBADh k1 k2 k3 k4 k5 k6 k7 k8 k9
    go_wp2_with fail
    rw [unhide HM]
    refine (unhide R2 _ (unhide HXl _ (unhide HF3)).1 a1 c1 a2 c2 (unhide HDI _ (Fr.refl _ _)).1).mono ?_
    rintro e w3 ⟨ao, cap, g, rfl, hL, hF⟩
    obtain ⟨P, HP⟩ : ∃ P, Hid (w3.heap.size = P) := ⟨_, rfl⟩
    have HS : Hid (∀ w', Fr (fun _ => False) (w3.alloc (.cells #[.int .i64 (l.ver + 1), .slice ao (riseL ts).length cap] 24)) w' → Fr (fun _ => False) w w' ∧ (w'.cell? ⟨B, 0, none⟩ = some (.int .i64 l.ver) ∧ w'.cell? ⟨B, 1, none⟩ = some (.slice a l.toks.length c)) ∧ Bx w' M #[.int .i64 (l.ver + 1), .slice a1 dA.length c1, .slice a2 dG.length c2] 27 ∧ Bx w' P #[.int .i64 (l.ver + 1), .slice ao (riseL ts).length cap] 24 ∧ RIn w' ⟨l.ver + 1, riseL ts⟩ ao cap ∧ SAt w' a1 dA ∧ SAt w' a2 dG ∧ SAt w' at' ts ∧ RIn w' l a c) := hide (fun w' hf => by
      have hg : Fr (fun _ => False) w3 w' := ((Fr.refl _ _).alloc _).trans hf (fun _ _ t => t)
      have hg2 := hF.trans hg (fun _ _ t => t)
      obtain ⟨q1, q2, q3⟩ := unhide HXl w' ((unhide HF3).trans hg2 (fun _ _ t => t))
      obtain ⟨q4, q5⟩ := unhide HDI w' hg2
      have hV := unhide HVV
      have q6 := (Bx.new w3 #[.int .i64 (l.ver + 1), .slice ao (riseL ts).length cap] 24).keep hf
      rw [unhide HP] at q6
      exact ⟨q1, ⟨q2, q3⟩, q5, q6, ⟨hL.sat.keep hg, by show (riseL ts).length ≤ _; omega, hL.len, by show l.ver + 1 ≤ _; omega⟩, q4.add, q4.gone, (unhide HTS).keep q1, (unhide HL).keep q1⟩)
    have HFP : Hid (Fr (fun _ => False) w3 (w3.alloc (.cells #[.int .i64 (l.ver + 1), .slice ao (riseL ts).length cap] 24))) := hide ((Fr.refl _ _).alloc _)
    clear x0 x1 hL hF HXl HDI R2 HF3
    have RR := hide (right_any _ ⟨l.ver + 1, riseL ts⟩ ao cap (unhide HS _ (Fr.refl _ _)).2.2.2.2.1.toks (unhide HS _ (Fr.refl _ _)).2.2.2.2.1.len)
    rw [(unhide HVV).2.2.1] at RR
    unfold rlC at RR
    go_wp2_with fail
    rw [unhide HP]
    refine (unhide RR).mono ?_
    clear RR
    rintro e w4 ⟨rfl, hF⟩
    obtain ⟨W3, hW3⟩ : ∃ W, W = w3.alloc (.cells #[.int .i64 (l.ver + 1), .slice ao (riseL ts).length cap] 24) := ⟨_, rfl⟩
    rw [← hW3] at HS hF
    have HF4 := hide hF
    clear hW3 HFP hF
    have x0 := (unhide HS w4 (unhide HF4)).2.1.1
    have p0 : w4.cell? ⟨P, 0, none⟩ = some (.int .i64 (l.ver + 1)) := (unhide HS w4 (unhide HF4)).2.2.2.1.cell 0
    have hw1 : wrap64 l.ver = l.ver := by unfold wrap64; have := unhide HVV; omega
    go_wp2
    clear x0 p0 hw1
    go_loopw [13, 14] (fun iv _ wr => ∃ (i : Nat), i ≤ ts.length ∧ iv = .int .i64 i ∧ Hid (Fr (fun _ => False) W3 wr)) (fun iv _ _ => ts.length - (intOf iv).toNat)
    case atStart => exact ⟨0, Nat.zero_le _, rfl, unhide HF4⟩
    case round =>
      obtain ⟨i, hi, rfl, HI⟩ := hrel
      clear HF4
      by_cases hil : i < ts.length
      · have hx : memS (riseL ts) ts[i] = true := memS_mem.2 ((riseL_mem ts _).2 (List.getElem_mem hil))
        have HC : Hid (∃ b off, at' = some ⟨b, off, none⟩ ∧ ∀ w', Fr (fun _ => False) wr w' → w'.cell? ⟨b, off + i, none⟩ = some (.string ts[i])) := hide (by
          obtain ⟨b, off, e, hc⟩ := (unhide HS wr (unhide HI)).2.2.2.2.2.2.2.1.at hil
          exact ⟨b, off, e, fun w' hf => (hf.cell (a := ⟨b, off + i, none⟩) (World.block_lt_of_cell? _ _ hc) (fun t => t)).trans hc⟩)
        obtain ⟨b, off, rfl, hc⟩ := unhide HC
        clear HC
        have HSS : Hid (∀ w', Fr (fun _ => False) wr w' → w'.cell? ⟨P, 0, none⟩ = some (.int .i64 (l.ver + 1)) ∧ w'.cell? ⟨P, 1, none⟩ = some (.slice ao (riseL ts).length cap) ∧ w'.cell? ⟨b, off + i, none⟩ = some (.string ts[i])) := hide (fun w' hf => ⟨((unhide HS wr (unhide HI)).2.2.2.1.keep hf).cell 0, ((unhide HS wr (unhide HI)).2.2.2.1.keep hf).cell 1, hc w' hf⟩)
        have RH : Hid (∀ w', Fr (fun _ => False) wr w' → Calls Try.prog 9 #[.agg #[.int .i64 (l.ver + 1), .slice ao (riseL ts).length cap], .string ts[i]] w' fun e w'' => e = .returned (.bool true) ∧ Fr (fun _ => False) wr w'') := hide (fun w' hf => by
          have hR := (unhide HS wr (unhide HI)).2.2.2.2.1
          have := has_any w' ⟨l.ver + 1, riseL ts⟩ ao cap ts[i] (hR.toks.keep hf) hR.len
          rw [show memS (Rl.toks ⟨l.ver + 1, riseL ts⟩) ts[i] = true from hx] at this
          exact this.mono (fun e w'' h => ⟨h.1, hf.trans h.2 (fun _ _ t => t)⟩))
        clear hc hx
        generalize ts[i] = x at *
        go_upto_region 12 with (fail)
        go_region_held3 (fun w' => w'.cell? ⟨P, 0, none⟩ = some (.int .i64 (l.ver + 1)) ∧ w'.cell? ⟨P, 1, none⟩ = some (.slice ao (riseL ts).length cap) ∧ w'.cell? ⟨b, off + i, none⟩ = some (.string x)) (first | exact unhide HSS _ (Fr.refl _ _) | exact unhide HSS _ ((Fr.refl _ _).drew) | exact unhide HSS _ (unhide hF5)) (first | (go_at_call 9; refine (unhide RH _ ((Fr.refl _ _).drew)).mono ?_; rintro e w5 ⟨rfl, hF5'⟩; have hF5 := hide hF5'; clear hF5'))
        have HI5 : Hid (Fr (fun _ => False) W3 w5) := hide ((unhide HI).trans (unhide hF5) (fun _ _ t => t))
        clear hF5 HSS RH HI
        go_wp2
        exact ⟨⟨i + 1, by omega, by go_num, unhide HI5⟩, by simp [intOf]; omega⟩
      · obtain rfl : i = ts.length := by omega
        obtain ⟨wa, HWA⟩ : ∃ wa, Hid (wa = wr ∧ Fr (fun _ => False) W3 wa) := ⟨wr, rfl, unhide HI⟩
        rw [← (unhide HWA).1]
        clear HI
        go_wp2
        go_loopw [15, 16] (fun bv iv wq => ∃ (i : Nat) (b : Bool), i ≤ ts.length ∧ iv = .int .i64 i ∧ bv = .bool b ∧ Hid (Fr (fun _ => False) W3 wq ∧ memS (ts.take i) other = b)) (fun _ iv _ => ts.length - (intOf iv).toNat)
        case atStart => exact ⟨0, false, Nat.zero_le _, rfl, rfl, (unhide HWA).2, rfl⟩
        case round =>
          obtain ⟨i, b, hi, rfl, rfl, HI⟩ := hrel
          clear HWA
          by_cases hil : i < ts.length
          · have HTK := hide (memS_take ts other hil)
            obtain ⟨q, off, rfl, c0⟩ := (unhide HS _ (unhide HI).1).2.2.2.2.2.2.2.1.at hil
            generalize ts[i] = x at *
            cases b with
            | true =>
              have HT' : Hid (memS (ts.take (i + 1)) other = true) := hide (by rw [unhide HTK, (unhide HI).2]; rfl)
              go_wp2
              exact ⟨⟨i + 1, true, by omega, by go_num, rfl, (unhide HI).1, unhide HT'⟩, by simp [intOf]; omega⟩
            | false =>
              obtain ⟨z, hz⟩ : ∃ z, (x.toList == other.toList) = z := ⟨_, rfl⟩
              have HT' : Hid (memS (ts.take (i + 1)) other = z) := hide (by rw [unhide HTK, (unhide HI).2, Bool.false_or]; exact hz)
              go_wp2
              exact ⟨⟨i + 1, z, by omega, by go_num, rfl, (unhide HI).1, unhide HT'⟩, by simp [intOf]; omega⟩
          · obtain rfl : i = ts.length := by omega
            have HBB : Hid (memS (riseL ts) other = b) := hide (by have := (unhide HI).2; rw [List.take_length] at this; rw [← this]; exact memS_same (riseL_mem ts) other)
            obtain ⟨wb, HWB⟩ : ∃ wb, Hid (wb = wr ∧ Fr (fun _ => False) W3 wb) := ⟨wr, rfl, (unhide HI).1⟩
            rw [← (unhide HWB).1]
            have HFb := hide (unhide HWB).2
            clear HI HWB
            have p0 : wb.cell? ⟨P, 0, none⟩ = some (.int .i64 (l.ver + 1)) := (unhide HS wb (unhide HFb)).2.2.2.1.cell 0
            have p1 : wb.cell? ⟨P, 1, none⟩ = some (.slice ao (riseL ts).length cap) := (unhide HS wb (unhide HFb)).2.2.2.1.cell 1
            have RH : Hid (Calls Try.prog 9 #[.agg #[.int .i64 (l.ver + 1), .slice ao (riseL ts).length cap], .string other] wb fun e w'' => e = .returned (.bool b) ∧ Fr (fun _ => False) wb w'') := hide (by
              have hR := (unhide HS wb (unhide HFb)).2.2.2.2.1
              have := has_any wb ⟨l.ver + 1, riseL ts⟩ ao cap other hR.toks hR.len
              rw [show memS (Rl.toks ⟨l.ver + 1, riseL ts⟩) other = b from unhide HBB] at this
              exact this)
            go_wp2_with fail
            refine (unhide RH).mono ?_
            rintro e w6 ⟨rfl, hF⟩
            have HF6 := hide ((unhide HFb).trans hF (fun _ _ t => t))
            clear p0 p1 hF RH HBB HFb
            have p0 : w6.cell? ⟨P, 0, none⟩ = some (.int .i64 (l.ver + 1)) := (unhide HS w6 (unhide HF6)).2.2.2.1.cell 0
            have p1 : w6.cell? ⟨P, 1, none⟩ = some (.slice ao (riseL ts).length cap) := (unhide HS w6 (unhide HF6)).2.2.2.1.cell 1
            have x1 := (unhide HS w6 (unhide HF6)).2.1.2
            have hbb : (b != b) = false := by cases b <;> rfl
            by_cases hmax : l.ver + 1 = 9223372036854775807
            · have hd : (l.ver + 1 == 9223372036854775807) = true := by rw [hmax]; rfl
              have HFF := hide (unhide HS w6 (unhide HF6)).1
              clear hmax HVV
              cases b
              all_goals
                go_wp2
                go_ret
                exact ⟨by first | rfl | simp, unhide HFF⟩
            · have hd : (l.ver + 1 == 9223372036854775807) = false := by rw [beq_eq_false_iff_ne]; exact hmax
              have RD := diff_any w6 ⟨l.ver + 1, riseL ts⟩ ao cap (unhide HS w6 (unhide HF6)).2.2.2.2.1 l.toks a c (unhide HS w6 (unhide HF6)).2.2.2.2.2.2.2.2.toks (by have := unhide HVV; omega)
              rw [(unhide HVV).2.2.2.1 hmax] at RD
              unfold Delta2 dlC rlC at RD
              simp only at RD
              have RD := hide RD
              clear hmax
              cases b
              all_goals
                go_wp2_with fail
                refine (unhide RD).mono ?_
                clear RD
                rintro e w7 ⟨b1, k1, i1, b2, k2, i2, rfl, hD, hF⟩
                obtain ⟨Q, HQ⟩ : ∃ Q, Hid (w7.heap.size = Q) := ⟨_, rfl⟩
                have hA : Fr (fun _ => False) w7 (w7.alloc (.cells #[.int .i64 (l.ver + 1 + 1), .slice b1 dG.length k1, .slice b2 dA.length k2] 27)) := (Fr.refl _ _).alloc _
                have HF7 := hide ((unhide HF6).trans (hF.trans hA (fun _ _ t => t)) (fun _ _ t => t))
                have HB7 : Hid (Bx (w7.alloc (.cells #[.int .i64 (l.ver + 1 + 1), .slice b1 dG.length k1, .slice b2 dA.length k2] 27)) Q #[.int .i64 (l.ver + 1 + 1), .slice b1 dG.length k1, .slice b2 dA.length k2] 27 ∧ SAt (w7.alloc (.cells #[.int .i64 (l.ver + 1 + 1), .slice b1 dG.length k1, .slice b2 dA.length k2] 27)) b1 dG ∧ SAt (w7.alloc (.cells #[.int .i64 (l.ver + 1 + 1), .slice b1 dG.length k1, .slice b2 dA.length k2] 27)) b2 dA) := hide ⟨by rw [← unhide HQ]; exact Bx.new _ _ _, hD.add.sat.keep hA, hD.gone.sat.keep hA⟩
                clear p0 p1 x1 hA hD hF HF6 hbb hd
                have m2 : (w7.alloc (.cells #[.int .i64 (l.ver + 1 + 1), .slice b1 dG.length k1, .slice b2 dA.length k2] 27)).cell? ⟨M, 2, none⟩ = some (.slice a2 dG.length c2) := (unhide HS _ (unhide HF7)).2.2.1.cell 2
                have RS := hide (sameT_is _ dG b1 k1 a2 c2 (unhide HB7).2.1 (unhide HS _ (unhide HF7)).2.2.2.2.2.2.1 (by have := unhide HVV; omega))
                go_wp2_with fail
                rw [unhide HQ]
                refine (unhide RS).mono ?_
                clear RS m2
                rintro e w8 ⟨rfl, hF⟩
                have HF8 := hide ((unhide HF7).trans hF (fun _ _ t => t))
                have q2 : w8.cell? ⟨Q, 2, none⟩ = some (.slice b2 dA.length k2) := ((unhide HB7).1.keep hF).cell 2
                have m1 : w8.cell? ⟨M, 1, none⟩ = some (.slice a1 dA.length c1) := (unhide HS _ (unhide HF8)).2.2.1.cell 1
                have RS := hide (sameT_is w8 dA b2 k2 a1 c1 ((unhide HB7).2.2.keep hF) (unhide HS _ (unhide HF8)).2.2.2.2.2.1 (by have := unhide HVV; omega))
                clear hF HB7 HF7
                go_wp2_with fail
                refine (unhide RS).mono ?_
                clear RS m1 q2
                rintro e w9 ⟨rfl, hF⟩
                have HFF := hide (unhide HS _ ((unhide HF8).trans hF (fun _ _ t => t))).1
                clear hF HF8 HS
                go_wp2
                go_ret
                exact ⟨by first | rfl | simp, unhide HFF⟩
  · obtain ⟨rfl, rfl, rfl⟩ := unhide HBADh h0
    have hx : (E == 0) = false := by rw [beq_eq_false_iff_ne]; exact h0
    have hF3 : Fr (fun _ => False) w2 (w2.alloc (.cells #[.int .i64 0, .slice a1 0 c1, .slice a2 0 c2] 27)) := (Fr.refl _ _).alloc _
    have HFF := hide (unhide HXl _ ((unhide HF2).trans hF3 (fun _ _ t => t))).1
    clear hF3 hD HF2 HXl R2 HOKh HBADh
    simp only [List.length_nil]
    go_wp2
    go_ret
    exact ⟨by first | rfl | simp, unhide HFF⟩

end Go.Proofs.Ytmhljehkodhggaa

