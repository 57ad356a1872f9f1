import Derived.Test.YtlhgfnpialndaaaDC0
/- The walk of DebtSums. -/
namespace Go.Proofs.Ytlhgfnpialndaaa
open Go.RowKit Go.Maps

set_option maxHeartbeats 2000000 in
set_option maxRecDepth 20000 in
theorem sums_walk (w : World) (t : ByteArray) (ht : t.size ≤ maxLen) (ao : Option Addr) (cap : Nat) (ops : List Opd) (h : CAt w ao (opV ops)) :
    Calls Try.prog 4 #[.string t, .slice ao ops.length cap] w fun e w' => e = .returned (.bool true) ∧ Fr (fun _ => False) w w' := by
  have H := hide h
  have HT := hide ht
  have HAW := hide (awakeK_any w)
  clear h ht
  go_enter Try.func4, Try.ntmps4
  go_wp2_with fail
  refine (unhide HAW).mono ?_
  rintro e w1 ⟨rfl, hf⟩
  have HF1 := hide hf
  clear hf HAW
  go_wp2_with fail
  refine (bnew_any w1).mono ?_
  rintro e w2 ⟨p, b, rfl, hbm, hf, hp, hb⟩
  have HF2 : Hid (Fr (fun _ => False) w w2) := hide ((unhide HF1).trans hf (fun _ _ t => t))
  have HPB : Hid (w.heap.size ≤ p ∧ w.heap.size ≤ b) := hide (by have := (unhide HF1).size; omega)
  have HB0 := hide hbm
  clear hbm hf hp hb HF1
  go_wp2
  go_loopw [7, 8, 9, 10, 11, 12, 13, 14, 15, 16, 17] (fun cv pv iv _ _ _ _ _ _ _ _ wr => ∃ (i : Nat) (l : List Ac) (c q : Int), i ≤ ops.length ∧ cv = .int .i64 c ∧ pv = .int .i64 q ∧ iv = .int .i64 i ∧ Hid (BM wr p b l ∧ Fr (fun _ => False) w wr ∧ (getK l t).charged = c ∧ (getK l t).paid = q)) (fun _ _ iv _ _ _ _ _ _ _ _ _ => ops.length - (intOf iv).toNat)
  case atStart => exact ⟨0, [], 0, 0, Nat.zero_le _, rfl, rfl, rfl, unhide HB0, unhide HF2, rfl, rfl⟩
  case round =>
    obtain ⟨i, l, c, q, hi, rfl, rfl, rfl, HI⟩ := hrel
    clear HB0
    by_cases hil : i < ops.length
    · obtain ⟨bz, off, rfl, c0, c1, c2⟩ := ((unhide H).keep (unhide HI).2.1).opK hil
      have hil2 : (i : Int) < (ops.length : Int) := by omega
      have HLT := hide hil
      generalize ops[i].act = a at *
      generalize ops[i].n = n at *
      generalize ops[i].tok = ot at *
      by_cases h200 : (i : Int) < 200
      · have HBI := hide (unhide HI).1
        have HFI := hide (unhide HI).2.1
        have HGC := hide (unhide HI).2.2
        have HR := hide ((unhide HI).1.bk.get t)
        rw [(unhide HGC).1, (unhide HGC).2] at HR
        have HA1 := hide ((Fr.refl (fun _ => False) wr).alloc (.cells #[.int .i64 a, .int .i64 n, .string ot] 39))
        clear HI
        go_upto_block 2 with (fail)
        go_cut [7, 8, 11, 12, 13, 14] from 42 to 85 (fun va vb _ _ _ _ wc => ∃ (lq : List Ac) (cq pq : Int), va = .int .i64 cq ∧ vb = .int .i64 pq ∧ Hid (BM wc p b lq ∧ Fr (fun _ => False) w wc ∧ (getK lq t).charged = cq ∧ (getK lq t).paid = pq))
        case first =>
          by_cases ha : a = 0
          · have ha2 : ((a : Int) == 0) = true := by rw [beq_iff_eq]; exact ha
            clear ha
            rcases setK_cases (unhide HBI).bk t n with ⟨e, he, hs⟩ | ⟨lq, m, k, hs, hk, e1, e2⟩
            · have HS := hide (bset_any ((unhide HBI).keep (unhide HA1)) (unhide HT) n)
              rw [hs] at HS
              have he2 : ((e : Int) != 0) = true := by rw [bne_iff_ne]; exact he
              clear hs he
              go_wp2_with fail
              refine (unhide HS).mono ?_
              rintro er w5 ⟨rfl, hbm, hf⟩
              have HBM := hide hbm
              have HFW : Hid (Fr (fun _ => False) w w5) := hide (((unhide HFI).trans (unhide HA1) (fun _ _ t => t)).trans hf (fun j hj t => by have := (unhide HPB).2; omega))
              clear hbm hf HS
              have hz1 : wrap64 c = c := by have := unhide HR; unfold wrap64; omega
              have hz2 : wrap64 q = q := by have := unhide HR; unfold wrap64; omega
              go_wp2
              go_meet
              exact ⟨l, c, q, by first | rfl | rw [hz1], by first | rfl | rw [hz2], hide ⟨unhide HBM, unhide HFW, (unhide HGC).1, (unhide HGC).2⟩⟩
            · have HS := hide (bset_any ((unhide HBI).keep (unhide HA1)) (unhide HT) n)
              rw [hs] at HS
              have HBQ := hide (setK_bk (unhide HBI).bk t n)
              rw [hs] at HBQ
              have hk2 : decide (k < 0) = false := decide_eq_false (by omega)
              have HE : Hid ((getK lq t).charged = c + m ∧ (getK lq t).paid = q - k) := hide (by rw [(unhide HGC).1] at e1; rw [(unhide HGC).2] at e2; exact ⟨e1, e2⟩)
              have HGQ := hide ((unhide HBQ).get t)
              simp only at HGQ
              have hz1 : wrap64 (c + m) = c + m := by have a1 := unhide HGQ; have a2 := unhide HE; unfold wrap64; omega
              have hz2 : wrap64 (q - k) = q - k := by have a1 := unhide HGQ; have a2 := unhide HE; unfold wrap64; omega
              clear hs e1 e2 hk HBQ HGQ
              go_wp2_with fail
              refine (unhide HS).mono ?_
              rintro er w5 ⟨rfl, hbm, hf⟩
              have HBM := hide hbm
              have HFW : Hid (Fr (fun _ => False) w w5) := hide (((unhide HFI).trans (unhide HA1) (fun _ _ t => t)).trans hf (fun j hj t => by have := (unhide HPB).2; omega))
              clear hbm hf HS
              go_wp2
              go_meet
              exact ⟨lq, c + m, q - k, by first | rfl | rw [hz1], by first | rfl | rw [hz2], hide ⟨unhide HBM, unhide HFW, (unhide HE).1, (unhide HE).2⟩⟩
          · have ha2 : ((a : Int) == 0) = false := by rw [← Bool.not_eq_true, beq_iff_eq]; exact ha
            by_cases ha1 : a = 1
            · have ha3 : ((a : Int) == 1) = true := by rw [beq_iff_eq]; exact ha1
              clear ha ha1
              rcases payK_cases (unhide HBI).bk t n with hs | ⟨lq, hs, e1, e2⟩
              · have HS := hide (bpay_any ((unhide HBI).keep (unhide HA1)) (unhide HT) n)
                rw [hs] at HS
                clear hs
                go_wp2_with fail
                refine (unhide HS).mono ?_
                rintro er w5 ⟨rfl, hbm, hf⟩
                have HBM := hide hbm
                have HFW : Hid (Fr (fun _ => False) w w5) := hide (((unhide HFI).trans (unhide HA1) (fun _ _ t => t)).trans hf (fun j hj t => by have := (unhide HPB).2; omega))
                clear hbm hf HS
                go_wp2
                go_meet
                exact ⟨l, c, q, by first | rfl | rw [hz1], by first | rfl | rw [hz2], hide ⟨unhide HBM, unhide HFW, (unhide HGC).1, (unhide HGC).2⟩⟩
              · have HS := hide (bpay_any ((unhide HBI).keep (unhide HA1)) (unhide HT) n)
                rw [hs] at HS
                have HBQ := hide (payK_bk (unhide HBI).bk t n)
                rw [hs] at HBQ
                have HE : Hid ((getK lq t).charged = c ∧ (getK lq t).paid = q + n) := hide (by rw [(unhide HGC).1] at e1; rw [(unhide HGC).2] at e2; exact ⟨e1, e2⟩)
                have HGQ := hide ((unhide HBQ).get t)
                simp only at HGQ
                have hz2 : wrap64 (q + n) = q + n := by have a1 := unhide HGQ; have a2 := unhide HE; unfold wrap64; omega
                clear hs e1 e2 HBQ HGQ
                have HB1 := hide ((Bx.new wr #[.int .i64 a, .int .i64 n, .string ot] 39))
                have HBLT : Hid (b < wr.heap.size) := hide (unhide HBI).mlt
                go_wp2_with fail
                refine (unhide HS).mono ?_
                rintro er w5 ⟨rfl, hbm, hf⟩
                have HBM := hide hbm
                have HFW : Hid (Fr (fun _ => False) w w5) := hide (((unhide HFI).trans (unhide HA1) (fun _ _ t => t)).trans hf (fun j hj t => by have := (unhide HPB).2; omega))
                have b9 : w5.cell? ⟨wr.heap.size, 1, none⟩ = some (.int .i64 n) := ((unhide HB1).frame hf (by have := unhide HBLT; omega)).cell 1
                clear hbm hf HS HB1 HBLT
                go_wp2
                go_meet
                exact ⟨lq, c, q + n, rfl, by first | rfl | rw [hz2], hide ⟨unhide HBM, unhide HFW, (unhide HE).1, (unhide HE).2⟩⟩
            · have ha3 : ((a : Int) == 1) = false := by rw [← Bool.not_eq_true, beq_iff_eq]; exact ha1
              clear ha ha1
              go_wp2
              go_meet
              exact ⟨l, c, q, by first | rfl | rw [hz1], by first | rfl | rw [hz2], hide ⟨(unhide HBI).keep (unhide HA1), (unhide HFI).trans (unhide HA1) (fun _ _ t => t), (unhide HGC).1, (unhide HGC).2⟩⟩
        case rest =>
          obtain ⟨lq, cq, pq, rfl, rfl, HC⟩ := hcut
          have HBM := hide (unhide HC).1
          have HFW := hide (unhide HC).2.1
          have HCQ := hide (unhide HC).2.2
          clear HC HBI HFI HGC HR HA1 c0 c1 c2
          have HG := hide ((unhide HBM).bk.get t)
          have HAC := hide (baccount_any (unhide HBM) (unhide HT))
          have HDB : Hid (∀ u, Fr (fun _ => False) wc u → Calls Try.prog 15 #[.pointer (some ⟨p, 0, none⟩), .string t] u fun e w' => e = .returned (.int .i64 (debtK lq t)) ∧ Fr (fun _ => False) u w') := hide (fun u hu => bdebt_any ((unhide HBM).keep hu) (unhide HT))
          have HD : Hid (debtK lq t = (getK lq t).charged - (getK lq t).paid) := hide rfl
          have HNO : Hid ((atK lq t).isSome = false → (getK lq t).charged = 0 ∧ (getK lq t).paid = 0) := hide (fun e => by rw [getK_none e]; exact ⟨rfl, rfl⟩)
          have hacC : acC (getK lq t) = #[.string (getK lq t).tok, .int .i64 (getK lq t).charged, .int .i64 (getK lq t).paid] := rfl
          rw [hacC, (unhide HCQ).1, (unhide HCQ).2] at HAC
          clear hacC
          obtain ⟨tq, htq⟩ : ∃ c, (getK lq t).tok = c := ⟨_, rfl⟩
          rw [(unhide HCQ).1, (unhide HCQ).2] at HD HG HNO
          rw [htq] at HAC
          clear htq
          obtain ⟨D, hD⟩ : ∃ D, debtK lq t = D := ⟨_, rfl⟩
          rw [hD] at HDB HD
          clear hD
          have hw1 : wrap64 (cq - pq) = D := by have a1 := unhide HG; have a2 := unhide HD; unfold wrap64; omega
          have hw2 : decide (D < 0) = false := decide_eq_false (by have a1 := unhide HG; have a2 := unhide HD; omega)
          go_wp2_with fail
          refine (unhide HAC).mono ?_
          rintro e w6 ⟨rfl, hf⟩
          have HF6 := hide hf
          have HDB6 := hide (unhide HDB (w6.alloc (.cells #[.string tq, .int .i64 cq, .int .i64 pq] 26)) (hf.alloc _))
          have HB6 := hide (Bx.new w6 #[.string tq, .int .i64 cq, .int .i64 pq] 26)
          clear hf HDB HAC
          cases his : (atK lq t).isSome with
          | true =>
            clear HNO
            go_wp2_with fail
            refine (unhide HDB6).mono ?_
            rintro e w7 ⟨rfl, hf⟩
            have HF7 := hide (((unhide HF6).alloc (.cells #[.string tq, .int .i64 cq, .int .i64 pq] 26)).trans hf (fun _ _ t => t))
            have b1 : w7.cell? ⟨w6.heap.size, 1, none⟩ = some (.int .i64 cq) := ((unhide HB6).keep hf).cell 1
            have b2 : w7.cell? ⟨w6.heap.size, 2, none⟩ = some (.int .i64 pq) := ((unhide HB6).keep hf).cell 2
            clear hf HDB6 HB6 his
            go_wp2
            exact ⟨⟨i + 1, lq, cq, pq, by have := unhide HLT; omega, rfl, rfl, by go_num, (unhide HBM).keep (unhide HF7), (unhide HFW).trans (unhide HF7) (fun _ _ t => t), (unhide HCQ).1, (unhide HCQ).2⟩, by have := unhide HLT; simp [intOf]; omega⟩
          | false =>
            obtain ⟨z1, z2⟩ := unhide HNO his
            subst z1 z2
            clear HNO
            go_wp2_with fail
            refine (unhide HDB6).mono ?_
            rintro e w7 ⟨rfl, hf⟩
            have HF7 := hide (((unhide HF6).alloc (.cells #[.string tq, .int .i64 0, .int .i64 0] 26)).trans hf (fun _ _ t => t))
            have b1 : w7.cell? ⟨w6.heap.size, 1, none⟩ = some (.int .i64 0) := ((unhide HB6).keep hf).cell 1
            have b2 : w7.cell? ⟨w6.heap.size, 2, none⟩ = some (.int .i64 0) := ((unhide HB6).keep hf).cell 2
            have hw3 : D = 0 := by rw [← hw1]; unfold wrap64; omega
            subst hw3
            clear hf HDB6 HB6 his
            go_wp2
            exact ⟨⟨i + 1, lq, 0, 0, by have := unhide HLT; omega, rfl, rfl, by go_num, (unhide HBM).keep (unhide HF7), (unhide HFW).trans (unhide HF7) (fun _ _ t => t), (unhide HCQ).1, (unhide HCQ).2⟩, by have := unhide HLT; simp [intOf]; omega⟩
      · have hlt2 : decide ((i : Int) < 200) = false := decide_eq_false h200
        go_wp2
        go_ret
        exact ⟨rfl, (unhide HI).2.1⟩
    · obtain rfl : i = ops.length := by omega
      have hlt2 : decide ((ops.length : Int) < (ops.length : Int)) = false := decide_eq_false (by omega)
      go_wp2
      go_ret
      exact ⟨rfl, (unhide HI).2.1⟩
end Go.Proofs.Ytlhgfnpialndaaa

