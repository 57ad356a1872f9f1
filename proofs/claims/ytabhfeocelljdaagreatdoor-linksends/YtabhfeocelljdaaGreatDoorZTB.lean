import Derived.Test.YtabhfeocelljdaaGreatDoorZTA
/- The document's May: which frames may be. -/
namespace Go.Proofs.YtabhfeocelljdaaGreatDoor
open Go.RowKit Go.Maps

set_option maxHeartbeats 4000000 in
set_option maxRecDepth 20000 in
theorem rmay_any (w : World) (f : Fm) (io : Option Addr) (ic : Nat) (bo : Option Addr) (bc : Nat) (hA : f.At w io bo bc) :
    Calls Tryz.prog 27 #[.agg (f.cells io ic bo bc)] w fun e w' => e = .returned (.bool f.may) ∧ Hid (Fr (fun _ => False) w w') := by
  obtain ⟨kd, ba, sq, its, bts⟩ := f
  simp only [Fm.cells]
  have hsmI : (its.length : Int) ≤ 140737488355328 := by have h : its.length ≤ 140737488355328 := hA.items.small; omega
  have hsmB : (bts.length : Int) ≤ 140737488355328 := by have h : bts.length ≤ 140737488355328 := hA.bytes.2.2; omega
  have HA := hide (hA.items.later ((Fr.refl (fun _ => False) w).alloc (.cells #[.int .i64 kd, .int .i64 ba, .int .i64 sq, .slice io its.length ic, .slice bo bts.length bc] 25)))
  have HBX := hide (Bx.new w #[.int .i64 kd, .int .i64 ba, .int .i64 sq, .slice io its.length ic, .slice bo bts.length bc] 25)
  have HFW : Hid (Fr (fun _ => False) w (w.alloc (.cells #[.int .i64 kd, .int .i64 ba, .int .i64 sq, .slice io its.length ic, .slice bo bts.length bc] 25))) := hide ((Fr.refl _ _).alloc _)
  clear hA
  by_cases hk : kd = 1
  · subst hk
    by_cases a1 : its.length < 1
    · have q1 : decide ((its.length : Int) < 1) = true := decide_eq_true (by omega)
      have q2 : decide (its.length < 1) = true := decide_eq_true (by omega)
      have q3 : decide (its.length = 0) = true := decide_eq_true (by omega)
      have hr : (Fm.mk 1 ba sq its bts).may = false := by
        unfold Fm.may Fm.mayItems
        simp only [if_pos]
        rw [Bool.and_eq_false_iff]
        right; rw [Bool.and_eq_false_iff]; left; exact decide_eq_false (by omega)
      rw [hr]
      clear hr a1
      go_enter Tryz.func27, Tryz.ntmps27
      go_wp2
      go_ret
      exact ⟨rfl, HFW⟩
    have q4 : decide ((its.length : Int) < 1) = false := decide_eq_false (by omega)
    have q5 : decide (its.length < 1) = false := decide_eq_false (by omega)
    have q6 : decide (its.length = 0) = false := decide_eq_false (by omega)
    by_cases a2 : 8 < its.length
    · have q7 : decide ((its.length : Int) > 8) = true := decide_eq_true (by omega)
      have q8 : decide (8 < (its.length : Int)) = true := decide_eq_true (by omega)
      have q9 : decide (8 < its.length) = true := decide_eq_true (by omega)
      have hr : (Fm.mk 1 ba sq its bts).may = false := by
        unfold Fm.may Fm.mayItems
        simp only [if_pos]
        rw [Bool.and_eq_false_iff]
        right; rw [Bool.and_eq_false_iff]; left; exact decide_eq_false (by omega)
      rw [hr]
      clear hr a1 a2
      go_enter Tryz.func27, Tryz.ntmps27
      go_wp2
      go_ret
      exact ⟨rfl, HFW⟩
    have q10 : decide ((its.length : Int) > 8) = false := decide_eq_false (by omega)
    have q11 : decide (8 < (its.length : Int)) = false := decide_eq_false (by omega)
    have q12 : decide (8 < its.length) = false := decide_eq_false (by omega)
    by_cases a3 : ba < 1
    · have q13 : decide (ba < 1) = true := decide_eq_true (by omega)
      have hr : (Fm.mk 1 ba sq its bts).may = false := by
        unfold Fm.may Fm.mayItems
        simp only [if_pos]
        rw [Bool.and_eq_false_iff]
        right; rw [Bool.and_eq_false_iff]; left; exact decide_eq_false (by omega)
      rw [hr]
      clear hr a1 a2 a3
      go_enter Tryz.func27, Tryz.ntmps27
      go_wp2
      go_ret
      exact ⟨rfl, HFW⟩
    have q14 : decide (ba < 1) = false := decide_eq_false (by omega)
    by_cases a4 : sq < ba
    · have q15 : decide (sq < ba) = true := decide_eq_true (by omega)
      have hr : (Fm.mk 1 ba sq its bts).may = false := by
        unfold Fm.may Fm.mayItems
        simp only [if_pos]
        rw [Bool.and_eq_false_iff]
        right; rw [Bool.and_eq_false_iff]; left; exact decide_eq_false (by omega)
      rw [hr]
      clear hr a1 a2 a3 a4
      go_enter Tryz.func27, Tryz.ntmps27
      go_wp2
      go_ret
      exact ⟨rfl, HFW⟩
    have q16 : decide (sq < ba) = false := decide_eq_false (by omega)
    by_cases a5 : 4294967295 < sq
    · have q17 : decide (sq > 4294967295) = true := decide_eq_true (by omega)
      have q18 : decide (4294967295 < sq) = true := decide_eq_true (by omega)
      have hr : (Fm.mk 1 ba sq its bts).may = false := by
        unfold Fm.may Fm.mayItems
        simp only [if_pos]
        rw [Bool.and_eq_false_iff]
        right; rw [Bool.and_eq_false_iff]; left; exact decide_eq_false (by omega)
      rw [hr]
      clear hr a1 a2 a3 a4 a5
      go_enter Tryz.func27, Tryz.ntmps27
      go_wp2
      go_ret
      exact ⟨rfl, HFW⟩
    have q19 : decide (sq > 4294967295) = false := decide_eq_false (by omega)
    have q20 : decide (4294967295 < sq) = false := decide_eq_false (by omega)
    by_cases a6 : 4294967295 < sq + (its.length : Int) - 1
    · have q21 : decide (sq + (its.length : Int) - 1 > 4294967295) = true := decide_eq_true (by omega)
      have q22 : decide (4294967295 < sq + (its.length : Int) - 1) = true := decide_eq_true (by omega)
      have hb1 : 0 ≤ sq := by omega
      have hb2 : sq ≤ 4294967295 := by omega
      have hb3 : (its.length : Int) ≤ 8 := by omega
      have hr : (Fm.mk 1 ba sq its bts).may = false := by
        unfold Fm.may Fm.mayItems
        simp only [if_pos]
        rw [Bool.and_eq_false_iff]
        right; rw [Bool.and_eq_false_iff]; left; exact decide_eq_false (by omega)
      rw [hr]
      clear hr a1 a2 a3 a4 a5 a6
      go_enter Tryz.func27, Tryz.ntmps27
      go_wp2
      go_ret
      exact ⟨rfl, HFW⟩
    have q23 : decide (sq + (its.length : Int) - 1 > 4294967295) = false := decide_eq_false (by omega)
    have q24 : decide (4294967295 < sq + (its.length : Int) - 1) = false := decide_eq_false (by omega)
    by_cases a7 : 0 < bts.length
    · have q25 : decide ((bts.length : Int) > 0) = true := decide_eq_true (by omega)
      have q26 : decide (0 < (bts.length : Int)) = true := decide_eq_true (by omega)
      have q27 : decide (0 < bts.length) = true := decide_eq_true (by omega)
      have hb1 : 0 ≤ sq := by omega
      have hb2 : sq ≤ 4294967295 := by omega
      have hb3 : (its.length : Int) ≤ 8 := by omega
      have hr : (Fm.mk 1 ba sq its bts).may = false := by
        unfold Fm.may Fm.mayItems
        simp only [if_pos]
        rw [Bool.and_eq_false_iff]
        left; exact decide_eq_false (by omega)
      rw [hr]
      clear hr a1 a2 a3 a4 a5 a6 a7
      go_enter Tryz.func27, Tryz.ntmps27
      go_wp2
      go_ret
      exact ⟨rfl, HFW⟩
    have q28 : decide ((bts.length : Int) > 0) = false := decide_eq_false (by omega)
    have q29 : decide (0 < (bts.length : Int)) = false := decide_eq_false (by omega)
    have q30 : decide (0 < bts.length) = false := decide_eq_false (by omega)
    have HN : Hid ((1 ≤ its.length ∧ its.length ≤ 8) ∧ (1 ≤ ba ∧ ba ≤ sq) ∧ sq ≤ 4294967296 - (its.length : Int)) := hide (by omega)
    have HB0 : Hid (bts.length = 0) := hide (by omega)
    have hi8 : its.length ≤ 8 := by omega
    have hb1 : 0 ≤ sq := by omega
    have hb2 : sq ≤ 4294967295 := by omega
    have hb3 : (its.length : Int) ≤ 8 := by omega
    obtain ⟨r, hr0⟩ : ∃ r, (Fm.mk 1 ba sq its bts).may = r := ⟨_, rfl⟩
    rw [hr0]
    have HR := hide hr0
    clear a1 a2 a3 a4 a5 a6 a7 hr0
    go_enter Tryz.func27, Tryz.ntmps27
    go_wp2
    generalize w.alloc (.cells #[.int .i64 1, .int .i64 ba, .int .i64 sq, .slice io its.length ic, .slice bo bts.length bc] 25) = W at *
    generalize w.heap.size = B at *
    have c3 : W.cell? ⟨B, 3, none⟩ = some (.slice io its.length ic) := (unhide HBX).cell 3
    go_loopw [4] (fun iv wr => ∃ (i : Nat), i ≤ its.length ∧ iv = .int .i64 i ∧ Hid (wr = W ∧ (its.take i).any longB = false)) (fun iv _ => its.length - (intOf iv).toNat)
    case atStart => exact ⟨0, Nat.zero_le _, rfl, hide ⟨rfl, by simp⟩⟩
    case round =>
      obtain ⟨i, hi, rfl, HI⟩ := hrel
      obtain rfl := (unhide HI).1
      by_cases hil : i < its.length
      · have hiI : (i : Int) < (its.length : Int) := by omega
        obtain ⟨b, off, e, hc⟩ := (unhide HA).cells (by omega)
        obtain ⟨ao, cap, k1, k2⟩ := hc i hil
        subst e
        have hxm := List.getElem_mem hil
        have htk : (its.take (i + 1)).any longB = ((its.take i).any longB || longB its[i]) := by
          rw [List.take_succ_eq_append_getElem hil, List.any_append]
          simp
        have hxs : (its[i].length : Int) ≤ 140737488355328 := by have := k2.2.2; omega
        clear hc k2
        by_cases hx : 256 < its[i].length
        · have e1 : decide ((its[i].length : Int) > 256) = true := decide_eq_true (by omega)
          have e2 : decide ((256 : Int) < (its[i].length : Int)) = true := e1
          have e3 : decide (256 < its[i].length) = true := decide_eq_true hx
          have hr : (Fm.mk 1 ba sq its bts).may = false := by
            unfold Fm.may Fm.mayItems
            simp only [if_pos]
            have : its.any longB = true := List.any_eq_true.2 ⟨_, hxm, decide_eq_true hx⟩
            rw [this]
            simp
          have HRR : Hid (r = false) := hide ((unhide HR).symm.trans hr)
          clear hr hx htk hxm
          generalize its[i] = x at *
          go_wp2
          go_ret
          exact ⟨by rw [unhide HRR]; rfl, HFW⟩
        · have e1 : decide ((its[i].length : Int) > 256) = false := decide_eq_false (by omega)
          have e2 : decide ((256 : Int) < (its[i].length : Int)) = false := e1
          have e3 : decide (256 < its[i].length) = false := decide_eq_false hx
          have HTK : Hid ((its.take (i + 1)).any longB = false) := hide (by rw [htk, (unhide HI).2]; exact e3)
          clear hx htk hxm
          generalize its[i] = x at *
          go_wp2
          exact ⟨⟨i + 1, by omega, by go_num, hide ⟨trivial, unhide HTK⟩⟩, by simp [intOf]; omega⟩
      · obtain rfl : i = its.length := by omega
        have hr : (Fm.mk 1 ba sq its bts).may = true := by
          have := (unhide HI).2
          rw [List.take_length] at this
          unfold Fm.may Fm.mayItems
          simp only [if_pos]
          rw [this, decide_eq_true (unhide HN), decide_eq_true (unhide HB0)]
          rfl
        have HRR : Hid (r = true) := hide ((unhide HR).symm.trans hr)
        clear hr
        go_wp2
        go_ret
        exact ⟨by rw [unhide HRR]; rfl, HFW⟩
  have k1 : (kd == 1) = false := by simp; omega
  by_cases a1 : ba = 0
  rotate_left
  · have q901 : (ba != 0) = true := by simp; omega
    have hr : (Fm.mk kd ba sq its bts).may = false := by
      simp [Fm.may, Fm.bare, hk, a1]
    rw [hr]
    clear hr a1 hk
    go_enter Tryz.func27, Tryz.ntmps27
    go_wp2
    go_ret
    exact ⟨rfl, HFW⟩
  subst a1
  by_cases a2 : 0 < its.length
  · have q31 : decide ((its.length : Int) > 0) = true := decide_eq_true (by omega)
    have q32 : decide (0 < (its.length : Int)) = true := decide_eq_true (by omega)
    have q33 : decide (0 < its.length) = true := decide_eq_true (by omega)
    have hr : (Fm.mk kd 0 sq its bts).may = false := by
      have h0 : its ≠ [] := by intro t; subst t; simp at a2
      simp [Fm.may, Fm.bare, hk, h0]
    rw [hr]
    clear hr a2 hk
    go_enter Tryz.func27, Tryz.ntmps27
    go_wp2
    go_ret
    exact ⟨rfl, HFW⟩
  have q34 : decide ((its.length : Int) > 0) = false := decide_eq_false (by omega)
  have q35 : decide (0 < (its.length : Int)) = false := decide_eq_false (by omega)
  have q36 : decide (0 < its.length) = false := decide_eq_false (by omega)
  obtain rfl : its = [] := List.eq_nil_of_length_eq_zero (by omega)
  clear a2
  by_cases b2 : kd = 2
  · subst b2
    by_cases a3 : bts.length = 0
    rotate_left
    · have q37 : ((bts.length : Int) == 0) = false := by rw [beq_eq_false_iff_ne]; omega
      have q38 : (bts.length == 0) = false := by rw [beq_eq_false_iff_ne]; omega
      have hr : (Fm.mk 2 0 sq [] bts).may = false := by
        have h0 : bts ≠ [] := by intro t; subst t; simp at a3
        simp [Fm.may, Fm.bare, h0]
      rw [hr]
      clear hr a3
      go_enter Tryz.func27, Tryz.ntmps27
      go_wp2
      go_ret
      exact ⟨rfl, HFW⟩
    have q39 : ((bts.length : Int) == 0) = true := by rw [beq_iff_eq]; omega
    have q40 : (bts.length == 0) = true := by rw [beq_iff_eq]; omega
    by_cases a4 : 0 ≤ sq
    rotate_left
    · have q41 : decide (sq ≥ 0) = false := decide_eq_false (by omega)
      have q42 : decide (0 ≤ sq) = false := decide_eq_false (by omega)
      have hr : (Fm.mk 2 0 sq [] bts).may = false := by
        simp [Fm.may, Fm.bare]
        omega
      rw [hr]
      clear hr a3 a4
      go_enter Tryz.func27, Tryz.ntmps27
      go_wp2
      go_ret
      exact ⟨rfl, HFW⟩
    have q43 : decide (sq ≥ 0) = true := decide_eq_true (by omega)
    have q44 : decide (0 ≤ sq) = true := decide_eq_true (by omega)
    by_cases a5 : sq ≤ 4294967295
    · have q45 : decide (sq ≤ 4294967295) = true := decide_eq_true (by omega)
      have hr : (Fm.mk 2 0 sq [] bts).may = true := by
        have h0 : bts = [] := List.eq_nil_of_length_eq_zero a3
        simp [Fm.may, Fm.bare, h0]
        omega
      rw [hr]
      clear hr a3 a4 a5
      go_enter Tryz.func27, Tryz.ntmps27
      go_wp2
      go_ret
      exact ⟨rfl, HFW⟩
    · have q46 : decide (sq ≤ 4294967295) = false := decide_eq_false (by omega)
      have hr : (Fm.mk 2 0 sq [] bts).may = false := by
        simp [Fm.may, Fm.bare]
        omega
      rw [hr]
      clear hr a3 a4 a5
      go_enter Tryz.func27, Tryz.ntmps27
      go_wp2
      go_ret
      exact ⟨rfl, HFW⟩
  have k2 : (kd == 2) = false := by simp; omega
  by_cases b3 : kd = 3
  · subst b3
    by_cases a3 : bts.length = 0
    rotate_left
    · have q47 : ((bts.length : Int) == 0) = false := by rw [beq_eq_false_iff_ne]; omega
      have q48 : (bts.length == 0) = false := by rw [beq_eq_false_iff_ne]; omega
      have hr : (Fm.mk 3 0 sq [] bts).may = false := by
        have h0 : bts ≠ [] := by intro t; subst t; simp at a3
        simp [Fm.may, Fm.bare, h0]
      rw [hr]
      clear hr a3
      go_enter Tryz.func27, Tryz.ntmps27
      go_wp2
      go_ret
      exact ⟨rfl, HFW⟩
    have q49 : ((bts.length : Int) == 0) = true := by rw [beq_iff_eq]; omega
    have q50 : (bts.length == 0) = true := by rw [beq_iff_eq]; omega
    by_cases a4 : 0 ≤ sq
    rotate_left
    · have q51 : decide (sq ≥ 0) = false := decide_eq_false (by omega)
      have q52 : decide (0 ≤ sq) = false := decide_eq_false (by omega)
      have hr : (Fm.mk 3 0 sq [] bts).may = false := by
        simp [Fm.may, Fm.bare]
        omega
      rw [hr]
      clear hr a3 a4
      go_enter Tryz.func27, Tryz.ntmps27
      go_wp2
      go_ret
      exact ⟨rfl, HFW⟩
    have q53 : decide (sq ≥ 0) = true := decide_eq_true (by omega)
    have q54 : decide (0 ≤ sq) = true := decide_eq_true (by omega)
    by_cases a5 : sq ≤ 2147483648
    · have q55 : decide (sq ≤ 2147483648) = true := decide_eq_true (by omega)
      have hr : (Fm.mk 3 0 sq [] bts).may = true := by
        have h0 : bts = [] := List.eq_nil_of_length_eq_zero a3
        simp [Fm.may, Fm.bare, h0]
        omega
      rw [hr]
      clear hr a3 a4 a5
      go_enter Tryz.func27, Tryz.ntmps27
      go_wp2
      go_ret
      exact ⟨rfl, HFW⟩
    · have q56 : decide (sq ≤ 2147483648) = false := decide_eq_false (by omega)
      have hr : (Fm.mk 3 0 sq [] bts).may = false := by
        simp [Fm.may, Fm.bare]
        omega
      rw [hr]
      clear hr a3 a4 a5
      go_enter Tryz.func27, Tryz.ntmps27
      go_wp2
      go_ret
      exact ⟨rfl, HFW⟩
  have k3 : (kd == 3) = false := by simp; omega
  by_cases b4 : kd = 4
  · subst b4
    by_cases a4 : sq = 0
    rotate_left
    · have q57 : (sq == 0) = false := by rw [beq_eq_false_iff_ne]; omega
      have hr : (Fm.mk 4 0 sq [] bts).may = false := by
        simp [Fm.may]
        omega
      rw [hr]
      clear hr a4
      go_enter Tryz.func27, Tryz.ntmps27
      go_wp2
      go_ret
      exact ⟨rfl, HFW⟩
    subst a4
    by_cases a5 : bts.length ≤ 16100
    · have q58 : decide ((bts.length : Int) ≤ 16100) = true := decide_eq_true (by omega)
      have q59 : decide (bts.length ≤ 16100) = true := decide_eq_true (by omega)
      have hr : (Fm.mk 4 0 0 [] bts).may = true := by
        simp [Fm.may]
        omega
      rw [hr]
      clear hr a5
      go_enter Tryz.func27, Tryz.ntmps27
      go_wp2
      go_ret
      exact ⟨rfl, HFW⟩
    · have q60 : decide ((bts.length : Int) ≤ 16100) = false := decide_eq_false (by omega)
      have q61 : decide (bts.length ≤ 16100) = false := decide_eq_false (by omega)
      have hr : (Fm.mk 4 0 0 [] bts).may = false := by
        simp [Fm.may]
        omega
      rw [hr]
      clear hr a5
      go_enter Tryz.func27, Tryz.ntmps27
      go_wp2
      go_ret
      exact ⟨rfl, HFW⟩
  have k4 : (kd == 4) = false := by simp; omega
  have hr : (Fm.mk kd 0 sq [] bts).may = false := by
    simp [Fm.may, hk, b2, b3, b4]
  rw [hr]
  clear hr hk b2 b3 b4
  go_enter Tryz.func27, Tryz.ntmps27
  go_wp2
  go_ret
  exact ⟨rfl, HFW⟩

end Go.Proofs.YtabhfeocelljdaaGreatDoor

