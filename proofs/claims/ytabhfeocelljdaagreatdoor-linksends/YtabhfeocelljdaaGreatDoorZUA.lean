import Derived.Test.YtabhfeocelljdaaGreatDoorHXX
import Derived.Test.YtabhfeocelljdaaGreatDoorZFA
import Derived.Test.YtabhfeocelljdaaGreatDoorZTB
import Derived.Test.YtabhfeocelljdaaGreatDoorZF7
import Derived.Test.YtabhfeocelljdaaGreatDoorZVA
import Derived.Test.YtabhfeocelljdaaGreatDoorFXX
/- The document's bytes of a frame that may be. -/
namespace Go.Proofs.YtabhfeocelljdaaGreatDoor
open Go.RowKit

/-- The document's writer, of one's own. -/
def YOwn (w wk : World) (p g : Nat) (s : Option (List UInt8)) : Prop := Fr (fun _ => False) w wk ∧ w.heap.size ≤ p ∧ w.heap.size ≤ g ∧ YSt wk p g s
theorem YOwn.next {w wk wk' : World} {p g : Nat} {s s' : Option (List UInt8)} (h : YOwn w wk p g s) (k : YPuts p g s' wk wk') : ∃ g', YOwn w wk' p g' s' := by
  obtain ⟨h1, h2, h3, h4⟩ := h
  obtain ⟨g', k1, k2, k3⟩ := k
  have hz := h1.size
  exact ⟨g', h1.trans k2 (fun i hi t => by omega), h2, by omega, k1⟩
theorem YOwn.new (w : World) : YOwn w (w.alloc (.cells #[.slice none 0 0, .bool false] 96)) w.heap.size w.heap.size (some []) :=
  ⟨(Fr.refl _ _).alloc _, Nat.le_refl _, Nat.le_refl _, ⟨⟨none, 0, by simp, fun h => absurd h (by omega), Row.nil _ _⟩, by simp, by simp, by simp, by simp⟩⟩

set_option maxHeartbeats 2000000 in
set_option maxRecDepth 20000 in
theorem rbytes_any (w : World) (f : Fm) (io : Option Addr) (ic : Nat) (bo : Option Addr) (bc : Nat) (hA : f.At w io bo bc) (hm : f.may = true) :
    Calls Tryz.prog 29 #[.agg (f.cells io ic bo bc)] w fun e w' => ∃ v g, e = .returned v ∧ Hid (Row w' v g f.raw ∧ Fr (fun _ => False) w w' ∧ w.heap.size ≤ g) := by
  have hF0 : Fr (fun _ => False) w (w.alloc (.cells (f.cells io ic bo bc) 25)) := (Fr.refl _ _).alloc _
  have hbx := Bx.new w (f.cells io ic bo bc) 25
  have hrs := Fm.raw_small hm
  have HH := hide (And.intro hA (And.intro hm (And.intro hF0 (And.intro hbx hrs))))
  obtain ⟨Z, hZ⟩ : ∃ Z, f.raw = Z := ⟨_, rfl⟩
  rw [hZ]
  have HZ := hide hZ
  have hsm := hA.items.small
  have hbl := hA.bytes.2.2
  have hkd := f.may_kind hm
  clear hA hm hF0 hbx hrs hZ
  obtain ⟨kd, ba, sq, its, bts⟩ := f
  simp only [Fm.cells] at *
  have hnI : (its.length : Int) ≤ 140737488355328 := by omega
  have hmI : (bts.length : Int) ≤ 140737488355328 := by omega
  obtain ⟨k, hk⟩ : ∃ k : Nat, kd = (k : Int) := ⟨kd.toNat, by omega⟩
  subst hk
  have hk4 : k ≤ 4 := by omega
  have HK : Hid (stepW (some []) (wNumber (k : Int) 1) = some ([] ++ digs k 1)) := hide (wputZ [] k 1 (by omega) (by omega) (by omega))
  have hkI : (k : Int) ≤ 9223372036854775807 := by omega
  go_enter Tryz.func29, Tryz.ntmps29
  go_upto_region 1 with (fail)
  obtain ⟨hA, hm, hF0, hbx, hrs⟩ := unhide HH
  have HB := hide hbx
  have HF := hide hF0
  have HA := hide hA
  have HM := hide (And.intro hm hrs)
  clear HH hA hm hF0 hbx hrs
  generalize w.alloc (.cells #[.int .i64 (k : Int), .int .i64 ba, .int .i64 sq, .slice io its.length ic, .slice bo bts.length bc] 25) = w0 at *
  obtain ⟨q, hq⟩ : ∃ q, q = w.heap.size := ⟨_, rfl⟩
  rw [← hq] at HB ⊢
  have HQ := hide hq
  clear hq
  go_upto_region 2 with (fail)
  have hO := YOwn.new w0
  generalize w0.alloc (.cells #[.slice none 0 0, .bool false] 96) = w1 at *
  generalize w0.heap.size = p at *
  have HO := hide hO
  clear hO
  have c0 : w1.cell? ⟨q, 0, none⟩ = some (.int .i64 (k : Int)) := ((unhide HB).keep (unhide HO).1).cell 0
  go_wp2_with fail
  refine (yNumber (unhide HO).2.2.2 (fun bs h => by cases h; simp) (k : Int) 1 hkI).mono ?_
  rintro e w2 ⟨rfl, hP⟩
  rw [unhide HK, List.nil_append] at hP
  obtain ⟨g2, hO2⟩ := (unhide HO).next hP
  have HO2 := hide hO2
  clear hP hO2 HO c0
  have c0 : w2.cell? ⟨q, 0, none⟩ = some (.int .i64 (k : Int)) := ((unhide HB).keep (unhide HO2).1).cell 0
  rcases hkd with k1 | k2 | k4
  · obtain ⟨m1, m2, m3, m4, m5, m6, m7⟩ := Fm.may_one (unhide HM).1 k1
    have m2 : 1 ≤ its.length := m2
    have m3 : its.length ≤ 8 := m3
    have m4 : 1 ≤ ba := m4
    have m5 : ba ≤ sq := m5
    have m6 : sq ≤ 4294967296 - (its.length : Int) := m6
    have m7 : ∀ b ∈ its, b.length ≤ 256 := m7
    have hk1 : k = 1 := by have k1 : (k : Int) = 1 := k1; omega
    obtain ⟨b, hb⟩ : ∃ b : Nat, ba = (b : Int) := ⟨ba.toNat, by omega⟩
    obtain ⟨s, hs⟩ : ∃ s : Nat, sq = (s : Int) := ⟨sq.toNat, by omega⟩
    subst hb hs hk1
    have HE0 : Hid (((digs 1 1 ++ digs b 8) ++ digs s 8) ++ digs its.length 2 ++ textsF its = Z) := by
      have h := unhide HZ
      unfold Fm.raw at h
      rw [if_pos k1] at h
      have h : digs (1 : Int).toNat 1 ++ (digs ((b : Int)).toNat 8 ++ (digs ((s : Int)).toNat 8 ++ (digs its.length 2 ++ textsF its))) = Z := h
      rw [Int.toNat_natCast, Int.toNat_natCast] at h
      refine hide ?_
      rw [← h]
      simp only [List.append_assoc]
      rfl
    have H1 := hide (wputZ (digs 1 1) b 8 (by omega) (by omega) (by omega))
    have H2 := hide (wputZ (digs 1 1 ++ digs b 8) s 8 (by omega) (by omega) (by omega))
    have H3 := hide (wcountZ ((digs 1 1 ++ digs b 8) ++ digs s 8) its.length (by omega))
    have HL : Hid ((digs 1 1).length = 1 ∧ (digs 1 1 ++ digs b 8).length = 9 ∧ ((digs 1 1 ++ digs b 8) ++ digs s 8).length = 17 ∧ (((digs 1 1 ++ digs b 8) ++ digs s 8) ++ digs its.length 2).length = 19) := hide (by simp [digs_length])
    have H7 := hide (And.intro m7 m3)
    have hbI : (b : Int) ≤ 9223372036854775807 := by omega
    have hsI : (s : Int) ≤ 9223372036854775807 := by omega
    have hn8 : (its.length : Int) ≤ 8 := by omega
    clear m1 m2 m3 m4 m5 m6 m7 k1 HK hkI hk4
    generalize digs 1 1 ++ digs b 8 = A2 at *
    generalize hA1 : digs 1 1 = A1 at *
    have HA1 := hide hA1
    clear hA1
    generalize A2 ++ digs s 8 = A3 at *
    generalize A3 ++ digs its.length 2 = A4 at *
    have c1 : w2.cell? ⟨q, 1, none⟩ = some (.int .i64 (b : Int)) := ((unhide HB).keep (unhide HO2).1).cell 1
    go_wp2_with fail
    refine (yNumber (unhide HO2).2.2.2 (fun bs h => by cases h; have := (unhide HL).1; omega) (b : Int) 8 hbI).mono ?_
    rintro e w3 ⟨rfl, hP⟩
    have hP' : YPuts p g2 (some A2) w2 w3 := by have h := hP; rw [show ((8 : Int)) = ((8 : Nat) : Int) from rfl, unhide H1] at h; exact h
    obtain ⟨g3, hO3⟩ := (unhide HO2).next hP'
    have HO3 := hide hO3
    clear hP hP' hO3 HO2 c0 c1
    have c2 : w3.cell? ⟨q, 2, none⟩ = some (.int .i64 (s : Int)) := ((unhide HB).keep (unhide HO3).1).cell 2
    go_wp2_with fail
    refine (yNumber (unhide HO3).2.2.2 (fun bs h => by cases h; have := (unhide HL).2.1; omega) (s : Int) 8 hsI).mono ?_
    rintro e w4 ⟨rfl, hP⟩
    have hP' : YPuts p g3 (some A3) w3 w4 := by have h := hP; rw [show ((8 : Int)) = ((8 : Nat) : Int) from rfl, unhide H2] at h; exact h
    obtain ⟨g4, hO4⟩ := (unhide HO3).next hP'
    have HO4 := hide hO4
    clear hP hP' hO4 HO3 c2
    have c3 : w4.cell? ⟨q, 3, none⟩ = some (.slice io its.length ic) := ((unhide HB).keep (unhide HO4).1).cell 3
    go_wp2_with fail
    refine (yCount (unhide HO4).2.2.2 (fun bs h => by cases h; have := (unhide HL).2.2.1; omega) (its.length : Int) (by omega)).mono ?_
    rintro e w5 ⟨rfl, hP⟩
    rw [unhide H3] at hP
    obtain ⟨g5, hO5⟩ := (unhide HO4).next hP
    have HO5 := hide hO5
    clear hP hO5 HO4 c3
    have c3 : w5.cell? ⟨q, 3, none⟩ = some (.slice io its.length ic) := ((unhide HB).keep (unhide HO5).1).cell 3
    go_wp2
    clear c3
    go_loopw [4] (fun iv wr => ∃ i : Nat, i ≤ its.length ∧ iv = .int .i64 i ∧ Hid (∃ g, YOwn w0 wr p g (some (A4 ++ textsF (its.take i))))) (fun iv _ => its.length - (intOf iv).toNat)
    case atStart => exact ⟨0, Nat.zero_le _, rfl, hide ⟨g5, by simpa [textsF] using unhide HO5⟩⟩
    case round =>
      obtain ⟨i, hi, rfl, HI⟩ := hrel
      clear HO5
      have c3 : wr.cell? ⟨q, 3, none⟩ = some (.slice io its.length ic) := by
        obtain ⟨g0, h0⟩ := unhide HI
        exact ((unhide HB).keep h0.1).cell 3
      by_cases hil : i < its.length
      · have hiI : (i : Int) < (its.length : Int) := by omega
        obtain ⟨gi, hOi⟩ := unhide HI
        have HOi := hide hOi
        obtain ⟨rb, off, e, hc⟩ := ((unhide HA).items.later ((unhide HF).trans hOi.1 (fun _ _ t => t))).cells (show 0 < its.length by omega)
        obtain ⟨xo, xc, c1, c2⟩ := hc i hil
        subst e
        have kv := conv_batL c2
        have hx256 := (unhide H7).1 _ (List.getElem_mem hil)
        have hlt : (textsF (its.take i)).length ≤ 258 * 8 := by
          have h := textsF_small (its.take i) (fun b hb => (unhide H7).1 b (List.mem_of_mem_take hb))
          have := (unhide H7).2
          rw [List.length_take] at h
          omega
        have HT : Hid (stepW (some (A4 ++ textsF (its.take i))) (wText ⟨(its[i]).toArray⟩) = some (A4 ++ textsF (its.take (i + 1)))) := hide (by rw [wtextZ _ _ (by omega), textsF_snoc its i hil, List.append_assoc])
        have HL2 : Hid ((A4 ++ textsF (its.take i)).length + 2 + (its[i]).length ≤ 140737488355328) := hide (by rw [List.length_append, (unhide HL).2.2.2]; omega)
        have hxl : ((its[i]).length : Int) ≤ 256 := by omega
        clear hOi hc c2 hx256 hlt HI
        generalize its[i] = x at *
        go_wp2_with fail
        refine (yText (unhide HOi).2.2.2 ⟨x.toArray⟩ (by simp [ByteArray.size]; omega) (fun bs h _ => by cases h; have := unhide HL2; simpa [ByteArray.size] using this)).mono ?_
        rintro e w6 ⟨rfl, hP⟩
        rw [unhide HT] at hP
        obtain ⟨g6, hO6⟩ := (unhide HOi).next hP
        have HO6 := hide hO6
        clear hP hO6 HOi kv
        go_wp2
        exact ⟨⟨i + 1, by omega, by go_num, hide ⟨g6, unhide HO6⟩⟩, by simp [intOf]; omega⟩
      · obtain rfl : i = its.length := by omega
        obtain ⟨gi, hOi⟩ := unhide HI
        rw [List.take_length, unhide HE0] at hOi
        have HOi := hide hOi
        clear hOi HI
        have hst : WAt wr p gi Z := (unhide HOi).2.2.2
        obtain ⟨vo, vc, hv0, _, hrow⟩ := hst.c0
        have HR : Hid (Row wr (.slice vo Z.length vc) gi Z ∧ Fr (fun _ => False) w wr ∧ w.heap.size ≤ gi) := hide ⟨hrow, (unhide HF).trans (unhide HOi).1 (fun _ _ t => t), Nat.le_trans (unhide HF).size (unhide HOi).2.2.1⟩
        clear hrow hst
        go_wp2
        go_ret
        exact ⟨_, gi, rfl, HR⟩
  · obtain ⟨m1, m2, m3, m4, m5⟩ := Fm.may_two (unhide HM).1 k2
    have m4 : 0 ≤ sq := m4
    have m5 : sq ≤ 4294967295 := m5
    have k2 : (k : Int) = 2 ∨ (k : Int) = 3 := k2
    obtain ⟨s, hs⟩ : ∃ s : Nat, sq = (s : Int) := ⟨sq.toNat, by omega⟩
    subst hs
    have HE : Hid (digs k 1 ++ digs s 8 = Z) := by
      have h := unhide HZ
      unfold Fm.raw at h
      rw [if_neg (by show ¬ (k : Int) = 1; omega), if_neg (by show ¬ (k : Int) = 4; omega)] at h
      have h : digs ((k : Int)).toNat 1 ++ digs ((s : Int)).toNat 8 = Z := h
      rw [Int.toNat_natCast, Int.toNat_natCast] at h
      exact hide h
    have H1 := hide (wputZ (digs k 1) s 8 (by omega) (by omega) (by omega))
    have HL : Hid ((digs k 1).length = 1) := hide (digs_length k 1)
    have hsI : (s : Int) ≤ 9223372036854775807 := by omega
    clear m1 m2 m3 m4 m5 HK hk4
    have c2 : w2.cell? ⟨q, 2, none⟩ = some (.int .i64 (s : Int)) := ((unhide HB).keep (unhide HO2).1).cell 2
    generalize digs k 1 ++ digs s 8 = A2 at *
    generalize digs k 1 = A1 at *
    have hk1b : ((k : Int) == 1) = false := by simp; omega
    rcases k2 with k2 | k2
    all_goals
      rw [k2] at c0
      go_wp2_with fail
      refine (yNumber (unhide HO2).2.2.2 (fun bs h => by cases h; have := unhide HL; omega) (s : Int) 8 hsI).mono ?_
      rintro e w3 ⟨rfl, hP⟩
      have hP' : YPuts p g2 (some A2) w2 w3 := by have h := hP; rw [show ((8 : Int)) = ((8 : Nat) : Int) from rfl, unhide H1] at h; exact h
      obtain ⟨g3, hO3⟩ := (unhide HO2).next hP'
      have HO3 := hide hO3
      clear hP hP' hO3 HO2 c0 c2
      have hst : WAt w3 p g3 A2 := (unhide HO3).2.2.2
      rw [unhide HE] at hst
      obtain ⟨vo, vc, hv0, _, hrow⟩ := hst.c0
      have HR : Hid (Row w3 (.slice vo Z.length vc) g3 Z ∧ Fr (fun _ => False) w w3 ∧ w.heap.size ≤ g3) := hide ⟨hrow, (unhide HF).trans (unhide HO3).1 (fun _ _ t => t), Nat.le_trans (unhide HF).size (unhide HO3).2.2.1⟩
      clear hrow hst
      go_wp2
      go_ret
      exact ⟨_, g3, rfl, HR⟩
  · obtain ⟨m1, m2, m3, m4⟩ := Fm.may_four (unhide HM).1 k4
    have m4 : bts.length ≤ 16100 := m4
    have k4 : (k : Int) = 4 := k4
    have HE : Hid (digs k 1 ++ (digs bts.length 2 ++ bts) = Z) := by
      have h := unhide HZ
      unfold Fm.raw at h
      rw [if_neg (by show ¬ (k : Int) = 1; omega), if_pos (by show (k : Int) = 4; omega)] at h
      have h : digs ((k : Int)).toNat 1 ++ (digs bts.length 2 ++ bts) = Z := h
      rw [Int.toNat_natCast] at h
      exact hide h
    have H1 := hide (wtextZ (digs k 1) bts (by omega))
    have HL : Hid ((digs k 1).length = 1 ∧ bts.length ≤ 16100) := hide ⟨digs_length k 1, m4⟩
    have kv := conv_batL ((unhide HA).bytes.later ((unhide HF).trans (unhide HO2).1 (fun _ _ t => t)))
    clear m1 m2 m3 HK hk4
    have c4 : w2.cell? ⟨q, 4, none⟩ = some (.slice bo bts.length bc) := ((unhide HB).keep (unhide HO2).1).cell 4
    generalize digs k 1 ++ (digs bts.length 2 ++ bts) = A2 at *
    generalize digs k 1 = A1 at *
    rw [k4] at c0
    go_wp2_with fail
    refine (yText (unhide HO2).2.2.2 ⟨bts.toArray⟩ (by have := unhide HL; simp [ByteArray.size]; omega) (fun bs h _ => by cases h; have := unhide HL; simp [ByteArray.size]; omega)).mono ?_
    rintro e w3 ⟨rfl, hP⟩
    rw [unhide H1] at hP
    obtain ⟨g3, hO3⟩ := (unhide HO2).next hP
    have HO3 := hide hO3
    clear hP hO3 HO2 c0 c4 kv
    have hst : WAt w3 p g3 A2 := (unhide HO3).2.2.2
    rw [unhide HE] at hst
    obtain ⟨vo, vc, hv0, _, hrow⟩ := hst.c0
    have HR : Hid (Row w3 (.slice vo Z.length vc) g3 Z ∧ Fr (fun _ => False) w w3 ∧ w.heap.size ≤ g3) := hide ⟨hrow, (unhide HF).trans (unhide HO3).1 (fun _ _ t => t), Nat.le_trans (unhide HF).size (unhide HO3).2.2.1⟩
    clear hrow hst
    go_wp2
    go_ret
    exact ⟨_, g3, rfl, HR⟩

end Go.Proofs.YtabhfeocelljdaaGreatDoor

/- The document's Make. -/
namespace Go.Proofs.YtabhfeocelljdaaGreatDoor
open Go.RowKit

set_option maxHeartbeats 1000000 in
set_option maxRecDepth 20000 in
theorem rmake_any (w : World) (hT : TabRZ w) (s : List UInt8) (f : Fm) (io : Option Addr) (ic : Nat) (bo : Option Addr) (bc : Nat) (hA : f.At w io bo bc) :
    Calls Tryz.prog 9 #[.string ⟨s.toArray⟩, .agg (f.cells io ic bo bc)] w fun e w' => ∃ ao cap, e = .returned (.tuple #[.slice ao (makeF s f).1.length cap, .int .i64 (makeF s f).2]) ∧ Hid (NewB w (makeF s f).1 ao cap w') := by
  obtain ⟨kd, ba, sq, its, bts⟩ := f
  have HA := hide (And.intro hT hA)
  clear hT hA
  have hF0 : Fr (fun _ => False) w (w.alloc (.cells #[.int .i64 kd, .int .i64 ba, .int .i64 sq, .slice io its.length ic, .slice bo bts.length bc] 25)) := (Fr.refl _ _).alloc _
  have hbx := Bx.new w #[.int .i64 kd, .int .i64 ba, .int .i64 sq, .slice io its.length ic, .slice bo bts.length bc] 25
  obtain ⟨B, hB⟩ : ∃ B, w.heap.size = B := ⟨_, rfl⟩
  rw [hB] at hbx
  have HF := hide (And.intro hF0 (And.intro hbx hB))
  clear hF0 hbx
  cases hm : (Fm.mk kd ba sq its bts).may with
  | false =>
    rw [show makeF s ⟨kd, ba, sq, its, bts⟩ = ([], 1) by unfold makeF; rw [hm]; rfl]
    have HM := hide hm
    clear hm
    simp only [Fm.cells]
    go_enter Tryz.func9, Tryz.ntmps9
    go_wp2_with fail
    refine (rmay_any _ ⟨kd, ba, sq, its, bts⟩ io ic bo bc ((unhide HA).2.later (unhide HF).1)).mono ?_
    rw [unhide HM]
    rintro e w1 ⟨rfl, h1⟩
    go_wp2
    go_ret2
    exact ⟨none, 0, rfl, hide (NewB.nil ((unhide HF).1.trans (unhide h1) (fun _ _ t => t)))⟩
  | true =>
    have HM := hide hm
    have hsm := Fm.raw_small hm
    by_cases hs : s.length ≤ 200
    · rw [show makeF s ⟨kd, ba, sq, its, bts⟩ = (sealed s (Fm.mk kd ba sq its bts).raw, 0) by unfold makeF; rw [hm, if_pos rfl, if_pos hs]]
      clear hm
      simp only [Fm.cells]
      obtain ⟨R, hR⟩ : ∃ R, (Fm.mk kd ba sq its bts).raw = R := ⟨_, rfl⟩
      rw [hR] at hsm
      try rw [hR]
      have HR := hide hR
      clear hR
      go_enter Tryz.func9, Tryz.ntmps9
      go_wp2_with fail
      refine (rmay_any _ ⟨kd, ba, sq, its, bts⟩ io ic bo bc ((unhide HA).2.later (unhide HF).1)).mono ?_
      rw [unhide HM]
      rintro e w1 ⟨rfl, h1⟩
      have hF1 := (unhide HF).1.trans (unhide h1) (fun _ _ t => t)
      have hb1 := (unhide HF).2.1.keep (unhide h1)
      have c0 : w1.cell? ⟨B, 0, none⟩ = some (.int .i64 kd) := hb1.cell 0
      have c1 : w1.cell? ⟨B, 1, none⟩ = some (.int .i64 ba) := hb1.cell 1
      have c2 : w1.cell? ⟨B, 2, none⟩ = some (.int .i64 sq) := hb1.cell 2
      have c3 : w1.cell? ⟨B, 3, none⟩ = some (.slice io its.length ic) := hb1.cell 3
      have c4 : w1.cell? ⟨B, 4, none⟩ = some (.slice bo bts.length bc) := hb1.cell 4
      have HF1 := hide hF1
      clear h1 hb1 hF1
      go_wp2_with fail
      refine (rbytes_any _ ⟨kd, ba, sq, its, bts⟩ io ic bo bc ((unhide HA).2.later (unhide HF1)) (unhide HM)).mono ?_
      rw [unhide HR]
      rintro e w2 ⟨v, g, rfl, h2⟩
      obtain ⟨ao, cap, rfl, hl1, hl2⟩ : ∃ ao cap, v = .slice ao R.length cap ∧ R.length ≤ cap ∧ cap ≤ maxLen := by
        obtain ⟨ao, cap, e, h3, h4, _⟩ := (unhide h2).1.shape
        exact ⟨ao, cap, e, h3, h4⟩
      have HF2 := hide ((unhide HF1).trans (unhide h2).2.1 (fun _ _ t => t))
      have HB2 := hide ((unhide h2).1.bat (by omega)).2
      clear c0 c1 c2 c3 c4
      go_wp2_with fail
      refine (rseal_any _ ((unhide HA).1.later (unhide HF2)) s hs ao cap R (unhide HB2) (by omega)).mono ?_
      rintro e w3 ⟨ao3, cap3, rfl, h3⟩
      have hsl := sealed_length s R
      have HN : Hid (NewB w (sealed s R) ao3 cap3 w3) := by
        obtain ⟨g3, r1, r2, r3⟩ := h3
        have hz := (unhide HF2).size
        exact hide ⟨⟨g3, by rw [hsl]; exact r1, by omega⟩, (unhide HF2).trans r2 (fun _ _ t => t)⟩
      clear h3
      go_wp2
      go_ret2
      exact ⟨ao3, cap3, by rw [hsl]; rfl, HN⟩
    · rw [show makeF s ⟨kd, ba, sq, its, bts⟩ = ([], 2) by unfold makeF; rw [hm, if_pos rfl, if_neg hs]]
      clear hm
      simp only [Fm.cells]
      obtain ⟨R, hR⟩ : ∃ R, (Fm.mk kd ba sq its bts).raw = R := ⟨_, rfl⟩
      rw [hR] at hsm
      try rw [hR]
      have HR := hide hR
      clear hR
      go_enter Tryz.func9, Tryz.ntmps9
      go_wp2_with fail
      refine (rmay_any _ ⟨kd, ba, sq, its, bts⟩ io ic bo bc ((unhide HA).2.later (unhide HF).1)).mono ?_
      rw [unhide HM]
      rintro e w1 ⟨rfl, h1⟩
      have hF1 := (unhide HF).1.trans (unhide h1) (fun _ _ t => t)
      have hb1 := (unhide HF).2.1.keep (unhide h1)
      have c0 : w1.cell? ⟨B, 0, none⟩ = some (.int .i64 kd) := hb1.cell 0
      have c1 : w1.cell? ⟨B, 1, none⟩ = some (.int .i64 ba) := hb1.cell 1
      have c2 : w1.cell? ⟨B, 2, none⟩ = some (.int .i64 sq) := hb1.cell 2
      have c3 : w1.cell? ⟨B, 3, none⟩ = some (.slice io its.length ic) := hb1.cell 3
      have c4 : w1.cell? ⟨B, 4, none⟩ = some (.slice bo bts.length bc) := hb1.cell 4
      have HF1 := hide hF1
      clear h1 hb1 hF1
      go_wp2_with fail
      refine (rbytes_any _ ⟨kd, ba, sq, its, bts⟩ io ic bo bc ((unhide HA).2.later (unhide HF1)) (unhide HM)).mono ?_
      rw [unhide HR]
      rintro e w2 ⟨v, g, rfl, h2⟩
      have HF2 := hide ((unhide HF1).trans (unhide h2).2.1 (fun _ _ t => t))
      clear c0 c1 c2 c3 c4 h2
      go_wp2_with fail
      refine (rseal_long _ s (by omega) _).mono ?_
      rintro e w3 ⟨rfl, rfl⟩
      go_wp2
      go_ret2
      exact ⟨none, 0, rfl, hide (NewB.nil (unhide HF2))⟩


end Go.Proofs.YtabhfeocelljdaaGreatDoor

/- The document's Parse: its reading under way. -/
namespace Go.Proofs.YtabhfeocelljdaaGreatDoor
open Go.RowKit

theorem XAt.frame {S : Nat → Prop} {w w' : World} {p : Nat} {ao : Option Addr} {cap : Nat} {bs : List UInt8} {s : RS} (h : XAt w p ao cap bs s) (k : Fr S w w') (hp : ¬ S p) (hb : ∀ b off, ao = some ⟨b, off, none⟩ → 0 < bs.length → ¬ S b) : XAt w' p ao cap bs s :=
  h.stay (k.block p h.lt hp) (fun b off e h0 hlt => k.block b hlt (hb b off e h0))

/-- The document's reading under way: the answer's box, the frame's box, the reader. -/
structure RX (w wk : World) (q p B : Nat) (ao : Option Addr) (cap : Nat) (bs : List UInt8) (s : RS) (cs : Array Value) : Prop where
  fr : Fr (fun _ => False) w wk
  bq : Bx wk q #[.int .i64 0, .int .i64 0, .int .i64 0, .slice none 0 0, .slice none 0 0] 25
  bf : Bx wk B cs 25
  rd : XAt wk p ao cap bs s
  lo : w.heap.size ≤ q ∧ q < p ∧ p < B
  ro : ∀ b off, ao = some ⟨b, off, none⟩ → 0 < bs.length → q < b ∧ b < p

theorem RX.read {w wk w' : World} {q p B : Nat} {ao : Option Addr} {cap : Nat} {bs : List UInt8} {s s' : RS} {cs : Array Value} (h : RX w wk q p B ao cap bs s cs) (k1 : XAt w' p ao cap bs s') (k2 : Fr (· = p) wk w') : RX w w' q p B ao cap bs s' cs := by
  have hl := h.lo
  exact ⟨h.fr.trans k2 (fun i hi t => by omega), h.bq.frame k2 (by show ¬ q = p; omega), h.bf.frame k2 (by show ¬ B = p; omega), k1, h.lo, h.ro⟩
theorem RX.put {w wk : World} {q p B : Nat} {ao : Option Addr} {cap : Nat} {bs : List UInt8} {s : RS} {cs : Array Value} (h : RX w wk q p B ao cap bs s cs) (i : Nat) (v : Value) : RX w (wk.setCell ⟨B, i, none⟩ v) q p B ao cap bs s (cs.setIfInBounds i v) := by
  have hl := h.lo
  exact ⟨h.fr.setCell (p := ⟨B, i, none⟩) (fun t => by have t : B < w.heap.size := t; omega) v, h.bq.setOther (by omega) i v, h.bf.setCell i v, h.rd.setOther (by omega) (fun b off e h0 => by have := h.ro b off e h0; omega) v, h.lo, h.ro⟩
theorem RX.more {S : Nat → Prop} {w wk w' : World} {q p B : Nat} {ao : Option Addr} {cap : Nat} {bs : List UInt8} {s : RS} {cs : Array Value} (h : RX w wk q p B ao cap bs s cs) (k : Fr S wk w') (hS : ∀ i, S i → B < i) : RX w w' q p B ao cap bs s cs := by
  have hl := h.lo
  exact ⟨h.fr.trans k (fun i hi t => by have := hS i t; omega), h.bq.frame k (fun t => by have := hS _ t; omega), h.bf.frame k (fun t => by have := hS _ t; omega), h.rd.frame k (fun t => by have := hS _ t; omega) (fun b off e h0 t => by have := hS _ t; have := h.ro b off e h0; omega), h.lo, h.ro⟩
theorem RX.keep {w wk w' : World} {q p B : Nat} {ao : Option Addr} {cap : Nat} {bs : List UInt8} {s : RS} {cs : Array Value} (h : RX w wk q p B ao cap bs s cs) (k : Fr (fun _ => False) wk w') : RX w w' q p B ao cap bs s cs :=
  ⟨h.fr.trans k (fun _ _ t => t), h.bq.keep k, h.bf.keep k, h.rd.frame k (fun t => t) (fun _ _ _ _ t => t), h.lo, h.ro⟩

/-- The frame has been read. -/
structure RDx (w wk : World) (q p B : Nat) (ao : Option Addr) (cap : Nat) (bs : List UInt8) (io : Option Addr) (ic : Nat) (bo : Option Addr) (bc : Nat) : Prop where
  rf : RX w wk q p B ao cap bs (readF bs).2 ((readF bs).1.cells io ic bo bc)
  il : ∃ ib ds, IL (B + 1) wk io ic ib ds (readF bs).1.items
  by' : ∃ gb, Row wk (.slice bo (readF bs).1.bytes.length bc) gb (readF bs).1.bytes ∧ B < gb
  n1 : (readF bs).1.items.length ≤ 8
  n2 : (readF bs).1.bytes.length ≤ 16100 ∧ (bc = 0 ∨ (readF bs).1.items.length = 0)

end Go.Proofs.YtabhfeocelljdaaGreatDoor

/- The document's Parse. -/
namespace Go.Proofs.YtabhfeocelljdaaGreatDoor
open Go.RowKit

set_option maxHeartbeats 40000000 in
set_option maxRecDepth 20000 in
theorem rparse_any (w : World) (hT : TabRZ w) (s : List UInt8) (ro : Option Addr) (rc : Nat) (raw : List UInt8) (hB : BAt w ro rc raw) (hcap : raw.length ≤ rc) (hbig : raw.length + 120 ≤ 140737488355328) :
    Calls Tryz.prog 13 #[.string ⟨s.toArray⟩, .slice ro raw.length rc] w fun e w' => ∃ io ic bo bc, e = .returned (.tuple #[.agg ((parseF s raw).1.cells io ic bo bc), .int .i64 (parseF s raw).2]) ∧ Hid (NewF w (parseF s raw).1 io ic bo bc w') := by
  have hF0 : Fr (fun _ => False) w (w.alloc (.cells #[.int .i64 0, .int .i64 0, .int .i64 0, .slice none 0 0, .slice none 0 0] 25)) := (Fr.refl _ _).alloc _
  have hbx := Bx.new w #[.int .i64 0, .int .i64 0, .int .i64 0, .slice none 0 0, .slice none 0 0] 25
  obtain ⟨B, hBz⟩ : ∃ B, w.heap.size = B := ⟨_, rfl⟩
  rw [hBz] at hbx
  have HT := hide hT
  have HB := hide hB
  have HC := hide hcap
  have HF := hide (And.intro hF0 (And.intro hbx hBz))
  clear hT hB hF0 hbx hcap
  by_cases hs : 200 < s.length
  · rw [show parseF s raw = (zeroFm, 2) by unfold parseF; rw [if_pos hs]]
    go_enter Tryz.func13, Tryz.ntmps13
    go_wp2_with fail
    refine (ropen_long _ s hs _).mono ?_
    rintro e W ⟨rfl, hW⟩
    have HF1 : Hid (Fr (fun _ => False) w W) := hide (by rw [hW]; exact (unhide HF).1)
    have HX : Hid (Bx W B #[.int .i64 0, .int .i64 0, .int .i64 0, .slice none 0 0, .slice none 0 0] 25) := hide (by rw [hW]; exact (unhide HF).2.1)
    clear hW
    have c0 : W.cell? ⟨B, 0, none⟩ = some (.int .i64 0) := (unhide HX).cell 0
    have c1 : W.cell? ⟨B, 1, none⟩ = some (.int .i64 0) := (unhide HX).cell 1
    have c2 : W.cell? ⟨B, 2, none⟩ = some (.int .i64 0) := (unhide HX).cell 2
    have c3 : W.cell? ⟨B, 3, none⟩ = some (.slice none 0 0) := (unhide HX).cell 3
    have c4 : W.cell? ⟨B, 4, none⟩ = some (.slice none 0 0) := (unhide HX).cell 4
    have f0 : W.frozen? ⟨B, 0, none⟩ = false := (unhide HX).frozen 0
    have f1 : W.frozen? ⟨B, 1, none⟩ = false := (unhide HX).frozen 1
    have f2 : W.frozen? ⟨B, 2, none⟩ = false := (unhide HX).frozen 2
    have f3 : W.frozen? ⟨B, 3, none⟩ = false := (unhide HX).frozen 3
    have f4 : W.frozen? ⟨B, 4, none⟩ = false := (unhide HX).frozen 4
    have hfin : Hid (Fr (fun _ => False) w (((((W.setCell ⟨B, 0, none⟩ (.int .i64 0)).setCell ⟨B, 1, none⟩ (.int .i64 0)).setCell ⟨B, 2, none⟩ (.int .i64 0)).setCell ⟨B, 3, none⟩ (.slice none 0 0)).setCell ⟨B, 4, none⟩ (.slice none 0 0))) := hide ((((((unhide HF1).setCell (p := ⟨B, 0, none⟩) (fun t => absurd t (by have t : B < w.heap.size := t; omega)) (.int .i64 0)).setCell (p := ⟨B, 1, none⟩) (fun t => absurd t (by have t : B < w.heap.size := t; omega)) (.int .i64 0)).setCell (p := ⟨B, 2, none⟩) (fun t => absurd t (by have t : B < w.heap.size := t; omega)) (.int .i64 0)).setCell (p := ⟨B, 3, none⟩) (fun t => absurd t (by have t : B < w.heap.size := t; omega)) (.slice none 0 0)).setCell (p := ⟨B, 4, none⟩) (fun t => absurd t (by have t : B < w.heap.size := t; omega)) (.slice none 0 0))
    have hbz : Hid (Bx (((((W.setCell ⟨B, 0, none⟩ (.int .i64 0)).setCell ⟨B, 1, none⟩ (.int .i64 0)).setCell ⟨B, 2, none⟩ (.int .i64 0)).setCell ⟨B, 3, none⟩ (.slice none 0 0)).setCell ⟨B, 4, none⟩ (.slice none 0 0)) B #[.int .i64 0, .int .i64 0, .int .i64 0, .slice none 0 0, .slice none 0 0] 25) := hide ((((((unhide HX).setCell 0 (.int .i64 0)).setCell 1 (.int .i64 0)).setCell 2 (.int .i64 0)).setCell 3 (.slice none 0 0)).setCell 4 (.slice none 0 0))
    go_wp2
    generalize (((((W.setCell ⟨B, 0, none⟩ (.int .i64 0)).setCell ⟨B, 1, none⟩ (.int .i64 0)).setCell ⟨B, 2, none⟩ (.int .i64 0)).setCell ⟨B, 3, none⟩ (.slice none 0 0)).setCell ⟨B, 4, none⟩ (.slice none 0 0)) = V at *
    have x0 : V.cell? ⟨B, 0, none⟩ = some (.int .i64 0) := (unhide hbz).cell 0
    have x1 : V.cell? ⟨B, 1, none⟩ = some (.int .i64 0) := (unhide hbz).cell 1
    have x2 : V.cell? ⟨B, 2, none⟩ = some (.int .i64 0) := (unhide hbz).cell 2
    have x3 : V.cell? ⟨B, 3, none⟩ = some (.slice none 0 0) := (unhide hbz).cell 3
    have x4 : V.cell? ⟨B, 4, none⟩ = some (.slice none 0 0) := (unhide hbz).cell 4
    refine bodyPost_ret (v := .tuple #[.agg #[.int .i64 0, .int .i64 0, .int .i64 0, .slice none 0 0, .slice none 0 0], .int .i64 2]) ?_ rfl ?_
    · simp [results, Tryz.results13, go_sem, x0, x1, x2, x3, x4]
    · exact ⟨none, 0, none, 0, rfl, hide (NewF.zero (unhide hfin))⟩

  by_cases h16 : raw.length < 16
  · rw [show parseF s raw = (zeroFm, 121) by unfold parseF; rw [if_neg hs, if_pos (.inl h16)]]
    go_enter Tryz.func13, Tryz.ntmps13
    go_wp2_with fail
    refine (ropen_short _ s (by omega) ro raw.length rc h16).mono ?_
    rintro e W ⟨rfl, hW⟩
    have HF1 : Hid (Fr (fun _ => False) w W) := hide (by rw [hW]; exact (unhide HF).1)
    have HX : Hid (Bx W B #[.int .i64 0, .int .i64 0, .int .i64 0, .slice none 0 0, .slice none 0 0] 25) := hide (by rw [hW]; exact (unhide HF).2.1)
    clear hW
    have c0 : W.cell? ⟨B, 0, none⟩ = some (.int .i64 0) := (unhide HX).cell 0
    have c1 : W.cell? ⟨B, 1, none⟩ = some (.int .i64 0) := (unhide HX).cell 1
    have c2 : W.cell? ⟨B, 2, none⟩ = some (.int .i64 0) := (unhide HX).cell 2
    have c3 : W.cell? ⟨B, 3, none⟩ = some (.slice none 0 0) := (unhide HX).cell 3
    have c4 : W.cell? ⟨B, 4, none⟩ = some (.slice none 0 0) := (unhide HX).cell 4
    have f0 : W.frozen? ⟨B, 0, none⟩ = false := (unhide HX).frozen 0
    have f1 : W.frozen? ⟨B, 1, none⟩ = false := (unhide HX).frozen 1
    have f2 : W.frozen? ⟨B, 2, none⟩ = false := (unhide HX).frozen 2
    have f3 : W.frozen? ⟨B, 3, none⟩ = false := (unhide HX).frozen 3
    have f4 : W.frozen? ⟨B, 4, none⟩ = false := (unhide HX).frozen 4
    have hfin : Hid (Fr (fun _ => False) w (((((W.setCell ⟨B, 0, none⟩ (.int .i64 0)).setCell ⟨B, 1, none⟩ (.int .i64 0)).setCell ⟨B, 2, none⟩ (.int .i64 0)).setCell ⟨B, 3, none⟩ (.slice none 0 0)).setCell ⟨B, 4, none⟩ (.slice none 0 0))) := hide ((((((unhide HF1).setCell (p := ⟨B, 0, none⟩) (fun t => absurd t (by have t : B < w.heap.size := t; omega)) (.int .i64 0)).setCell (p := ⟨B, 1, none⟩) (fun t => absurd t (by have t : B < w.heap.size := t; omega)) (.int .i64 0)).setCell (p := ⟨B, 2, none⟩) (fun t => absurd t (by have t : B < w.heap.size := t; omega)) (.int .i64 0)).setCell (p := ⟨B, 3, none⟩) (fun t => absurd t (by have t : B < w.heap.size := t; omega)) (.slice none 0 0)).setCell (p := ⟨B, 4, none⟩) (fun t => absurd t (by have t : B < w.heap.size := t; omega)) (.slice none 0 0))
    have hbz : Hid (Bx (((((W.setCell ⟨B, 0, none⟩ (.int .i64 0)).setCell ⟨B, 1, none⟩ (.int .i64 0)).setCell ⟨B, 2, none⟩ (.int .i64 0)).setCell ⟨B, 3, none⟩ (.slice none 0 0)).setCell ⟨B, 4, none⟩ (.slice none 0 0)) B #[.int .i64 0, .int .i64 0, .int .i64 0, .slice none 0 0, .slice none 0 0] 25) := hide ((((((unhide HX).setCell 0 (.int .i64 0)).setCell 1 (.int .i64 0)).setCell 2 (.int .i64 0)).setCell 3 (.slice none 0 0)).setCell 4 (.slice none 0 0))
    go_wp2
    generalize (((((W.setCell ⟨B, 0, none⟩ (.int .i64 0)).setCell ⟨B, 1, none⟩ (.int .i64 0)).setCell ⟨B, 2, none⟩ (.int .i64 0)).setCell ⟨B, 3, none⟩ (.slice none 0 0)).setCell ⟨B, 4, none⟩ (.slice none 0 0)) = V at *
    have x0 : V.cell? ⟨B, 0, none⟩ = some (.int .i64 0) := (unhide hbz).cell 0
    have x1 : V.cell? ⟨B, 1, none⟩ = some (.int .i64 0) := (unhide hbz).cell 1
    have x2 : V.cell? ⟨B, 2, none⟩ = some (.int .i64 0) := (unhide hbz).cell 2
    have x3 : V.cell? ⟨B, 3, none⟩ = some (.slice none 0 0) := (unhide hbz).cell 3
    have x4 : V.cell? ⟨B, 4, none⟩ = some (.slice none 0 0) := (unhide hbz).cell 4
    refine bodyPost_ret (v := .tuple #[.agg #[.int .i64 0, .int .i64 0, .int .i64 0, .slice none 0 0, .slice none 0 0], .int .i64 121]) ?_ rfl ?_
    · simp [results, Tryz.results13, go_sem, x0, x1, x2, x3, x4]
    · exact ⟨none, 0, none, 0, rfl, hide (NewF.zero (unhide hfin))⟩

  obtain ⟨m, hm⟩ : ∃ m, raw.length = m + 16 := ⟨raw.length - 16, by omega⟩
  have hmm : raw.length - 16 = m := by omega
  have hsm := (unhide HB).2.2
  by_cases he : ¬ (hmac s (raw.take m)).take 16 = raw.drop m
  · rw [hm]
    rw [show parseF s raw = (zeroFm, 121) by unfold parseF; rw [if_neg hs, hmm, if_pos (.inr he)]]
    go_enter Tryz.func13, Tryz.ntmps13
    go_wp2_with fail
    refine (ropen_any _ ((unhide HT).later (unhide HF).1) s (by omega) ro rc (raw.take m) (raw.drop m) m (by rw [List.length_take]; omega) (by rw [List.length_drop]; omega) (by rw [List.take_append_drop]; exact (unhide HB).later (unhide HF).1) (by have := unhide HC; omega) (by omega)).mono ?_
    rintro e W ⟨_, hW2⟩
    obtain ⟨rfl, hW⟩ := hW2 he
    clear hW2
    have HF1 : Hid (Fr (fun _ => False) w W) := hide ((unhide HF).1.trans hW (fun _ _ t => t))
    have HX : Hid (Bx W B #[.int .i64 0, .int .i64 0, .int .i64 0, .slice none 0 0, .slice none 0 0] 25) := hide ((unhide HF).2.1.keep hW)
    have c0 : W.cell? ⟨B, 0, none⟩ = some (.int .i64 0) := (unhide HX).cell 0
    have c1 : W.cell? ⟨B, 1, none⟩ = some (.int .i64 0) := (unhide HX).cell 1
    have c2 : W.cell? ⟨B, 2, none⟩ = some (.int .i64 0) := (unhide HX).cell 2
    have c3 : W.cell? ⟨B, 3, none⟩ = some (.slice none 0 0) := (unhide HX).cell 3
    have c4 : W.cell? ⟨B, 4, none⟩ = some (.slice none 0 0) := (unhide HX).cell 4
    have f0 : W.frozen? ⟨B, 0, none⟩ = false := (unhide HX).frozen 0
    have f1 : W.frozen? ⟨B, 1, none⟩ = false := (unhide HX).frozen 1
    have f2 : W.frozen? ⟨B, 2, none⟩ = false := (unhide HX).frozen 2
    have f3 : W.frozen? ⟨B, 3, none⟩ = false := (unhide HX).frozen 3
    have f4 : W.frozen? ⟨B, 4, none⟩ = false := (unhide HX).frozen 4
    have hfin : Hid (Fr (fun _ => False) w (((((W.setCell ⟨B, 0, none⟩ (.int .i64 0)).setCell ⟨B, 1, none⟩ (.int .i64 0)).setCell ⟨B, 2, none⟩ (.int .i64 0)).setCell ⟨B, 3, none⟩ (.slice none 0 0)).setCell ⟨B, 4, none⟩ (.slice none 0 0))) := hide ((((((unhide HF1).setCell (p := ⟨B, 0, none⟩) (fun t => absurd t (by have t : B < w.heap.size := t; omega)) (.int .i64 0)).setCell (p := ⟨B, 1, none⟩) (fun t => absurd t (by have t : B < w.heap.size := t; omega)) (.int .i64 0)).setCell (p := ⟨B, 2, none⟩) (fun t => absurd t (by have t : B < w.heap.size := t; omega)) (.int .i64 0)).setCell (p := ⟨B, 3, none⟩) (fun t => absurd t (by have t : B < w.heap.size := t; omega)) (.slice none 0 0)).setCell (p := ⟨B, 4, none⟩) (fun t => absurd t (by have t : B < w.heap.size := t; omega)) (.slice none 0 0))
    have hbz : Hid (Bx (((((W.setCell ⟨B, 0, none⟩ (.int .i64 0)).setCell ⟨B, 1, none⟩ (.int .i64 0)).setCell ⟨B, 2, none⟩ (.int .i64 0)).setCell ⟨B, 3, none⟩ (.slice none 0 0)).setCell ⟨B, 4, none⟩ (.slice none 0 0)) B #[.int .i64 0, .int .i64 0, .int .i64 0, .slice none 0 0, .slice none 0 0] 25) := hide ((((((unhide HX).setCell 0 (.int .i64 0)).setCell 1 (.int .i64 0)).setCell 2 (.int .i64 0)).setCell 3 (.slice none 0 0)).setCell 4 (.slice none 0 0))
    go_wp2
    generalize (((((W.setCell ⟨B, 0, none⟩ (.int .i64 0)).setCell ⟨B, 1, none⟩ (.int .i64 0)).setCell ⟨B, 2, none⟩ (.int .i64 0)).setCell ⟨B, 3, none⟩ (.slice none 0 0)).setCell ⟨B, 4, none⟩ (.slice none 0 0)) = V at *
    have x0 : V.cell? ⟨B, 0, none⟩ = some (.int .i64 0) := (unhide hbz).cell 0
    have x1 : V.cell? ⟨B, 1, none⟩ = some (.int .i64 0) := (unhide hbz).cell 1
    have x2 : V.cell? ⟨B, 2, none⟩ = some (.int .i64 0) := (unhide hbz).cell 2
    have x3 : V.cell? ⟨B, 3, none⟩ = some (.slice none 0 0) := (unhide hbz).cell 3
    have x4 : V.cell? ⟨B, 4, none⟩ = some (.slice none 0 0) := (unhide hbz).cell 4
    refine bodyPost_ret (v := .tuple #[.agg #[.int .i64 0, .int .i64 0, .int .i64 0, .slice none 0 0, .slice none 0 0], .int .i64 121]) ?_ rfl ?_
    · simp [results, Tryz.results13, go_sem, x0, x1, x2, x3, x4]
    · exact ⟨none, 0, none, 0, rfl, hide (NewF.zero (unhide hfin))⟩

  have he : (hmac s (raw.take m)).take 16 = raw.drop m := Decidable.of_not_not he
  have hlt : (raw.take m).length = m := by rw [List.length_take]; omega
  have HE := hide he
  have HL := hide hlt
  have HP : Hid (parseF s raw = if readOk (raw.take m) then ((readF (raw.take m)).1, 0) else (zeroFm, 120)) := hide (by unfold parseF; rw [if_neg hs, hmm, if_neg (by rintro (t | t); exact h16 t; exact t he)])
  rw [hm]
  have HO := hide (ropen_any _ ((unhide HT).later (unhide HF).1) s (by omega) ro rc (raw.take m) (raw.drop m) m hlt (by rw [List.length_drop]; omega) (by rw [List.take_append_drop]; exact (unhide HB).later (unhide HF).1) (by have := unhide HC; omega) (by omega))
  clear he hlt hmm
  generalize raw.drop m = y16 at *
  generalize hBS : raw.take m = bs at *
  clear hBS
  generalize parseF s raw = PR at *
  have hxs : bs.length ≤ 140737488355328 := by rw [unhide HL]; omega
  go_enter Tryz.func13, Tryz.ntmps13
  go_wp2_with fail
  refine (unhide HO).mono ?_
  rintro e w1 ⟨h1, _⟩
  obtain ⟨ao, cap, rfl, g1, r1, r2, r3⟩ := h1 (unhide HE)
  clear h1
  rw [← unhide HL] at r1 ⊢
  have hF1 := (unhide HF).1.trans r2 (fun _ _ t => t)
  have hX1 := (unhide HF).2.1.keep r2
  obtain ⟨ao', cap', hsh, hl1, hl2, hl3, _⟩ := r1.shape
  injection hsh with e1 e2 e3
  subst e1 e3
  have hrow : ∀ b off, ao = some ⟨b, off, none⟩ → 0 < bs.length → B < b ∧ b < w1.heap.size := by
    intro b off e h0
    have e5 := hl3 (by omega)
    rw [e] at e5
    injection e5 with e5
    injection e5 with e5 e6
    subst e5
    have := Row.below (d := ⟨ao, bs.length, cap, b⟩) r1 (by show 0 < cap; omega)
    have hz : (w.alloc (.cells #[.int .i64 0, .int .i64 0, .int .i64 0, .slice none 0 0, .slice none 0 0] 25)).heap.size = w.heap.size + 1 := heap_alloc _ _
    exact ⟨by omega, this⟩
  have hX0 : XAt (w1.alloc (.cells #[.slice ao bs.length cap, .int .i64 0, .int .i64 0, .int .i64 0, .int .i64 0] 66)) w1.heap.size ao cap bs ⟨0, 0, 0, 0⟩ := by
    have hbn := Bx.new w1 #[.slice ao bs.length cap, .int .i64 0, .int .i64 0, .int .i64 0, .int .i64 0] 66
    have hbat := (r1.bat hxs).2
    refine ⟨hbn.cell 0, hbn.cell 1, hbn.cell 2, hbn.cell 3, hbn.cell 4, fun i _ => hbn.frozen i, fun h0 => ?_, Nat.zero_le _, hxs, hl1, by have := hl2; simp only [maxLen] at this; omega⟩
    obtain ⟨b, off, e, hc⟩ := hbat.2.1 h0
    have hbl := (hrow b off e h0).2
    exact ⟨b, off, e, by omega, fun j hj => (World.cell?_alloc_lt _ _ _ hbl).trans (hc j hj)⟩
  have HX0 := hide hX0
  have HW1 := hide (And.intro hF1 (And.intro hX1 hrow))
  clear hX0 hF1 hX1 hrow r1 r2 r3 hl1 hl2 hl3 HO
  go_upto_region 7 with (fail)
  have hF1A : Fr (fun _ => False) w1 (w1.alloc (.cells #[.slice ao bs.length cap, .int .i64 0, .int .i64 0, .int .i64 0, .int .i64 0] 66)) := (Fr.refl _ _).alloc _
  have HW2 : Hid (Fr (fun _ => False) w (w1.alloc (.cells #[.slice ao bs.length cap, .int .i64 0, .int .i64 0, .int .i64 0, .int .i64 0] 66)) ∧ Bx (w1.alloc (.cells #[.slice ao bs.length cap, .int .i64 0, .int .i64 0, .int .i64 0, .int .i64 0] 66)) B #[.int .i64 0, .int .i64 0, .int .i64 0, .slice none 0 0, .slice none 0 0] 25 ∧ (∀ b off, ao = some ⟨b, off, none⟩ → 0 < bs.length → B < b ∧ b < w1.heap.size) ∧ B < w1.heap.size) := by
    obtain ⟨a1, a2, a3⟩ := unhide HW1
    exact hide ⟨a1.trans hF1A (fun _ _ t => t), a2.keep hF1A, a3, a2.lt⟩
  clear HW1 hF1A
  generalize w1.alloc (.cells #[.slice ao bs.length cap, .int .i64 0, .int .i64 0, .int .i64 0, .int .i64 0] 66) = w1a at *
  generalize w1.heap.size = p at *
  go_wp2_with fail
  refine (xNumber (unhide HX0) 1).mono ?_
  obtain ⟨hk0, hk1, hk2⟩ := rNum_eq bs ⟨0, 0, 0, 0⟩ 1
  unfold XDone
  rw [hk0]
  obtain ⟨k, hk⟩ : ∃ k, (rNum bs ⟨0, 0, 0, 0⟩ 1).1 = k := ⟨_, rfl⟩
  obtain ⟨s1, hs1⟩ : ∃ s1, (rNum bs ⟨0, 0, 0, 0⟩ 1).2 = s1 := ⟨_, rfl⟩
  rw [hk] at hk1 hk2
  rw [hk, hs1]
  have HK := hide (And.intro hk hs1)
  clear hk0 hk hs1
  rintro e w2 ⟨rfl, k1, k2⟩
  go_upto_block 0 with (fail)
  have HR : Hid (RX w (w2.alloc (.cells #[.int .i64 k, .int .i64 0, .int .i64 0, .slice none 0 0, .slice none 0 0] 25)) B p w2.heap.size ao cap bs s1 #[.int .i64 k, .int .i64 0, .int .i64 0, .slice none 0 0, .slice none 0 0]) := by
    obtain ⟨v1, v2, v3, v4⟩ := unhide HW2
    have hpl : p < w2.heap.size := k1.lt
    have hBz := (unhide HF).2.2
    exact hide ⟨(v1.trans k2 (fun i hi t => by have t : i = p := t; omega)).alloc _, (v2.frame k2 (by show ¬ B = p; omega)).alloc _, Bx.new _ _ _, k1.alloc _, ⟨by omega, v4, hpl⟩, v3⟩
  clear HX0 HW2 k1 k2
  generalize w2.alloc (.cells #[.int .i64 k, .int .i64 0, .int .i64 0, .slice none 0 0, .slice none 0 0] 25) = W at *
  generalize w2.heap.size = Bf at *
  go_cut [] from 34 to 68 (fun wc => ∃ io ic bo bc, Hid (RDx w wc B p Bf ao cap bs io ic bo bc))
  case first =>
    by_cases h1 : k = 1
    · subst h1
      have h0 : 0 < bs.length := readF_some (unhide HK).1
      obtain ⟨hb0, hb1, hb2⟩ := rNum_eq bs s1 8
      obtain ⟨hq0, hq1, hq2⟩ := rNum_eq bs (rNum bs s1 8).2 8
      obtain ⟨hn0, hn1, hn2⟩ := rCnt_eq bs (rNum bs (rNum bs s1 8).2 8).2 8 (by omega)
      have HX : Hid (readF bs = (⟨1, (rNum bs s1 8).1, (rNum bs (rNum bs s1 8).2 8).1, (rTxts bs 256 (rCnt bs (rNum bs (rNum bs s1 8).2 8).2 8).2 (rCnt bs (rNum bs (rNum bs s1 8).2 8).2 8).1.toNat).1, []⟩, (rTxts bs 256 (rCnt bs (rNum bs (rNum bs s1 8).2 8).2 8).2 (rCnt bs (rNum bs (rNum bs s1 8).2 8).2 8).1.toNat).2)) := by
        obtain ⟨e1, e2⟩ := unhide HK
        unfold readF
        simp only [e1, e2]
        refine hide ?_
        rw [if_pos trivial]
      generalize (rCnt bs (rNum bs (rNum bs s1 8).2 8).2 8).2 = sn at *
      obtain ⟨N, hN⟩ : ∃ N : Nat, (rCnt bs (rNum bs (rNum bs s1 8).2 8).2 8).1 = (N : Int) := ⟨_, (Int.toNat_of_nonneg hn1).symm⟩
      rw [hN] at HX hn0 hn1 hn2
      rw [Int.toNat_natCast] at HX
      have HN0 := hide hn0
      clear hn0 hN
      generalize (rNum bs (rNum bs s1 8).2 8).1 = qv at *
      generalize (rNum bs (rNum bs s1 8).2 8).2 = s3 at *
      have HQ0 := hide hq0
      clear hq0
      generalize (rNum bs s1 8).1 = bv at *
      generalize (rNum bs s1 8).2 = s2 at *
      have HB0 := hide hb0
      have H0 := hide h0
      clear hb0 h0 HK
      go_wp2_with fail
      refine (xNumber (unhide HR).rd 8).mono ?_
      rw [unhide HB0]
      rintro e w3 ⟨rfl, k1, k2⟩
      have HR3 := hide ((unhide HR).read k1 k2)
      clear k1 k2 HR HB0
      have c1 : w3.cell? ⟨Bf, 1, none⟩ = some (.int .i64 0) := (unhide HR3).bf.cell 1
      have f1 : w3.frozen? ⟨Bf, 1, none⟩ = false := (unhide HR3).bf.frozen 1
      have HR4 := hide ((unhide HR3).put 1 (.int .i64 bv))
      clear HR3
      go_wp2_with fail
      generalize w3.setCell ⟨Bf, 1, none⟩ (.int .i64 bv) = w4 at *
      refine (xNumber (unhide HR4).rd 8).mono ?_
      rw [unhide HQ0]
      rintro e w5 ⟨rfl, k1, k2⟩
      have HR5 := hide ((unhide HR4).read k1 k2)
      clear k1 k2 HR4 HQ0 c1 f1
      have c2 : w5.cell? ⟨Bf, 2, none⟩ = some (.int .i64 0) := (unhide HR5).bf.cell 2
      have f2 : w5.frozen? ⟨Bf, 2, none⟩ = false := (unhide HR5).bf.frozen 2
      have HR6 := hide ((unhide HR5).put 2 (.int .i64 qv))
      clear HR5
      go_wp2_with fail
      generalize w5.setCell ⟨Bf, 2, none⟩ (.int .i64 qv) = w6 at *
      refine (xCount (unhide HR6).rd 8).mono ?_
      rw [unhide HN0]
      rintro e w7 ⟨rfl, k1, k2⟩
      have HR7 := hide ((unhide HR6).read k1 k2)
      clear k1 k2 HR6 HN0 c2 f2
      have hn8 : N ≤ 8 := by omega
      clear hn1 hn2
      go_wp2
      go_loopw [11] (fun iv wr => ∃ (i : Nat) (io : Option Addr) (ic ib : Nat) (ds : List RD), i ≤ N ∧ iv = .int .i64 i ∧ Hid (RX w wr B p Bf ao cap bs (rTxts bs 256 sn i).2 #[.int .i64 1, .int .i64 bv, .int .i64 qv, .slice io i ic, .slice none 0 0] ∧ IL (Bf + 1) wr io ic ib ds (rTxts bs 256 sn i).1)) (fun iv _ => N - (intOf iv).toNat)
      case atStart => exact ⟨0, none, 0, Bf + 1, [], Nat.zero_le _, rfl, hide ⟨unhide HR7, IL.nil _ _ _⟩⟩
      case round =>
        obtain ⟨i, io, ic, ib, ds, hi, rfl, HI⟩ := hrel
        by_cases hil : i < N
        · have hiI : (i : Int) < (N : Int) := by omega
          obtain ⟨hx0, hx1⟩ := rTxt_eq bs (rTxts bs 256 sn i).2 256 (by omega)
          have HT : Hid ((rTxts bs 256 sn (i + 1)).1 = (rTxts bs 256 sn i).1 ++ [(rTxt bs (rTxts bs 256 sn i).2 256).1] ∧ (rTxts bs 256 sn (i + 1)).2 = (rTxt bs (rTxts bs 256 sn i).2 256).2) := hide ⟨rfl, rfl⟩
          have HTL := hide (rTxts_length bs 256 sn i)
          generalize (rTxt bs (rTxts bs 256 sn i).2 256).1 = x at *
          generalize (rTxt bs (rTxts bs 256 sn i).2 256).2 = sx at *
          have HX0 := hide hx0
          clear hx0
          generalize (rTxts bs 256 sn i).1 = its at *
          generalize (rTxts bs 256 sn i).2 = si at *
          obtain ⟨info, hinf, hzz⟩ := Option.map_eq_some_iff.1 infoB
          simp only [Prod.mk.injEq] at hzz
          have HINF := hide (And.intro hinf hzz)
          clear hinf hzz
          have c3 : wr.cell? ⟨Bf, 3, none⟩ = some (.slice io i ic) := (unhide HI).1.bf.cell 3
          have f3 : wr.frozen? ⟨Bf, 3, none⟩ = false := (unhide HI).1.bf.frozen 3
          have HID : Hid (RX w wr.drew B p Bf ao cap bs si #[.int .i64 1, .int .i64 bv, .int .i64 qv, .slice io i ic, .slice none 0 0] ∧ IL (Bf + 1) wr.drew io ic ib ds its) := hide ⟨(unhide HI).1.keep ((Fr.refl _ _).drew), (unhide HI).2.frame ((Fr.refl (fun _ => False) _).drew) (fun _ t => t) (fun _ _ _ t => t)⟩
          have HDL : Hid (ds.length = i) := hide (by rw [(unhide HI).2.n1]; exact unhide HTL)
          go_wp2_with fail
          go_region_law (first | (refine step_call rfl 35 #[.pointer (some ⟨p, 0, none⟩), .int .i64 256] (by kernel_rfl) (xText (unhide HID).1.rd 256) ?_; rw [unhide HX0]; rintro e w8 ⟨rfl, k1, k2⟩; refine ⟨_, rfl, ?_⟩; have HR8 := hide (And.intro ((unhide HID).1.read k1 k2) ((unhide HID).2.stay k2 (fun k t => by have t : k = p := t; have := (unhide HI).1.lo; omega))); clear k1 k2; obtain ⟨xc, w9, hcv, H9⟩ := conv_strZ w8 x (by omega); have c8 : w8.cell? ⟨Bf, 3, none⟩ = some (.slice io i ic) := (unhide HR8).1.bf.cell 3; have HR9 := hide (And.intro ((unhide HR8).1.keep (unhide H9).2.1) ((unhide HR8).2.frame (unhide H9).2.1 (fun _ t => t) (fun _ _ _ t => t))); have c9 : w9.cell? ⟨Bf, 3, none⟩ = some (.slice io i ic) := (unhide HR9).1.bf.cell 3; have hl9 := (unhide HR9).1.bf.lt; have HRA := hide (And.intro ((unhide HR9).1.keep ((Fr.refl _ _).alloc (.cells #[.slice (some ⟨w8.heap.size, 0, none⟩) x.length xc] 23))) ((unhide HR9).2.frame ((Fr.refl (fun _ => False) _).alloc (.cells #[.slice (some ⟨w8.heap.size, 0, none⟩) x.length xc] 23)) (fun _ t => t) (fun _ _ _ t => t))); have HSR := hide (src_one (P := Tryz.prog) w9 [.slice (some ⟨w8.heap.size, 0, none⟩) x.length xc] 22 23 1 Tryz.underlying22 rfl (fun u hu => by simp at hu; subst hu; rfl) (W := w9.alloc (.cells #[.slice (some ⟨w8.heap.size, 0, none⟩) x.length xc] 23)) (fun j => by rw [World.cell?_alloc_new]; simp))) | (refine step_append_krow rfl (.tmp 50) (.tmp 54) 22 22 rfl 23 info _ 1 (by omega) Tryz.underlying22 (unhide HINF).1 (unhide HINF).2.1 rfl (unhide HINF).2.2.1 (ao := io) (cap := ic) (g := ib) (n := i) (vs := ds.map RD.val) rfl (unhide HRA).2.row (by rw [List.length_map, unhide HDL]; omega) _ [.slice (some ⟨w8.heap.size, 0, none⟩) x.length xc] 1 rfl (unhide HSR) (by rw [(unhide HINF).2.2.2]; omega) (by omega) ?_; intro ao' cap' wB gB hkr hgr; have HRB := hide ((unhide HRA).1.more hgr.frZ (fun k t => by have := (unhide HRA).2.ib t.2; omega)); have cB : wB.cell? ⟨Bf, 3, none⟩ = some (.slice io i ic) := (unhide HRB).bf.cell 3; have fB : wB.frozen? ⟨Bf, 3, none⟩ = false := (unhide HRB).bf.frozen 3; have HG := hide (And.intro hkr hgr); clear hkr hgr))
          all_goals
            have HIB : Hid (IL (Bf + 1) (wB.setCell ⟨Bf, 3, none⟩ (.slice ao' (i + 1) cap')) ao' cap' gB (ds ++ [⟨some ⟨w8.heap.size, 0, none⟩, x.length, xc, w8.heap.size⟩]) (its ++ [x])) := by
              obtain ⟨hkr, hgr⟩ := unhide HG
              have h8 := (unhide HR8).1.bf.lt
              have h9 := (unhide H9).2.2
              refine hide (IL.stay (S := fun k => k = Bf) ((unhide HRA).2.next (d := ⟨some ⟨w8.heap.size, 0, none⟩, x.length, xc, w8.heap.size⟩) (by omega) ((unhide H9).1.frame ((Fr.refl (fun _ => False) _).alloc _) (fun t => t)) rfl (fun hc => ⟨?_, fun hc2 => ?_, fun e he hc2 => ?_⟩) hkr hgr ?_) (Fr.setCell (S := fun k => k = Bf) (Fr.refl _ _) (p := ⟨Bf, 3, none⟩) (fun _ => rfl) _) (fun k t => by have t : k = Bf := t; omega))
              · show Bf + 1 ≤ w8.heap.size; omega
              · have := (unhide HR8).2.row.lt (by omega) hc2
                show ib ≠ w8.heap.size; omega
              · have := ((unhide HR8).2.in' he hc2).2.1
                show e.g < w8.heap.size; omega
              · rw [heap_alloc]; omega
            have HRE := hide ((unhide HRB).put 3 (.slice ao' (i + 1) cap'))
            clear HG HRB HRA HR9 HR8 cB fB c8 c9 c3 f3 hcv H9 HSR HINF HID HI
            go_wp2
            refine ⟨⟨i + 1, ao', cap', gB, ds ++ [⟨some ⟨w8.heap.size, 0, none⟩, x.length, xc, w8.heap.size⟩], by omega, by go_num, hide ⟨?_, ?_⟩⟩, by simp [intOf]; omega⟩
            · rw [(unhide HT).2]; exact unhide HRE
            · rw [(unhide HT).1]; exact unhide HIB
        · obtain rfl : i = N := by omega
          have hlen := rTxts_length bs 256 sn i
          have HD : Hid (RDx w wr B p Bf ao cap bs io ic none 0) := by
            have e := unhide HX
            obtain ⟨hr, hil⟩ := unhide HI
            refine hide ⟨by rw [e]; simp only [Fm.cells]; rw [hlen]; exact hr, by rw [e]; exact ⟨ib, ds, hil⟩, by rw [e]; exact ⟨Bf + 1, Row.nil _ _, by omega⟩, by rw [e]; simp only; omega, ⟨by rw [e]; simp, .inl rfl⟩⟩
          clear HX HI hlen
          go_wp2
          go_meet
          exact ⟨io, ic, none, 0, HD⟩
    by_cases h4 : k = 4
    · subst h4
      obtain ⟨hx0, hx1⟩ := rTxt_eq bs s1 16100 (by omega)
      have HX : Hid (readF bs = (⟨4, 0, 0, [], (rTxt bs s1 16100).1⟩, (rTxt bs s1 16100).2)) := by
        obtain ⟨e1, e2⟩ := unhide HK
        unfold readF
        simp only [e1, e2]
        refine hide ?_
        rw [if_neg (by omega), if_neg (by omega), if_pos trivial]
      generalize (rTxt bs s1 16100).1 = x at *
      generalize (rTxt bs s1 16100).2 = s2 at *
      have HX0 := hide hx0
      clear hx0 h1
      go_wp2_with fail
      refine (xText (unhide HR).rd 16100).mono ?_
      rw [unhide HX0]
      rintro e w3 ⟨rfl, k1, k2⟩
      have HR3 := hide ((unhide HR).read k1 k2)
      clear k1 k2 HR HX0
      obtain ⟨xc, w4, hcv, H4⟩ := conv_strZ w3 x (by omega)
      have hr4 := (unhide HR3).keep (unhide H4).2.1
      have c4 : w4.cell? ⟨Bf, 4, none⟩ = some (.slice none 0 0) := hr4.bf.cell 4
      have f4 : w4.frozen? ⟨Bf, 4, none⟩ = false := hr4.bf.frozen 4
      have hBl := (unhide HR3).bf.lt
      have HD : Hid (RDx w (w4.setCell ⟨Bf, 4, none⟩ (.slice (some ⟨w3.heap.size, 0, none⟩) x.length xc)) B p Bf ao cap bs none 0 (some ⟨w3.heap.size, 0, none⟩) xc) := by
        have e := unhide HX
        refine hide ⟨by rw [e]; exact hr4.put 4 _, by rw [e]; exact ⟨Bf + 1, [], IL.nil _ _ _⟩, by rw [e]; exact ⟨w3.heap.size, (unhide H4).1.stay (fun _ => Below.heap_setCell _ _ _ _ (by show w3.heap.size ≠ Bf; omega)), hBl⟩, by rw [e]; simp, ⟨by rw [e]; show x.length ≤ 16100; omega, .inr (by rw [e]; rfl)⟩⟩
      clear hr4 HR3 H4 hBl HX
      go_wp2
      go_meet
      exact ⟨none, 0, _, _, HD⟩
    by_cases h2 : k = 2 ∨ k = 3
    · obtain ⟨hx0, hx1, hx2⟩ := rNum_eq bs s1 8
      have HX : Hid (readF bs = (⟨k, 0, (rNum bs s1 8).1, [], []⟩, (rNum bs s1 8).2)) := by
        obtain ⟨e1, e2⟩ := unhide HK
        unfold readF
        simp only [e1, e2]
        refine hide ?_
        rw [if_neg h1, if_pos h2]
      generalize (rNum bs s1 8).1 = x at *
      generalize (rNum bs s1 8).2 = s2 at *
      have HX0 := hide hx0
      clear hx0 h1 h4 HK
      rcases h2 with rfl | rfl
      all_goals
        go_wp2_with fail
        refine (xNumber (unhide HR).rd 8).mono ?_
        rw [unhide HX0]
        rintro e w3 ⟨rfl, k1, k2⟩
        have HR3 := hide ((unhide HR).read k1 k2)
        clear k1 k2 HR HX0
        have c4 : w3.cell? ⟨Bf, 2, none⟩ = some (.int .i64 0) := (unhide HR3).bf.cell 2
        have f4 : w3.frozen? ⟨Bf, 2, none⟩ = false := (unhide HR3).bf.frozen 2
        have HD : Hid (RDx w (w3.setCell ⟨Bf, 2, none⟩ (.int .i64 x)) B p Bf ao cap bs none 0 none 0) := by
          have e := unhide HX
          refine hide ⟨by rw [e]; exact (unhide HR3).put 2 _, by rw [e]; exact ⟨Bf + 1, [], IL.nil _ _ _⟩, by rw [e]; exact ⟨Bf + 1, Row.nil _ _, by omega⟩, by rw [e]; simp, ⟨by rw [e]; simp, .inl rfl⟩⟩
        clear HR3 HX
        go_wp2
        go_meet
        exact ⟨none, 0, none, 0, HD⟩
    have b1 : (k == 1) = false := by simp; omega
    have b2 : (k == 2) = false := by simp; omega
    have b3 : (k == 3) = false := by simp; omega
    have b4 : (k == 4) = false := by simp; omega
    have HD : Hid (RDx w W B p Bf ao cap bs none 0 none 0) := by
      have hr := unhide HR
      obtain ⟨e1, e2⟩ := unhide HK
      have e : readF bs = (⟨k, 0, 0, [], []⟩, s1) := by
        unfold readF
        simp only [e1, e2]
        rw [if_neg h1, if_neg h2, if_neg h4]
      refine hide ⟨by rw [e]; exact hr, by rw [e]; exact ⟨Bf + 1, [], IL.nil _ _ _⟩, by rw [e]; exact ⟨Bf + 1, Row.nil _ _, by omega⟩, by rw [e]; simp, ⟨by rw [e]; simp, .inl rfl⟩⟩
    clear HR h1 h2 h4
    go_wp2
    go_meet
    exact ⟨none, 0, none, 0, HD⟩
  case rest =>
    obtain ⟨io, ic, bo, bc, HD⟩ := hcut
    clear HR HK hk1 hk2
    obtain ⟨f, hf⟩ : ∃ f, (readF bs).1 = f := ⟨_, rfl⟩
    obtain ⟨sE, hsE⟩ : ∃ sE, (readF bs).2 = sE := ⟨_, rfl⟩
    obtain ⟨hrf, hil, hby, hn1, hn2⟩ := unhide HD
    rw [hf, hsE] at hrf
    rw [hf] at hil hby hn1 hn2
    obtain ⟨kd, ba, sq, its, bts⟩ := f
    have HFS := hide (And.intro hf hsE)
    clear HD hf hsE
    simp only [Fm.cells] at hrf hil hby hn1 hn2
    have HRF := hide hrf
    have HIL := hide hil
    have HBY := hide hby
    have HN := hide (And.intro hn1 hn2)
    clear hrf hil hby hn1 hn2
    go_wp2_with fail
    refine (xEnd (unhide HRF).rd).mono ?_
    obtain ⟨ec, hec0⟩ : ∃ ec, (endR sE bs.length).c = ec := ⟨_, rfl⟩
    obtain ⟨ef, hef0⟩ : ∃ ef, (endR sE bs.length).f = ef := ⟨_, rfl⟩
    rw [hec0, hef0]
    have HEC := hide hec0
    clear hec0 hef0
    rintro e w5 ⟨rfl, k1, k2⟩
    have HR5 := hide (((unhide HRF).read k1 k2).keep ((Fr.refl (fun _ => False) w5).alloc (.cells #[.int .i64 ec, .int .i64 ef] 64)))
    have HI5 : Hid (∃ ib ds, IL (Bf + 1) (w5.alloc (.cells #[.int .i64 ec, .int .i64 ef] 64)) io ic ib ds its) := by
      obtain ⟨ib, ds, h⟩ := unhide HIL
      have hlo := (unhide HRF).lo
      exact hide ⟨ib, ds, (h.stay k2 (fun i t => by have t : i = p := t; omega)).frame ((Fr.refl (fun _ => False) w5).alloc _) (fun _ t => t) (fun _ _ _ t => t)⟩
    have HY5 : Hid (∃ gb, Row (w5.alloc (.cells #[.int .i64 ec, .int .i64 ef] 64)) (.slice bo bts.length bc) gb bts ∧ Bf < gb) := by
      obtain ⟨gb, h1, h2⟩ := unhide HBY
      have hlo := (unhide HRF).lo
      exact hide ⟨gb, (h1.frame k2 (fun t => by have t : gb = p := t; omega)).frame ((Fr.refl (fun _ => False) w5).alloc _) (fun t => t), h2⟩
    have HZ5 := hide (Bx.new w5 #[.int .i64 ec, .int .i64 ef] 64)
    clear k1 k2 HRF HIL HBY
    go_upto_region 23 with (fail)
    generalize w5.alloc (.cells #[.int .i64 ec, .int .i64 ef] 64) = w5a at *
    generalize w5.heap.size = Zf at *
    have x0 : w5a.cell? ⟨Bf, 0, none⟩ = some (.int .i64 kd) := (unhide HR5).bf.cell 0
    have x1 : w5a.cell? ⟨Bf, 1, none⟩ = some (.int .i64 ba) := (unhide HR5).bf.cell 1
    have x2 : w5a.cell? ⟨Bf, 2, none⟩ = some (.int .i64 sq) := (unhide HR5).bf.cell 2
    have x3 : w5a.cell? ⟨Bf, 3, none⟩ = some (.slice io its.length ic) := (unhide HR5).bf.cell 3
    have x4 : w5a.cell? ⟨Bf, 4, none⟩ = some (.slice bo bts.length bc) := (unhide HR5).bf.cell 4
    have hAt : Fm.At w5a ⟨kd, ba, sq, its, bts⟩ io bo bc := by
      obtain ⟨ib, ds, h⟩ := unhide HI5
      obtain ⟨gb, h1, h2⟩ := unhide HY5
      have hn := unhide HN
      exact ⟨h.rows (by show its.length ≤ _; omega), (Row.bat h1 (by show bts.length ≤ _; omega)).2⟩
    have HAt := hide hAt
    clear hAt
    go_wp2_with fail
    refine (rmay_any w5a ⟨kd, ba, sq, its, bts⟩ io ic bo bc (unhide HAt)).mono ?_
    obtain ⟨mb, hmb⟩ : ∃ mb, (Fm.mk kd ba sq its bts).may = mb := ⟨_, rfl⟩
    rw [hmb]
    have HOK : Hid (readOk bs = (decide (ec = 0) && mb)) := by
      unfold readOk
      rw [(unhide HFS).1, (unhide HFS).2, unhide HEC, hmb]
      exact hide rfl
    clear hmb
    rintro e w6 ⟨rfl, h6⟩
    have HR6 := hide ((unhide HR5).keep (unhide h6))
    have HI6 : Hid (∃ ib ds, IL (Bf + 1) w6 io ic ib ds its) := by
      obtain ⟨ib, ds, h⟩ := unhide HI5
      exact hide ⟨ib, ds, h.frame (unhide h6) (fun _ t => t) (fun _ _ _ t => t)⟩
    have HY6 : Hid (∃ gb, Row w6 (.slice bo bts.length bc) gb bts ∧ Bf < gb) := by
      obtain ⟨gb, h1, h2⟩ := unhide HY5
      exact hide ⟨gb, h1.frame (unhide h6) (fun t => t), h2⟩
    have g0 : w6.cell? ⟨Zf, 0, none⟩ = some (.int .i64 ec) := ((unhide HZ5).keep (unhide h6)).cell 0
    clear h6 HR5 HI5 HY5 HAt HZ5 x0 x1 x2 x3 x4
    by_cases hec : ec = 0
    · subst hec
      cases mb with
      | true =>
        have HPR : Hid (PR = (⟨kd, ba, sq, its, bts⟩, 0)) := hide (by rw [unhide HP, unhide HOK, (unhide HFS).1]; rfl)
        have c0 : w6.cell? ⟨B, 0, none⟩ = some (.int .i64 0) := (unhide HR6).bq.cell 0
        have c1 : w6.cell? ⟨B, 1, none⟩ = some (.int .i64 0) := (unhide HR6).bq.cell 1
        have c2 : w6.cell? ⟨B, 2, none⟩ = some (.int .i64 0) := (unhide HR6).bq.cell 2
        have c3 : w6.cell? ⟨B, 3, none⟩ = some (.slice none 0 0) := (unhide HR6).bq.cell 3
        have c4 : w6.cell? ⟨B, 4, none⟩ = some (.slice none 0 0) := (unhide HR6).bq.cell 4
        have f0 : w6.frozen? ⟨B, 0, none⟩ = false := (unhide HR6).bq.frozen 0
        have f1 : w6.frozen? ⟨B, 1, none⟩ = false := (unhide HR6).bq.frozen 1
        have f2 : w6.frozen? ⟨B, 2, none⟩ = false := (unhide HR6).bq.frozen 2
        have f3 : w6.frozen? ⟨B, 3, none⟩ = false := (unhide HR6).bq.frozen 3
        have f4 : w6.frozen? ⟨B, 4, none⟩ = false := (unhide HR6).bq.frozen 4
        have x0 : w6.cell? ⟨Bf, 0, none⟩ = some (.int .i64 kd) := (unhide HR6).bf.cell 0
        have x1 : w6.cell? ⟨Bf, 1, none⟩ = some (.int .i64 ba) := (unhide HR6).bf.cell 1
        have x2 : w6.cell? ⟨Bf, 2, none⟩ = some (.int .i64 sq) := (unhide HR6).bf.cell 2
        have x3 : w6.cell? ⟨Bf, 3, none⟩ = some (.slice io its.length ic) := (unhide HR6).bf.cell 3
        have x4 : w6.cell? ⟨Bf, 4, none⟩ = some (.slice bo bts.length bc) := (unhide HR6).bf.cell 4
        have hBw : w.heap.size ≤ B := (unhide HR6).lo.1
        have hfin : Hid (Fr (fun _ => False) w (((((w6.setCell ⟨B, 0, none⟩ (.int .i64 kd)).setCell ⟨B, 1, none⟩ (.int .i64 ba)).setCell ⟨B, 2, none⟩ (.int .i64 sq)).setCell ⟨B, 3, none⟩ (.slice io its.length ic)).setCell ⟨B, 4, none⟩ (.slice bo bts.length bc))) := hide ((((((unhide HR6).fr.setCell (p := ⟨B, 0, none⟩) (fun t => absurd t (by have t : B < w.heap.size := t; omega)) (.int .i64 kd)).setCell (p := ⟨B, 1, none⟩) (fun t => absurd t (by have t : B < w.heap.size := t; omega)) (.int .i64 ba)).setCell (p := ⟨B, 2, none⟩) (fun t => absurd t (by have t : B < w.heap.size := t; omega)) (.int .i64 sq)).setCell (p := ⟨B, 3, none⟩) (fun t => absurd t (by have t : B < w.heap.size := t; omega)) (.slice io its.length ic)).setCell (p := ⟨B, 4, none⟩) (fun t => absurd t (by have t : B < w.heap.size := t; omega)) (.slice bo bts.length bc))
        have hbz : Hid (Bx (((((w6.setCell ⟨B, 0, none⟩ (.int .i64 kd)).setCell ⟨B, 1, none⟩ (.int .i64 ba)).setCell ⟨B, 2, none⟩ (.int .i64 sq)).setCell ⟨B, 3, none⟩ (.slice io its.length ic)).setCell ⟨B, 4, none⟩ (.slice bo bts.length bc)) B #[.int .i64 kd, .int .i64 ba, .int .i64 sq, .slice io its.length ic, .slice bo bts.length bc] 25) := hide ((((((unhide HR6).bq.setCell 0 (.int .i64 kd)).setCell 1 (.int .i64 ba)).setCell 2 (.int .i64 sq)).setCell 3 (.slice io its.length ic)).setCell 4 (.slice bo bts.length bc))
        have HFV : Hid (Fr (fun k => k = B) w6 (((((w6.setCell ⟨B, 0, none⟩ (.int .i64 kd)).setCell ⟨B, 1, none⟩ (.int .i64 ba)).setCell ⟨B, 2, none⟩ (.int .i64 sq)).setCell ⟨B, 3, none⟩ (.slice io its.length ic)).setCell ⟨B, 4, none⟩ (.slice bo bts.length bc))) := hide (Fr.setCell (S := fun k => k = B) (Fr.setCell (S := fun k => k = B) (Fr.setCell (S := fun k => k = B) (Fr.setCell (S := fun k => k = B) (Fr.setCell (S := fun k => k = B) (Fr.refl (fun k => k = B) w6) (p := ⟨B, 0, none⟩) (fun _ => rfl) (.int .i64 kd)) (p := ⟨B, 1, none⟩) (fun _ => rfl) (.int .i64 ba)) (p := ⟨B, 2, none⟩) (fun _ => rfl) (.int .i64 sq)) (p := ⟨B, 3, none⟩) (fun _ => rfl) (.slice io its.length ic)) (p := ⟨B, 4, none⟩) (fun _ => rfl) (.slice bo bts.length bc))
        have hBl := (unhide HR6).bq.lt
        have hlo6 := (unhide HR6).lo
        go_wp2
        generalize (((((w6.setCell ⟨B, 0, none⟩ (.int .i64 kd)).setCell ⟨B, 1, none⟩ (.int .i64 ba)).setCell ⟨B, 2, none⟩ (.int .i64 sq)).setCell ⟨B, 3, none⟩ (.slice io its.length ic)).setCell ⟨B, 4, none⟩ (.slice bo bts.length bc)) = V at *
        have y0 : V.cell? ⟨B, 0, none⟩ = some (.int .i64 kd) := (unhide hbz).cell 0
        have y1 : V.cell? ⟨B, 1, none⟩ = some (.int .i64 ba) := (unhide hbz).cell 1
        have y2 : V.cell? ⟨B, 2, none⟩ = some (.int .i64 sq) := (unhide hbz).cell 2
        have y3 : V.cell? ⟨B, 3, none⟩ = some (.slice io its.length ic) := (unhide hbz).cell 3
        have y4 : V.cell? ⟨B, 4, none⟩ = some (.slice bo bts.length bc) := (unhide hbz).cell 4
        refine bodyPost_ret (v := .tuple #[.agg #[.int .i64 kd, .int .i64 ba, .int .i64 sq, .slice io its.length ic, .slice bo bts.length bc], .int .i64 0]) ?_ rfl ?_
        · simp [results, Tryz.results13, go_sem, y0, y1, y2, y3, y4]
        · rw [unhide HPR]
          obtain ⟨ib, ds, hi⟩ := unhide HI6
          obtain ⟨gb, hb1, hb2⟩ := unhide HY6
          exact ⟨io, ic, bo, bc, rfl, hide ⟨unhide hfin, ⟨ib, ds, (hi.stay (unhide HFV) (fun i t => by omega)).low (by omega)⟩, ⟨gb, hb1.frame (unhide HFV) (fun t => by have t : gb = B := t; omega), by omega⟩, (unhide HN).1, (unhide HN).2⟩⟩
      | false =>
        have HPR : Hid (PR = (zeroFm, 120)) := hide (by rw [unhide HP, unhide HOK]; rfl)
        have c0 : w6.cell? ⟨B, 0, none⟩ = some (.int .i64 0) := (unhide HR6).bq.cell 0
        have c1 : w6.cell? ⟨B, 1, none⟩ = some (.int .i64 0) := (unhide HR6).bq.cell 1
        have c2 : w6.cell? ⟨B, 2, none⟩ = some (.int .i64 0) := (unhide HR6).bq.cell 2
        have c3 : w6.cell? ⟨B, 3, none⟩ = some (.slice none 0 0) := (unhide HR6).bq.cell 3
        have c4 : w6.cell? ⟨B, 4, none⟩ = some (.slice none 0 0) := (unhide HR6).bq.cell 4
        have f0 : w6.frozen? ⟨B, 0, none⟩ = false := (unhide HR6).bq.frozen 0
        have f1 : w6.frozen? ⟨B, 1, none⟩ = false := (unhide HR6).bq.frozen 1
        have f2 : w6.frozen? ⟨B, 2, none⟩ = false := (unhide HR6).bq.frozen 2
        have f3 : w6.frozen? ⟨B, 3, none⟩ = false := (unhide HR6).bq.frozen 3
        have f4 : w6.frozen? ⟨B, 4, none⟩ = false := (unhide HR6).bq.frozen 4
        have hBw : w.heap.size ≤ B := (unhide HR6).lo.1
        have hfin : Hid (Fr (fun _ => False) w (((((w6.setCell ⟨B, 0, none⟩ (.int .i64 0)).setCell ⟨B, 1, none⟩ (.int .i64 0)).setCell ⟨B, 2, none⟩ (.int .i64 0)).setCell ⟨B, 3, none⟩ (.slice none 0 0)).setCell ⟨B, 4, none⟩ (.slice none 0 0))) := hide ((((((unhide HR6).fr.setCell (p := ⟨B, 0, none⟩) (fun t => absurd t (by have t : B < w.heap.size := t; omega)) (.int .i64 0)).setCell (p := ⟨B, 1, none⟩) (fun t => absurd t (by have t : B < w.heap.size := t; omega)) (.int .i64 0)).setCell (p := ⟨B, 2, none⟩) (fun t => absurd t (by have t : B < w.heap.size := t; omega)) (.int .i64 0)).setCell (p := ⟨B, 3, none⟩) (fun t => absurd t (by have t : B < w.heap.size := t; omega)) (.slice none 0 0)).setCell (p := ⟨B, 4, none⟩) (fun t => absurd t (by have t : B < w.heap.size := t; omega)) (.slice none 0 0))
        have hbz : Hid (Bx (((((w6.setCell ⟨B, 0, none⟩ (.int .i64 0)).setCell ⟨B, 1, none⟩ (.int .i64 0)).setCell ⟨B, 2, none⟩ (.int .i64 0)).setCell ⟨B, 3, none⟩ (.slice none 0 0)).setCell ⟨B, 4, none⟩ (.slice none 0 0)) B #[.int .i64 0, .int .i64 0, .int .i64 0, .slice none 0 0, .slice none 0 0] 25) := hide ((((((unhide HR6).bq.setCell 0 (.int .i64 0)).setCell 1 (.int .i64 0)).setCell 2 (.int .i64 0)).setCell 3 (.slice none 0 0)).setCell 4 (.slice none 0 0))
        have hlo6 := (unhide HR6).lo
        go_wp2
        generalize (((((w6.setCell ⟨B, 0, none⟩ (.int .i64 0)).setCell ⟨B, 1, none⟩ (.int .i64 0)).setCell ⟨B, 2, none⟩ (.int .i64 0)).setCell ⟨B, 3, none⟩ (.slice none 0 0)).setCell ⟨B, 4, none⟩ (.slice none 0 0)) = V at *
        have y0 : V.cell? ⟨B, 0, none⟩ = some (.int .i64 0) := (unhide hbz).cell 0
        have y1 : V.cell? ⟨B, 1, none⟩ = some (.int .i64 0) := (unhide hbz).cell 1
        have y2 : V.cell? ⟨B, 2, none⟩ = some (.int .i64 0) := (unhide hbz).cell 2
        have y3 : V.cell? ⟨B, 3, none⟩ = some (.slice none 0 0) := (unhide hbz).cell 3
        have y4 : V.cell? ⟨B, 4, none⟩ = some (.slice none 0 0) := (unhide hbz).cell 4
        refine bodyPost_ret (v := .tuple #[.agg #[.int .i64 0, .int .i64 0, .int .i64 0, .slice none 0 0, .slice none 0 0], .int .i64 120]) ?_ rfl ?_
        · simp [results, Tryz.results13, go_sem, y0, y1, y2, y3, y4]
        · rw [unhide HPR]
          exact ⟨none, 0, none, 0, rfl, hide (NewF.zero (unhide hfin))⟩
    · have hecb : (ec != 0) = true := by simp [hec]
      have HPR : Hid (PR = (zeroFm, 120)) := hide (by rw [unhide HP, unhide HOK, decide_eq_false hec]; rfl)
      clear hec
      have c0 : w6.cell? ⟨B, 0, none⟩ = some (.int .i64 0) := (unhide HR6).bq.cell 0
      have c1 : w6.cell? ⟨B, 1, none⟩ = some (.int .i64 0) := (unhide HR6).bq.cell 1
      have c2 : w6.cell? ⟨B, 2, none⟩ = some (.int .i64 0) := (unhide HR6).bq.cell 2
      have c3 : w6.cell? ⟨B, 3, none⟩ = some (.slice none 0 0) := (unhide HR6).bq.cell 3
      have c4 : w6.cell? ⟨B, 4, none⟩ = some (.slice none 0 0) := (unhide HR6).bq.cell 4
      have f0 : w6.frozen? ⟨B, 0, none⟩ = false := (unhide HR6).bq.frozen 0
      have f1 : w6.frozen? ⟨B, 1, none⟩ = false := (unhide HR6).bq.frozen 1
      have f2 : w6.frozen? ⟨B, 2, none⟩ = false := (unhide HR6).bq.frozen 2
      have f3 : w6.frozen? ⟨B, 3, none⟩ = false := (unhide HR6).bq.frozen 3
      have f4 : w6.frozen? ⟨B, 4, none⟩ = false := (unhide HR6).bq.frozen 4
      have hBw : w.heap.size ≤ B := (unhide HR6).lo.1
      have hfin : Hid (Fr (fun _ => False) w (((((w6.setCell ⟨B, 0, none⟩ (.int .i64 0)).setCell ⟨B, 1, none⟩ (.int .i64 0)).setCell ⟨B, 2, none⟩ (.int .i64 0)).setCell ⟨B, 3, none⟩ (.slice none 0 0)).setCell ⟨B, 4, none⟩ (.slice none 0 0))) := hide ((((((unhide HR6).fr.setCell (p := ⟨B, 0, none⟩) (fun t => absurd t (by have t : B < w.heap.size := t; omega)) (.int .i64 0)).setCell (p := ⟨B, 1, none⟩) (fun t => absurd t (by have t : B < w.heap.size := t; omega)) (.int .i64 0)).setCell (p := ⟨B, 2, none⟩) (fun t => absurd t (by have t : B < w.heap.size := t; omega)) (.int .i64 0)).setCell (p := ⟨B, 3, none⟩) (fun t => absurd t (by have t : B < w.heap.size := t; omega)) (.slice none 0 0)).setCell (p := ⟨B, 4, none⟩) (fun t => absurd t (by have t : B < w.heap.size := t; omega)) (.slice none 0 0))
      have hbz : Hid (Bx (((((w6.setCell ⟨B, 0, none⟩ (.int .i64 0)).setCell ⟨B, 1, none⟩ (.int .i64 0)).setCell ⟨B, 2, none⟩ (.int .i64 0)).setCell ⟨B, 3, none⟩ (.slice none 0 0)).setCell ⟨B, 4, none⟩ (.slice none 0 0)) B #[.int .i64 0, .int .i64 0, .int .i64 0, .slice none 0 0, .slice none 0 0] 25) := hide ((((((unhide HR6).bq.setCell 0 (.int .i64 0)).setCell 1 (.int .i64 0)).setCell 2 (.int .i64 0)).setCell 3 (.slice none 0 0)).setCell 4 (.slice none 0 0))
      have hlo6 := (unhide HR6).lo
      go_wp2
      generalize (((((w6.setCell ⟨B, 0, none⟩ (.int .i64 0)).setCell ⟨B, 1, none⟩ (.int .i64 0)).setCell ⟨B, 2, none⟩ (.int .i64 0)).setCell ⟨B, 3, none⟩ (.slice none 0 0)).setCell ⟨B, 4, none⟩ (.slice none 0 0)) = V at *
      have y0 : V.cell? ⟨B, 0, none⟩ = some (.int .i64 0) := (unhide hbz).cell 0
      have y1 : V.cell? ⟨B, 1, none⟩ = some (.int .i64 0) := (unhide hbz).cell 1
      have y2 : V.cell? ⟨B, 2, none⟩ = some (.int .i64 0) := (unhide hbz).cell 2
      have y3 : V.cell? ⟨B, 3, none⟩ = some (.slice none 0 0) := (unhide hbz).cell 3
      have y4 : V.cell? ⟨B, 4, none⟩ = some (.slice none 0 0) := (unhide hbz).cell 4
      refine bodyPost_ret (v := .tuple #[.agg #[.int .i64 0, .int .i64 0, .int .i64 0, .slice none 0 0, .slice none 0 0], .int .i64 120]) ?_ rfl ?_
      · simp [results, Tryz.results13, go_sem, y0, y1, y2, y3, y4]
      · rw [unhide HPR]
        exact ⟨none, 0, none, 0, rfl, hide (NewF.zero (unhide hfin))⟩

end Go.Proofs.YtabhfeocelljdaaGreatDoor

