import Derived.Test.YtmhljehkodhggaaGreatUB
/- The document's own: what of the one is not in the other one; is a token in both? -/
namespace Go.Proofs.YtmhljehkodhggaaGreat
open Go.RowKit

theorem outL_step (a b : List ByteArray) {i : Nat} (hi : i < a.length) : outL (a.take (i + 1)) b = if memS b a[i] then outL (a.take i) b else putL (outL (a.take i) b) a[i] := by
  unfold outL
  rw [List.take_succ_eq_append_getElem hi, List.filter_append]
  cases h : memS b a[i]
  · rw [if_neg (by simp)]
    simp only [List.filter_cons, h, Bool.not_false, if_true, List.filter_nil]
    rw [putsL_snoc]
  · rw [if_pos rfl]
    simp [h]
theorem outL_len (a b : List ByteArray) : (outL a b).length ≤ a.length := by
  unfold outL
  refine Nat.le_trans (putsL_len _ _).2 ?_
  have := List.length_filter_le (fun x => !memS b x) a
  simp only [List.length_nil]
  omega

set_option maxHeartbeats 4000000 in
set_option maxRecDepth 20000 in
theorem without13_any (w : World) (a b : List ByteArray) (ax : Option Addr) (cx : Nat) (bx : Option Addr) (cb : Nat) (ha : SAt w ax a) (hb : SAt w bx b) (hla : a.length ≤ 100000) (hlb : b.length ≤ 140737488355328) :
    Calls Tryz.prog 33 #[.slice ax a.length cx, .slice bx b.length cb] w fun e w' => ∃ ao cap g, e = .returned (.slice ao (outL a b).length cap) ∧ LO w w' ao cap g (outL a b) ∧ Fr (fun _ => False) w w' := by
  have HA := hide ha
  have HB := hide hb
  clear ha hb
  go_enter Tryz.func33, Tryz.ntmps33
  go_wp2
  go_loopw [5, 6, 7] (fun ov iv _ wr => ∃ (i m : Nat) (ao : Option Addr) (cap : Nat), i ≤ a.length ∧ iv = .int .i64 i ∧ ov = .slice ao m cap ∧ Hid (∃ g, LO w wr ao cap g (outL (a.take i) b) ∧ Fr (fun _ => False) w wr ∧ m = (outL (a.take i) b).length)) (fun _ iv _ _ => a.length - (intOf iv).toNat)
  case atStart => exact ⟨0, 0, none, 0, Nat.zero_le _, rfl, rfl, 0, LO.nil _ _, Fr.refl _ _, rfl⟩
  case round =>
    obtain ⟨i, m, ao, cap, hi, rfl, rfl, HR⟩ := hrel
    by_cases hil : i < a.length
    · have HST := hide (outL_step a b hil)
      have HLN := hide (outL_len (a.take i) b)
      obtain ⟨g, hL, hF, hm⟩ := unhide HR
      obtain ⟨q, off, rfl, c0⟩ := ((unhide HA).keep hF).at hil
      have R1 := hide (in_any wr bx cb b a[i] ((unhide HB).keep hF) hlb)
      have HL := hide (And.intro hL (And.intro hF hm))
      clear HR hL hF hm
      obtain ⟨x, HX⟩ : ∃ x, Hid (a[i] = x) := ⟨a[i], rfl⟩
      rw [unhide HX] at R1 HST c0
      go_wp2_with fail
      refine (unhide R1).mono ?_
      clear R1
      rintro e w1 ⟨rfl, hF⟩
      have HL1 : Hid (LO w w1 ao cap g (outL (a.take i) b) ∧ Fr (fun _ => False) w w1 ∧ m = (outL (a.take i) b).length) := hide ⟨(unhide HL).1.keep hF, (unhide HL).2.1.trans hF (fun _ _ t => t), (unhide HL).2.2⟩
      have c1 : w1.cell? ⟨q, off + i, none⟩ = some (.string x) := (hF.cell (a := ⟨q, off + i, none⟩) (World.block_lt_of_cell? _ _ c0) (fun t => t)).trans c0
      clear hF HL c0
      cases hx : memS b x with
      | true =>
        rw [hx] at HST
        have HN : Hid (∃ g, LO w w1 ao cap g (outL (a.take (i + 1)) b) ∧ Fr (fun _ => False) w w1 ∧ m = (outL (a.take (i + 1)) b).length) := hide (by rw [unhide HST, if_pos rfl]; exact ⟨g, unhide HL1⟩)
        clear hx
        go_wp2
        exact ⟨⟨i + 1, m, ao, cap, by omega, by go_num, rfl, unhide HN⟩, by simp [intOf]; omega⟩
      | false =>
        rw [hx] at HST
        have RP := put_any w w1 ao cap g (outL (a.take i) b) x (unhide HL1).1 (unhide HL1).2.1.size (by have := unhide HLN; rw [List.length_take] at this; omega)
        rw [← (unhide HL1).2.2, ← show outL (a.take (i + 1)) b = putL (outL (a.take i) b) x by rw [unhide HST, if_neg (by simp)]] at RP
        have RP := hide RP
        have HF1 := hide (unhide HL1).2.1
        clear hx HL1
        go_wp2_with fail
        refine (unhide RP).mono ?_
        clear RP c1
        rintro e w2 ⟨ao2, cap2, g2, rfl, hL, hF⟩
        have HN : Hid (∃ g, LO w w2 ao2 cap2 g (outL (a.take (i + 1)) b) ∧ Fr (fun _ => False) w w2 ∧ (outL (a.take (i + 1)) b).length = (outL (a.take (i + 1)) b).length) := hide ⟨g2, hL, (unhide HF1).trans hF (fun _ _ t => t), rfl⟩
        clear hL hF
        generalize hq : (outL (a.take (i + 1)) b).length = m2 at *
        have HQ := hide hq
        clear hq
        go_wp2
        exact ⟨⟨i + 1, m2, ao2, cap2, by omega, by go_num, rfl, by obtain ⟨g, h1, h2, _⟩ := unhide HN; exact ⟨g, h1, h2, (unhide HQ).symm⟩⟩, by simp [intOf]; omega⟩
    · obtain rfl : i = a.length := by omega
      have HE : Hid (∃ g, LO w wr ao cap g (outL a b) ∧ Fr (fun _ => False) w wr ∧ m = (outL a b).length) := hide (by have := unhide HR; rw [List.take_length] at this; exact this)
      clear HR
      go_wp2
      go_ret
      obtain ⟨g, h1, h2, h3⟩ := unhide HE
      exact ⟨ao, cap, g, by rw [← h3]; rfl, h1, h2⟩

set_option maxRecDepth 20000 in
theorem both_any (w : World) (a b : List ByteArray) (ax : Option Addr) (cx : Nat) (bx : Option Addr) (cb : Nat) (ha : SAt w ax a) (hb : SAt w bx b) (hla : a.length ≤ 140737488355328) (hlb : b.length ≤ 140737488355328) :
    Calls Tryz.prog 37 #[.slice ax a.length cx, .slice bx b.length cb] w fun e w' => e = .returned (.bool (a.any (memS b))) ∧ Fr (fun _ => False) w w' := by
  obtain ⟨y, HY⟩ : ∃ y, Hid (a.any (memS b) = y) := ⟨_, rfl⟩
  rw [unhide HY]
  have HA := hide ha
  have HB := hide hb
  clear ha hb
  go_enter Tryz.func37, Tryz.ntmps37
  go_wp2
  go_loopw [5, 6] (fun iv _ wr => ∃ (i : Nat), i ≤ a.length ∧ iv = .int .i64 i ∧ Hid (Fr (fun _ => False) w wr ∧ (a.drop i).any (memS b) = a.any (memS b))) (fun iv _ _ => a.length - (intOf iv).toNat)
  case atStart => exact ⟨0, Nat.zero_le _, rfl, Fr.refl _ _, by simp⟩
  case round =>
    obtain ⟨i, hi, rfl, HI⟩ := hrel
    by_cases hil : i < a.length
    · obtain ⟨q, off, rfl, c0⟩ := ((unhide HA).keep (unhide HI).1).at hil
      have ht := (unhide HI).2
      rw [List.drop_eq_getElem_cons hil, List.any_cons] at ht
      have R1 := hide (in_any wr bx cb b a[i] ((unhide HB).keep (unhide HI).1) hlb)
      generalize a[i] = x at *
      have HT := hide ht
      clear ht
      go_wp2_with fail
      refine (unhide R1).mono ?_
      clear R1
      rintro e w1 ⟨rfl, hF⟩
      have HF := hide ((unhide HI).1.trans hF (fun _ _ t => t))
      clear hF
      cases hx : memS b x with
      | true =>
        have HE : Hid (y = true) := hide (by have := unhide HT; rw [hx, Bool.true_or] at this; rw [← unhide HY, ← this])
        clear hx HT
        go_wp2
        go_ret
        exact ⟨by rw [unhide HE]; rfl, unhide HF⟩
      | false =>
        have HN : Hid ((a.drop (i + 1)).any (memS b) = a.any (memS b)) := hide (by have := unhide HT; rw [hx, Bool.false_or] at this; exact this)
        clear hx HT
        go_wp2
        exact ⟨⟨i + 1, by omega, by go_num, unhide HF, unhide HN⟩, by simp [intOf]; omega⟩
    · obtain rfl : i = a.length := by omega
      have HE : Hid (y = false) := hide (by have := (unhide HI).2; rw [List.drop_length] at this; rw [← unhide HY, ← this]; rfl)
      have HF := hide (unhide HI).1
      clear HI
      go_wp2
      go_ret
      exact ⟨by rw [unhide HE]; rfl, unhide HF⟩

end Go.Proofs.YtmhljehkodhggaaGreat

