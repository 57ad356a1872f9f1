import Derived.Test.YtjkghgcdkfkekaaGreatDoorYW1
import Derived.Test.YtjkghgcdkfkekaaGreatDoorC1
import Derived.Test.YtjkghgcdkfkekaaGreatDoorSS3
/- Contracts: filled, stampOf, stamped, frameHead, a head's sector. -/
namespace Go.Proofs.YtjkghgcdkfkekaaGreatDoor
open Go.RowKit

/-- New bytes of just their length. -/
def NewX (w : World) (bs : Bs) (v : Value) (w' : World) : Prop := ∃ g, v = .slice (some ⟨g, 0, none⟩) bs.length bs.length ∧ Bx w' g (bytesV bs).toArray 5 ∧ Fr (fun _ => False) w w' ∧ w.heap.size ≤ g

theorem BAt.ofBx {w : World} {g : Nat} {bs : Bs} {t : TypeId} (h : Bx w g (bytesV bs).toArray t) (hm : bs.length ≤ 140737488355328) : BAt w (some ⟨g, 0, none⟩) bs.length bs := by
  refine ⟨fun e => (by cases e), fun _ => ⟨g, 0, rfl, fun j hj => ?_⟩, hm⟩
  rw [Nat.zero_add, h.cell, List.getElem?_toArray, bytesV_get _ _ hj]

set_option maxRecDepth 20000 in
theorem filled_any (w : World) (ao : Option Addr) (cap : Nat) (bs : Bs) (hB : BAt w ao cap bs) (hl : bs.length ≤ 512) :
    Calls Tryz.prog 104 #[.slice ao bs.length cap] w fun e w' => ∃ v, e = .returned v ∧ NewX w (fillS bs) v w' := by
  have hmk : ∀ w : World, (Instr.makeSlice 28 (.int .i64 512) (.int .i64 512)).run Tryz.prog w = .ok (.slice (some ⟨w.heap.size, 0, none⟩) 512 512) (w.alloc (.cells (bytesV (zeros 512)).toArray 5)) := fun w => by
    rw [← made_zeros]; exact run_make_row' (P := Tryz.prog) 28 5 (.int .u8 0) 1 Tryz.underlying28 Tryz.info5 rfl .i64 .i64 512 (by omega) (by omega) w
  have hF0 : Fr (fun _ => False) w (w.alloc (.cells (bytesV (zeros 512)).toArray 5)) := (Fr.refl _ _).alloc _
  obtain ⟨w2, hcp, hb2, hf2, hz2⟩ := copy_any (Bx.new w (bytesV (zeros 512)).toArray 5) ao cap bs (hB.later hF0) hl 3
  have HR := hide (And.intro hb2 (And.intro (hF0.trans hf2 (fun i hi t => by have t' : i = w.heap.size := t; omega)) hl))
  clear hb2 hf2 hz2 hF0 hB hl
  go_enter Tryz.func104, Tryz.ntmps104
  go_wp2
  go_ret
  obtain ⟨h1, h2, h3⟩ := unhide HR
  exact ⟨_, rfl, w.heap.size, by rw [fillS_length _ h3]; rfl, h1, h2, Nat.le_refl _⟩

theorem BAt.take {w : World} {ao : Option Addr} {cap : Nat} {bs : Bs} (h : BAt w ao cap bs) (n c : Nat) (hn : 0 < n) (hl : n ≤ bs.length) : BAt w ao c (bs.take n) := by
  obtain ⟨b, off, rfl, hc⟩ := h.2.1 (by omega)
  refine ⟨fun e => (by cases e), fun _ => ⟨b, off, rfl, fun j hj => ?_⟩, by have := h.2.2; simp; omega⟩
  simp at hj
  rw [List.getElem_take]; exact hc j (by omega)

set_option maxRecDepth 20000 in
theorem stampOf_any (w : World) (g : Nat) (bs : Bs) (hB : Bx w g (bytesV bs).toArray 5) (hl : bs.length = 512) :
    Calls Tryz.prog 96 #[.slice (some ⟨g, 0, none⟩) 512 512] w fun e w' => e = .returned (.int .i64 (mrk bs : Int)) ∧ Fr (fun _ => False) w w' := by
  have hb := BAt.ofBx hB (by omega)
  have hb8 : BAt w (some ⟨g, 0, none⟩) 512 (bs.take 8) := hb.take 8 512 (by omega) (by omega)
  have hl8 : (bs.take 8).length = 8 := by simp; omega
  have HR := hide (newreader_any w (some ⟨g, 0, none⟩) 512 (bs.take 8) hb8.1 hb8.2.1 (by omega))
  rw [hl8] at HR
  have hval : (stepR ⟨0, 0, 0, 0⟩ (.int .i64 0) (oNumber (bs.take 8) 0 8)).1 = .int .i64 (mrk bs : Int) := by
    have e : ((bs.take 8).drop 0).take (8 : Int).toNat = bs.take 8 := by
      show (bs.take 8).take 8 = bs.take 8
      rw [List.take_take]; rfl
    have ho : oNumber (bs.take 8) 0 8 = if 9223372036854775807 < num (bs.take 8) then .error 11 else .ok (.int .i64 (num (bs.take 8)), 8) := by
      unfold oNumber
      rw [if_neg (by omega), if_neg (by rw [hl8]; omega), e]; rfl
    rw [ho, mrk]
    by_cases hn : num (bs.take 8) < 9223372036854775808
    · rw [if_neg (by omega), if_pos hn]; rfl
    · rw [if_pos (by omega), if_neg hn]; rfl
  have HV := hide hval
  clear hval hb hb8 hB hl hl8
  go_enter Tryz.func96, Tryz.ntmps96
  go_wp2_with fail
  refine (unhide HR).mono ?_
  rintro e w1 ⟨p, g1, rfl, hR1, hF1, hg1, hp1⟩
  have HQ := hide (And.intro hR1 (And.intro hF1 hp1))
  clear hR1 hF1 hg1 hp1 HR
  go_wp2_with fail
  refine (rnumber_any (unhide HQ).1 8).mono ?_
  rintro e w2 ⟨rfl, _, hF2⟩
  rw [unhide HV]
  have HF := hide ((unhide HQ).2.1.trans hF2 (fun i hi t => by have t' : i = p := t; have := (unhide HQ).2.2; omega))
  clear hF2 HQ HV
  go_wp2
  go_ret
  exact ⟨rfl, unhide HF⟩

theorem wnum_ok (n k : Nat) (hk : 1 ≤ k) (hk8 : k ≤ 8) (h : n < 256 ^ k) : wNumber (n : Int) (k : Int) = some (digs n k) := by
  have hp : (n : Int) < 256 ^ k := by have := Int.ofNat_lt.2 h; rwa [Int.natCast_pow] at this
  rw [wNumber, if_pos ⟨by omega, by omega, by omega, by rw [Int.toNat_natCast]; exact hp⟩]
  simp

set_option maxHeartbeats 1000000 in
set_option maxRecDepth 20000 in
theorem stamped_any (w : World) (G : Nat) (hG : G < 9223372036854775808) (ao : Option Addr) (cap : Nat) (part : Bs) (hB : BAt w ao cap part) (hl : part.length ≤ 504) :
    Calls Tryz.prog 72 #[.int .i64 (G : Int), .slice ao part.length cap] w fun e w' => ∃ v, e = .returned v ∧ NewX w (fillS (digs G 8 ++ part)) v w' := by
  have hw8 : stepW (some []) (wNumber (G : Int) 8) = some (digs G 8) := by
    have := wnum_ok G 8 (by omega) (by omega) (Nat.lt_trans hG (by decide))
    rw [show ((8 : Nat) : Int) = 8 from rfl] at this
    rw [this]; exact congrArg some (List.nil_append _)
  have HB := hide (And.intro hB (And.intro hl (And.intro hw8 hG)))
  clear hB hl hw8 hG
  go_enter Tryz.func72, Tryz.ntmps72
  go_wp2_with fail
  refine (newwriter_any _).mono ?_
  rintro e w1 ⟨rfl, rfl⟩
  have hO := WOwn.new w
  generalize w.alloc (.cells #[.slice none 0 0, .bool false] 210) = w1 at *
  have HO := hide hO
  clear hO
  go_wp2_with fail
  refine (wnumber_any (unhide HO).2.2.2 (fun bs h => by cases h; simp) (G : Int) 8 (by have := (unhide HB).2.2.2; omega)).mono ?_
  rintro e w2 ⟨rfl, hP⟩
  rw [(unhide HB).2.2.1] at hP
  obtain ⟨g2, hO2⟩ := (unhide HO).next hP
  have HO2 := hide hO2
  clear hP hO2 HO
  go_wp2_with fail
  refine (bytes_ok (unhide HO2).2.2.2 (by rw [digs_length]; omega)).mono ?_
  rintro e w3 ⟨v, g3, rfl, hrow, hF3, hg3⟩
  obtain ⟨vo, vc, rfl, _⟩ := hrow.shape
  have HR := hide (And.intro hrow (And.intro ((unhide HO2).1.trans hF3 (fun _ _ t => t)) hg3))
  clear hrow hF3 hg3 HO2
  rw [digs_length] at *
  go_wp2_with fail
  obtain ⟨hrow, hF3, _⟩ := unhide HR
  have hF4 : Fr (fun _ => False) w (w3.alloc (.cells #[.slice vo 8 vc, .slice ao part.length cap] 28)) := hF3.alloc _
  have hbx := Bx.new w3 #[.slice vo 8 vc, .slice ao part.length cap] 28
  have hr4 : Row (w3.alloc (.cells #[.slice vo 8 vc, .slice ao part.length cap] 28)) (.slice vo 8 vc) g3 (digs G 8) := hrow.stay (fun hlt => Below.heap_alloc _ _ _ hlt)
  have hb1 := (hr4.bat (by rw [digs_length]; omega)).2
  have hb2 := (unhide HB).1.later hF4
  have hpl := (unhide HB).2.1
  refine (concat_any _ w3.heap.size [(vo, vc, digs G 8), (ao, cap, part)] (fun i h => ?c0) (by simp) (fun i h => ?b0) (by simp [allB, digs_length]; omega) (by simp [allB, digs_length]; omega)).mono ?_
  case c0 => match i, h with | 0, _ => simp [digs_length] | 1, _ => simp
  case b0 => match i, h with | 0, _ => exact hb1 | 1, _ => exact hb2
  rw [show allB [(vo, vc, digs G 8), (ao, cap, part)] = digs G 8 ++ part by simp [allB]]
  rintro e w5 ⟨v, rfl, g5, k1, k2, k3⟩
  obtain ⟨so, sc, rfl, _⟩ := k1.shape
  have hl5 : (digs G 8 ++ part).length ≤ 512 := by simp [digs_length]; omega
  have hb5 := (k1.bat (by omega)).2
  have HQ := hide (And.intro hb5 (And.intro (hF4.trans k2 (fun _ _ t => t)) hl5))
  clear hrow hF3 hF4 hbx hr4 hb1 hb2 hpl k1 k2 k3 hb5 hl5 HR HB
  generalize hLq : digs G 8 ++ part = L at *
  have HLQ := hide hLq
  clear hLq
  go_wp2_with fail
  refine (filled_any _ so sc L (unhide HQ).1 (unhide HQ).2.2).mono ?_
  rintro e w6 ⟨v, rfl, g6, rfl, j1, j2, j3⟩
  have HE := hide (And.intro j1 (And.intro ((unhide HQ).2.1.trans j2 (fun _ _ t => t)) (Nat.le_trans (unhide HQ).2.1.size j3)))
  clear j1 j2 j3 HQ
  go_wp2
  go_ret
  have hLq := unhide HLQ
  clear HLQ
  subst hLq
  exact ⟨_, rfl, g6, rfl, unhide HE⟩

end Go.Proofs.YtjkghgcdkfkekaaGreatDoor

/- Contracts: frameHead; a head's sector, and what a sector says as a head. -/
namespace Go.Proofs.YtjkghgcdkfkekaaGreatDoor
open Go.RowKit

theorem stepW_add (a b : Bs) : stepW (some a) (some b) = some (a ++ b) := rfl

theorem wput (a : Bs) (n k : Nat) (hk : 1 ≤ k) (hk8 : k ≤ 8) (h : n < 256 ^ k) : stepW (some a) (wNumber (n : Int) (k : Int)) = some (a ++ digs n k) := by rw [wnum_ok n k hk hk8 h]; rfl

set_option maxHeartbeats 1000000 in
set_option maxRecDepth 20000 in
theorem frameHead_any (w : World) (hT : TabAt w) (ao : Option Addr) (cap : Nat) (bs : Bs) (hB : BAt w ao cap bs) (hl : bs.length < 4294967296) (n : Nat) (hn : n < 4294967296) :
    Calls Tryz.prog 70 #[.slice ao bs.length cap, .int .i64 (n : Int)] w fun e w' => ∃ v, e = .returned v ∧ New w (fh bs n) v w' := by
  have h1 : stepW (some []) (wNumber (bs.length : Int) 4) = some (digs bs.length 4) := by
    have := wput [] bs.length 4 (by omega) (by omega) hl
    rw [List.nil_append] at this; exact this
  have h2 : stepW (some (digs bs.length 4)) (wNumber (n : Int) 4) = some (digs bs.length 4 ++ digs n 4) := wput _ n 4 (by omega) (by omega) hn
  have hm := moreF_lt bs (sumF_lt (digs bs.length 4 ++ digs n 4))
  have h3 : stepW (some (digs bs.length 4 ++ digs n 4)) (wNumber ((moreF (sumF (digs bs.length 4 ++ digs n 4)) bs : Nat) : Int) 4) = some (fh bs n) := wput _ _ 4 (by omega) (by omega) hm
  have hmv : moreV ((sumF (digs bs.length 4 ++ digs n 4) : Nat) : Int) bs = .tuple #[.int .i64 ((moreF (sumF (digs bs.length 4 ++ digs n 4)) bs : Nat) : Int), .int .i64 0] := by
    rw [moreV, if_pos (isS_of (sumF_lt _)), Int.toNat_natCast]
  have hl8 : (digs bs.length 4 ++ digs n 4).length = 8 := by simp [digs_length]
  have hfl := fh_length bs n
  have hbl : (bs.length : Int) ≤ 9223372036854775807 := by omega
  have hnl : (n : Int) ≤ 9223372036854775807 := by omega
  have HB := hide (And.intro hB (And.intro hT (And.intro h1 (And.intro h2 (And.intro h3 (And.intro hmv (And.intro hl8 (And.intro hfl hm))))))))
  clear hB hT h1 h2 h3 hmv hl8 hfl hm hl hn
  generalize hA : digs bs.length 4 = A at *
  have HA := hide hA
  clear hA
  generalize hC : A ++ digs n 4 = C at *
  have HC := hide hC
  clear hC
  generalize hX : fh bs n = X at *
  have HX := hide hX
  clear hX
  go_enter Tryz.func70, Tryz.ntmps70
  go_wp2_with fail
  refine (newwriter_any _).mono ?_
  rintro e w1 ⟨rfl, rfl⟩
  have hO := WOwn.new w
  generalize w.alloc (.cells #[.slice none 0 0, .bool false] 210) = w1 at *
  have HO := hide hO
  clear hO
  go_wp2_with fail
  refine (wnumber_any (unhide HO).2.2.2 (fun bs h => by cases h; simp) (bs.length : Int) 4 hbl).mono ?_
  rintro e w2 ⟨rfl, hP⟩
  rw [(unhide HB).2.2.1] at hP
  obtain ⟨g2, hO2⟩ := (unhide HO).next hP
  have hAl : A.length = 4 := by rw [← unhide HA, digs_length]
  have hCl := (unhide HB).2.2.2.2.2.2.1
  have HO2 := hide (And.intro hO2 (And.intro hAl hCl))
  clear hP hO2 HO hAl hCl
  go_wp2_with fail
  refine (wnumber_any (unhide HO2).1.2.2.2 (fun bs h => by cases h; rw [(unhide HO2).2.1]; omega) (n : Int) 4 hnl).mono ?_
  rintro e w3 ⟨rfl, hP⟩
  rw [(unhide HB).2.2.2.1] at hP
  obtain ⟨g3, hO3⟩ := (unhide HO2).1.next hP
  have HO3 := hide (And.intro hO3 (unhide HO2).2.2)
  clear hP hO3 HO2
  go_wp2_with fail
  refine (bytes_ok (unhide HO3).1.2.2.2 (by rw [(unhide HO3).2]; omega)).mono ?_
  rintro e w4 ⟨v, g4, rfl, hrow, hF4, hg4⟩
  obtain ⟨vo, vc, rfl, _⟩ := hrow.shape
  have hF04 : Fr (fun _ => False) w w4 := (unhide HO3).1.1.trans hF4 (fun _ _ t => t)
  have hb4 := (hrow.bat (by rw [(unhide HO3).2]; omega)).2
  have hO4 : WOwn w w4 w.heap.size g3 (some C) := by
    obtain ⟨q1, q2, q3, q4⟩ := (unhide HO3).1
    exact ⟨hF04, q2, q3, q4.stay (fun k _ hlt => hF4.block k hlt (fun t => t))⟩
  have HR := hide (And.intro hb4 (And.intro hF04 (And.intro hO4 (unhide HO3).2)))
  clear hrow hF4 hg4 HO3 hF04 hb4 hO4
  go_wp2_with fail
  refine (sum_any _ ((unhide HB).2.1.later (unhide HR).2.1) vo vc C (unhide HR).1).mono ?_
  rintro e w5 ⟨rfl, rfl⟩
  go_wp2_with fail
  refine (More_any _ ((unhide HB).2.1.later (unhide HR).2.1) _ ao cap bs ((unhide HB).1.later (unhide HR).2.1)).mono ?_
  rintro e w5 ⟨rfl, rfl⟩
  rw [(unhide HB).2.2.2.2.2.1]
  go_wp2_with fail
  refine (wnumber_any (unhide HR).2.2.1.2.2.2 (fun bs h => by cases h; rw [(unhide HR).2.2.2]; omega) _ 4 (by have := (unhide HB).2.2.2.2.2.2.2.2; omega)).mono ?_
  rintro e w6 ⟨rfl, hP⟩
  rw [(unhide HB).2.2.2.2.1] at hP
  obtain ⟨g6, hO6⟩ := (unhide HR).2.2.1.next hP
  have HO6 := hide (And.intro hO6 (unhide HB).2.2.2.2.2.2.2.1)
  clear hP hO6 HR
  go_wp2_with fail
  refine (bytes_ok (unhide HO6).1.2.2.2 (by rw [(unhide HO6).2]; omega)).mono ?_
  rintro e w7 ⟨v, g7, rfl, hrow, hF7, hg7⟩
  have HE := hide (And.intro hrow (And.intro ((unhide HO6).1.1.trans hF7 (fun _ _ t => t)) (Nat.le_trans (unhide HO6).1.1.size hg7)))
  clear hrow hF7 hg7 HO6 HB
  go_wp2
  go_ret
  exact ⟨v, rfl, g7, unhide HE⟩

end Go.Proofs.YtjkghgcdkfkekaaGreatDoor

/- Contracts: a head's sector, and what a sector says as a head. -/
namespace Go.Proofs.YtjkghgcdkfkekaaGreatDoor
open Go.RowKit

/-- What stands in a head. -/
def hraw (G h : Nat) : Bs := [70, 66, 87, 76] ++ digs G 8 ++ digs h 1
/-- A head's sector. -/
def hsec (G h : Nat) : Bs := fillS (frameF (hraw G h))
theorem hraw_length (G h : Nat) : (hraw G h).length = 13 := by simp [hraw, digs_length]
theorem hframe_length (G h : Nat) : (frameF (hraw G h)).length = 17 := by rw [frameF_length, hraw_length]
theorem hsec_length (G h : Nat) : (hsec G h).length = 512 := fillS_length _ (by rw [hframe_length]; omega)

/-- What a sector says as a head. -/
def hd (b : Bs) : Option (Nat × Nat) :=
  if 1 ≤ num ((b.drop 4).take 8) ∧ num ((b.drop 4).take 8) ≤ 281474976710656 ∧ num ((b.drop 12).take 1) ≤ 1 ∧ b = hsec (num ((b.drop 4).take 8)) (num ((b.drop 12).take 1)) then some (num ((b.drop 4).take 8), num ((b.drop 12).take 1)) else none

set_option maxHeartbeats 1000000 in
set_option maxRecDepth 20000 in
theorem sector_any (w : World) (hT : TabAt w) (G h : Nat) (hG : G < 9223372036854775808) (hh : h < 256) :
    Calls Tryz.prog 87 #[.agg #[.int .i64 (G : Int), .int .i64 (h : Int)]] w fun e w' => ∃ v, e = .returned v ∧ NewX w (hsec G h) v w' := by
  have h1 : stepW (some []) (wFixed ⟨#[70, 66, 87, 76]⟩ 4) = some [70, 66, 87, 76] := by decide +kernel
  have h2 : stepW (some [70, 66, 87, 76]) (wNumber (G : Int) 8) = some ([70, 66, 87, 76] ++ digs G 8) := wput _ G 8 (by omega) (by omega) (Nat.lt_trans hG (by decide))
  have h3 : stepW (some ([70, 66, 87, 76] ++ digs G 8)) (wNumber (h : Int) 1) = some (hraw G h) := wput _ h 1 (by omega) (by omega) (by omega)
  have hgl : (G : Int) ≤ 9223372036854775807 := by omega
  have hhl : (h : Int) ≤ 9223372036854775807 := by omega
  have l2 : ([70, 66, 87, 76] ++ digs G 8 : Bs).length = 12 := by simp [digs_length]
  have l3 := hraw_length G h
  have l4 := hframe_length G h
  have HB := hide (And.intro hT (And.intro h1 (And.intro h2 (And.intro h3 (And.intro l2 (And.intro l3 l4))))))
  clear hT h1 h2 h3 l2 l3 l4 hG hh
  generalize hC : ([70, 66, 87, 76] ++ digs G 8 : Bs) = C at *
  have HC := hide hC
  clear hC
  rw [show hsec G h = fillS (frameF (hraw G h)) from rfl]
  generalize hX : hraw G h = X at *
  have HX := hide hX
  clear hX
  generalize hY : frameF X = Y at *
  have HY := hide hY
  clear hY
  go_enter Tryz.func87, Tryz.ntmps87
  go_wp2_with fail
  have hF0 : Fr (fun _ => False) w (w.alloc (.cells #[.int .i64 (G : Int), .int .i64 (h : Int)] 90)) := (Fr.refl _ _).alloc _
  have hbx := Bx.new w #[.int .i64 (G : Int), .int .i64 (h : Int)] 90
  have hz := heap_alloc w (.cells #[.int .i64 (G : Int), .int .i64 (h : Int)] 90)
  generalize w.alloc (.cells #[.int .i64 (G : Int), .int .i64 (h : Int)] 90) = w0 at *
  obtain ⟨q, hq⟩ : ∃ q, q = w.heap.size := ⟨_, rfl⟩
  rw [← hq] at hbx ⊢
  have HQ := hide hq
  have HW := hide (And.intro hF0 (And.intro hbx hz))
  clear hF0 hbx hz hq
  refine (newwriter_any _).mono ?_
  rintro e w1 ⟨rfl, rfl⟩
  have hO := WOwn.new w0
  generalize w0.alloc (.cells #[.slice none 0 0, .bool false] 210) = w1 at *
  have HO := hide hO
  clear hO
  go_wp2_with fail
  refine (wfixed_any (unhide HO).2.2.2 ⟨#[70, 66, 87, 76]⟩ 4 (fun bs h => by cases h; simp [ByteArray.size])).mono ?_
  rintro e w2 ⟨rfl, hP⟩
  rw [(unhide HB).2.1] at hP
  obtain ⟨g2, hO2⟩ := (unhide HO).next hP
  have c0 : w2.cell? ⟨q, 0, none⟩ = some (.int .i64 (G : Int)) := ((unhide HW).2.1.keep hO2.1).cell 0
  have HO2 := hide hO2
  clear hP hO2 HO
  go_wp2_with fail
  refine (wnumber_any (unhide HO2).2.2.2 (fun bs h => by cases h; simp) (G : Int) 8 hgl).mono ?_
  rintro e w3 ⟨rfl, hP⟩
  rw [(unhide HB).2.2.1] at hP
  obtain ⟨g3, hO3⟩ := (unhide HO2).next hP
  have c1 : w3.cell? ⟨q, 1, none⟩ = some (.int .i64 (h : Int)) := ((unhide HW).2.1.keep hO3.1).cell 1
  have HO3 := hide hO3
  clear hP hO3 HO2 c0
  go_wp2_with fail
  refine (wnumber_any (unhide HO3).2.2.2 (fun bs h => by cases h; rw [(unhide HB).2.2.2.2.1]; omega) (h : Int) 1 hhl).mono ?_
  rintro e w4 ⟨rfl, hP⟩
  rw [(unhide HB).2.2.2.1] at hP
  obtain ⟨g4, hO4⟩ := (unhide HO3).next hP
  have HO4 := hide hO4
  clear hP hO4 HO3 c1
  go_wp2_with fail
  refine (bytes_ok (unhide HO4).2.2.2 (by rw [(unhide HB).2.2.2.2.2.1]; omega)).mono ?_
  rintro e w5 ⟨v, g5, rfl, hrow, hF5, hg5⟩
  obtain ⟨vo, vc, rfl, _⟩ := hrow.shape
  have hF05 : Fr (fun _ => False) w w5 := ((unhide HW).1.trans (unhide HO4).1 (fun _ _ t => t)).trans hF5 (fun _ _ t => t)
  have hb5 := (hrow.bat (by rw [(unhide HB).2.2.2.2.2.1]; omega)).2
  have HR := hide (And.intro hb5 hF05)
  clear hrow hF5 hg5 HO4 hF05 hb5
  go_wp2_with fail
  refine (frame_any _ ((unhide HB).1.later (unhide HR).2) vo vc X (unhide HR).1 (by rw [(unhide HB).2.2.2.2.2.1]; omega)).mono ?_
  rw [unhide HY]
  rintro e w6 ⟨v, rfl, g6, k1, k2, k3⟩
  obtain ⟨so, sc, rfl, _⟩ := k1.shape
  have hb6 := (k1.bat (by rw [(unhide HB).2.2.2.2.2.2]; omega)).2
  have HR6 := hide (And.intro hb6 ((unhide HR).2.trans k2 (fun _ _ t => t)))
  clear k1 k2 k3 hb6 HR
  go_wp2_with fail
  refine (filled_any _ so sc Y (unhide HR6).1 (by rw [(unhide HB).2.2.2.2.2.2]; omega)).mono ?_
  rintro e w7 ⟨v, rfl, g7, rfl, j1, j2, j3⟩
  have HE := hide (And.intro j1 (And.intro ((unhide HR6).2.trans j2 (fun _ _ t => t)) (Nat.le_trans (unhide HR6).2.size j3)))
  clear j1 j2 j3 HR6 HB
  go_wp2
  go_ret
  exact ⟨_, rfl, g7, rfl, unhide HE⟩

end Go.Proofs.YtjkghgcdkfkekaaGreatDoor

/- Contract: readHead. -/
namespace Go.Proofs.YtjkghgcdkfkekaaGreatDoor
open Go.RowKit

/-- What readHead answers. -/
def hdV (o : Option (Nat × Nat)) : Value := match o with
  | some x => .tuple #[.agg #[.int .i64 (x.1 : Int), .int .i64 (x.2 : Int)], .bool true]
  | none => .tuple #[.agg #[.int .i64 0, .int .i64 0], .bool false]

/-- What is read of a head's numbers. -/
theorem head_reads (bs : Bs) (hl : bs.length = 512) : ∃ G h : Nat, ∃ s1 s2 s3 : RS, stepR ⟨0, 0, 0, 0⟩ (.string ⟨#[]⟩) (oFixed bs 0 4) = (.string ⟨((bs.drop 0).take 4).toArray⟩, s1) ∧
    stepR s1 (.int .i64 0) (oNumber bs s1.a 8) = (.int .i64 (G : Int), s2) ∧ stepR s2 (.int .i64 0) (oNumber bs s2.a 1) = (.int .i64 (h : Int), s3) ∧ G < 9223372036854775808 ∧ h < 256 ∧
    hd bs = if 1 ≤ G ∧ G ≤ 281474976710656 ∧ h ≤ 1 ∧ bs = hsec G h then some (G, h) else none := by
  have e1 : stepR ⟨0, 0, 0, 0⟩ (.string ⟨#[]⟩) (oFixed bs 0 4) = (.string ⟨((bs.drop 0).take 4).toArray⟩, ⟨4, 0, 0, 0⟩) := by
    unfold oFixed
    rw [if_neg (by omega), if_neg (by omega)]; rfl
  have e2 : oNumber bs 4 8 = if 9223372036854775807 < num ((bs.drop 4).take 8) then .error 11 else .ok (.int .i64 (num ((bs.drop 4).take 8)), 12) := by
    unfold oNumber
    rw [if_neg (by omega), if_neg (by omega)]; rfl
  by_cases hn : 9223372036854775807 < num ((bs.drop 4).take 8)
  · rw [if_pos hn] at e2
    refine ⟨0, 0, ⟨4, 0, 0, 0⟩, ⟨4, 0, 11, 4⟩, ⟨4, 0, 11, 4⟩, e1, by show stepR _ _ (oNumber bs 4 8) = _; rw [e2]; rfl, rfl, by omega, by omega, ?_⟩
    rw [hd, if_neg (by omega), if_neg (by omega)]
  · rw [if_neg hn] at e2
    have e3 : oNumber bs 12 1 = .ok (.int .i64 (num ((bs.drop 12).take 1)), 13) := by
      have hlt := num_lt ((bs.drop 12).take 1)
      have hl1 : ((bs.drop 12).take 1).length = 1 := by simp; omega
      rw [hl1] at hlt
      unfold oNumber
      rw [if_neg (by omega), if_neg (by omega), if_neg (by show ¬ (9223372036854775807 < num ((bs.drop 12).take 1)); omega)]; rfl
    have hlt := num_lt ((bs.drop 12).take 1)
    have hl1 : ((bs.drop 12).take 1).length = 1 := by simp; omega
    rw [hl1] at hlt
    refine ⟨num ((bs.drop 4).take 8), num ((bs.drop 12).take 1), ⟨4, 0, 0, 0⟩, ⟨12, 4, 0, 0⟩, ⟨13, 12, 0, 0⟩, e1, by show stepR _ _ (oNumber bs 4 8) = _; rw [e2]; rfl, by show stepR _ _ (oNumber bs 12 1) = _; rw [e3]; rfl, by omega, by omega, rfl⟩

set_option maxHeartbeats 2000000 in
set_option maxRecDepth 20000 in
theorem readHead_any (w : World) (hT : TabAt w) (g : Nat) (bs : Bs) (hB : Bx w g (bytesV bs).toArray 5) (hl : bs.length = 512) :
    Calls Tryz.prog 66 #[.slice (some ⟨g, 0, none⟩) 512 512] w fun e w' => e = .returned (hdV (hd bs)) ∧ Fr (fun _ => False) w w' := by
  obtain ⟨G, h, s1, s2, s3, e1, e2, e3, hG, hh, hhd⟩ := head_reads bs hl
  have HR := fun (w' : World) (hF : Fr (fun _ => False) w w') => newreader_any w' (some ⟨g, 0, none⟩) bs.length bs (BAt.ofBx (hB.keep hF) (by omega)).1 (BAt.ofBx (hB.keep hF) (by omega)).2.1 (by omega)
  rw [hl] at HR
  have HH := hide (And.intro HR (And.intro e1 (And.intro e2 (And.intro e3 (And.intro hT (And.intro hB hl))))))
  have hgl : (G : Int) < 9223372036854775808 := by omega
  have hhl : (h : Int) < 256 := by omega
  have hg0 : (0 : Int) ≤ (G : Int) := by omega
  have hh0 : (0 : Int) ≤ (h : Int) := by omega
  have HD := hide (And.intro hhd (And.intro hG hh))
  clear HR e1 e2 e3 hT hB hl hhd hG hh
  go_enter Tryz.func66, Tryz.ntmps66
  go_wp2_with fail
  have hF0 : Fr (fun _ => False) w (w.alloc (.cells #[.int .i64 0, .int .i64 0] 90)) := (Fr.refl _ _).alloc _
  have hbx := Bx.new w #[.int .i64 0, .int .i64 0] 90
  generalize w.alloc (.cells #[.int .i64 0, .int .i64 0] 90) = w0 at *
  obtain ⟨q, hq⟩ : ∃ q, q = w.heap.size := ⟨_, rfl⟩
  rw [← hq] at hbx ⊢
  have HW := hide (And.intro hF0 (And.intro hbx hq))
  refine ((unhide HH).1 _ hF0).mono ?_
  clear hF0 hbx hq
  rintro e w1 ⟨p, g1, rfl, hR1, hF1, hg1, hp1⟩
  have hO : ROwn w0 w1 p g1 bs ⟨0, 0, 0, 0⟩ := ⟨hF1, hp1, hg1, hR1⟩
  have HO := hide hO
  clear hR1 hF1 hg1 hp1 hO
  go_wp2_with fail
  refine (rfixed_any (unhide HO).2.2.2 4).mono ?_
  rw [(unhide HH).2.1]
  rintro e w2 ⟨rfl, k1, k2⟩
  have HO2 := hide ((unhide HO).next k1 k2)
  clear k1 k2 HO
  go_wp2_with fail
  refine (rnumber_any (unhide HO2).2.2.2 8).mono ?_
  rw [(unhide HH).2.2.1]
  rintro e w3 ⟨rfl, k1, k2⟩
  have HO3 := hide ((unhide HO2).next k1 k2)
  clear k1 k2 HO2
  go_wp2_with fail
  refine (rnumber_any (unhide HO3).2.2.2 1).mono ?_
  rw [(unhide HH).2.2.2.1]
  rintro e w4 ⟨rfl, k1, k2⟩
  have hO4 := (unhide HO3).next k1 k2
  have hF4 : Fr (fun _ => False) w w4 := (unhide HW).1.trans hO4.1 (fun _ _ t => t)
  have hq4 : Bx w4 q #[.int .i64 0, .int .i64 0] 90 := (unhide HW).2.1.keep hO4.1
  have hbs4 : Bx w4 g (bytesV bs).toArray 5 := (unhide HH).2.2.2.2.2.1.keep hF4
  have hT4 := (unhide HH).2.2.2.2.1.later hF4
  have hl := (unhide HH).2.2.2.2.2.2
  have hqw : q < w4.heap.size := hq4.lt
  have hql : w.heap.size ≤ q := by have := (unhide HW).2.2; omega
  have HQ := hide (And.intro hF4 (And.intro hq4 (And.intro hbs4 (And.intro hT4 (And.intro hl hql)))))
  clear k1 k2 HO3 hO4 hF4 hq4 hbs4 hT4 HH HW hl
  have c0 : w4.cell? ⟨q, 0, none⟩ = some (.int .i64 0) := (unhide HQ).2.1.cell 0
  have c1 : w4.cell? ⟨q, 1, none⟩ = some (.int .i64 0) := (unhide HQ).2.1.cell 1
  have f0 := (unhide HQ).2.1.frozen 0
  have f1 := (unhide HQ).2.1.frozen 1
  have hne : q ≠ w4.heap.size := by omega
  by_cases b1 : 1 ≤ G
  · have i1 : decide ((G : Int) < 1) = false := by simp; omega
    by_cases b2 : G ≤ 281474976710656
    · have i2 : decide ((281474976710656 : Int) < (G : Int)) = false := by simp; omega
      by_cases b3 : h ≤ 1
      · have i3 : decide ((1 : Int) < (h : Int)) = false := by simp; omega
        have HB := hide (And.intro b1 (And.intro b2 b3))
        clear b1 b2 b3
        go_wp2_with fail
        obtain ⟨hF4, hq4, hbs4, hT4, hl, hql⟩ := unhide HQ
        obtain ⟨hhd, hG, hh⟩ := unhide HD
        have hF5 : Fr (fun _ => False) w4 (w4.alloc (.cells #[.int .i64 (G : Int), .int .i64 (h : Int)] 90)) := (Fr.refl _ _).alloc _
        have hbx5 := Bx.new w4 #[.int .i64 (G : Int), .int .i64 (h : Int)] 90
        generalize w4.alloc (.cells #[.int .i64 (G : Int), .int .i64 (h : Int)] 90) = w5 at *
        refine (sector_any _ (hT4.later hF5) G h hG hh).mono ?_
        rintro e w6 ⟨v, rfl, g6, rfl, j1, j2, j3⟩
        have hs6 : (hsec G h).length = 512 := hsec_length G h
        have hF6 := hF5.trans j2 (fun _ _ t => t)
        have E1 := BAt.ofBx (hbs4.keep hF6) (by omega)
        have E2 := BAt.ofBx j1 (by omega)
        have E := equal_any _ (some ⟨g, 0, none⟩) bs.length bs E1 (some ⟨g6, 0, none⟩) (hsec G h).length (hsec G h) E2
        rw [hl, hs6] at E
        rw [hs6]
        have hq6 := hq4.keep hF6
        have d0 : w6.cell? ⟨q, 0, none⟩ = some (.int .i64 0) := hq6.cell 0
        have d1 : w6.cell? ⟨q, 1, none⟩ = some (.int .i64 0) := hq6.cell 1
        have e0 := hq6.frozen 0
        have e1 := hq6.frozen 1
        have y0 : w6.cell? ⟨w4.heap.size, 0, none⟩ = some (.int .i64 (G : Int)) := (hbx5.keep j2).cell 0
        have y1 : w6.cell? ⟨w4.heap.size, 1, none⟩ = some (.int .i64 (h : Int)) := (hbx5.keep j2).cell 1
        have hne : q ≠ w4.heap.size := by omega
        have HE := hide (And.intro E (And.intro (hF4.trans hF6 (fun _ _ t => t)) (And.intro hhd (And.intro hql hq6))))
        clear hF4 hq4 hbs4 hT4 hl hql hhd hG hh hF5 hbx5 j1 j2 j3 hs6 hF6 E1 E2 E hq6 c0 c1 f0 f1 HQ HD
        have hq6 := (unhide HE).2.2.2.2
        have hlq : q < w6.heap.size := hq6.lt
        clear hq6
        go_wp2_with fail
        refine (unhide HE).1.mono ?_
        rintro e w7 ⟨rfl, rfl⟩
        obtain ⟨bb1, bb2, bb3⟩ := unhide HB
        by_cases heq : bs = hsec G h
        · have hbe : (bs == hsec G h) = true := by simpa using heq
          rw [hbe]
          have HHd : Hid (hd bs = some (G, h)) := by show hd bs = _; rw [(unhide HE).2.2.1, if_pos ⟨bb1, bb2, bb3, heq⟩]
          clear hbe heq bb1 bb2 bb3
          go_wp2
          refine bodyPost_ret (v := hdV (hd bs)) ?_ rfl ⟨rfl, ?_⟩
          · rw [unhide HHd]; simp [results, Tryz.results66, go_sem, hdV, d0, d1, World.cell?_setCell_same]
          · exact ((unhide HE).2.1.setCell (fun h => absurd h (by show ¬ q < _; have := (unhide HE).2.2.2.1; omega)) _).setCell (fun h => absurd h (by show ¬ q < _; have := (unhide HE).2.2.2.1; omega)) _
        · have hbe : (bs == hsec G h) = false := by simpa using heq
          rw [hbe]
          have HHd : Hid (hd bs = none) := by show hd bs = _; rw [(unhide HE).2.2.1, if_neg (fun t => heq t.2.2.2)]
          clear hbe heq bb1 bb2 bb3
          go_wp2
          refine bodyPost_ret (v := hdV (hd bs)) ?_ rfl ⟨rfl, ?_⟩
          · rw [unhide HHd]; simp [results, Tryz.results66, go_sem, hdV, d0, d1, World.cell?_setCell_same]
          · exact ((unhide HE).2.1.setCell (fun h => absurd h (by show ¬ q < _; have := (unhide HE).2.2.2.1; omega)) _).setCell (fun h => absurd h (by show ¬ q < _; have := (unhide HE).2.2.2.1; omega)) _
      · have HHd : Hid (hd bs = none) := by show hd bs = _; rw [(unhide HD).1, if_neg (fun t => b3 t.2.2.1)]
        have i3 : decide ((1 : Int) < (h : Int)) = true := by simp; omega
        clear b1 b2 b3
        go_wp2
        refine bodyPost_ret (v := hdV (hd bs)) ?_ rfl ⟨rfl, ?_⟩
        · have hfin : Bx (((w4.setCell ⟨q, 0, none⟩ (.int .i64 0)).setCell ⟨q, 1, none⟩ (.int .i64 0)).alloc (.cells #[.int .i64 (G : Int), .int .i64 (h : Int)] 90)) q #[.int .i64 0, .int .i64 0] 90 := (((unhide HQ).2.1.setCell 0 (.int .i64 0)).setCell 1 (.int .i64 0)).alloc _
          have z0 := hfin.cell 0
          have z1 := hfin.cell 1
          rw [unhide HHd]; simp [results, Tryz.results66, go_sem, hdV, z0, z1]
        · exact (((unhide HQ).1.setCell (fun h => absurd h (by show ¬ q < _; have := (unhide HQ).2.2.2.2.2; omega)) _).setCell (fun h => absurd h (by show ¬ q < _; have := (unhide HQ).2.2.2.2.2; omega)) _).alloc _
    · have HHd : Hid (hd bs = none) := by show hd bs = _; rw [(unhide HD).1, if_neg (fun t => b2 t.2.1)]
      have i2 : decide ((281474976710656 : Int) < (G : Int)) = true := by simp; omega
      clear b1 b2
      go_wp2
      refine bodyPost_ret (v := hdV (hd bs)) ?_ rfl ⟨rfl, ?_⟩
      · have hfin : Bx (((w4.setCell ⟨q, 0, none⟩ (.int .i64 0)).setCell ⟨q, 1, none⟩ (.int .i64 0)).alloc (.cells #[.int .i64 (G : Int), .int .i64 (h : Int)] 90)) q #[.int .i64 0, .int .i64 0] 90 := (((unhide HQ).2.1.setCell 0 (.int .i64 0)).setCell 1 (.int .i64 0)).alloc _
        have z0 := hfin.cell 0
        have z1 := hfin.cell 1
        rw [unhide HHd]; simp [results, Tryz.results66, go_sem, hdV, z0, z1]
      · exact (((unhide HQ).1.setCell (fun h => absurd h (by show ¬ q < _; have := (unhide HQ).2.2.2.2.2; omega)) _).setCell (fun h => absurd h (by show ¬ q < _; have := (unhide HQ).2.2.2.2.2; omega)) _).alloc _
  · have HHd : Hid (hd bs = none) := by show hd bs = _; rw [(unhide HD).1, if_neg (fun t => b1 t.1)]
    have i1 : decide ((G : Int) < 1) = true := by simp; omega
    clear b1
    go_wp2
    refine bodyPost_ret (v := hdV (hd bs)) ?_ rfl ⟨rfl, ?_⟩
    · have hfin : Bx (((w4.setCell ⟨q, 0, none⟩ (.int .i64 0)).setCell ⟨q, 1, none⟩ (.int .i64 0)).alloc (.cells #[.int .i64 (G : Int), .int .i64 (h : Int)] 90)) q #[.int .i64 0, .int .i64 0] 90 := (((unhide HQ).2.1.setCell 0 (.int .i64 0)).setCell 1 (.int .i64 0)).alloc _
      have z0 := hfin.cell 0
      have z1 := hfin.cell 1
      rw [unhide HHd]; simp [results, Tryz.results66, go_sem, hdV, z0, z1]
    · exact (((unhide HQ).1.setCell (fun h => absurd h (by show ¬ q < _; have := (unhide HQ).2.2.2.2.2; omega)) _).setCell (fun h => absurd h (by show ¬ q < _; have := (unhide HQ).2.2.2.2.2; omega)) _).alloc _

end Go.Proofs.YtjkghgcdkfkekaaGreatDoor

/- Contract: holding. -/
namespace Go.Proofs.YtjkghgcdkfkekaaGreatDoor
open Go.RowKit

/-- One more head is looked at. -/
def upH (s : Nat × Nat × Nat) (o : Option (Nat × Nat)) (i : Nat) : Nat × Nat × Nat := match o with
  | some x => if x.1 > s.1 then (x.1, x.2, i) else s
  | none => s
def holdTo (c : Nat → Bs) : Nat → Nat × Nat × Nat
  | 0 => (0, 1, 1)
  | i + 1 => upH (holdTo c i) (hd (c i)) i
/-- The head that holds: its number (0: there is none), its half, its sector. -/
def hold (c : Nat → Bs) : Nat × Nat × Nat := holdTo c 2

theorem hd_bd {b : Bs} {x : Nat × Nat} (h : hd b = some x) : 1 ≤ x.1 ∧ x.1 ≤ 281474976710656 ∧ x.2 ≤ 1 ∧ b = hsec x.1 x.2 := by
  unfold hd at h
  split at h
  · rename_i hc
    injection h with h
    subst h
    exact hc
  · cases h

theorem holdTo_bd (c : Nat → Bs) (i : Nat) : (holdTo c i).1 ≤ 281474976710656 ∧ (holdTo c i).2.1 ≤ 1 ∧ (i ≤ 2 → (holdTo c i).2.2 ≤ 1) := by
  induction i with
  | zero => exact ⟨by simp [holdTo], by simp [holdTo], by simp [holdTo]⟩
  | succ i ih =>
    simp only [holdTo, upH]
    cases hx : hd (c i) with
    | none => exact ⟨ih.1, ih.2.1, fun h => ih.2.2 (by omega)⟩
    | some x =>
      have := hd_bd hx
      simp only
      split
      · exact ⟨this.2.1, this.2.2.1, fun h => by show i ≤ 1; omega⟩
      · exact ⟨ih.1, ih.2.1, fun h => ih.2.2 (by omega)⟩

set_option maxHeartbeats 2000000 in
set_option maxRecDepth 20000 in
theorem holding_any (w : World) (hT : TabAt w) (R : Nat → Nat) (p b : Nat) (d : Dk) (h : Dsk w R p b d.many) (hD : DAt w R b d) (hup : d.down = false) (hm : 2 ≤ d.many) :
    Calls Tryz.prog 40 #[.pointer (some ⟨p, 0, none⟩)] w fun e w' => e = .returned (.tuple #[.agg #[.int .i64 ((hold d.look).1 : Int), .int .i64 ((hold d.look).2.1 : Int)], .int .i64 ((hold d.look).2.2 : Int), .nilIface]) ∧ Fr (fun _ => False) w w' := by
  have HH := hide (And.intro hT (And.intro h (And.intro hD (And.intro hup hm))))
  clear hT h hD hup hm
  rw [show hold d.look = holdTo d.look 2 from rfl]
  go_enter Tryz.func40, Tryz.ntmps40
  go_wp2
  have hF0 : Fr (fun _ => False) w ((w.alloc (.cells #[.int .i64 0, .int .i64 0] 90)).alloc (.cells #[.int .i64 0, .int .i64 1] 90)) := ((Fr.refl _ _).alloc _).alloc _
  have hb2 : Bx ((w.alloc (.cells #[.int .i64 0, .int .i64 0] 90)).alloc (.cells #[.int .i64 0, .int .i64 1] 90)) w.heap.size #[.int .i64 0, .int .i64 0] 90 := (Bx.new w _ _).alloc _
  have hb5 : Bx ((w.alloc (.cells #[.int .i64 0, .int .i64 0] 90)).alloc (.cells #[.int .i64 0, .int .i64 1] 90)) (w.heap.size + 1) #[.int .i64 0, .int .i64 1] 90 := by
    have := Bx.new (w.alloc (.cells #[.int .i64 0, .int .i64 0] 90)) #[.int .i64 0, .int .i64 1] 90
    rwa [heap_alloc] at this
  generalize ((w.alloc (.cells #[.int .i64 0, .int .i64 0] 90)).alloc (.cells #[.int .i64 0, .int .i64 1] 90)) = w0 at *
  have HW := hide (And.intro hF0 (And.intro hb2 hb5))
  clear hF0 hb2 hb5
  go_loopw [6, 13] (fun av iv wr => ∃ i : Nat, i ≤ 2 ∧ iv = .int .i64 i ∧ av = .int .i64 ((holdTo d.look i).2.2 : Nat) ∧ Hid (Fr (fun _ => False) w wr ∧ Bx wr w.heap.size #[.int .i64 0, .int .i64 0] 90 ∧ Bx wr (w.heap.size + 1) #[.int .i64 ((holdTo d.look i).1 : Nat), .int .i64 ((holdTo d.look i).2.1 : Nat)] 90)) (fun _ iv _ => 2 - (intOf iv).toNat)
  case atStart => exact ⟨0, Nat.zero_le _, rfl, rfl, unhide HW⟩
  case round =>
    obtain ⟨i, hi, rfl, rfl, HI⟩ := hrel
    have hbd := holdTo_bd d.look i
    have hbd2 := holdTo_bd d.look (i + 1)
    have hst : holdTo d.look (i + 1) = upH (holdTo d.look i) (hd (d.look i)) i := rfl
    by_cases hlt : i < 2
    · have hii : (i : Int) < 2 := by omega
      generalize hS : holdTo d.look i = S at *
      generalize hS1 : holdTo d.look (i + 1) = S1 at *
      obtain ⟨G0, h0, a0⟩ := S
      have g1 : ((G0 : Nat) : Int) ≤ 281474976710656 := by have := hbd.1; simp at this; omega
      have g0 : (0 : Int) ≤ ((G0 : Nat) : Int) := by omega
      have HS := hide (And.intro hS (And.intro hS1 (And.intro hst hbd)))
      clear hS hS1 hst hbd hbd2
      go_wp2_with fail
      obtain ⟨hT, hK, hD, hup, hm⟩ := unhide HH
      obtain ⟨hF, hb2, hb5⟩ := unhide HI
      refine (read_any _ R p b d (hK.frame hF (fun _ _ t => t) (UpR.refl _ _)) (hD.frame hF (fun _ t => t.elim)) hup i (by omega)).mono ?_
      rintro e w1 ⟨g, rfl, hg, hF1, hgl⟩
      have hF01 := hF.trans hF1 (fun _ _ t => t)
      have hl512 : (d.look i).length = 512 := hD.ok.look i
      have HR := hide (And.intro hg (And.intro hF01 (And.intro (hb2.keep hF1) (And.intro (hb5.keep hF1) (And.intro (hT.later hF01) hl512)))))
      clear hg hF1 hgl hF01 hl512 hT hK hD hup hm hF hb2 hb5 HI
      go_wp2_with fail
      refine (readHead_any _ (unhide HR).2.2.2.2.1 g (d.look i) (unhide HR).1 (unhide HR).2.2.2.2.2).mono ?_
      rintro e w2 ⟨rfl, hF2⟩
      have hb5' := (unhide HR).2.2.2.1.keep hF2
      have HR2 := hide (And.intro ((unhide HR).2.1.trans hF2 (fun _ _ t => t)) (And.intro ((unhide HR).2.2.1.keep hF2) hb5'))
      have k0 : w2.cell? ⟨w.heap.size + 1, 0, none⟩ = some (.int .i64 (G0 : Int)) := hb5'.cell 0
      have k1 : w2.cell? ⟨w.heap.size + 1, 1, none⟩ = some (.int .i64 (h0 : Int)) := hb5'.cell 1
      have f0 := hb5'.frozen 0
      have f1 := hb5'.frozen 1
      have lb5 : w.heap.size + 1 < w2.heap.size := hb5'.lt
      clear hF2 HR hb5'
      cases hx : hd (d.look i) with
      | none =>
        rw [hdV]
        have HX := hide hx
        clear hx
        go_wp2
        obtain ⟨q1, q2, q3⟩ := unhide HR2
        obtain ⟨hS, hS1, hst, hbd⟩ := unhide HS
        rw [unhide HX] at hst
        have hst' : S1 = (G0, h0, a0) := hst
        refine ⟨⟨i + 1, by omega, by go_num, by rw [hS1, hst'], ?_⟩, by simp [intOf]; omega⟩
        rw [hS1, hst']
        exact ⟨q1.alloc _, q2.alloc _, q3.alloc _⟩
      | some x =>
        obtain ⟨G1, h1⟩ := x
        have hxb := hd_bd hx
        have g2 : ((G1 : Nat) : Int) ≤ 281474976710656 := by have := hxb.2.1; simp at this; omega
        have g3 : (0 : Int) ≤ ((G1 : Nat) : Int) := by omega
        rw [hdV]
        have HX := hide hx
        clear hx hxb
        by_cases hgt : G0 < G1
        · have hgi : decide ((G0 : Int) < (G1 : Int)) = true := by simp; omega
          have HG := hide hgt
          clear hgt
          go_wp2
          obtain ⟨q1, q2, q3⟩ := unhide HR2
          obtain ⟨hS, hS1, hst, hbd⟩ := unhide HS
          rw [unhide HX] at hst
          have hst' : S1 = (G1, h1, i) := by rw [hst]; simp only [upH]; rw [if_pos (unhide HG)]
          refine ⟨⟨i + 1, by omega, by go_num, by rw [hS1, hst'], ?_⟩, by simp [intOf]; omega⟩
          rw [hS1, hst']
          have hne : w.heap.size ≠ w.heap.size + 1 := by omega
          refine ⟨?_, ?_, ?_⟩
          · exact ((q1.setCell (fun h => absurd h (by show ¬ w.heap.size + 1 < w.heap.size; omega)) _).setCell (fun h => absurd h (by show ¬ w.heap.size + 1 < w.heap.size; omega)) _).alloc _
          · exact ((q2.setOther hne 0 _).setOther hne 1 _).alloc _
          · exact ((q3.setCell 0 (.int .i64 (G1 : Int))).setCell 1 (.int .i64 (h1 : Int))).alloc _
        · have hgi : decide ((G0 : Int) < (G1 : Int)) = false := by simp; omega
          have HG := hide hgt
          clear hgt
          go_wp2
          obtain ⟨q1, q2, q3⟩ := unhide HR2
          obtain ⟨hS, hS1, hst, hbd⟩ := unhide HS
          rw [unhide HX] at hst
          have hst' : S1 = (G0, h0, a0) := by rw [hst]; simp only [upH]; rw [if_neg (unhide HG)]
          refine ⟨⟨i + 1, by omega, by go_num, by rw [hS1, hst'], ?_⟩, by simp [intOf]; omega⟩
          rw [hS1, hst']
          exact ⟨q1.alloc _, q2.alloc _, q3.alloc _⟩
    · obtain rfl : i = 2 := by omega
      have hb5' := (unhide HI).2.2
      have hb2' := (unhide HI).2.1
      have k0 : wr.cell? ⟨w.heap.size + 1, 0, none⟩ = some (.int .i64 ((holdTo d.look 2).1 : Int)) := hb5'.cell 0
      have k1 : wr.cell? ⟨w.heap.size + 1, 1, none⟩ = some (.int .i64 ((holdTo d.look 2).2.1 : Int)) := hb5'.cell 1
      have k2 : wr.cell? ⟨w.heap.size, 0, none⟩ = some (.int .i64 0) := hb2'.cell 0
      have k3 : wr.cell? ⟨w.heap.size, 1, none⟩ = some (.int .i64 0) := hb2'.cell 1
      have f0 := hb2'.frozen 0
      have f1 := hb2'.frozen 1
      clear hb5' hb2' hbd hbd2 hst
      go_wp2
      refine bodyPost_ret (v := .tuple #[.agg #[.int .i64 ((holdTo d.look 2).1 : Int), .int .i64 ((holdTo d.look 2).2.1 : Int)], .int .i64 ((holdTo d.look 2).2.2 : Int), .nilIface]) ?_ rfl ⟨rfl, ?_⟩
      · simp [results, Tryz.results40, go_sem, k2, k3, World.cell?_setCell_same]
      · exact ((unhide HI).1.setCell (fun h => absurd h (by show ¬ w.heap.size < w.heap.size; omega)) _).setCell (fun h => absurd h (by show ¬ w.heap.size < w.heap.size; omega)) _

end Go.Proofs.YtjkghgcdkfkekaaGreatDoor

