import Derived.Test.YtjkghgcdkfkekaaGreatDoorFX
/- Contract: recordAt. -/
namespace Go.Proofs.YtjkghgcdkfkekaaGreatDoor
open Go.RowKit

/-- The record whose frame some bytes begin with. -/
def recAt (s : Bs) (n : Nat) : Option Bs :=
  if s.length < 12 then none else if s.length - 12 < num (s.take 4) then none
  else if s.take 12 = fh ((s.drop 12).take (num (s.take 4))) n then some ((s.drop 12).take (num (s.take 4))) else none

theorem BAt.cut {w : World} {b off cap : Nat} {s : Bs} (h : BAt w (some ⟨b, off, none⟩) cap s) (hc : ∀ j (hj : j < s.length), w.cell? ⟨b, off + j, none⟩ = some (.int .u8 (s[j].toNat))) (i n c : Nat) (hl : i + n ≤ s.length) : BAt w (some ⟨b, off + i, none⟩) c ((s.drop i).take n) := by
  refine ⟨fun e => (by cases e), fun _ => ⟨b, off + i, rfl, fun j hj => ?_⟩, by have := h.2.2; simp; omega⟩
  simp at hj
  rw [List.getElem_take, List.getElem_drop, Nat.add_assoc]
  exact hc (i + j) (by omega)

theorem size5w (w : World) : (sizeOf (Tryz.prog.elem 28)).run Tryz.prog w = .ok 1 w := by kernel_rfl
theorem under37 : Tryz.prog.underlying 28 = some (.slice (Tryz.prog.elem 28)) := by kernel_rfl

/-- A slice's beginning. -/
theorem cutH (a : Option Addr) (len cap h : Nat) (hh : h ≤ cap) (w : World) : (Instr.slice 28 (.slice a len cap) none (some (.int .i64 (h : Int))) none).run Tryz.prog w = .ok (.slice a h cap) w := by
  rw [run_slice_h (P := Tryz.prog) (w := w) 28 a len cap under37 .i64 (h : Int) (by omega) (by omega), size5w]
  simp only [Result.andThen, sliced, Int.toNat_natCast, Nat.zero_mul, Nat.sub_zero]
  congr 2
  split
  · rfl
  · cases a with
    | none => rfl
    | some x => simp [Addr.add]

/-- A slice's middle. -/
theorem cutLH (b off len cap k : Nat) (h12 : 12 < cap) (hk : 12 + k ≤ cap) (w : World) : (Instr.slice 28 (.slice (some ⟨b, off, none⟩) len cap) (some (.int .i64 12)) (some (.int .i64 (12 + (k : Int)))) none).run Tryz.prog w = .ok (.slice (some ⟨b, off + 12, none⟩) k (cap - 12)) w := by
  rw [run_slice_lh (P := Tryz.prog) (w := w) 28 (some ⟨b, off, none⟩) len cap under37 .i64 .i64 12 (12 + (k : Int)) (by omega) (by omega) (by omega), size5w]
  have e : (12 + (k : Int)).toNat = 12 + k := by omega
  simp only [Result.andThen, sliced, e, show (12 : Int).toNat = 12 from rfl]
  rw [if_neg (by omega)]
  simp [Addr.add_lit]

theorem cutLH0 (b off len : Nat) (w : World) : (Instr.slice 28 (.slice (some ⟨b, off, none⟩) len 12) (some (.int .i64 12)) (some (.int .i64 (12 + ((0 : Nat) : Int)))) none).run Tryz.prog w = .ok (.slice (some ⟨b, off, none⟩) 0 0) w := by
  rw [run_slice_lh (P := Tryz.prog) (w := w) 28 (some ⟨b, off, none⟩) len 12 under37 .i64 .i64 12 (12 + ((0 : Nat) : Int)) (by omega) (by omega) (by omega), size5w]
  rfl

/-- What recordAt answers. -/
def RecAns (w : World) (o : Option Bs) (e : Ending) (w' : World) : Prop := match o with
  | some b => ∃ v, e = .returned (.tuple #[v, .bool true]) ∧ New w b v w'
  | none => e = .returned (.tuple #[.slice none 0 0, .bool false]) ∧ Fr (fun _ => False) w w'

set_option maxHeartbeats 1500000 in
set_option maxRecDepth 20000 in
theorem recordAt_any (w : World) (hT : TabAt w) (ao : Option Addr) (cap : Nat) (s : Bs) (hB : BAt w ao cap s) (hcap : s.length ≤ cap) (hcm : cap ≤ 9223372036854775807) (hl : s.length < 4294967296) (n : Nat) (hn : n < 4294967296) :
    Calls Tryz.prog 97 #[.slice ao s.length cap, .int .i64 (n : Int)] w (RecAns w (recAt s n)) := by
  have hsl : (s.length : Int) < 4294967296 := by omega
  by_cases h12 : s.length < 12
  · have hd12 : decide ((s.length : Int) < 12) = true := by simp; omega
    rw [recAt, if_pos h12]
    clear hB hT h12
    go_enter Tryz.func97, Tryz.ntmps97
    go_wp2
    go_ret2
    exact ⟨rfl, Fr.refl _ _⟩
  · have hd12 : decide ((s.length : Int) < 12) = false := by simp; omega
    have h12' : (12 : Int) ≤ (s.length : Int) := by omega
    have hci : (s.length : Int) ≤ (cap : Int) := by omega
    have hcmi : (cap : Int) ≤ 9223372036854775807 := by omega
    obtain ⟨b, off, rfl, hc⟩ := hB.2.1 (by omega)
    have hb4 := hB.cut hc 0 4 cap (by omega)
    rw [List.drop_zero] at hb4
    have hl4 : (s.take 4).length = 4 := by simp; omega
    have HR4 := newreader_any w (some ⟨b, off, none⟩) cap (s.take 4) hb4.1 hb4.2.1 (by omega)
    rw [hl4] at HR4
    have hk := num_lt (s.take 4)
    rw [hl4] at hk
    have hval : (stepR ⟨0, 0, 0, 0⟩ (.int .i64 0) (oNumber (s.take 4) 0 4)).1 = .int .i64 ((num (s.take 4) : Nat) : Int) := by
      have e : ((s.take 4).drop 0).take (4 : Int).toNat = s.take 4 := by
        show (s.take 4).take 4 = s.take 4
        rw [List.take_take]; rfl
      have ho : oNumber (s.take 4) 0 4 = .ok (.int .i64 (num (s.take 4)), 4) := by
        unfold oNumber
        rw [if_neg (by omega), if_neg (by rw [hl4]; omega), e, if_neg (by omega)]; rfl
      rw [ho]; rfl
    have HH := hide (And.intro HR4 (And.intro hval (And.intro hT (And.intro hB hc))))
    have hki : ((num (s.take 4) : Nat) : Int) < 4294967296 := by omega
    have hk0 : (0 : Int) ≤ ((num (s.take 4) : Nat) : Int) := by omega
    rw [recAt, if_neg h12]
    clear HR4 hval hT hB hc hb4 hl4 hk
    generalize hK : num (s.take 4) = k at *
    have HK := hide hK
    clear hK
    by_cases hfit : s.length - 12 < k
    · have hdf : decide ((s.length : Int) - 12 < (k : Int)) = true := by simp; omega
      rw [if_pos hfit]
      clear hfit h12
      go_enter Tryz.func97, Tryz.ntmps97
      go_wp2_with fail
      refine (unhide HH).1.mono ?_
      rintro e w1 ⟨p, g1, rfl, hR1, hF1, hg1, hp1⟩
      have HQ := hide (And.intro hR1 (And.intro hF1 hp1))
      clear hR1 hF1 hg1 hp1
      go_wp2_with fail
      refine (rnumber_any (unhide HQ).1 4).mono ?_
      rintro e w2 ⟨rfl, _, hF2⟩
      rw [(unhide HH).2.1]
      have HF := hide ((unhide HQ).2.1.trans hF2 (fun i hi t => by have t' : i = p := t; have := (unhide HQ).2.2; omega))
      clear hF2 HQ HH
      go_wp2
      go_ret2
      exact ⟨rfl, unhide HF⟩
    · have hdf : decide ((s.length : Int) - 12 < (k : Int)) = false := by simp; omega
      have HDF := hide hdf
      clear hdf
      have hle : 12 + k ≤ s.length := by omega
      rw [if_neg hfit]
      have HL := hide (And.intro hle (And.intro hl hn))
      clear hfit h12 hle hl hn hcap hcm
      generalize hO : (if s.take 12 = fh ((s.drop 12).take k) n then some ((s.drop 12).take k) else none) = o
      have HO := hide hO
      clear hO
      -- BEGIN
      by_cases hc12 : 12 < cap
      · have hc12i : (12 : Int) < (cap : Int) := by omega
        go_enter Tryz.func97, Tryz.ntmps97
        go_wp2_with fail
        refine (unhide HH).1.mono ?_
        rintro e w1 ⟨p, g1, rfl, hR1, hF1, hg1, hp1⟩
        have HQ := hide (And.intro hR1 (And.intro hF1 hp1))
        clear hR1 hF1 hg1 hp1
        go_wp2_with fail
        refine (rnumber_any (unhide HQ).1 4).mono ?_
        rintro e w2 ⟨rfl, hjunk, hF2⟩
        rw [(unhide HH).2.1]
        have hF02 := (unhide HQ).2.1.trans hF2 (fun i hi t => by have t' : i = p := t; have := (unhide HQ).2.2; omega)
        clear hF2 HQ hjunk
        have hT := (unhide HH).2.2.1
        have hB := (unhide HH).2.2.2.1
        have hc := (unhide HH).2.2.2.2
        obtain ⟨hle, hl, hn⟩ := unhide HL
        have hFd : Fr (fun _ => False) w w2.drew := hF02.drew
        have hBd := hB.later hFd
        have hcd : ∀ j (hj : j < s.length), w2.drew.cell? ⟨b, off + j, none⟩ = some (.int .u8 (s[j].toNat)) := fun j hj => (hFd.cell (a := ⟨b, off + j, none⟩) (World.block_lt_of_cell? _ _ (hc j hj)) (fun t => t)).trans (hc j hj)
        have hbr := hBd.cut hcd 12 k (cap - 12) hle
        have hrl : ((s.drop 12).take k).length = k := by simp; omega
        have FH := frameHead_any w2.drew (hT.later hFd) (some ⟨b, off + 12, none⟩) (cap - 12) ((s.drop 12).take k) hbr (by omega) n hn
        rw [hrl] at FH
        have hb12 := hBd.cut hcd 0 12 cap (by omega)
        rw [List.drop_zero] at hb12
        have hl12 : (s.take 12).length = 12 := by rw [List.length_take]; omega
        have hdf := unhide HDF
        have hs12 : ∀ w, (Instr.slice 28 (.slice (some ⟨b, off, none⟩) s.length cap) none (some (.int .i64 12)) none).run Tryz.prog w = .ok (.slice (some ⟨b, off, none⟩) 12 cap) w := fun w => cutH (some ⟨b, off, none⟩) s.length cap 12 (by omega) w
        have hsLH : ∀ w, (Instr.slice 28 (.slice (some ⟨b, off, none⟩) s.length cap) (some (.int .i64 12)) (some (.int .i64 (12 + (k : Int)))) none).run Tryz.prog w = .ok (.slice (some ⟨b, off + 12, none⟩) k (cap - 12)) w := fun w => cutLH b off s.length cap k (by omega) (by omega) w
        clear hci hcmi hc12i hc12
        have HF := hide (And.intro FH (And.intro hFd (And.intro hb12 (And.intro hl12 (And.intro hbr hrl)))))
        clear hF02 hFd hBd hcd hbr hrl FH hb12 hl12 hT hB hc hl hn hle HH HL HDF 
        go_wp2
        go_region_held3 (fun _ => True) (trivial) (first | (go_at_call 70; refine (unhide HF).1.mono ?_; rintro e w3 ⟨v, rfl, g3, k1, k2, k3⟩; obtain ⟨vo, vc, rfl, hjunk⟩ := k1.shape; clear hjunk; rw [fh_length]) | (go_at_call 95; have E := equal_any w3 (some ⟨b, off, none⟩) cap (s.take 12) ((unhide HF).2.2.1.later k2) vo vc (fh ((s.drop 12).take k) n) ((k1.bat (by rw [fh_length]; omega)).2); rw [(unhide HF).2.2.2.1, fh_length] at E; refine E.mono ?_; clear E; rintro e w4 ⟨rfl, rfl⟩))
        have hF4 : Fr (fun _ => False) w w4 := (unhide HF).2.1.trans k2 (fun _ _ t => t)
        have hb4 := (unhide HF).2.2.2.2.1.later k2
        have HE := hide (And.intro hF4 (And.intro hb4 (unhide HF).2.2.2.2.2))
        clear hF4 hb4 k1 k2 k3 hs12 hsLH HF hd12 h12' hsl hki hk0 hdf
        by_cases heq : s.take 12 = fh ((s.drop 12).take k) n
        · have hbe : (s.take 12 == fh ((s.drop 12).take k) n) = true := by simpa using heq
          have ho : o = some ((s.drop 12).take k) := by rw [← unhide HO, if_pos heq]
          rw [hbe]
          subst ho
          clear hbe heq HO
          generalize (s.drop 12).take k = r at *
          have C := sclone_any w4 (some ⟨b, off + 12, none⟩) (cap - 12) r (unhide HE).2.1
          rw [(unhide HE).2.2] at C
          have HC := hide C
          clear C
          go_wp2_with fail
          refine (unhide HC).mono ?_
          rintro e w5 ⟨v, rfl, g5, q1, q2, q3⟩
          have HZ := hide (And.intro q1 (And.intro ((unhide HE).1.trans q2 (fun _ _ t => t)) (Nat.le_trans (unhide HE).1.size q3)))
          clear q1 q2 q3 HC HE
          go_wp2
          go_ret2
          exact ⟨v, rfl, g5, unhide HZ⟩
        · have hbe : (s.take 12 == fh ((s.drop 12).take k) n) = false := by simpa using heq
          have ho : o = none := by rw [← unhide HO, if_neg heq]
          rw [hbe]
          subst ho
          clear hbe heq HO
          go_wp2
          go_ret2
          exact ⟨rfl, (unhide HE).1⟩
      · obtain rfl : cap = 12 := by omega
        obtain rfl : k = 0 := by have := (unhide HL).1; omega
        have hsl12 : s.length = 12 := by omega
        rw [hsl12]
        clear hc12 hci hcmi hd12 h12' hsl hki hk0
        have HS12 := hide hsl12
        clear hsl12
        go_enter Tryz.func97, Tryz.ntmps97
        go_wp2_with fail
        refine (unhide HH).1.mono ?_
        rintro e w1 ⟨p, g1, rfl, hR1, hF1, hg1, hp1⟩
        have HQ := hide (And.intro hR1 (And.intro hF1 hp1))
        clear hR1 hF1 hg1 hp1
        go_wp2_with fail
        refine (rnumber_any (unhide HQ).1 4).mono ?_
        rintro e w2 ⟨rfl, hjunk, hF2⟩
        rw [(unhide HH).2.1]
        have hF02 := (unhide HQ).2.1.trans hF2 (fun i hi t => by have t' : i = p := t; have := (unhide HQ).2.2; omega)
        clear hF2 HQ hjunk
        have hT := (unhide HH).2.2.1
        have hB := (unhide HH).2.2.2.1
        have hc := (unhide HH).2.2.2.2
        obtain ⟨hle, hl, hn⟩ := unhide HL
        have hFd : Fr (fun _ => False) w w2.drew := hF02.drew
        have hBd := hB.later hFd
        have hcd : ∀ j (hj : j < s.length), w2.drew.cell? ⟨b, off + j, none⟩ = some (.int .u8 (s[j].toNat)) := fun j hj => (hFd.cell (a := ⟨b, off + j, none⟩) (World.block_lt_of_cell? _ _ (hc j hj)) (fun t => t)).trans (hc j hj)
        have hbr : BAt w2.drew (some ⟨b, off, none⟩) 0 ((s.drop 12).take 0) := ⟨fun e => (by cases e), fun h => absurd h (by simp), by simp⟩
        have hrl : ((s.drop 12).take 0).length = 0 := by simp
        have FH := frameHead_any w2.drew (hT.later hFd) (some ⟨b, off, none⟩) (0) ((s.drop 12).take 0) hbr (by omega) n hn
        rw [hrl] at FH
        have hb12 := hBd.cut hcd 0 12 12 (by omega)
        rw [List.drop_zero] at hb12
        have hl12 : (s.take 12).length = 12 := by rw [List.length_take]; omega
        have hsl12 := unhide HS12
        have hs12 : ∀ w, (Instr.slice 28 (.slice (some ⟨b, off, none⟩) 12 12) none (some (.int .i64 12)) none).run Tryz.prog w = .ok (.slice (some ⟨b, off, none⟩) 12 12) w := fun w => cutH (some ⟨b, off, none⟩) 12 12 12 (by omega) w
        have hsLH : ∀ w, (Instr.slice 28 (.slice (some ⟨b, off, none⟩) 12 12) (some (.int .i64 12)) (some (.int .i64 (12))) none).run Tryz.prog w = .ok (.slice (some ⟨b, off, none⟩) 0 (0)) w := fun w => cutLH0 b off 12 w
        clear HK
        have HF := hide (And.intro FH (And.intro hFd (And.intro hb12 (And.intro hl12 (And.intro hbr hrl)))))
        clear hF02 hFd hBd hcd hbr hrl FH hb12 hl12 hT hB hc hl hn hle HH HL HDF hsl12
        go_wp2
        go_region_held3 (fun _ => True) (trivial) (first | (go_at_call 70; refine (unhide HF).1.mono ?_; rintro e w3 ⟨v, rfl, g3, k1, k2, k3⟩; obtain ⟨vo, vc, rfl, hjunk⟩ := k1.shape; clear hjunk; rw [fh_length]) | (go_at_call 95; have E := equal_any w3 (some ⟨b, off, none⟩) 12 (s.take 12) ((unhide HF).2.2.1.later k2) vo vc (fh ((s.drop 12).take 0) n) ((k1.bat (by rw [fh_length]; omega)).2); rw [(unhide HF).2.2.2.1, fh_length] at E; refine E.mono ?_; clear E; rintro e w4 ⟨rfl, rfl⟩))
        have hF4 : Fr (fun _ => False) w w4 := (unhide HF).2.1.trans k2 (fun _ _ t => t)
        have hb4 := (unhide HF).2.2.2.2.1.later k2
        have HE := hide (And.intro hF4 (And.intro hb4 (unhide HF).2.2.2.2.2))
        clear hF4 hb4 k1 k2 k3 hs12 hsLH HF 
        by_cases heq : s.take 12 = fh ((s.drop 12).take 0) n
        · have hbe : (s.take 12 == fh [] n) = true := by simpa using heq
          have ho : o = some ((s.drop 12).take 0) := by rw [← unhide HO, if_pos heq]
          rw [hbe]
          subst ho
          clear hbe heq HO
          generalize (s.drop 12).take 0 = r at *
          have C := sclone_any w4 (some ⟨b, off, none⟩) (0) r (unhide HE).2.1
          rw [(unhide HE).2.2] at C
          have HC := hide C
          clear C
          go_wp2_with fail
          refine (unhide HC).mono ?_
          rintro e w5 ⟨v, rfl, g5, q1, q2, q3⟩
          have HZ := hide (And.intro q1 (And.intro ((unhide HE).1.trans q2 (fun _ _ t => t)) (Nat.le_trans (unhide HE).1.size q3)))
          clear q1 q2 q3 HC HE
          go_wp2
          go_ret2
          exact ⟨v, rfl, g5, unhide HZ⟩
        · have hbe : (s.take 12 == fh [] n) = false := by simpa using heq
          have ho : o = none := by rw [← unhide HO, if_neg heq]
          rw [hbe]
          subst ho
          clear hbe heq HO
          go_wp2
          go_ret2
          exact ⟨rfl, (unhide HE).1⟩

end Go.Proofs.YtjkghgcdkfkekaaGreatDoor

