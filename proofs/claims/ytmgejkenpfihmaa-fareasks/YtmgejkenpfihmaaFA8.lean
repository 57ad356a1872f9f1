import Derived.Test.YtmgejkenpfihmaaFA7
import Derived.Test.YtmgejkenpfihmaaFA2
/- The program's fare.All. -/
namespace Go.Proofs.Ytmgejkenpfihmaa
open Go.RowKit

set_option maxHeartbeats 2000000 in
set_option maxRecDepth 20000 in
theorem fall_any (w : World) (A : Ad) (t : Tf) (h : TAt w A t) (ao0 : Option Addr) (cap0 : Nat) (l : List Jn) (hl : CAt w ao0 (jV l)) :
    Calls Try.prog 9 #[tv A t, .slice ao0 l.length cap0] w fun e w' => AllPost t l w e w' := by
  have RE := hide (fun (u : World) (hu : Fr (fun _ => False) w u) => right_walk u A t (h.keep hu))
  have RC := hide (fun (u : World) (hu : Fr (fun _ => False) w u) (j : Jn) => fcost_any u A t (h.keep hu) j)
  have HL := hide (fun (u : World) (hu : Fr (fun _ => False) w u) => hl.keep hu)
  have HE : Hid (allE t l = if rightE t = 0 then (if 2000 < l.length then 2 else firstE t l) else rightE t) := rfl
  obtain ⟨v, hv⟩ : ∃ v, v = w.alloc (.cells (tc A t) 27) := ⟨_, rfl⟩
  have HFV : Hid (Fr (fun _ => False) w v) := hide (by rw [hv]; exact (Fr.refl _ w).alloc _)
  have hTB : TB v w.heap.size A t := by rw [hv]; exact TB.new w A t
  obtain ⟨B, hB⟩ : ∃ B, B = w.heap.size := ⟨_, rfl⟩
  rw [← hB] at hTB
  have HTB := hide hTB
  have HV := hide hv
  have HB := hide hB
  clear hv hB hTB h hl
  unfold tv
  unfold tc at HV ⊢
  go_enter Try.func9, Try.ntmps9
  go_upto_region 1 with (fail)
  rw [← unhide HV, ← unhide HB]
  clear HV
  go_wp2_with (refine wpList_load_tariff rfl (.tmp 2) rfl (g := B) (A := A) (t := t) rfl (unhide HTB) ?_)
  refine (unhide RE v (unhide HFV)).mono ?_
  rintro e w1 ⟨rfl, hF⟩
  have HTB1 := hide ((unhide HTB).keep hF)
  have HF1 := hide ((unhide HFV).trans hF (fun _ _ t => t))
  clear hF HTB HFV RE
  by_cases h0 : rightE t = 0
  · rw [h0]
    by_cases h1 : 2000 < l.length
    · have HX : Hid (allE t l = 2) := hide (by rw [unhide HE, if_pos h0, if_pos h1])
      have h1i : (2000 : Int) < (l.length : Int) := by omega
      clear HE RC HL HTB1 h0 h1
      go_wp2
      go_ret2
      exact AllPost.fail (unhide HF1) (unhide HX) (by decide)
    · have HX : Hid (allE t l = firstE t l) := hide (by rw [unhide HE, if_pos h0, if_neg h1])
      have h1i : ¬ (2000 : Int) < (l.length : Int) := by omega
      have hn : l.length ≤ 2000 := by omega
      have HN := hide hn
      obtain ⟨info, hi, hzz⟩ := Option.map_eq_some_iff.1 pInfo
      simp only [Prod.mk.injEq] at hzz
      obtain ⟨hz0, hs, hy⟩ := hzz
      obtain ⟨z, hz, hzc⟩ := Option.map_eq_some_iff.1 hz0
      have hmk : ∀ u : World, (Instr.makeSlice 36 (.int .i64 (l.length : Int)) (.int .i64 (l.length : Int))).run Try.prog u = .ok (.slice (some ⟨u.heap.size, 0, none⟩) l.length l.length) (u.alloc (.cells (madeCells z.cells (l.length * info.size)) 42)) := fun u => by
        have := run_make (P := Try.prog) u 36 42 info z Try.underlying36 hi hz .i64 .i64 (l.length : Int) (l.length : Int) (by omega) (by omega) (by rw [hy]; omega) (by omega)
        simpa using this
      have HM := hide (fun (u : World) => KRow.madeP u l.length (by omega) hzc hs 42)
      generalize madeCells z.cells (l.length * info.size) = mc at *
      clear HE h0 h1 hn hz0 hs hy hz hzc hi
      clear z info
      go_upto_region 7 with (fail)
      obtain ⟨u0, hu0⟩ : ∃ u0, u0 = w1.alloc (.cells mc 42) := ⟨_, rfl⟩
      obtain ⟨g, hg⟩ : ∃ g, g = w1.heap.size := ⟨_, rfl⟩
      rw [← hu0, ← hg]
      have hFa : Fr (fun _ => False) w1 u0 := by rw [hu0]; exact (Fr.refl _ _).alloc _
      have hK0 : KRow u0 (some ⟨g, 0, none⟩) l.length g 7 (pV (List.replicate l.length pz)) := by rw [hu0, hg]; exact unhide HM w1
      have HGW : Hid (w.heap.size ≤ g) := hide (by rw [hg]; exact (unhide HF1).size)
      have HBG : Hid (B < g) := hide (by rw [hg]; exact (unhide HTB1).lt)
      have HS0 : Hid (Fr (fun _ => False) w u0 ∧ TB u0 B A t ∧ KRow u0 (some ⟨g, 0, none⟩) l.length g 7 (pV (prAt t l 0)) ∧ firstE t (l.drop 0) = firstE t l) := hide ⟨(unhide HF1).trans hFa (fun _ _ t => t), (unhide HTB1).keep hFa, by rw [prAt_zero]; exact hK0, rfl⟩
      clear hFa hK0 hu0 hg HM hmk HTB1 HF1 h1i mc
      go_wp2
      go_loopw [8, 9, 10, 11, 25] (fun _ _ _ _ iv wr => ∃ i : Nat, i ≤ l.length ∧ iv = .int .i64 i ∧ Hid (Fr (fun _ => False) w wr ∧ TB wr B A t ∧ KRow wr (some ⟨g, 0, none⟩) l.length g 7 (pV (prAt t l i)) ∧ firstE t (l.drop i) = firstE t l)) (fun _ _ _ _ iv _ => l.length - (intOf iv).toNat)
      case atStart => exact ⟨0, Nat.zero_le _, rfl, HS0⟩
      case round =>
        obtain ⟨i, hi, rfl, HI⟩ := hrel
        clear HS0
        by_cases hil : i < l.length
        · have hlt : (i : Int) < (l.length : Int) := by omega
          obtain ⟨b0, off0, hao, k0, k1, k2, k3, k4, k5⟩ := (unhide HL wr (unhide HI).1).jn hil
          subst hao
          have hfirst := (unhide HI).2.2.2
          rw [List.drop_eq_getElem_cons hil, firstE_cons] at hfirst
          have RC1 := hide (fun (u : World) (hu : Fr (fun _ => False) w u) => unhide RC u hu l[i])
          have HPS : Hid (∀ c, l[i] = c → prAt t l (i + 1) = (prAt t l i).set i (c, (costV t c).1)) := hide (fun c hc => by rw [← hc]; exact prAt_step t l i hil)
          generalize l[i] = q at *
          have HPS := hide (unhide HPS q rfl)
          obtain ⟨k, f, o, s, n, r⟩ := q
          simp only at k0 k1 k2 k3 k4 k5
          generalize hcv : costV t ⟨k, f, o, s, n, r⟩ = cv at *
          have HFI := hide hfirst
          clear hfirst hcv
          go_upto_region 10 with (fail)
          obtain ⟨u1, hu1⟩ : ∃ u1, u1 = wr.alloc (.cells #[.int .i64 k, .int .i64 f, .int .i64 o, .int .i64 s, .int .i64 n, .bool r] 30) := ⟨_, rfl⟩
          obtain ⟨C, hC⟩ : ∃ C, C = wr.heap.size := ⟨_, rfl⟩
          rw [← hu1, ← hC]
          have HJ : Hid (Bx u1 C (jC ⟨k, f, o, s, n, r⟩) 30) := hide (by rw [hu1, hC]; exact Bx.new _ _ _)
          have hFa : Fr (fun _ => False) wr u1 := by rw [hu1]; exact (Fr.refl _ _).alloc _
          have HF2 := hide ((unhide HI).1.trans hFa (fun _ _ t => t))
          have HTB2 := hide ((unhide HI).2.1.keep hFa)
          have HK2 := hide ((unhide HI).2.2.1.keep (by omega) hFa)
          have RC2 := unhide RC1 u1 (unhide HF2)
          have HGC : Hid (g ≠ C) := hide (by rw [hC]; have := (unhide HI).2.2.1.lt (by omega) (by omega : 0 < l.length); omega)
          clear hFa hu1 hC HI k0 k1 k2 k3 k4 k5 RC1
          go_wp2_with (first | refine wpList_load_tariff rfl (.tmp 2) rfl (g := B) (A := A) (t := t) rfl (unhide HTB2) ?_ | refine wpList_load_journey rfl (.tmp 9) rfl (g := C) (j := ⟨k, f, o, s, n, r⟩) rfl (unhide HJ) ?_)
          refine RC2.mono ?_
          rintro e u2 ⟨rfl, hF⟩
          have HF3 := hide ((unhide HF2).trans hF (fun _ _ t => t))
          have HTB3 := hide ((unhide HTB2).keep hF)
          have HK3 := hide ((unhide HK2).keep (by omega) hF)
          have HJ3 := hide ((unhide HJ).keep hF)
          clear hF RC2 HF2 HTB2 HK2 HJ
          obtain ⟨c1, c2⟩ := cv
          simp only at HFI HPS
          by_cases hc : c2 = 0
          · subst hc
            have hroom : ∀ c, c < 7 → (∃ x, u2.cell? ⟨g, i * 7 + c, none⟩ = some x) ∧ u2.frozen? ⟨g, i * 7 + c, none⟩ = false := fun c hc => ⟨Option.isSome_iff_exists.1 ((unhide HK3).room (i * 7 + c) (by omega)).1, ((unhide HK3).room (i * 7 + c) (by omega)).2⟩
            obtain ⟨⟨x0, r0⟩, f0⟩ := hroom 0 (by omega)
            obtain ⟨⟨x1, r1⟩, f1⟩ := hroom 1 (by omega)
            obtain ⟨⟨x2, r2⟩, f2⟩ := hroom 2 (by omega)
            obtain ⟨⟨x3, r3⟩, f3⟩ := hroom 3 (by omega)
            obtain ⟨⟨x4, r4⟩, f4⟩ := hroom 4 (by omega)
            obtain ⟨⟨x5, r5⟩, f5⟩ := hroom 5 (by omega)
            obtain ⟨⟨x6, r6⟩, f6⟩ := hroom 6 (by omega)
            rw [Nat.add_zero] at r0 f0
            clear hroom
            have HJ4 := unhide HJ3
            have j0 : u2.cell? ⟨C, 0, none⟩ = some (.int .i64 k) := HJ4.cell 0
            have j1 : u2.cell? ⟨C, 1, none⟩ = some (.int .i64 f) := HJ4.cell 1
            have j2 : u2.cell? ⟨C, 2, none⟩ = some (.int .i64 o) := HJ4.cell 2
            have j3 : u2.cell? ⟨C, 3, none⟩ = some (.int .i64 s) := HJ4.cell 3
            have j4 : u2.cell? ⟨C, 4, none⟩ = some (.int .i64 n) := HJ4.cell 4
            have j5 : u2.cell? ⟨C, 5, none⟩ = some (.bool r) := HJ4.cell 5
            clear HJ4
            go_upto_region 14 with (fail)
            obtain ⟨u3, hu3⟩ : ∃ u3, u3 = (((((((u2.setCell ⟨g, i * 7, none⟩ (.int .i64 k)).setCell ⟨g, i * 7 + 1, none⟩ (.int .i64 f)).setCell ⟨g, i * 7 + 2, none⟩ (.int .i64 o)).setCell ⟨g, i * 7 + 3, none⟩ (.int .i64 s)).setCell ⟨g, i * 7 + 4, none⟩ (.int .i64 n)).setCell ⟨g, i * 7 + 5, none⟩ (.bool r)).setCell ⟨g, i * 7 + 6, none⟩ (.int .i64 c1)) := ⟨_, rfl⟩
            rw [← hu3]
            have hKn : KRow u3 (some ⟨g, 0, none⟩) l.length g 7 (pV (prAt t l (i + 1))) := by
              rw [unhide HPS, hu3]
              exact (unhide HK3).setP (by rw [prAt_length t l (by omega)]; exact hil) (⟨k, f, o, s, n, r⟩, c1)
            have hFg : Fr (fun q => q = g) u2 u3 := by
              rw [hu3]
              repeat (with_reducible (first | exact Fr.refl _ _ | refine Fr.setOwn ?_ _ _))
            have HS1 : Hid (Fr (fun _ => False) w u3 ∧ TB u3 B A t ∧ KRow u3 (some ⟨g, 0, none⟩) l.length g 7 (pV (prAt t l (i + 1))) ∧ firstE t (l.drop (i + 1)) = firstE t l) := hide ⟨(unhide HF3).trans hFg (fun q hq e => by have := unhide HGW; omega), (unhide HTB3).frame hFg (fun e => by have := unhide HBG; omega), hKn, by simpa using unhide HFI⟩
            clear hu3 hKn hFg r0 r1 r2 r3 r4 r5 r6 f0 f1 f2 f3 f4 f5 f6 j0 j1 j2 j3 j4 j5 HFI HPS HF3 HTB3 HK3 HJ3
            go_wp2
            exact ⟨⟨i + 1, by omega, by go_num, HS1⟩, by simp [intOf]; omega⟩
          · have HX2 : Hid (allE t l = c2) := hide (by rw [unhide HX, ← unhide HFI, if_neg hc])
            have hb2 : (c2 == 0) = false := by simp [hc]
            have hb3 : (c2 != 0) = true := by simp [hc]
            have HC := hide hc
            clear HX HPS HFI hc HTB3 HK3 HJ3
            go_wp2
            go_ret2
            exact AllPost.fail (unhide HF3) (unhide HX2) (unhide HC)
        · obtain rfl : i = l.length := by omega
          have hlt : ¬ (l.length : Int) < (l.length : Int) := by omega
          have HX2 : Hid (allE t l = 0) := hide (by rw [unhide HX, ← (unhide HI).2.2.2, List.drop_length]; rfl)
          have HR : Hid (AllPost t l w (.returned (.tuple #[.slice (some ⟨g, 0, none⟩) l.length l.length, .int .i64 0])) wr) := hide (by
            have e : allL t l = priced t l := by unfold allL; rw [if_pos (unhide HX2)]
            have k := (unhide HI).2.2.1
            rw [prAt_all] at k
            exact ⟨some ⟨g, 0, none⟩, l.length, g, by rw [e, unhide HX2]; simp [priced], by rw [e]; exact k, fun _ => unhide HGW, (unhide HI).1⟩)
          clear HI HX HX2
          go_wp2
          go_ret2
          exact unhide HR
  · have HX : Hid (allE t l = rightE t) := hide (by rw [unhide HE, if_neg h0])
    have hb2 : (rightE t == 0) = false := by simp [h0]
    have hb3 : (rightE t != 0) = true := by simp [h0]
    have HXX : Hid (∀ w', Fr (fun _ => False) w w' → AllPost t l w (.returned (.tuple #[.slice none 0 0, .int .i64 (rightE t)])) w') := hide (fun w' hf => AllPost.fail hf (unhide HX) h0)
    clear HE RC HL HTB1 HX h0
    generalize rightE t = rr at *
    go_wp2
    go_ret2
    exact unhide HXX _ (unhide HF1)

end Go.Proofs.Ytmgejkenpfihmaa

