import Derived.Test.YtmgejkenpfihmaaFA3
import Derived.Test.YtmgejkenpfihmaaFA4
/- At the rate 1 no fare hangs on the time: the walk of FareOff. -/
namespace Go.Proofs.Ytmgejkenpfihmaa
open Go.RowKit

theorem run_store_floatF {P : Program} {w : World} {a : Addr} {m : Mode} (x : Nat) : (store a (.float .f64 x) m).run P w = stored P w a (.float .f64 x) m := run_store P w a _ m rfl
attribute [local go_sem] run_store_floatF

set_option maxHeartbeats 1000000 in
set_option maxRecDepth 20000 in
theorem off_walk (w : World) (A : Ad) (t : Tf) (h : TAt w A t) (j : Jn) (x : Int) :
    Calls Try.prog 5 #[tv A t, .agg (jC j), .int .i64 x] w fun e w' => e = .returned (.bool true) ∧ Fr (fun _ => False) w w' := by
  obtain ⟨t1, ht1⟩ : ∃ t1 : Tf, t1 = { t with off := 4607182418800017408 } := ⟨_, rfl⟩
  have hM := fare_off (t := t1) (by rw [ht1]) j x
  have HO := hide (fun (u : World) (hu : Fr (fun _ => False) w u) (j' : Jn) => fof_any u A t1 (by have k := h.keep hu; rw [ht1]; exact ⟨k.st, k.sp, k.bd, k.lS, k.lP, k.lB, (show (4607182418800017408 : Nat) < 18446744073709551616 by decide)⟩) j')
  have RA := hide (fun (u : World) => awake_anyF u)
  obtain ⟨k, f, o, s, n, r⟩ := j
  obtain ⟨v, hv⟩ : ∃ v, v = (w.alloc (.cells (tc A t) 27)).alloc (.cells #[.int .i64 k, .int .i64 f, .int .i64 o, .int .i64 s, .int .i64 n, .bool r] 30) := ⟨_, rfl⟩
  have HFV : Hid (Fr (fun _ => False) w v) := hide (by rw [hv]; exact ((Fr.refl _ w).alloc _).alloc _)
  have hTB : TB v w.heap.size A t := by rw [hv]; exact (TB.new w A t).keep ((Fr.refl _ _).alloc _)
  have hJ : Bx v (w.heap.size + 1) #[.int .i64 k, .int .i64 f, .int .i64 o, .int .i64 s, .int .i64 n, .bool r] 30 := by
    rw [hv, ← heap_alloc w (.cells (tc A t) 27)]; exact Bx.new _ _ _
  obtain ⟨B, hB⟩ : ∃ B, B = w.heap.size := ⟨_, rfl⟩
  rw [← hB] at hTB hJ
  have HTB := hide hTB
  have HJ := hide hJ
  have HV := hide hv
  have HB := hide hB
  clear hv hB hTB hJ h
  unfold tv at *
  simp only [jC] at *
  unfold tc at HV ⊢
  go_enter Try.func5, Try.ntmps5
  go_upto_region 1 with (fail)
  rw [← unhide HV, ← unhide HB]
  clear HV
  go_wp2_with fail
  refine (unhide RA v).mono ?_
  rintro e w1 ⟨rfl, hF⟩
  have hTB1 := (unhide HTB).keep hF
  have HF1 := hide ((unhide HFV).trans hF (fun _ _ t => t))
  have HJ1 := hide ((unhide HJ).keep hF)
  have c3 : w1.cell? ⟨B, 3, none⟩ = some (.float .f64 t.off) := hTB1.cell 3
  have f3 : w1.frozen? ⟨B, 3, none⟩ = false := hTB1.frozen 3
  have HTB1 := hide hTB1
  clear hF HTB HFV RA HJ hTB1
  go_upto_region 3 with (fail)
  obtain ⟨v1, hv1⟩ : ∃ v1, v1 = w1.setCell ⟨B, 3, none⟩ (.float .f64 4607182418800017408) := ⟨_, rfl⟩
  rw [← hv1]
  have hBn : ¬ B < w.heap.size := by rw [unhide HB]; exact Nat.lt_irrefl _
  have HTB2 : Hid (TB v1 B A t1) := hide (by rw [hv1, ht1]; exact (unhide HTB1).setCell 3 _ rfl)
  have HF2 : Hid (Fr (fun _ => False) w v1) := hide (by rw [hv1]; exact (unhide HF1).setCell (fun h => absurd h hBn) _)
  have HJ2 : Hid (Bx v1 (B + 1) #[.int .i64 k, .int .i64 f, .int .i64 o, .int .i64 s, .int .i64 n, .bool r] 30) := hide (by rw [hv1]; exact (unhide HJ1).setOther (by omega) _ _)
  clear hv1 c3 f3 hBn HTB1 HF1 HJ1 ht1
  have R1 := unhide HO v1 (unhide HF2) ⟨k, f, o, s, n, r⟩
  generalize hz : fareV t1 ⟨k, f, o, s, n, r⟩ = z at *
  have R2 := hide (fun (u : World) (hu : Fr (fun _ => False) w u) => unhide HO u hu ⟨k, f, o, x, x, r⟩)
  have HM : Hid (z.2 ≠ 0 ∨ (fareV t1 ⟨k, f, o, x, x, r⟩).2 ≠ 0 ∨ z.1 = (fareV t1 ⟨k, f, o, x, x, r⟩).1) := hide hM
  generalize fareV t1 ⟨k, f, o, x, x, r⟩ = y at *
  clear hM hz HO
  unfold tv at *
  go_wp2_with (first | refine wpList_load_tariff rfl (.tmp 3) rfl (g := B) (A := A) (t := t1) rfl (unhide HTB2) ?_ | refine wpList_load_journey rfl (.tmp 4) rfl (g := B + 1) (j := ⟨k, f, o, s, n, r⟩) rfl (unhide HJ2) ?_)
  refine R1.mono ?_
  rintro e w2 ⟨rfl, hF⟩
  have HTB3 := hide ((unhide HTB2).keep hF)
  have HF3 := hide ((unhide HF2).trans hF (fun _ _ t => t))
  have hJ3 := (unhide HJ2).keep hF
  have j0 : w2.cell? ⟨B + 1, 0, none⟩ = some (.int .i64 k) := hJ3.cell 0
  have j1 : w2.cell? ⟨B + 1, 1, none⟩ = some (.int .i64 f) := hJ3.cell 1
  have j2 : w2.cell? ⟨B + 1, 2, none⟩ = some (.int .i64 o) := hJ3.cell 2
  have j3 : w2.cell? ⟨B + 1, 3, none⟩ = some (.int .i64 s) := hJ3.cell 3
  have j4 : w2.cell? ⟨B + 1, 4, none⟩ = some (.int .i64 n) := hJ3.cell 4
  have j5 : w2.cell? ⟨B + 1, 5, none⟩ = some (.bool r) := hJ3.cell 5
  clear hF R1 HTB2 HF2 HJ2 hJ3
  go_upto_region 7 with (fail)
  obtain ⟨v2, hv2⟩ : ∃ v2, v2 = w2.alloc (.cells #[.int .i64 k, .int .i64 f, .int .i64 o, .int .i64 x, .int .i64 x, .bool r] 30) := ⟨_, rfl⟩
  obtain ⟨C, hC⟩ : ∃ C, C = w2.heap.size := ⟨_, rfl⟩
  rw [← hv2, ← hC]
  have HJ4 : Hid (Bx v2 C (jC ⟨k, f, o, x, x, r⟩) 30) := hide (by rw [hv2, hC]; exact Bx.new _ _ _)
  have hFa : Fr (fun _ => False) w2 v2 := by rw [hv2]; exact (Fr.refl _ _).alloc _
  have HTB4 := hide ((unhide HTB3).keep hFa)
  have HF4 := hide ((unhide HF3).trans hFa (fun _ _ t => t))
  have R3 := unhide R2 v2 (unhide HF4)
  clear hFa hv2 hC HTB3 HF3 R2 j0 j1 j2 j3 j4 j5
  go_wp2_with (first | refine wpList_load_tariff rfl (.tmp 3) rfl (g := B) (A := A) (t := t1) rfl (unhide HTB4) ?_ | refine wpList_load_journey rfl (.tmp 10) rfl (g := C) (j := ⟨k, f, o, x, x, r⟩) rfl (unhide HJ4) ?_)
  refine R3.mono ?_
  rintro e w3 ⟨rfl, hF⟩
  have HF5 := hide ((unhide HF4).trans hF (fun _ _ t => t))
  clear hF R3 HTB4 HF4 HJ4
  obtain ⟨z1, z2⟩ := z
  obtain ⟨y1, y2⟩ := y
  by_cases h1 : z2 = 0
  · by_cases h2 : y2 = 0
    · have h3 : z1 = y1 := by
        rcases unhide HM with q | q | q
        · exact absurd h1 q
        · exact absurd h2 q
        · exact q
      subst h1 h2 h3
      clear HM
      go_wp2
      go_ret
      exact ⟨by first | rfl | simp, unhide HF5⟩
    · subst h1
      have hb : (y2 != 0) = true := by simp [h2]
      clear HM
      go_wp2
      go_ret
      exact ⟨by first | rfl | simp, unhide HF5⟩
  · have hb : (z2 != 0) = true := by simp [h1]
    clear HM
    go_wp2
    go_ret
    exact ⟨by first | rfl | simp, unhide HF5⟩

end Go.Proofs.Ytmgejkenpfihmaa

