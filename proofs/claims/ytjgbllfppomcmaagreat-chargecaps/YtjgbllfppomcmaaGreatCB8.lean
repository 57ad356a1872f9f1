import Derived.Test.YtjgbllfppomcmaaGreatCBZ
import Derived.Test.YtjgbllfppomcmaaGreatJNW
import Derived.Test.YtjgbllfppomcmaaGreatQUX
/- The document's examples of charge, asked of the program. -/
namespace Go.Proofs.YtjgbllfppomcmaaGreat
open Go.RowKit

def exF0 : Tf := { plainT with bd := [(390, 570)] }
def exF : Tf := { plainT with bd := [(390, 570)], most := 900 }
def exFA : Tp := exTap 1 1 1 480
def exFX : Tp := exTap 2 2 2 510
def exFO : Ou := ⟨1, 400, 500⟩
theorem exf_1 : owedE exF [] [exFA, exFX] = 0 := by decide +kernel
theorem exf_2 : owedL exF [] [exFA, exFX] = [(0, 300)] := by
  unfold owedL
  rw [if_pos exf_1]
  decide +kernel
theorem exf_3 : owedE exF [exFO] [exFA] = 0 := by decide +kernel
theorem exf_4 : owedV exF [exFO] [exFA] = 0 := by
  unfold owedV owedL
  rw [if_pos exf_3]
  decide +kernel
theorem exf_5 : owedE exF [] [exFA] = 0 := by decide +kernel
theorem exf_6 : owedV exF [] [exFA] = 900 := by
  unfold owedV owedL
  rw [if_pos exf_5]
  decide +kernel

theorem eqBl (w : World) (a0 a1 : Int) : (Op.equalIn 10000 43 (.agg #[.int .i64 a0, .int .i64 a1]) (.agg #[.int .i64 a0, .int .i64 a1])).run Tryz.prog w = .ok true w := by
  have u3 := Tryz.underlying3
  have hS : Tryz.prog.underlying 43 = some (.struct (Tryz.prog.fieldsOf 43)) := by kernel_rfl
  have hp : Tryz.prog.stoodInHeld 43 = false := by kernel_rfl
  rw [show (10000 : Nat) = 9999 + 1 from rfl, run_equalIn_agg w 9999 43 _ _ hS hp]
  simp only [Program.fieldsOf, Tryz.underlying43]
  go_simp
theorem egBl : Tryz.prog.eqGuardType Tryz.prog.depth 43 = false := by kernel_rfl

theorem bills_1 {w : World} {A : Ad} (hT : TAt w A exF) : Hid (∀ (u : World) (q : Nat), Fr (fun _ => False) w u → CAt u (some ⟨q, 0, none⟩) (tpV [exFA, exFX]) → Calls Tryz.prog 11 #[tv A exF, .slice none 0 0, .slice (some ⟨q, 0, none⟩) 2 2] u fun e w' =>
    ∃ g cap, e = .returned (.tuple #[.slice (some ⟨g, 0, none⟩) 1 cap, .int .i64 0]) ∧ w'.cell? ⟨g, 0, none⟩ = some (.int .i64 0) ∧ w'.cell? ⟨g, 1, none⟩ = some (.int .i64 300) ∧ Fr (fun _ => False) u w') := hide (fun u q hu hc => by
  refine (bills_any u A exF (hT.keep hu) none 0 [] (CAt.nil _ _) (by simp) (some ⟨q, 0, none⟩) 2 [exFA, exFX] hc (by simp) (by simp)).mono ?_
  rintro e w' ⟨ao, cap, g, rfl, hk, _, hf⟩
  rw [exf_2] at hk ⊢
  rw [exf_1]
  have hle := hk.le
  have hcap : 0 < cap := by simp [blV, blL] at hle; omega
  refine ⟨g, cap, by rw [hk.ad hcap]; rfl, ?_, ?_, hf⟩
  · have := hk.cells 0 (by simp [blV, blL]); simpa [blV, blL] using this
  · have := hk.cells 1 (by simp [blV, blL]); simpa [blV, blL] using this)
theorem charge_1 {w : World} {A : Ad} (hT : TAt w A exF) : Hid (∀ (u : World) (o q : Nat), Fr (fun _ => False) w u → CAt u (some ⟨o, 0, none⟩) (ouV [exFO]) → CAt u (some ⟨q, 0, none⟩) (tpV [exFA]) → Calls Tryz.prog 12 #[tv A exF, .slice (some ⟨o, 0, none⟩) 1 1, .slice (some ⟨q, 0, none⟩) 1 1] u fun e w' =>
    e = .returned (.tuple #[.int .i64 0, .int .i64 0]) ∧ Fr (fun _ => False) u w') := hide (fun u o q hu ho hc => by
  have := charge_any u A exF (hT.keep hu) (some ⟨o, 0, none⟩) 1 [exFO] ho (by simp) (some ⟨q, 0, none⟩) 1 [exFA] hc (by simp) (by simp)
  rw [exf_4, exf_3] at this
  exact this)
theorem charge_2 {w : World} {A : Ad} (hT : TAt w A exF) : Hid (∀ (u : World) (q : Nat), Fr (fun _ => False) w u → CAt u (some ⟨q, 0, none⟩) (tpV [exFA]) → Calls Tryz.prog 12 #[tv A exF, .slice none 0 0, .slice (some ⟨q, 0, none⟩) 1 1] u fun e w' =>
    e = .returned (.tuple #[.int .i64 900, .int .i64 0]) ∧ Fr (fun _ => False) u w') := hide (fun u q hu hc => by
  have := charge_any u A exF (hT.keep hu) none 0 [] (CAt.nil _ _) (by simp) (some ⟨q, 0, none⟩) 1 [exFA] hc (by simp) (by simp)
  rw [exf_6, exf_5] at this
  exact this)

set_option maxHeartbeats 4000000 in
set_option maxRecDepth 20000 in
theorem awake_anyE (w : World) : Calls Tryz.prog 8 #[] w fun e w' => e = .returned (.bool true) ∧ Fr (fun _ => False) w w' := by
  go_enter Tryz.func8, Tryz.ntmps8
  go_wp2_with fail
  refine (plain_any _).mono ?_
  rintro e w1 ⟨A, rfl, hT, hF1⟩
  have HG : Hid ((w1.alloc (.cells #[.slice none 0 0, .slice none 0 0, .slice none 0 0, .float .f64 0, .int .i64 0, .int .i64 0, .int .i64 0, .int .i64 0, .int .i64 0, .int .i64 0, .int .i64 0, .int .i64 0, .int .i64 0, .int .i64 0] 27)).heap[w1.heap.size]? = some (.cells #[.slice none 0 0, .slice none 0 0, .slice none 0 0, .float .f64 0, .int .i64 0, .int .i64 0, .int .i64 0, .int .i64 0, .int .i64 0, .int .i64 0, .int .i64 0, .int .i64 0, .int .i64 0, .int .i64 0] 27 (0, 0))) := hide (heap_new _ _)
  obtain ⟨v, hv⟩ : ∃ v, v = (w1.alloc (.cells #[.slice none 0 0, .slice none 0 0, .slice none 0 0, .float .f64 0, .int .i64 0, .int .i64 0, .int .i64 0, .int .i64 0, .int .i64 0, .int .i64 0, .int .i64 0, .int .i64 0, .int .i64 0, .int .i64 0] 27)).setRow w1.heap.size (tc A plainT) := ⟨_, rfl⟩
  have hB : TB v w1.heap.size A plainT := by rw [hv]; exact TB.set (unhide HG) A plainT
  have hFv : Fr (fun _ => False) w1 v := by rw [hv]; exact ((Fr.refl _ w1).alloc _).setRow (fun h => absurd h (Nat.lt_irrefl _)) _
  have HV := hide hv
  have HTB := hide hB
  have HT1 := hide hT
  have HW1 := hide hF1
  have HFA := hide hFv
  have hle : w1.heap.size < v.heap.size := hB.lt
  clear hv hB hFv hF1 hT
  go_upto_region 2 with (refine wpList_store_tariff rfl (.tmp 1) (.tmp 10) rfl (g := w1.heap.size) (A := A) (t := plainT) rfl rfl _ (unhide HG) rfl ?_)
  rw [← unhide HV]
  obtain ⟨B, hBB⟩ : ∃ B, B = w1.heap.size := ⟨_, rfl⟩
  rw [← hBB] at HTB hle ⊢
  have HBB := hide hBB
  have c2 : (v.alloc (.cells #[.int .i64 390, .int .i64 570] 55)).cell? ⟨B, 2, none⟩ = some (.slice A.aB plainT.bd.length A.cB) := ((unhide HTB).keep ((Fr.refl _ _).alloc _)).cell 2
  have f2 : (v.alloc (.cells #[.int .i64 390, .int .i64 570] 55)).frozen? ⟨B, 2, none⟩ = false := ((unhide HTB).keep ((Fr.refl _ _).alloc _)).frozen 2
  clear HV HG hBB
  go_upto_region 3 with (fail)
  obtain ⟨V0, hV0⟩ : ∃ V0, V0 = v.heap.size := ⟨_, rfl⟩
  obtain ⟨x2, hx2⟩ : ∃ x2, x2 = v.setCell ⟨B, 2, none⟩ (.slice (some ⟨v.heap.size, 0, none⟩) 1 1) := ⟨_, rfl⟩
  rw [← hx2]
  have hsz : x2.heap.size = V0 := by rw [hx2, hV0]; simp [World.setCell]
  rw [← hV0] at hx2
  obtain ⟨v2, hv2⟩ : ∃ v2, v2 = x2.alloc (.cells #[.int .i64 390, .int .i64 570] 55) := ⟨_, rfl⟩
  rw [← hv2]
  have hTB2 : TB v2 B ⟨A.aS, A.cS, A.aP, A.cP, some ⟨V0, 0, none⟩, 1⟩ exF0 := by
    rw [hv2, hx2]
    exact ((unhide HTB).setCell (A' := ⟨A.aS, A.cS, A.aP, A.cP, some ⟨V0, 0, none⟩, 1⟩) (t' := exF0) 2 _ rfl).keep ((Fr.refl _ _).alloc _)
  have hBn : ¬ B < w1.heap.size := by rw [unhide HBB]; exact Nat.lt_irrefl _
  have hF2 : Fr (fun _ => False) w1 v2 := by rw [hv2, hx2]; exact ((unhide HFA).setCell (fun h => absurd h hBn) _).alloc _
  have hbd : CAt v2 (some ⟨V0, 0, none⟩) (bdV [(390, 570)]) := by
    have h0 := cat_new x2 (bdV [(390, 570)]) 55
    rw [hsz] at h0
    rw [hv2]
    exact h0
  have hBV : B ≠ V0 := by omega
  clear hv2 c2 f2 hx2 hsz
  have HTB2 := hide hTB2
  have c8 : v2.cell? ⟨B, 8, none⟩ = some (.int .i64 exF0.most) := (unhide HTB2).cell 8
  have f8 : v2.frozen? ⟨B, 8, none⟩ = false := (unhide HTB2).frozen 8
  clear hTB2
  go_upto_region 4 with (fail)
  obtain ⟨u, hu⟩ : ∃ u, u = v2.setCell ⟨B, 8, none⟩ (.int .i64 900) := ⟨_, rfl⟩
  rw [← hu]
  have hTBu : TB u B ⟨A.aS, A.cS, A.aP, A.cP, some ⟨V0, 0, none⟩, 1⟩ exF := by
    rw [hu]
    exact (unhide HTB2).setCell (A' := ⟨A.aS, A.cS, A.aP, A.cP, some ⟨V0, 0, none⟩, 1⟩) (t' := exF) 8 _ rfl
  have hFu : Fr (fun _ => False) w1 u := by rw [hu]; exact hF2.setCell (fun h => absurd h hBn) _
  have hTu : TAt u ⟨A.aS, A.cS, A.aP, A.cP, some ⟨V0, 0, none⟩, 1⟩ exF := by
    have k := (unhide HT1).keep hFu
    refine ⟨k.st, k.sp, ?_, k.lS, k.lP, by simp [exF], k.off⟩
    have hs : Fr (fun q => q = B) v2 u := by rw [hu]; exact (Fr.refl (fun q => q = B) _).setCell (p := ⟨B, 8, none⟩) (fun _ => rfl) _
    intro hpos
    obtain ⟨b, off, e, hc⟩ := hbd hpos
    refine ⟨b, off, e, fun j hj => ?_⟩
    have h1 := hc j hj
    injection e with e
    injection e with e1 e2
    exact (hs.cell (a := ⟨b, off + j, none⟩) (World.block_lt_of_cell? _ _ h1) (fun q => by have q : b = B := q; omega)).trans h1
  obtain ⟨A2, hA2⟩ : ∃ A2 : Ad, A2 = ⟨A.aS, A.cS, A.aP, A.cP, some ⟨V0, 0, none⟩, 1⟩ := ⟨_, rfl⟩
  rw [← hA2] at hTBu hTu
  have HTU := hide hTBu
  have HTT := hide hTu
  have HF := hide ((unhide HW1).trans hFu (fun _ _ t => t))
  clear hu hFu hTBu hTu hBn hle c8 f8 HTB HTB2 HT1 HW1 HFA HBB hF2 hbd hV0 hA2 hBV
  go_upto_region 5 with (fail)
  obtain ⟨u1, hu1⟩ : ∃ u1, u1 = u.alloc (.cells #[.int .i64 1, .int .i64 1, .string tok8, .int .i64 1, .int .i64 1, .int .i64 480] 47) := ⟨_, rfl⟩
  obtain ⟨D1, hD1⟩ : ∃ D1, D1 = u.heap.size := ⟨_, rfl⟩
  unfold tok8 at hu1
  rw [← hu1, ← hD1]
  have hFa : Fr (fun _ => False) u u1 := by rw [hu1]; exact (Fr.refl _ _).alloc _
  have HX1 : Hid (Bx u1 D1 #[.int .i64 1, .int .i64 1, .string tok8, .int .i64 1, .int .i64 1, .int .i64 480] 47) := hide (by rw [hu1, hD1]; exact Bx.new _ _ _)
  replace HTU := hide ((unhide HTU).keep hFa)
  replace HTT := hide ((unhide HTT).keep hFa)
  replace HF := hide ((unhide HF).trans hFa (fun _ _ t => t))
  clear hu1 hFa hD1
  go_upto_region 6 with (fail)
  obtain ⟨u2, hu2⟩ : ∃ u2, u2 = u1.alloc (.cells #[.int .i64 1, .int .i64 2, .string tok8, .int .i64 2, .int .i64 2, .int .i64 510] 47) := ⟨_, rfl⟩
  obtain ⟨D2, hD2⟩ : ∃ D2, D2 = u1.heap.size := ⟨_, rfl⟩
  unfold tok8 at hu2
  rw [← hu2, ← hD2]
  have hFa : Fr (fun _ => False) u1 u2 := by rw [hu2]; exact (Fr.refl _ _).alloc _
  have HX2 : Hid (Bx u2 D2 #[.int .i64 1, .int .i64 2, .string tok8, .int .i64 2, .int .i64 2, .int .i64 510] 47) := hide (by rw [hu2, hD2]; exact Bx.new _ _ _)
  replace HTU := hide ((unhide HTU).keep hFa)
  replace HTT := hide ((unhide HTT).keep hFa)
  replace HF := hide ((unhide HF).trans hFa (fun _ _ t => t))
  replace HX1 := hide ((unhide HX1).keep hFa)
  clear hu2 hFa hD2
  have R1 := bills_1 (unhide HTT)
  have R2 := charge_1 (unhide HTT)
  have R3 := charge_2 (unhide HTT)
  unfold tv at R1 R2 R3
  have a0 : u2.cell? ⟨D1, 0, none⟩ = some (.int .i64 1) := (unhide HX1).cell 0
  have a1 : u2.cell? ⟨D1, 1, none⟩ = some (.int .i64 1) := (unhide HX1).cell 1
  have a2 : u2.cell? ⟨D1, 2, none⟩ = some (.string tok8) := (unhide HX1).cell 2
  have a3 : u2.cell? ⟨D1, 3, none⟩ = some (.int .i64 1) := (unhide HX1).cell 3
  have a4 : u2.cell? ⟨D1, 4, none⟩ = some (.int .i64 1) := (unhide HX1).cell 4
  have a5 : u2.cell? ⟨D1, 5, none⟩ = some (.int .i64 480) := (unhide HX1).cell 5
  have b0 : u2.cell? ⟨D2, 0, none⟩ = some (.int .i64 1) := (unhide HX2).cell 0
  have b1 : u2.cell? ⟨D2, 1, none⟩ = some (.int .i64 2) := (unhide HX2).cell 1
  have b2 : u2.cell? ⟨D2, 2, none⟩ = some (.string tok8) := (unhide HX2).cell 2
  have b3 : u2.cell? ⟨D2, 3, none⟩ = some (.int .i64 2) := (unhide HX2).cell 3
  have b4 : u2.cell? ⟨D2, 4, none⟩ = some (.int .i64 2) := (unhide HX2).cell 4
  have b5 : u2.cell? ⟨D2, 5, none⟩ = some (.int .i64 510) := (unhide HX2).cell 5
  go_wp2_with (refine wpList_load_tariff rfl (.tmp 1) rfl (g := B) (A := A2) (t := exF) rfl (unhide HTU) ?_)
  refine (unhide R1 _ u2.heap.size ((Fr.refl _ _).alloc _) (cat_new u2 (tpV [exFA, exFX]) 47)).mono ?_
  rintro e u3 ⟨g1, cp1, rfl, hg0, hg1, hF⟩
  have hF3 : Fr (fun _ => False) u2 u3 := ((Fr.refl _ _).alloc _).trans hF (fun _ _ t => t)
  have HF3 := hide hF3
  have HX3 := hide ((unhide HX1).keep hF3)
  have HTU3 := hide ((unhide HTU).keep hF3)
  have HG := hide (And.intro hg0 hg1)
  clear hF hF3 a0 a1 a2 a3 a4 a5 b0 b1 b2 b3 b4 b5 R1 HX2 HX1 hg0 hg1
  have a0 : u3.cell? ⟨D1, 0, none⟩ = some (.int .i64 1) := (unhide HX3).cell 0
  have a1 : u3.cell? ⟨D1, 1, none⟩ = some (.int .i64 1) := (unhide HX3).cell 1
  have a2 : u3.cell? ⟨D1, 2, none⟩ = some (.string tok8) := (unhide HX3).cell 2
  have a3 : u3.cell? ⟨D1, 3, none⟩ = some (.int .i64 1) := (unhide HX3).cell 3
  have a4 : u3.cell? ⟨D1, 4, none⟩ = some (.int .i64 1) := (unhide HX3).cell 4
  have a5 : u3.cell? ⟨D1, 5, none⟩ = some (.int .i64 480) := (unhide HX3).cell 5
  have hd3 : D1 < u3.heap.size := (unhide HX3).lt
  go_wp2_with (refine wpList_load_tariff rfl (.tmp 1) rfl (g := B) (A := A2) (t := exF) rfl (unhide HTU3) ?_)
  refine (unhide R2 _ u3.heap.size (u3.heap.size + 1) (((unhide HF3).alloc _).alloc _) ((cat_new u3 (ouV [exFO]) 57).keep ((Fr.refl _ _).alloc _)) (by rw [← heap_alloc u3 (.cells (ouV [exFO]).toArray 57)]; exact cat_new _ (tpV [exFA]) 47)).mono ?_
  rintro e u4 ⟨rfl, hF⟩
  have hF4 : Fr (fun _ => False) u3 u4 := (((Fr.refl _ _).alloc _).alloc _).trans hF (fun _ _ t => t)
  have HF4 := hide hF4
  have HX4 := hide ((unhide HX3).keep hF4)
  have HTU4 := hide ((unhide HTU3).keep hF4)
  clear hF hF4 a0 a1 a2 a3 a4 a5 hd3 R2 HX3 HTU3 HTU
  have a0 : u4.cell? ⟨D1, 0, none⟩ = some (.int .i64 1) := (unhide HX4).cell 0
  have a1 : u4.cell? ⟨D1, 1, none⟩ = some (.int .i64 1) := (unhide HX4).cell 1
  have a2 : u4.cell? ⟨D1, 2, none⟩ = some (.string tok8) := (unhide HX4).cell 2
  have a3 : u4.cell? ⟨D1, 3, none⟩ = some (.int .i64 1) := (unhide HX4).cell 3
  have a4 : u4.cell? ⟨D1, 4, none⟩ = some (.int .i64 1) := (unhide HX4).cell 4
  have a5 : u4.cell? ⟨D1, 5, none⟩ = some (.int .i64 480) := (unhide HX4).cell 5
  go_wp2_with (refine wpList_load_tariff rfl (.tmp 1) rfl (g := B) (A := A2) (t := exF) rfl (unhide HTU4) ?_)
  refine (unhide R3 _ u4.heap.size (((unhide HF3).trans (unhide HF4) (fun _ _ t => t)).alloc _) (cat_new u4 (tpV [exFA]) 47)).mono ?_
  rintro e u5 ⟨rfl, hF⟩
  have hF5 : Fr (fun _ => False) u4 u5 := ((Fr.refl _ _).alloc _).trans hF (fun _ _ t => t)
  have hF35 : Fr (fun _ => False) u3 u5 := (unhide HF4).trans hF5 (fun _ _ t => t)
  have g0 : u5.cell? ⟨g1, 0, none⟩ = some (.int .i64 0) := (hF35.cell (World.block_lt_of_cell? _ _ (unhide HG).1) (fun t => t)).trans (unhide HG).1
  have g2 : u5.cell? ⟨g1, 1, none⟩ = some (.int .i64 300) := (hF35.cell (World.block_lt_of_cell? _ _ (unhide HG).2) (fun t => t)).trans (unhide HG).2
  have HFZ := hide ((unhide HF).trans ((unhide HF3).trans hF35 (fun _ _ t => t)) (fun _ _ t => t))
  clear hF hF5 hF35 a0 a1 a2 a3 a4 a5 R3 HX4 HTU4 HTT HF HF3 HF4 HG
  have q1 := egBl
  have q2 := eqBl
  go_wp2
  go_ret
  exact ⟨rfl, unhide HFZ⟩

end Go.Proofs.YtjgbllfppomcmaaGreat

