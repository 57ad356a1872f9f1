import Derived.Test.YtmgejkenpfihmaaFA2
import Derived.Test.YtmgejkenpfihmaaQUX
/- The document's examples of fares: awake. -/
namespace Go.Proofs.Ytmgejkenpfihmaa
open Go.RowKit

def exT : Tf := { plainT with bd := [(390, 570)], most := 900 }
theorem ex_1 : fareV exT ⟨1, 1, 2, 480, 500, false⟩ = (300, 0) := by decide +kernel
theorem ex_2 : fareV exT ⟨1, 1, 2, 600, 700, false⟩ = (150, 0) := by decide +kernel
theorem ex_3 : fareV exT ⟨2, 1, 1, 600, 600, false⟩ = (900, 0) := by decide +kernel
theorem ex_4 : fareV exT ⟨5, 0, 0, 0, 0, false⟩ = (0, 1) := by decide +kernel

set_option maxHeartbeats 2000000 in
set_option maxRecDepth 20000 in
theorem awake_anyF (w : World) : Calls Try.prog 6 #[] w fun e w' => e = .returned (.bool true) ∧ Fr (fun _ => False) w w' := by
  go_enter Try.func6, Try.ntmps6
  go_wp2_with fail
  refine (plain_any _).mono ?_
  rintro e w1 ⟨A, rfl, hT, hF1⟩
  have HG : Hid ((w1.alloc (.cells #[.slice none 0 0, .slice none 0 0, .slice none 0 0, .float .f64 0, .int .i64 0, .int .i64 0, .int .i64 0, .int .i64 0, .int .i64 0, .int .i64 0, .int .i64 0, .int .i64 0, .int .i64 0, .int .i64 0] 27)).heap[w1.heap.size]? = some (.cells #[.slice none 0 0, .slice none 0 0, .slice none 0 0, .float .f64 0, .int .i64 0, .int .i64 0, .int .i64 0, .int .i64 0, .int .i64 0, .int .i64 0, .int .i64 0, .int .i64 0, .int .i64 0, .int .i64 0] 27 (0, 0))) := hide (heap_new _ _)
  obtain ⟨v, hv⟩ : ∃ v, v = (w1.alloc (.cells #[.slice none 0 0, .slice none 0 0, .slice none 0 0, .float .f64 0, .int .i64 0, .int .i64 0, .int .i64 0, .int .i64 0, .int .i64 0, .int .i64 0, .int .i64 0, .int .i64 0, .int .i64 0, .int .i64 0] 27)).setRow w1.heap.size (tc A plainT) := ⟨_, rfl⟩
  have hB : TB v w1.heap.size A plainT := by rw [hv]; exact TB.set (unhide HG) A plainT
  have hFv : Fr (fun _ => False) w1 v := by rw [hv]; exact ((Fr.refl _ w1).alloc _).setRow (fun h => absurd h (Nat.lt_irrefl _)) _
  have HV := hide hv
  have HTB := hide hB
  have HT1 := hide hT
  have HW1 := hide hF1
  have HFA := hide hFv
  have hle : w1.heap.size < v.heap.size := hB.lt
  have HLE : Hid (w.heap.size ≤ w1.heap.size) := hide hF1.size
  clear hv hB hFv hF1 hT
  go_upto_region 2 with (refine wpList_store_tariff rfl (.tmp 1) (.tmp 10) rfl (g := w1.heap.size) (A := A) (t := plainT) rfl rfl _ (unhide HG) rfl ?_)
  rw [← unhide HV]
  obtain ⟨B, hBB⟩ : ∃ B, B = w1.heap.size := ⟨_, rfl⟩
  rw [← hBB] at HTB HLE hle ⊢
  have c2 : v.cell? ⟨B, 2, none⟩ = some (.slice A.aB plainT.bd.length A.cB) := (unhide HTB).cell 2
  have c8 : v.cell? ⟨B, 8, none⟩ = some (.int .i64 plainT.most) := (unhide HTB).cell 8
  have f0 : ∀ k, v.frozen? ⟨B, k, none⟩ = false := fun k => (unhide HTB).frozen k
  have HBB := hide hBB
  clear HV HG hBB
  go_upto_region 4 with (fail)
  have hsz : ((v.setCell ⟨B, 2, none⟩ (.slice (some ⟨v.heap.size, 0, none⟩) 1 1)).setCell ⟨B, 8, none⟩ (.int .i64 900)).heap.size = v.heap.size := by rw [Go.World.size_setCell, Go.World.size_setCell]
  obtain ⟨u, hu⟩ : ∃ u, u = ((v.setCell ⟨B, 2, none⟩ (.slice (some ⟨v.heap.size, 0, none⟩) 1 1)).setCell ⟨B, 8, none⟩ (.int .i64 900)).alloc (.cells #[.int .i64 390, .int .i64 570] 52) := ⟨_, rfl⟩
  obtain ⟨A', hA'⟩ : ∃ A' : Ad, A' = ⟨A.aS, A.cS, A.aP, A.cP, some ⟨v.heap.size, 0, none⟩, 1⟩ := ⟨_, rfl⟩
  have hBn : ¬ B < w1.heap.size := by rw [unhide HBB]; exact Nat.lt_irrefl _
  have hFu : Fr (fun _ => False) w1 u := by rw [hu]; exact ((((unhide HFA).setCell (fun h => absurd h hBn) _).setCell (fun h => absurd h hBn) _).alloc _)
  have hTBu : TB u B A' exT := by
    rw [hu, hA']
    exact (((unhide HTB).setCell (A' := ⟨A.aS, A.cS, A.aP, A.cP, some ⟨v.heap.size, 0, none⟩, 1⟩) (t' := { plainT with bd := [(390, 570)] }) 2 _ rfl).setCell (A' := ⟨A.aS, A.cS, A.aP, A.cP, some ⟨v.heap.size, 0, none⟩, 1⟩) (t' := exT) 8 _ rfl).keep ((Fr.refl _ _).alloc _)
  have hTu : TAt u A' exT := by
    have k := (unhide HT1).keep hFu
    rw [hA']
    refine ⟨k.st, k.sp, ?_, k.lS, k.lP, by decide, k.off⟩
    have := cat_new ((v.setCell ⟨B, 2, none⟩ (.slice (some ⟨v.heap.size, 0, none⟩) 1 1)).setCell ⟨B, 8, none⟩ (.int .i64 900)) (bdV [(390, 570)]) 52
    rw [hsz] at this
    rw [hu]
    exact this
  rw [← hu]
  have HF := hide ((unhide HW1).trans hFu (fun _ _ t => t))
  have RO := hide (fun (u' : World) (hf : Fr (fun _ => False) u u') (j : Jn) => fof_any u' A' exT (hTu.keep hf) j)
  have HTU := hide hTBu
  clear hu hA' hFu hTBu hTu hsz hBn hle c2 c8 f0 HLE HTB HT1 HW1 HFA HBB
  have RA : Hid (∀ u', Fr (fun _ => False) u u' → (Calls Try.prog 8 #[tv A' exT, .agg (jC ⟨1, 1, 2, 480, 500, false⟩)] u' fun e w' => e = .returned (.tuple #[.int .i64 300, .int .i64 0]) ∧ Fr (fun _ => False) u' w') ∧ (Calls Try.prog 8 #[tv A' exT, .agg (jC ⟨1, 1, 2, 600, 700, false⟩)] u' fun e w' => e = .returned (.tuple #[.int .i64 150, .int .i64 0]) ∧ Fr (fun _ => False) u' w') ∧ (Calls Try.prog 8 #[tv A' exT, .agg (jC ⟨2, 1, 1, 600, 600, false⟩)] u' fun e w' => e = .returned (.tuple #[.int .i64 900, .int .i64 0]) ∧ Fr (fun _ => False) u' w') ∧ (Calls Try.prog 8 #[tv A' exT, .agg (jC ⟨5, 0, 0, 0, 0, false⟩)] u' fun e w' => e = .returned (.tuple #[.int .i64 0, .int .i64 1]) ∧ Fr (fun _ => False) u' w')) := hide (fun u' hf => ⟨(by have := unhide RO u' hf ⟨1, 1, 2, 480, 500, false⟩; rw [ex_1] at this; exact this), (by have := unhide RO u' hf ⟨1, 1, 2, 600, 700, false⟩; rw [ex_2] at this; exact this), (by have := unhide RO u' hf ⟨2, 1, 1, 600, 600, false⟩; rw [ex_3] at this; exact this), (by have := unhide RO u' hf ⟨5, 0, 0, 0, 0, false⟩; rw [ex_4] at this; exact this)⟩)
  clear RO
  generalize exT = T0 at *
  have HF0 := hide (Fr.refl (fun _ => False) u)
  have R0 := (unhide RA u (unhide HF0)).1
  unfold tv at R0
  simp only [jC] at R0
  go_wp2_with (refine wpList_load_tariff rfl (.tmp 1) rfl (g := B) (A := A') (t := T0) rfl (unhide HTU) ?_)
  refine R0.mono ?_
  rintro e u1 ⟨rfl, hF⟩
  have HF1 := hide ((unhide HF0).trans hF (fun _ _ t => t))
  have HTU := hide ((unhide HTU).keep hF)
  clear hF R0
  have R1 := (unhide RA u1 (unhide HF1)).2.1
  unfold tv at R1
  simp only [jC] at R1
  go_wp2_with (refine wpList_load_tariff rfl (.tmp 1) rfl (g := B) (A := A') (t := T0) rfl (unhide HTU) ?_)
  refine R1.mono ?_
  rintro e u2 ⟨rfl, hF⟩
  have HF2 := hide ((unhide HF1).trans hF (fun _ _ t => t))
  have HTU := hide ((unhide HTU).keep hF)
  clear hF R1
  have R2 := (unhide RA u2 (unhide HF2)).2.2.1
  unfold tv at R2
  simp only [jC] at R2
  go_wp2_with (refine wpList_load_tariff rfl (.tmp 1) rfl (g := B) (A := A') (t := T0) rfl (unhide HTU) ?_)
  refine R2.mono ?_
  rintro e u3 ⟨rfl, hF⟩
  have HF3 := hide ((unhide HF2).trans hF (fun _ _ t => t))
  have HTU := hide ((unhide HTU).keep hF)
  clear hF R2
  have R3 := (unhide RA u3 (unhide HF3)).2.2.2
  unfold tv at R3
  simp only [jC] at R3
  go_wp2_with (refine wpList_load_tariff rfl (.tmp 1) rfl (g := B) (A := A') (t := T0) rfl (unhide HTU) ?_)
  refine R3.mono ?_
  rintro e u4 ⟨rfl, hF⟩
  have HF4 := hide ((unhide HF3).trans hF (fun _ _ t => t))
  have HTU := hide ((unhide HTU).keep hF)
  clear hF R3
  have HFZ := hide ((unhide HF).trans (unhide HF4) (fun _ _ t => t))
  clear HF HF0 HF1 HF2 HF3 HF4 RA HTU
  go_wp2
  go_ret
  exact ⟨rfl, unhide HFZ⟩

end Go.Proofs.Ytmgejkenpfihmaa

