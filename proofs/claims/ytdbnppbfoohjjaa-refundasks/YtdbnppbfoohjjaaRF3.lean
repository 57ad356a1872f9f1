import Derived.Test.YtdbnppbfoohjjaaRF2
import Derived.Test.YtdbnppbfoohjjaaQL7
/- The document's examples of refund, asked of the program. -/
namespace Go.Proofs.Ytdbnppbfoohjjaa
open Go.RowKit

def exB : Tf := { plainT with delay := 15 }
def exO : Ou := ⟨3, 500, 560⟩
def exJ1 : Jn := ⟨2, 3, 3, 500, 500, false⟩
def exJ2 : Jn := ⟨1, 1, 3, 480, 494, false⟩
theorem exb_1 : heldB exB.delay [exO] exJ1 = true := by decide +kernel
theorem exb_2 : heldB exB.delay [exO] exJ2 = false := by decide +kernel
theorem exb_3 : backE exB [exO] 1 = 0 := by decide +kernel
theorem exb_4 : appL exB [exO] [(exJ1, 900)] = [(exJ1, 0)] := by
  unfold appL
  rw [if_pos (show backE exB [exO] [(exJ1, (900 : Int))].length = 0 from exb_3)]
  simp only [backL, List.map_cons, List.map_nil, back1]
  rw [if_pos exb_1]

set_option maxHeartbeats 2000000 in
set_option maxRecDepth 20000 in
theorem awake_anyR (w : World) : Calls Try.prog 13 #[] w fun e w' => e = .returned (.bool true) ∧ Fr (fun _ => False) w w' := by
  go_enter Try.func13, Try.ntmps13
  go_wp2_with fail
  refine (plain_any _).mono ?_
  rintro e w1 ⟨A, rfl, hT, hF1⟩
  have HG : Hid ((w1.alloc (.cells #[.slice none 0 0, .slice none 0 0, .slice none 0 0, .float .f64 0, .int .i64 0, .int .i64 0, .int .i64 0, .int .i64 0, .int .i64 0, .int .i64 0, .int .i64 0, .int .i64 0, .int .i64 0, .int .i64 0] 27)).heap[w1.heap.size]? = some (.cells #[.slice none 0 0, .slice none 0 0, .slice none 0 0, .float .f64 0, .int .i64 0, .int .i64 0, .int .i64 0, .int .i64 0, .int .i64 0, .int .i64 0, .int .i64 0, .int .i64 0, .int .i64 0, .int .i64 0] 27 (0, 0))) := hide (heap_new _ _)
  obtain ⟨v, hv⟩ : ∃ v, v = (w1.alloc (.cells #[.slice none 0 0, .slice none 0 0, .slice none 0 0, .float .f64 0, .int .i64 0, .int .i64 0, .int .i64 0, .int .i64 0, .int .i64 0, .int .i64 0, .int .i64 0, .int .i64 0, .int .i64 0, .int .i64 0] 27)).setRow w1.heap.size (tc A plainT) := ⟨_, rfl⟩
  have hB : TB v w1.heap.size A plainT := by rw [hv]; exact TB.set (unhide HG) A plainT
  have hFv : Fr (fun _ => False) w1 v := by rw [hv]; exact ((Fr.refl _ w1).alloc _).setRow (fun h => absurd h (Nat.lt_irrefl _)) _
  have HV := hide hv
  have HTB := hide hB
  have HT1 := hide hT
  have HW1 := hide hF1
  have HFA := hide hFv
  have hle : w1.heap.size < v.heap.size := hB.lt
  clear hv hB hFv hF1 hT
  go_upto_region 2 with (refine wpList_store_tariff rfl (.tmp 1) (.tmp 7) rfl (g := w1.heap.size) (A := A) (t := plainT) rfl rfl _ (unhide HG) rfl ?_)
  rw [← unhide HV]
  obtain ⟨B, hBB⟩ : ∃ B, B = w1.heap.size := ⟨_, rfl⟩
  rw [← hBB] at HTB hle ⊢
  have c12 : v.cell? ⟨B, 12, none⟩ = some (.int .i64 plainT.delay) := (unhide HTB).cell 12
  have f0 : ∀ k, v.frozen? ⟨B, k, none⟩ = false := fun k => (unhide HTB).frozen k
  have HBB := hide hBB
  clear HV HG hBB
  go_upto_region 3 with (fail)
  obtain ⟨u, hu⟩ : ∃ u, u = v.setCell ⟨B, 12, none⟩ (.int .i64 15) := ⟨_, rfl⟩
  have hBn : ¬ B < w1.heap.size := by rw [unhide HBB]; exact Nat.lt_irrefl _
  have hFu : Fr (fun _ => False) w1 u := by rw [hu]; exact (unhide HFA).setCell (fun h => absurd h hBn) _
  have hTBu : TB u B A exB := by
    rw [hu]
    exact (unhide HTB).setCell (A' := A) (t' := exB) 12 _ rfl
  have hTu : TAt u A exB := by
    have k := (unhide HT1).keep hFu
    exact ⟨k.st, k.sp, k.bd, k.lS, k.lP, k.lB, k.off⟩
  rw [← hu]
  have HF := hide ((unhide HW1).trans hFu (fun _ _ t => t))
  have HTU := hide hTBu
  have HTT := hide hTu
  clear hu hFu hTBu hTu hBn hle c12 f0 HTB HT1 HW1 HFA HBB
  go_upto_region 4 with (fail)
  obtain ⟨u1, hu1⟩ : ∃ u1, u1 = u.alloc (.cells #[.int .i64 3, .int .i64 500, .int .i64 560] 54) := ⟨_, rfl⟩
  obtain ⟨D, hD⟩ : ∃ D, D = u.heap.size := ⟨_, rfl⟩
  have HC1 : Hid (CAt u1 (some ⟨D, 0, none⟩) (ouV [exO])) := hide (by rw [hu1, hD]; exact cat_new u (ouV [exO]) 54)
  rw [← hu1, ← hD]
  have hFa : Fr (fun _ => False) u u1 := by rw [hu1]; exact (Fr.refl _ _).alloc _
  have HTU1 := hide ((unhide HTU).keep hFa)
  have HTT1 := hide ((unhide HTT).keep hFa)
  have HF1 := hide ((unhide HF).trans hFa (fun _ _ t => t))
  have RH1 := hide (fun (x : World) (hx : Fr (fun _ => False) u1 x) => (by
    have := held_any x A exB (some ⟨D, 0, none⟩) 1 [exO] ((unhide HC1).keep hx) (by simp) 1 rfl exJ1
    rw [exb_1] at this
    exact this : Calls Try.prog 16 #[tv A exB, .slice (some ⟨D, 0, none⟩) 1 1, .agg (jC exJ1)] x fun e w' => e = .returned (.bool true) ∧ Fr (fun _ => False) x w'))
  have RH2 := hide (fun (x : World) (hx : Fr (fun _ => False) u1 x) => (by
    have := held_any x A exB (some ⟨D, 0, none⟩) 1 [exO] ((unhide HC1).keep hx) (by simp) 1 rfl exJ2
    rw [exb_2] at this
    exact this : Calls Try.prog 16 #[tv A exB, .slice (some ⟨D, 0, none⟩) 1 1, .agg (jC exJ2)] x fun e w' => e = .returned (.bool false) ∧ Fr (fun _ => False) x w'))
  have RA := hide (fun (x : World) (hx : Fr (fun _ => False) u1 x) (q : Nat) (hq : CAt x (some ⟨q, 0, none⟩) (pV [(exJ1, 900)])) => (by
    have h0 := apply_any x A exB ((unhide HTT1).keep hx) (some ⟨D, 0, none⟩) 1 [exO] ((unhide HC1).keep hx) (by simp) 1 rfl (some ⟨q, 0, none⟩) 1 [(exJ1, 900)] hq 1 rfl
    refine h0.mono ?_
    rintro e w' ⟨ao, cap, g, he, hk, hg, hf⟩
    rw [exb_4] at he hk
    rw [show backE exB [exO] [(exJ1, (900 : Int))].length = 0 from exb_3] at he
    obtain ⟨e1, e2, e3⟩ := pV_cell hk (k := 0) (b := (exJ1, 0)) rfl
    exact ⟨cap, g, by rw [he, e1]; rfl, e3 6 (by omega) _ rfl, hf⟩ : Calls Try.prog 17 #[tv A exB, .slice (some ⟨D, 0, none⟩) 1 1, .slice (some ⟨q, 0, none⟩) 1 1] x fun e w' => ∃ cap g, e = .returned (.tuple #[.slice (some ⟨g, 0, none⟩) 1 cap, .int .i64 0]) ∧ w'.cell? ⟨g, 0 * 7 + 6, none⟩ = some (.int .i64 0) ∧ Fr (fun _ => False) x w'))
  clear hu1 hD hFa HC1 HTU HTT HF
  go_wp2_with (refine wpList_load_tariff rfl (.tmp 1) rfl (g := B) (A := A) (t := exB) rfl (unhide HTU1) ?_)
  refine (unhide RH1 u1 (Fr.refl _ _)).mono ?_
  rintro e u2 ⟨rfl, hF⟩
  have HF2 := hide hF
  have HTU2 := hide ((unhide HTU1).keep hF)
  clear hF RH1
  go_wp2_with (refine wpList_load_tariff rfl (.tmp 1) rfl (g := B) (A := A) (t := exB) rfl (unhide HTU2) ?_)
  refine (unhide RH2 u2 (unhide HF2)).mono ?_
  rintro e u3 ⟨rfl, hF⟩
  have HF3 := hide ((unhide HF2).trans hF (fun _ _ t => t))
  have HTU3 := hide ((unhide HTU2).keep hF)
  clear hF RH2 HF2 HTU2
  go_wp2_with (refine wpList_load_tariff rfl (.tmp 1) rfl (g := B) (A := A) (t := exB) rfl (unhide HTU3) ?_)
  refine (unhide RA _ ((unhide HF3).alloc _) _ (cat_new u3 (pV [(exJ1, 900)]) 48)).mono ?_
  rintro e u4 ⟨cap, g, rfl, hc, hF⟩
  have HF4 := hide ((unhide HF1).trans (((unhide HF3).alloc _).trans hF (fun _ _ t => t)) (fun _ _ t => t))
  have hc0 : u4.cell? ⟨g, 6, none⟩ = some (.int .i64 0) := hc
  clear hF RA HF3 HTU3 hc HF1
  go_wp2
  go_ret
  exact ⟨rfl, unhide HF4⟩

end Go.Proofs.Ytdbnppbfoohjjaa

