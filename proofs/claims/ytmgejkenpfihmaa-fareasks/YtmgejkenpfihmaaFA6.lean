import Derived.Test.YtmgejkenpfihmaaFA2
import Derived.Test.YtmgejkenpfihmaaFA5
import Derived.Test.YtmgejkenpfihmaaQVY
/- What a journey costs: the document's own Of. -/
namespace Go.Proofs.Ytmgejkenpfihmaa
open Go.RowKit

set_option maxHeartbeats 1000000 in
theorem rfof_any (w : World) (A : Ad) (t : Tf) (h : TAt w A t) (j : Jn) : Calls Try.prog 11 #[tv A t, .agg (jC j)] w fun e w' => e = .returned (.tuple #[.int .i64 (fareV t j).1, .int .i64 (fareV t j).2]) ∧ Fr (fun _ => False) w w' := by
  have HX : Hid (fareV t j = if rightE t = 0 then costV t j else (0, rightE t)) := rfl
  have RE := hide (fun (u : World) (hu : Fr (fun _ => False) w u) => rright_walk u A t (h.keep hu))
  have RC := hide (fun (u : World) (hu : Fr (fun _ => False) w u) => rcost_any u A t (h.keep hu) j)
  generalize fareV t j = z at *
  generalize rightE t = er at *
  generalize costV t j = wh at *
  obtain ⟨k, f, o, s, n, r⟩ := j
  obtain ⟨v, hv⟩ : ∃ v, v = (w.alloc (.cells (tc A t) 27)).alloc (.cells #[.int .i64 k, .int .i64 f, .int .i64 o, .int .i64 s, .int .i64 n, .bool r] 30) := ⟨_, rfl⟩
  have HFV : Hid (Fr (fun _ => False) w v) := hide (by rw [hv]; exact ((Fr.refl _ w).alloc _).alloc _)
  have hTB : TB v w.heap.size A t := by rw [hv]; exact (TB.new w A t).keep ((Fr.refl _ _).alloc _)
  have hJ : Bx v (w.heap.size + 1) #[.int .i64 k, .int .i64 f, .int .i64 o, .int .i64 s, .int .i64 n, .bool r] 30 := by
    rw [hv, ← heap_alloc w (.cells (tc A t) 27)]; exact Bx.new _ _ _
  obtain ⟨B, hB⟩ : ∃ B, B = w.heap.size := ⟨_, rfl⟩
  rw [← hB] at hTB hJ
  have HTB := hide hTB
  have HJ := hide hJ
  have HV := hide hv
  have HB := hide hB
  clear hv hB hTB hJ h
  unfold tv at *
  simp only [jC] at *
  unfold tc at HV ⊢
  by_cases h0 : er = 0
  · have HX1 : Hid (z = wh) := hide (by rw [unhide HX, if_pos h0])
    subst h0
    clear HX
    go_enter Try.func11, Try.ntmps11
    go_upto_region 1 with (fail)
    rw [← unhide HV, ← unhide HB]
    clear HV
    go_wp2_with (refine wpList_load_tariff rfl (.tmp 2) rfl (g := B) (A := A) (t := t) rfl (unhide HTB) ?_)
    refine (unhide RE v (unhide HFV)).mono ?_
    rintro e w1 ⟨rfl, hF⟩
    have HTB1 := hide ((unhide HTB).keep hF)
    have HF1 := hide ((unhide HFV).trans hF (fun _ _ t => t))
    have hJ1 := (unhide HJ).keep hF
    have HJ1 := hide hJ1
    clear hF HTB HFV RE HJ hJ1
    go_wp2_with (first | refine wpList_load_tariff rfl (.tmp 2) rfl (g := B) (A := A) (t := t) rfl (unhide HTB1) ?_ | refine wpList_load_journey rfl (.tmp 3) rfl (g := B + 1) (j := ⟨k, f, o, s, n, r⟩) rfl (unhide HJ1) ?_)
    refine (unhide RC w1 (unhide HF1)).mono ?_
    rintro e w2 ⟨rfl, hF⟩
    have HF2 := hide ((unhide HF1).trans hF (fun _ _ t => t))
    clear hF RC HTB1 HJ1 HF1
    go_wp2
    go_ret2
    exact ⟨by rw [unhide HX1]; rfl, unhide HF2⟩
  · have HX1 : Hid (z = (0, er)) := hide (by rw [unhide HX, if_neg h0])
    have hb2 : (er == 0) = false := by simp [h0]
    have hb3 : (er != 0) = true := by simp [h0]
    clear HX RC h0
    go_enter Try.func11, Try.ntmps11
    go_upto_region 1 with (fail)
    rw [← unhide HV, ← unhide HB]
    clear HV
    go_wp2_with (refine wpList_load_tariff rfl (.tmp 2) rfl (g := B) (A := A) (t := t) rfl (unhide HTB) ?_)
    refine (unhide RE v (unhide HFV)).mono ?_
    rintro e w1 ⟨rfl, hF⟩
    have HF1 := hide ((unhide HFV).trans hF (fun _ _ t => t))
    clear hF HTB HFV RE HJ
    go_wp2
    go_ret2
    exact ⟨by rw [unhide HX1]; rfl, unhide HF1⟩

end Go.Proofs.Ytmgejkenpfihmaa

