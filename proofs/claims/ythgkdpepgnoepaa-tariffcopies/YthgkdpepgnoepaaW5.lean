/- A copy holds the same and is its own (the walk of TariffCopies). -/
import Derived.Test.YthgkdpepgnoepaaU3
import Derived.Test.YthgkdpepgnoepaaV8
import Derived.Test.YthgkdpepgnoepaaC2
namespace Go.Proofs.Ythgkdpepgnoepaa
open Go.RowKit

set_option maxHeartbeats 1000000 in
set_option maxRecDepth 100000 in
theorem copies_walk (w : World) (A : Ad) (t : Tf) (h : TAt w A t) : Calls Try.prog 5 #[tv A t] w fun e w' => e = .returned (.bool true) ∧ Fr (fun _ => False) w w' := by
  obtain ⟨B, HBE⟩ : ∃ B, Hid (w.heap.size = B) := ⟨_, rfl⟩
  have R0 := awake_any (w.alloc (.cells (tc A t) 27))
  have HB0 : Hid (TB (w.alloc (.cells (tc A t) 27)) B A t) := hide (by rw [← unhide HBE]; exact TB.new w A t)
  have HF0 := hide ((Fr.refl (fun _ => False) w).alloc (.cells (tc A t) 27))
  have H := hide h
  clear h
  unfold tv
  go_enter Try.func5, Try.ntmps5
  go_wp2_with fail
  rw [unhide HBE]
  refine R0.mono ?_
  rintro e w1 ⟨rfl, hF⟩
  have HB1 := hide ((unhide HB0).keep hF)
  have HF1 := hide ((unhide HF0).trans hF (fun _ _ t => t))
  clear hF HB0 HF0 R0
  go_wp2_with (refine wpList_load_tariff rfl (.tmp 1) rfl (g := B) (A := A) (t := t) rfl (unhide HB1) ?_)
  refine (lent_any w1 A t ((unhide H).keep (unhide HF1))).mono ?_
  rintro e w2 ⟨A', gS, gP, gB, rfl, hL⟩
  obtain ⟨M, HME⟩ : ∃ M, Hid (w2.heap.size = M) := ⟨_, rfl⟩
  have HG : Hid ((w2.alloc (.cells #[.slice none 0 0, .slice none 0 0, .slice none 0 0, .float .f64 0, .int .i64 0, .int .i64 0, .int .i64 0, .int .i64 0, .int .i64 0, .int .i64 0, .int .i64 0, .int .i64 0, .int .i64 0, .int .i64 0] 27)).heap[M]? = some (.cells #[.slice none 0 0, .slice none 0 0, .slice none 0 0, .float .f64 0, .int .i64 0, .int .i64 0, .int .i64 0, .int .i64 0, .int .i64 0, .int .i64 0, .int .i64 0, .int .i64 0, .int .i64 0, .int .i64 0] 27 (0, 0))) := hide (by rw [← unhide HME]; exact heap_new _ _)
  obtain ⟨w3, HW3⟩ : ∃ w3, Hid (w3 = (w2.alloc (.cells #[.slice none 0 0, .slice none 0 0, .slice none 0 0, .float .f64 0, .int .i64 0, .int .i64 0, .int .i64 0, .int .i64 0, .int .i64 0, .int .i64 0, .int .i64 0, .int .i64 0, .int .i64 0, .int .i64 0] 27)).setRow M (tc A' t)) := ⟨_, rfl⟩
  have hF23 : Fr (fun _ => False) w2 w3 := by rw [unhide HW3]; exact ((Fr.refl _ w2).alloc _).setRow (fun h => absurd h (by have := unhide HME; omega)) _
  have HB3 : Hid (TB w3 B A t) := hide (((unhide HB1).keep hL.fr).keep hF23)
  have HI3 : Hid (TB w3 M A' t) := hide (by rw [unhide HW3]; exact TB.set (unhide HG) A' t)
  have HF3 := hide (((unhide HF1).trans hL.fr (fun _ _ t => t)).trans hF23 (fun _ _ t => t))
  have HT3 : Hid (TAt w3 A' t) := hide ((hL.tat ((unhide H).keep (unhide HF1))).keep hF23)
  have HK3 := hide (hL.kp.keep hF23)
  have HQ : Hid (w.heap.size ≤ gS ∧ w.heap.size ≤ gP ∧ w.heap.size ≤ gB ∧ B ≠ gS ∧ B ≠ gP ∧ B ≠ gB) := hide (by
    have a0 := (unhide HF1).size
    have a1 := hL.oS.new
    have a2 := hL.oP.new
    have a3 := hL.oB.new
    have a4 := (unhide HB1).lt
    exact ⟨by omega, by omega, by omega, by omega, by omega, by omega⟩)
  clear hL hF23 HB1 HF1
  go_wp2_with (first | (rw [unhide HME]; refine wpList_store_tariff rfl (.tmp 4) (.tmp 15) rfl (g := M) (A := A') (t := t) rfl rfl _ (unhide HG) rfl ?_; rw [← unhide HW3]) | refine wpList_load_tariff rfl (.tmp 4) rfl (g := M) (A := A') (t := t) rfl (unhide HI3) ?_)
  have HLW : Hid (w.heap.size ≤ w3.heap.size ∧ B < w3.heap.size ∧ gS < w3.heap.size ∧ gP < w3.heap.size ∧ gB < w3.heap.size) := hide ⟨(unhide HF3).size, (unhide HB3).lt, (unhide HK3).rS.lt (by omega) (unhide HK3).pS, (unhide HK3).rP.lt (by omega) (unhide HK3).pP, (unhide HK3).rB.lt (by omega) (unhide HK3).pB⟩
  obtain ⟨lo, HLO⟩ : ∃ lo, Hid (w3.heap.size = lo) := ⟨_, rfl⟩
  refine (clone_any w3 A' t (unhide HT3)).mono ?_
  rintro e w4 ⟨A1, g0, g1, g2, rfl, hC⟩
  clear HG HW3 HME
  obtain ⟨M1, HM1⟩ : ∃ M1, Hid (w4.heap.size = M1) := ⟨_, rfl⟩
  have HG1 : Hid ((w4.alloc (.cells #[.slice none 0 0, .slice none 0 0, .slice none 0 0, .float .f64 0, .int .i64 0, .int .i64 0, .int .i64 0, .int .i64 0, .int .i64 0, .int .i64 0, .int .i64 0, .int .i64 0, .int .i64 0, .int .i64 0] 27)).heap[M1]? = some (.cells #[.slice none 0 0, .slice none 0 0, .slice none 0 0, .float .f64 0, .int .i64 0, .int .i64 0, .int .i64 0, .int .i64 0, .int .i64 0, .int .i64 0, .int .i64 0, .int .i64 0, .int .i64 0, .int .i64 0] 27 (0, 0))) := hide (by rw [← unhide HM1]; exact heap_new _ _)
  obtain ⟨w5, HW5⟩ : ∃ w5, Hid (w5 = (w4.alloc (.cells #[.slice none 0 0, .slice none 0 0, .slice none 0 0, .float .f64 0, .int .i64 0, .int .i64 0, .int .i64 0, .int .i64 0, .int .i64 0, .int .i64 0, .int .i64 0, .int .i64 0, .int .i64 0, .int .i64 0] 27)).setRow M1 (tc A1 t)) := ⟨_, rfl⟩
  obtain ⟨hi, HHI⟩ : ∃ hi, Hid (w5.heap.size = hi) := ⟨_, rfl⟩
  have hF45 : Fr (fun _ => False) w4 w5 := by rw [unhide HW5]; exact ((Fr.refl _ w4).alloc _).setRow (fun h => absurd h (by have := unhide HM1; omega)) _
  have hF35 := hC.fr.trans hF45 (fun _ _ t => t)
  have HS5 : Hid (St w5 w5 lo hi M1 A1 t g0 g1 g2 (stV t.st) (spV t.sp) (bdV t.bd)) := hide (by
    have htb : TB w5 M1 A1 t := by rw [unhide HW5]; exact TB.set (unhide HG1) A1 t
    have e1 := unhide HLO
    have e2 := unhide HM1
    have e3 := unhide HHI
    have s1 := hC.fr.size
    have s2 := htb.lt
    refine ⟨Fr.refl _ _, htb, hC.rS.keep (by omega) hF45, hC.rP.keep (by omega) hF45, hC.rB.keep (by omega) hF45, fun hp => ?_, fun hp => ?_, fun hp => ?_, hC.n1, hC.n2, hC.n3, ⟨by omega, by omega, by omega⟩⟩
    · have a1 := hC.nS hp; have a2 := hC.rS.lt (by omega) hp; exact ⟨by omega, by omega, .inl (by omega)⟩
    · have a1 := hC.nP hp; have a2 := hC.rP.lt (by omega) hp; exact ⟨by omega, by omega, .inl (by omega)⟩
    · have a1 := hC.nB hp; have a2 := hC.rB.lt (by omega) hp; exact ⟨by omega, by omega, .inl (by omega)⟩)
  have HB5 := hide ((unhide HB3).keep hF35)
  have HI5 := hide ((unhide HI3).keep hF35)
  have HF5 := hide ((unhide HF3).trans hF35 (fun _ _ t => t))
  have HT5 := hide ((unhide HT3).keep hF35)
  have HK5 := hide ((unhide HK3).keep hF35)
  clear hC hF45 hF35 HB3 HI3 HF3 HT3 HK3
  go_wp2_with (first | (rw [unhide HM1]; refine wpList_store_tariff rfl (.tmp 5) (.tmp 17) rfl (g := M1) (A := A1) (t := t) rfl rfl _ (unhide HG1) rfl ?_; rw [← unhide HW5]) | refine wpList_load_tariff rfl (.tmp 4) rfl (g := M) (A := A') (t := t) rfl (unhide HI5) ?_)
  refine (clone_any w5 A' t (unhide HT5)).mono ?_
  rintro e w6 ⟨A2, h0, h1, h2, rfl, hC⟩
  clear HG1 HW5 HM1
  obtain ⟨M2, HM2⟩ : ∃ M2, Hid (w6.heap.size = M2) := ⟨_, rfl⟩
  have HG2 : Hid ((w6.alloc (.cells #[.slice none 0 0, .slice none 0 0, .slice none 0 0, .float .f64 0, .int .i64 0, .int .i64 0, .int .i64 0, .int .i64 0, .int .i64 0, .int .i64 0, .int .i64 0, .int .i64 0, .int .i64 0, .int .i64 0] 27)).heap[M2]? = some (.cells #[.slice none 0 0, .slice none 0 0, .slice none 0 0, .float .f64 0, .int .i64 0, .int .i64 0, .int .i64 0, .int .i64 0, .int .i64 0, .int .i64 0, .int .i64 0, .int .i64 0, .int .i64 0, .int .i64 0] 27 (0, 0))) := hide (by rw [← unhide HM2]; exact heap_new _ _)
  obtain ⟨w7, HW7⟩ : ∃ w7, Hid (w7 = (w6.alloc (.cells #[.slice none 0 0, .slice none 0 0, .slice none 0 0, .float .f64 0, .int .i64 0, .int .i64 0, .int .i64 0, .int .i64 0, .int .i64 0, .int .i64 0, .int .i64 0, .int .i64 0, .int .i64 0, .int .i64 0] 27)).setRow M2 (tc A2 t)) := ⟨_, rfl⟩
  have hF67 : Fr (fun _ => False) w6 w7 := by rw [unhide HW7]; exact ((Fr.refl _ w6).alloc _).setRow (fun h => absurd h (by have := unhide HM2; omega)) _
  have hF57 := hC.fr.trans hF67 (fun _ _ t => t)
  have HD7 : Hid (Tw w7 hi M2 A2 t h0 h1 h2) := hide (by
    have e2 := unhide HM2
    have e3 := unhide HHI
    have s1 := hC.fr.size
    refine ⟨by rw [unhide HW7]; exact TB.set (unhide HG2) A2 t, hC.rS.keep (by omega) hF67, hC.rP.keep (by omega) hF67, hC.rB.keep (by omega) hF67, fun hp => ?_, fun hp => ?_, fun hp => ?_, by omega⟩
    · have a1 := hC.nS hp; omega
    · have a1 := hC.nP hp; omega
    · have a1 := hC.nB hp; omega)
  have HS7 := hide ((unhide HS5).base hF57 (fun _ _ _ t => t))
  have HB7 := hide ((unhide HB5).keep hF57)
  have HI7 := hide ((unhide HI5).keep hF57)
  have HF7 := hide ((unhide HF5).trans hF57 (fun _ _ t => t))
  have HT7 := hide ((unhide HT5).keep hF57)
  have HK7 := hide ((unhide HK5).keep hF57)
  have HLH : Hid (lo ≤ hi) := hide (by have := (unhide HS5).b; omega)
  clear hC hF67 hF57 HB5 HI5 HF5 HT5 HK5 HS5
  go_wp2_with (first | (rw [unhide HM2]; refine wpList_store_tariff rfl (.tmp 6) (.tmp 19) rfl (g := M2) (A := A2) (t := t) rfl rfl _ (unhide HG2) rfl ?_; rw [← unhide HW7]) | refine wpList_load_tariff rfl (.tmp 4) rfl (g := M) (A := A') (t := t) rfl (unhide HI7) ?_ | refine wpList_load_tariff rfl (.tmp 1) rfl (g := B) (A := A) (t := t) rfl (unhide HB7) ?_)
  refine (kept_any w7 A' A t gS gP gB (unhide HT7) ((unhide H).keep (unhide HF7)) (unhide HK7)).mono ?_
  rintro e w8 ⟨rfl, hF⟩
  clear HG2 HW7 HM2
  have HB8 := hide ((unhide HB7).frame hF (by have := unhide HQ; omega))
  have HF8 : Hid (Fr (fun _ => False) w w8) := hide ((unhide HF7).trans hF (fun q hq hh => by have := unhide HQ; omega))
  have HS8 := hide ((unhide HS7).base hF (fun q h1 h2 hh => by have := unhide HLW; have := unhide HLO; omega))
  have HD8 := hide ((unhide HD7).frame hF (fun q h1 hh => by have := unhide HLW; have := unhide HLO; have := unhide HLH; omega))
  clear hF HB7 HI7 HF7 HT7 HK7 HS7 HD7
  have R := same_any w8 A1 A t ((unhide HS8).tat (unhide H)) ((unhide H).keep (unhide HF8))
  go_wp2_with (first | refine wpList_load_tariff rfl (.tmp 5) rfl (g := M1) (A := A1) (t := t) rfl (unhide HS8).tb ?_ | refine wpList_load_tariff rfl (.tmp 1) rfl (g := B) (A := A) (t := t) rfl (unhide HB8) ?_)
  refine R.mono ?_
  rintro e Z ⟨rfl, hF⟩
  have HB9 := hide ((unhide HB8).keep hF)
  have HF9 := hide ((unhide HF8).trans hF (fun _ _ t => t))
  have HS9 := hide ((unhide HS8).base hF (fun _ _ _ t => t))
  have HD9 := hide ((unhide HD8).frame hF (fun _ _ t => t))
  clear hF HB8 HF8 HS8 HD8 R
  obtain ⟨i0, hi0, hz0⟩ := Option.map_eq_some_iff.1 info35
  simp only [Prod.mk.injEq] at hz0
  obtain ⟨hza0, hzs0, hzy0⟩ := hz0
  have c0 : Z.cell? ⟨M1, 0, none⟩ = some (.slice A1.aS t.st.length A1.cS) := (unhide HS9).tb.cell 0
  have HSRC0 : Hid (Src Try.prog 3 22 (.slice (some ⟨Z.heap.size, 0, none⟩) 1 1) 1 [.int .i64 1, .int .i64 0, .int .i64 0] (Z.alloc (.cells #[.int .i64 1, .int .i64 0, .int .i64 0] 35))) := hide (src_new' Z [.int .i64 1, .int .i64 0, .int .i64 0] 22 35 3 Try.underlying22 rfl (by simp [Value.oneCell']) (fun j => by rw [World.cell?_alloc_new]; simp))
  have HR0 := hide ((unhide HS9).r0.keep (by omega) ((Fr.refl _ Z).alloc (.cells #[.int .i64 1, .int .i64 0, .int .i64 0] 35)))
  have HL0 : Hid ((t.st.length + 1) * i0.bytes ≤ 140737488355328) := hide (by rw [hzy0]; exact (unhide H).lS)
  have HLM0 : Hid (t.st.length + 1 ≤ 140737488355328) := hide (by have := (unhide H).lS; omega)
  have HI0 := hide hi0
  have HZA0 := hide hza0
  have HZS0 := hide hzs0
  clear hi0 hza0 hzs0 hzy0
  go_wp2_with (at_builtin; refine wpList_append_krow _ rfl (.tmp 27) (.tmp 29) 22 22 rfl 35 i0 _ 3 (by omega) Try.underlying22 (unhide HI0) (unhide HZA0) rfl (unhide HZS0) rfl (unhide HR0) (stV_length _) _ _ 1 rfl (unhide HSRC0) (unhide HL0) (unhide HLM0) ?_)
  intro a0' k0' v0 g0' hrow hgr
  have HSa := hide ((unhide HS9).app0 _ hgr hrow)
  have tbg := (unhide HS9).tbg0 _ hgr
  have cw0 : v0.cell? ⟨M1, 0, none⟩ = some (.slice A1.aS t.st.length A1.cS) := tbg.cell 0
  have fw0 := tbg.frozen 0
  have HP0 : Hid (0 < k0' ∧ t.st.length + 1 ≤ k0' ∧ a0' = some ⟨g0', 0, none⟩) := hide (by
    have h1 := hrow.le
    rw [List.length_append, stV_length] at h1
    simp only [List.length_cons, List.length_nil] at h1
    have h2 : 0 < k0' := by omega
    exact ⟨h2, by omega, hrow.ad h2⟩)
  clear hrow hgr tbg c0 HSRC0 HR0 HL0 HLM0 HI0 HZA0 HZS0 HS9
  obtain ⟨i1, hi1, hz1⟩ := Option.map_eq_some_iff.1 info39
  simp only [Prod.mk.injEq] at hz1
  obtain ⟨hza1, hzs1, hzy1⟩ := hz1
  have c1 : (v0.setCell ⟨M1, 0, none⟩ (.slice a0' (t.st.length + 1) k0')).cell? ⟨M1, 1, none⟩ = some (.slice A1.aP t.sp.length A1.cP) := (unhide HSa).tb.cell 1
  have HSRC1 : Hid (Src Try.prog 5 23 (.slice (some ⟨v0.heap.size, 0, none⟩) 1 1) 1 [.int .i64 1, .int .i64 0, .int .i64 0, .int .i64 0, .int .i64 0] ((v0.setCell ⟨M1, 0, none⟩ (.slice a0' (t.st.length + 1) k0')).alloc (.cells #[.int .i64 1, .int .i64 0, .int .i64 0, .int .i64 0, .int .i64 0] 39))) := hide (src_new' v0 [.int .i64 1, .int .i64 0, .int .i64 0, .int .i64 0, .int .i64 0] 23 39 5 Try.underlying23 rfl (by simp [Value.oneCell']) (fun j => by rw [show v0.heap.size = (v0.setCell ⟨M1, 0, none⟩ (.slice a0' (t.st.length + 1) k0')).heap.size by simp [World.setCell], World.cell?_alloc_new]; simp))
  have HR1 := hide ((unhide HSa).r1.keep (by omega) ((Fr.refl _ (v0.setCell ⟨M1, 0, none⟩ (.slice a0' (t.st.length + 1) k0'))).alloc (.cells #[.int .i64 1, .int .i64 0, .int .i64 0, .int .i64 0, .int .i64 0] 39)))
  have HL1 : Hid ((t.sp.length + 1) * i1.bytes ≤ 140737488355328) := hide (by rw [hzy1]; exact (unhide H).lP)
  have HLM1 : Hid (t.sp.length + 1 ≤ 140737488355328) := hide (by have := (unhide H).lP; omega)
  have HI1 := hide hi1
  have HZA1 := hide hza1
  have HZS1 := hide hzs1
  clear hi1 hza1 hzs1 hzy1
  go_wp2_with (at_builtin; refine wpList_append_krow _ rfl (.tmp 33) (.tmp 35) 23 23 rfl 39 i1 _ 5 (by omega) Try.underlying23 (unhide HI1) (unhide HZA1) rfl (unhide HZS1) rfl (unhide HR1) (spV_length _) _ _ 1 rfl (unhide HSRC1) (unhide HL1) (unhide HLM1) ?_)
  intro a1' k1' v1 g1' hrow hgr
  have HSb := hide ((unhide HSa).app1 _ hgr hrow)
  have tbg := (unhide HSa).tbg1 _ hgr
  have cw1 : v1.cell? ⟨M1, 1, none⟩ = some (.slice A1.aP t.sp.length A1.cP) := tbg.cell 1
  have fw1 := tbg.frozen 1
  have HP1 : Hid (0 < k1' ∧ t.sp.length + 1 ≤ k1' ∧ a1' = some ⟨g1', 0, none⟩) := hide (by
    have h1 := hrow.le
    rw [List.length_append, spV_length] at h1
    simp only [List.length_cons, List.length_nil] at h1
    have h2 : 0 < k1' := by omega
    exact ⟨h2, by omega, hrow.ad h2⟩)
  clear hrow hgr tbg c1 HSRC1 HR1 HL1 HLM1 HI1 HZA1 HZS1 HSa
  obtain ⟨i2, hi2, hz2⟩ := Option.map_eq_some_iff.1 info46
  simp only [Prod.mk.injEq] at hz2
  obtain ⟨hza2, hzs2, hzy2⟩ := hz2
  have c2 : (v1.setCell ⟨M1, 1, none⟩ (.slice a1' (t.sp.length + 1) k1')).cell? ⟨M1, 2, none⟩ = some (.slice A1.aB t.bd.length A1.cB) := (unhide HSb).tb.cell 2
  have HSRC2 : Hid (Src Try.prog 2 24 (.slice (some ⟨v1.heap.size, 0, none⟩) 1 1) 1 [.int .i64 1, .int .i64 0] ((v1.setCell ⟨M1, 1, none⟩ (.slice a1' (t.sp.length + 1) k1')).alloc (.cells #[.int .i64 1, .int .i64 0] 46))) := hide (src_new' v1 [.int .i64 1, .int .i64 0] 24 46 2 Try.underlying24 rfl (by simp [Value.oneCell']) (fun j => by rw [show v1.heap.size = (v1.setCell ⟨M1, 1, none⟩ (.slice a1' (t.sp.length + 1) k1')).heap.size by simp [World.setCell], World.cell?_alloc_new]; simp))
  have HR2 := hide ((unhide HSb).r2.keep (by omega) ((Fr.refl _ (v1.setCell ⟨M1, 1, none⟩ (.slice a1' (t.sp.length + 1) k1'))).alloc (.cells #[.int .i64 1, .int .i64 0] 46)))
  have HL2 : Hid ((t.bd.length + 1) * i2.bytes ≤ 140737488355328) := hide (by rw [hzy2]; exact (unhide H).lB)
  have HLM2 : Hid (t.bd.length + 1 ≤ 140737488355328) := hide (by have := (unhide H).lB; omega)
  have HI2 := hide hi2
  have HZA2 := hide hza2
  have HZS2 := hide hzs2
  clear hi2 hza2 hzs2 hzy2
  go_wp2_with (at_builtin; refine wpList_append_krow _ rfl (.tmp 39) (.tmp 41) 24 24 rfl 46 i2 _ 2 (by omega) Try.underlying24 (unhide HI2) (unhide HZA2) rfl (unhide HZS2) rfl (unhide HR2) (bdV_length _) _ _ 1 rfl (unhide HSRC2) (unhide HL2) (unhide HLM2) ?_)
  intro a2' k2' v2 g2' hrow hgr
  have HSc := hide ((unhide HSb).app2 _ hgr hrow)
  have tbg := (unhide HSb).tbg2 _ hgr
  have cw2 : v2.cell? ⟨M1, 2, none⟩ = some (.slice A1.aB t.bd.length A1.cB) := tbg.cell 2
  have fw2 := tbg.frozen 2
  have HP2 : Hid (0 < k2' ∧ t.bd.length + 1 ≤ k2' ∧ a2' = some ⟨g2', 0, none⟩) := hide (by
    have h1 := hrow.le
    rw [List.length_append, bdV_length] at h1
    simp only [List.length_cons, List.length_nil] at h1
    have h2 : 0 < k2' := by omega
    exact ⟨h2, by omega, hrow.ad h2⟩)
  clear hrow hgr tbg c2 HSRC2 HR2 HL2 HLM2 HI2 HZA2 HZS2 HSb
  have HPP := hide (And.intro ((unhide HSc).p0 (unhide HP0).1) (And.intro ((unhide HSc).p1 (unhide HP1).1) ((unhide HSc).p2 (unhide HP2).1)))
  obtain ⟨hq0, hq0', e0⟩ := unhide HP0
  obtain ⟨hq1, hq1', e1⟩ := unhide HP1
  obtain ⟨hq2, hq2', e2⟩ := unhide HP2
  clear HP0 HP1 HP2
  subst e0 e1 e2
  have HLP : Hid (Lp Z (v2.setCell ⟨M1, 2, none⟩ (.slice (some ⟨g2', 0, none⟩) (t.bd.length + 1) k2')) lo hi M1 ⟨some ⟨g0', 0, none⟩, k0', some ⟨g1', 0, none⟩, k1', some ⟨g2', 0, none⟩, k2'⟩ { t with st := t.st ++ [⟨1, 0, 0⟩], sp := t.sp ++ [⟨1, 0, 0, 0, 0⟩], bd := t.bd ++ [(1, 0)] } g0' g1' g2') := hide (unhide HSc).lp
  clear HSc
  go_wp2
  clear cw0 cw1 cw2 fw0 fw1 fw2
  generalize (v2.setCell ⟨M1, 2, none⟩ (.slice (some ⟨g2', 0, none⟩) (t.bd.length + 1) k2')) = Y at *
  go_loopw [9] (fun iv wq => ∃ (i : Nat), i ≤ t.st.length + 1 ∧ iv = .int .i64 i ∧ Hid (Lp Z wq lo hi M1 ⟨some ⟨g0', 0, none⟩, k0', some ⟨g1', 0, none⟩, k1', some ⟨g2', 0, none⟩, k2'⟩ { t with st := t.st ++ [⟨1, 0, 0⟩], sp := t.sp ++ [⟨1, 0, 0, 0, 0⟩], bd := t.bd ++ [(1, 0)] } g0' g1' g2')) (fun iv _ => t.st.length + 1 - (intOf iv).toNat)
  case atStart => exact ⟨0, Nat.zero_le _, rfl, HLP⟩
  case round =>
    obtain ⟨i, hj, rfl, HL0⟩ := hrel
    have cc := (unhide HL0).tb.cell 0
    simp only [tc, List.length_append, List.length_cons, List.length_nil, Nat.zero_add] at cc
    simp at cc
    have hlen : t.st.length + 1 ≤ 140737488355328 := by have := (unhide H).lS; omega
    by_cases hil : i < t.st.length + 1
    · obtain ⟨⟨z0, a0⟩, f0⟩ := (unhide HL0).r.1 (i * 3 + 1) (by show i * 3 + 1 < k0' * 3; omega)
      have HN := hide ((unhide HL0).put (unhide HPP).1 (i * 3 + 1) (.int .i64 (-3)))
      clear HL0
      go_wp2
      exact ⟨⟨i + 1, by omega, by go_num, unhide HN⟩, by simp [intOf]; omega⟩
    · obtain rfl : i = t.st.length + 1 := by omega
      go_wp2
      clear cc hlen hj hil
      go_loopw [10] (fun iv wq => ∃ (i : Nat), i ≤ t.sp.length + 1 ∧ iv = .int .i64 i ∧ Hid (Lp Z wq lo hi M1 ⟨some ⟨g0', 0, none⟩, k0', some ⟨g1', 0, none⟩, k1', some ⟨g2', 0, none⟩, k2'⟩ { t with st := t.st ++ [⟨1, 0, 0⟩], sp := t.sp ++ [⟨1, 0, 0, 0, 0⟩], bd := t.bd ++ [(1, 0)] } g0' g1' g2')) (fun iv _ => t.sp.length + 1 - (intOf iv).toNat)
      case atStart => exact ⟨0, Nat.zero_le _, rfl, HL0⟩
      case round =>
        obtain ⟨i, hj, rfl, HL1⟩ := hrel
        have cc := (unhide HL1).tb.cell 1
        simp only [tc, List.length_append, List.length_cons, List.length_nil, Nat.zero_add] at cc
        simp at cc
        have hlen : t.sp.length + 1 ≤ 140737488355328 := by have := (unhide H).lP; omega
        by_cases hil : i < t.sp.length + 1
        · obtain ⟨⟨z0, a0⟩, f0⟩ := (unhide HL1).r.2.1 (i * 5 + 2) (by show i * 5 + 2 < k1' * 5; omega)
          have HN := hide ((unhide HL1).put (unhide HPP).2.1 (i * 5 + 2) (.int .i64 (-3)))
          clear HL1
          go_wp2
          exact ⟨⟨i + 1, by omega, by go_num, unhide HN⟩, by simp [intOf]; omega⟩
        · obtain rfl : i = t.sp.length + 1 := by omega
          go_wp2
          clear cc hlen hj hil
          go_loopw [11] (fun iv wq => ∃ (i : Nat), i ≤ t.bd.length + 1 ∧ iv = .int .i64 i ∧ Hid (Lp Z wq lo hi M1 ⟨some ⟨g0', 0, none⟩, k0', some ⟨g1', 0, none⟩, k1', some ⟨g2', 0, none⟩, k2'⟩ { t with st := t.st ++ [⟨1, 0, 0⟩], sp := t.sp ++ [⟨1, 0, 0, 0, 0⟩], bd := t.bd ++ [(1, 0)] } g0' g1' g2')) (fun iv _ => t.bd.length + 1 - (intOf iv).toNat)
          case atStart => exact ⟨0, Nat.zero_le _, rfl, HL1⟩
          case round =>
            obtain ⟨i, hj, rfl, HL2⟩ := hrel
            have cc := (unhide HL2).tb.cell 2
            simp only [tc, List.length_append, List.length_cons, List.length_nil, Nat.zero_add] at cc
            simp at cc
            have hlen : t.bd.length + 1 ≤ 140737488355328 := by have := (unhide H).lB; omega
            by_cases hil : i < t.bd.length + 1
            · obtain ⟨⟨z0, a0⟩, f0⟩ := (unhide HL2).r.2.2 (i * 2 + 1) (by show i * 2 + 1 < k2' * 2; omega)
              have HN := hide ((unhide HL2).put (unhide HPP).2.2 (i * 2 + 1) (.int .i64 (-3)))
              clear HL2
              go_wp2
              exact ⟨⟨i + 1, by omega, by go_num, unhide HN⟩, by simp [intOf]; omega⟩
            · obtain rfl : i = t.bd.length + 1 := by omega
              have HDe := hide ((unhide HD9).frame (unhide HL2).fr (fun q h1 h2 => by omega))
              have HBe := hide ((unhide HB9).frame (unhide HL2).fr (fun h2 => by have := unhide HLW; have := unhide HLO; omega))
              have HFe : Hid (Fr (fun _ => False) w _) := hide ((unhide HF9).trans (unhide HL2).fr (fun q hq h2 => by have := unhide HLW; have := unhide HLO; omega))
              have R := same_any _ A2 A t ((unhide HDe).tat (unhide H)) ((unhide H).keep (unhide HFe))
              clear HL2
              go_wp2_with (first | refine wpList_load_tariff rfl (.tmp 6) rfl (g := M2) (A := A2) (t := t) rfl (unhide HDe).tb ?_ | refine wpList_load_tariff rfl (.tmp 1) rfl (g := B) (A := A) (t := t) rfl (unhide HBe) ?_)
              refine R.mono ?_
              rintro e w' ⟨rfl, hF⟩
              have HFz := hide ((unhide HFe).trans hF (fun _ _ t => t))
              clear hF R HDe HBe HFe cc
              go_wp2
              go_ret
              exact ⟨by first | rfl | simp, unhide HFz⟩

end Go.Proofs.Ythgkdpepgnoepaa
