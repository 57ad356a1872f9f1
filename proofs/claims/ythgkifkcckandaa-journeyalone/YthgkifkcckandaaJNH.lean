import Derived.Test.YthgkifkcckandaaJNG
import Derived.Test.YthgkifkcckandaaQUX
/- The examples. -/
namespace Go.Proofs.Ythgkifkcckandaa
open Go.RowKit

def tok8 : ByteArray := ⟨#[97, 98, 99, 100, 101, 102, 103, 104]⟩
def exTap (c k q r : Int) : Tp := ⟨1, c, tok8, k, q, r⟩

theorem tapF_any (w : World) (c k q m r : Int) (hr : IntKind.i64.wrap (480 + m) = r) : Calls Try.prog 12 #[.int .i64 c, .int .i64 k, .int .i64 q, .int .i64 m] w fun e w' => e = .returned (.agg #[.int .i64 1, .int .i64 c, .string tok8, .int .i64 k, .int .i64 q, .int .i64 r]) ∧ Fr (fun _ => False) w w' := by
  go_enter Try.func12, Try.ntmps12
  go_wp2
  refine bodyPost_ret (v := .agg #[.int .i64 1, .int .i64 c, .string tok8, .int .i64 k, .int .i64 q, .int .i64 r]) (by simp [results, Try.results12, go_sem, tok8]) rfl ⟨rfl, ?_⟩
  repeat (with_reducible (first | exact Fr.refl _ _ | refine Fr.setN (Nat.lt_irrefl _) ?_ _ _ | refine Fr.alloc ?_ _ | refine Fr.drew ?_))

def ex1 : List Tp := [exTap 1 1 1 480, exTap 2 2 2 510, exTap 3 3 9 520]
def ex2 : List Tp := [exTap 1 1 1 480, exTap 2 2 2 601]
def ex3 : List Tp := [exTap 1 1 1 480, exTap 2 2 2 1920]

theorem ex1_e : buildE (rightE plainT) ex1 = 0 := by decide +kernel
theorem ex2_e : buildE (rightE plainT) ex2 = 0 := by decide +kernel
theorem ex3_e : rightT ex3 = 0 := by decide +kernel
theorem ex1_j : buildJ (tmOf plainT) (rightE plainT) ex1 = [⟨1, 1, 2, 480, 510, false⟩, ⟨4, 9, 9, 520, 520, false⟩] := by rfl
theorem ex2_j : buildJ (tmOf plainT) (rightE plainT) ex2 = [⟨2, 1, 1, 480, 480, false⟩, ⟨3, 2, 2, 601, 601, false⟩] := by rfl
theorem ex3_j : (daysL ex3).length = 2 := by rfl

theorem cat_built {w : World} {A : Ad} (hT : TAt w A plainT) (l : List Tp) (hl : l.length ≤ 100) (n : Nat) (js : List Jn) (he : buildE (rightE plainT) l = 0) (hj : buildJ (tmOf plainT) (rightE plainT) l = js) (hn : l.length = n) :
    Hid (∀ (u : World) (b cap : Nat), Fr (fun _ => False) w u → CAt u (some ⟨b, 0, none⟩) (tpV l) → Calls Try.prog 8 #[tv A plainT, .slice (some ⟨b, 0, none⟩) n cap] u fun e w' =>
      ∃ ao cap g, e = .returned (.tuple #[.slice ao js.length cap, .int .i64 0]) ∧ KRow w' ao cap g 6 (jV js) ∧ (0 < cap → u.heap.size ≤ g) ∧ Fr (fun _ => False) u w') := hide (fun u b cap hu hc => by
  subst hn
  refine (build_any u A plainT (hT.keep hu) (some ⟨b, 0, none⟩) cap l hc (by omega)).mono ?_
  rintro e w' ⟨ao, cap', g, rfl, hK, hg, hF⟩
  rw [he, hj] at *
  exact ⟨ao, cap', g, rfl, hK, hg, hF⟩)

theorem days_built (u : World) (b : Nat) : Hid (CAt u (some ⟨b, 0, none⟩) (tpV ex3) → Calls Try.prog 13 #[.slice (some ⟨b, 0, none⟩) 2 2] u fun e w' => ∃ ao cap, e = .returned (.tuple #[.slice ao 2 cap, .int .i64 0]) ∧ Fr (fun _ => False) u w') := hide (fun hc => by
  have l3 : ex3.length = 2 := rfl
  have := days_any u (some ⟨b, 0, none⟩) 2 ex3 hc (by omega) (by omega)
  rw [l3] at this
  refine this.mono ?_
  rintro e w' ⟨ao, cap, g, ds, rfl, _, hd, hF⟩
  rw [if_pos ex3_e] at hd
  have hl : ds.length = 2 := by rw [← List.length_map (f := DR.tp), hd]; exact ex3_j
  exact ⟨ao, cap, by rw [hl, ex3_e], hF⟩)

set_option maxHeartbeats 2000000 in
theorem awake_anyJ (w : World) : Calls Try.prog 7 #[] w fun e w' => e = .returned (.bool true) ∧ Fr (fun _ => False) w w' := by
  go_enter Try.func7, Try.ntmps7
  go_wp2_with fail
  refine (plain_any _).mono ?_
  rintro e w1 ⟨A, rfl, hT, hF1⟩
  have HG : Hid ((w1.alloc (.cells #[.slice none 0 0, .slice none 0 0, .slice none 0 0, .float .f64 0, .int .i64 0, .int .i64 0, .int .i64 0, .int .i64 0, .int .i64 0, .int .i64 0, .int .i64 0, .int .i64 0, .int .i64 0, .int .i64 0] 27)).heap[w1.heap.size]? = some (.cells #[.slice none 0 0, .slice none 0 0, .slice none 0 0, .float .f64 0, .int .i64 0, .int .i64 0, .int .i64 0, .int .i64 0, .int .i64 0, .int .i64 0, .int .i64 0, .int .i64 0, .int .i64 0, .int .i64 0] 27 (0, 0))) := hide (heap_new _ _)
  obtain ⟨v, hv⟩ : ∃ v, v = (w1.alloc (.cells #[.slice none 0 0, .slice none 0 0, .slice none 0 0, .float .f64 0, .int .i64 0, .int .i64 0, .int .i64 0, .int .i64 0, .int .i64 0, .int .i64 0, .int .i64 0, .int .i64 0, .int .i64 0, .int .i64 0] 27)).setRow w1.heap.size (tc A plainT) := ⟨_, rfl⟩
  have hB : TB v w1.heap.size A plainT := by rw [hv]; exact TB.set (unhide HG) A plainT
  have hFv : Fr (fun _ => False) w1 v := by rw [hv]; exact ((Fr.refl _ w1).alloc _).setRow (fun h => absurd h (Nat.lt_irrefl _)) _
  have HFV := hide (hF1.trans hFv (fun _ _ t => t))
  have HTV := hide (hT.keep hFv)
  have HV := hide hv
  have HTB := hide hB
  clear hv hB hFv hF1 hT
  go_wp2_with (refine wpList_store_tariff rfl (.tmp 1) (.tmp 8) rfl (g := w1.heap.size) (A := A) (t := plainT) rfl rfl _ (unhide HG) rfl ?_)
  rw [← unhide HV]
  simp only [Act.put]
  obtain ⟨B, hBB⟩ : ∃ B, B = w1.heap.size := ⟨_, rfl⟩
  rw [← hBB] at HTB ⊢
  clear hBB HV HG
  have HCB : Hid (∀ u, Fr (fun _ => False) v u → u.cell? ⟨B, 0, none⟩ = some (.slice A.aS plainT.st.length A.cS) ∧ u.cell? ⟨B, 1, none⟩ = some (.slice A.aP plainT.sp.length A.cP) ∧ u.cell? ⟨B, 2, none⟩ = some (.slice A.aB plainT.bd.length A.cB) ∧ u.cell? ⟨B, 3, none⟩ = some (.float .f64 plainT.off) ∧ u.cell? ⟨B, 4, none⟩ = some (.int .i64 plainT.bus) ∧ u.cell? ⟨B, 5, none⟩ = some (.int .i64 plainT.busDaily) ∧ u.cell? ⟨B, 6, none⟩ = some (.int .i64 plainT.busWeekly) ∧ u.cell? ⟨B, 7, none⟩ = some (.int .i64 plainT.hopper) ∧ u.cell? ⟨B, 8, none⟩ = some (.int .i64 plainT.most) ∧ u.cell? ⟨B, 9, none⟩ = some (.int .i64 plainT.longest) ∧ u.cell? ⟨B, 10, none⟩ = some (.int .i64 plainT.change) ∧ u.cell? ⟨B, 11, none⟩ = some (.int .i64 plainT.passback) ∧ u.cell? ⟨B, 12, none⟩ = some (.int .i64 plainT.delay) ∧ u.cell? ⟨B, 13, none⟩ = some (.int .i64 plainT.threshold)) := hide (fun u hf => by
    have h1 := (unhide HTB).keep hf
    exact ⟨h1.cell 0, h1.cell 1, h1.cell 2, h1.cell 3, h1.cell 4, h1.cell 5, h1.cell 6, h1.cell 7, h1.cell 8, h1.cell 9, h1.cell 10, h1.cell 11, h1.cell 12, h1.cell 13⟩)
  obtain ⟨d0, d1, d2, d3, d4, d5, d6, d7, d8, d9, d10, d11, d12, d13⟩ := unhide HCB v (Fr.refl _ _)
  have l1 : ex1.length = 3 := rfl
  have l2 : ex2.length = 2 := rfl
  have RB1 := cat_built (unhide HTV) ex1 (by omega) 3 _ ex1_e ex1_j l1
  have RB2 := cat_built (unhide HTV) ex2 (by omega) 2 _ ex2_e ex2_j l2
  clear l1 l2
  unfold tv tc at RB1 RB2
  simp only [List.length_cons, List.length_nil] at RB1 RB2
  generalize plainT = T0 at *
  go_cut [2, 3] from 9 to 17 (fun lv ev wc => ∃ ao cap g, lv = .slice ao 2 cap ∧ ev = .int .i64 0 ∧ Hid (KRow wc ao cap g 6 (jV [⟨1, 1, 2, 480, 510, false⟩, ⟨4, 9, 9, 520, 520, false⟩]) ∧ Fr (fun _ => False) v wc))
  case first =>
    go_region_held3 (fun u => u.cell? ⟨B, 0, none⟩ = some (.slice A.aS T0.st.length A.cS) ∧ u.cell? ⟨B, 1, none⟩ = some (.slice A.aP T0.sp.length A.cP) ∧ u.cell? ⟨B, 2, none⟩ = some (.slice A.aB T0.bd.length A.cB) ∧ u.cell? ⟨B, 3, none⟩ = some (.float .f64 T0.off) ∧ u.cell? ⟨B, 4, none⟩ = some (.int .i64 T0.bus) ∧ u.cell? ⟨B, 5, none⟩ = some (.int .i64 T0.busDaily) ∧ u.cell? ⟨B, 6, none⟩ = some (.int .i64 T0.busWeekly) ∧ u.cell? ⟨B, 7, none⟩ = some (.int .i64 T0.hopper) ∧ u.cell? ⟨B, 8, none⟩ = some (.int .i64 T0.most) ∧ u.cell? ⟨B, 9, none⟩ = some (.int .i64 T0.longest) ∧ u.cell? ⟨B, 10, none⟩ = some (.int .i64 T0.change) ∧ u.cell? ⟨B, 11, none⟩ = some (.int .i64 T0.passback) ∧ u.cell? ⟨B, 12, none⟩ = some (.int .i64 T0.delay) ∧ u.cell? ⟨B, 13, none⟩ = some (.int .i64 T0.threshold))
      ((refine unhide HCB _ ?_; repeat (first | (with_reducible exact Fr.refl _ _) | (with_reducible refine Fr.drew ?_) | (with_reducible refine Fr.alloc ?_ _) | (with_reducible refine Fr.trans ?_ (unhide HA) (fun _ _ t => t)) | (with_reducible refine Fr.trans ?_ (unhide HB) (fun _ _ t => t)) | (with_reducible refine Fr.trans ?_ (unhide HC) (fun _ _ t => t)) | (with_reducible refine Fr.trans ?_ (unhide HD) (fun _ _ t => t)))))
      (first | (go_at_call_of 12 (Value.int IntKind.i64 1); refine (tapF_any _ 1 1 1 0 480 (by rfl)).mono ?_; rintro e wa ⟨rfl, hA⟩; have HA := hide hA; clear hA) | (go_at_call_of 12 (Value.int IntKind.i64 2); refine (tapF_any _ 2 2 2 30 510 (by rfl)).mono ?_; rintro e wb ⟨rfl, hB⟩; have HB := hide hB; clear hB) | (go_at_call_of 12 (Value.int IntKind.i64 3); refine (tapF_any _ 3 3 9 40 520 (by rfl)).mono ?_; rintro e wd ⟨rfl, hC⟩; have HC := hide hC; clear hC) | (go_at_call 8; refine (unhide RB1 _ _ _ (by repeat (first | (with_reducible exact Fr.refl _ _) | (with_reducible refine Fr.drew ?_) | (with_reducible refine Fr.alloc ?_ _) | (with_reducible refine Fr.trans ?_ (unhide HA) (fun _ _ t => t)) | (with_reducible refine Fr.trans ?_ (unhide HB) (fun _ _ t => t)) | (with_reducible refine Fr.trans ?_ (unhide HC) (fun _ _ t => t)))) (by first | exact cat_new _ _ _ | exact (cat_new _ _ _).keep ((Fr.refl _ _).drew))).mono ?_; rintro e wz ⟨ao, cap, g, rfl, hK, hg, hD⟩; have HK := hide hK; have HG := hide hg; have HD := hide hD; clear hK hg hD))
    all_goals
      go_wp2_with fail
      go_meet
      exact ⟨ao, cap, g, rfl, rfl, hide ⟨by first | exact unhide HK | exact (unhide HK).keep (by omega) ((Fr.refl _ _).drew), (by repeat (first | (with_reducible refine Fr.trans ?_ (unhide HD) (fun _ _ t => t)) | (with_reducible exact Fr.refl _ _) | (with_reducible refine Fr.drew ?_) | (with_reducible refine Fr.alloc ?_ _) | (with_reducible refine Fr.trans ?_ (unhide HA) (fun _ _ t => t)) | (with_reducible refine Fr.trans ?_ (unhide HB) (fun _ _ t => t)) | (with_reducible refine Fr.trans ?_ (unhide HC) (fun _ _ t => t))))⟩⟩
  case rest =>
    obtain ⟨ao1, cap1, g1, rfl, rfl, HC1⟩ := hcut
    obtain ⟨hK1, hF1⟩ := unhide HC1
    have HCB2 : Hid (∀ u, Fr (fun _ => False) wc u → u.cell? ⟨B, 0, none⟩ = some (.slice A.aS T0.st.length A.cS) ∧ u.cell? ⟨B, 1, none⟩ = some (.slice A.aP T0.sp.length A.cP) ∧ u.cell? ⟨B, 2, none⟩ = some (.slice A.aB T0.bd.length A.cB) ∧ u.cell? ⟨B, 3, none⟩ = some (.float .f64 T0.off) ∧ u.cell? ⟨B, 4, none⟩ = some (.int .i64 T0.bus) ∧ u.cell? ⟨B, 5, none⟩ = some (.int .i64 T0.busDaily) ∧ u.cell? ⟨B, 6, none⟩ = some (.int .i64 T0.busWeekly) ∧ u.cell? ⟨B, 7, none⟩ = some (.int .i64 T0.hopper) ∧ u.cell? ⟨B, 8, none⟩ = some (.int .i64 T0.most) ∧ u.cell? ⟨B, 9, none⟩ = some (.int .i64 T0.longest) ∧ u.cell? ⟨B, 10, none⟩ = some (.int .i64 T0.change) ∧ u.cell? ⟨B, 11, none⟩ = some (.int .i64 T0.passback) ∧ u.cell? ⟨B, 12, none⟩ = some (.int .i64 T0.delay) ∧ u.cell? ⟨B, 13, none⟩ = some (.int .i64 T0.threshold)) := hide (fun u hf => unhide HCB u (hF1.trans hf (fun _ _ t => t)))
    have HFW := hide hF1
    have HK1 := hide hK1
    clear d0 d1 d2 d3 d4 d5 d6 d7 d8 d9 d10 d11 d12 d13
    obtain ⟨d0, d1, d2, d3, d4, d5, d6, d7, d8, d9, d10, d11, d12, d13⟩ := unhide HCB2 wc (Fr.refl _ _)
    clear hK1 hF1 HC1 HCB RB1
    go_upto_region 3 with (fail)
    go_cut [4, 5] from 18 to 25 (fun lv ev wd => ∃ ao cap g, lv = .slice ao 2 cap ∧ ev = .int .i64 0 ∧ Hid (KRow wd ao cap g 6 (jV [⟨2, 1, 1, 480, 480, false⟩, ⟨3, 2, 2, 601, 601, false⟩]) ∧ Fr (fun _ => False) wc wd))
    case first =>
      go_region_held3 (fun u => u.cell? ⟨B, 0, none⟩ = some (.slice A.aS T0.st.length A.cS) ∧ u.cell? ⟨B, 1, none⟩ = some (.slice A.aP T0.sp.length A.cP) ∧ u.cell? ⟨B, 2, none⟩ = some (.slice A.aB T0.bd.length A.cB) ∧ u.cell? ⟨B, 3, none⟩ = some (.float .f64 T0.off) ∧ u.cell? ⟨B, 4, none⟩ = some (.int .i64 T0.bus) ∧ u.cell? ⟨B, 5, none⟩ = some (.int .i64 T0.busDaily) ∧ u.cell? ⟨B, 6, none⟩ = some (.int .i64 T0.busWeekly) ∧ u.cell? ⟨B, 7, none⟩ = some (.int .i64 T0.hopper) ∧ u.cell? ⟨B, 8, none⟩ = some (.int .i64 T0.most) ∧ u.cell? ⟨B, 9, none⟩ = some (.int .i64 T0.longest) ∧ u.cell? ⟨B, 10, none⟩ = some (.int .i64 T0.change) ∧ u.cell? ⟨B, 11, none⟩ = some (.int .i64 T0.passback) ∧ u.cell? ⟨B, 12, none⟩ = some (.int .i64 T0.delay) ∧ u.cell? ⟨B, 13, none⟩ = some (.int .i64 T0.threshold))
        ((refine unhide HCB2 _ ?_; repeat (first | (with_reducible exact Fr.refl _ _) | (with_reducible refine Fr.drew ?_) | (with_reducible refine Fr.alloc ?_ _) | (with_reducible refine Fr.trans ?_ (unhide HA) (fun _ _ t => t)) | (with_reducible refine Fr.trans ?_ (unhide HB) (fun _ _ t => t)) | (with_reducible refine Fr.trans ?_ (unhide HC) (fun _ _ t => t)) | (with_reducible refine Fr.trans ?_ (unhide HD) (fun _ _ t => t)))))
        (first | (go_at_call_of 12 (Value.int IntKind.i64 1); refine (tapF_any _ 1 1 1 0 480 (by rfl)).mono ?_; rintro e wa ⟨rfl, hA⟩; have HA := hide hA; clear hA) | (go_at_call_of 12 (Value.int IntKind.i64 2); refine (tapF_any _ 2 2 2 121 601 (by rfl)).mono ?_; rintro e wb ⟨rfl, hB⟩; have HB := hide hB; clear hB) | (go_at_call 8; refine (unhide RB2 _ _ _ ((unhide HFW).trans (b := wc) (by repeat (first | (with_reducible exact Fr.refl _ _) | (with_reducible refine Fr.drew ?_) | (with_reducible refine Fr.alloc ?_ _) | (with_reducible refine Fr.trans ?_ (unhide HA) (fun _ _ t => t)) | (with_reducible refine Fr.trans ?_ (unhide HB) (fun _ _ t => t)) | (with_reducible refine Fr.trans ?_ (unhide HC) (fun _ _ t => t)))) (fun _ _ t => t)) (by first | exact cat_new _ _ _ | exact (cat_new _ _ _).keep ((Fr.refl _ _).drew))).mono ?_; rintro e wz ⟨ao, cap, g, rfl, hK, hg, hD⟩; have HK := hide hK; have HG := hide hg; have HD := hide hD; clear hK hg hD))
      all_goals
        go_wp2_with fail
        go_meet
        exact ⟨ao, cap, g, rfl, rfl, hide ⟨by first | exact unhide HK | exact (unhide HK).keep (by omega) ((Fr.refl _ _).drew), (by repeat (first | (with_reducible refine Fr.trans ?_ (unhide HD) (fun _ _ t => t)) | (with_reducible exact Fr.refl _ _) | (with_reducible refine Fr.drew ?_) | (with_reducible refine Fr.alloc ?_ _) | (with_reducible refine Fr.trans ?_ (unhide HA) (fun _ _ t => t)) | (with_reducible refine Fr.trans ?_ (unhide HB) (fun _ _ t => t)) | (with_reducible refine Fr.trans ?_ (unhide HC) (fun _ _ t => t))))⟩⟩
    case rest =>
      obtain ⟨ao2, cap2, g2, rfl, rfl, HC2⟩ := hcut
      obtain ⟨hK2, hF2⟩ := unhide HC2
      have HKA := hide ((unhide HK1).keep (by omega) hF2)
      have HKB := hide hK2
      have HFX := hide ((unhide HFV).trans ((unhide HFW).trans hF2 (fun _ _ t => t)) (fun _ _ t => t))
      clear d0 d1 d2 d3 d4 d5 d6 d7 d8 d9 d10 d11 d12 d13 hK2 hF2 HC2 HK1 HCB2 HFW HFV RB2 HTV HTB
      go_wp2_with fail
      refine (tapF_any _ 1 1 1 0 480 (by rfl)).mono ?_
      rintro e wa ⟨rfl, ha⟩
      have HA := hide ha
      clear ha
      go_wp2_with fail
      refine (tapF_any _ 2 2 2 1440 1920 (by rfl)).mono ?_
      rintro e wb ⟨rfl, hb⟩
      have HB := hide hb
      clear hb
      go_wp2_with fail
      refine (unhide (days_built _ _) (cat_new wb (tpV ex3) 39)).mono ?_
      rintro e wd ⟨ao3, cap3, rfl, hd⟩
      have hall : Fr (fun _ => False) wc wd := Fr.trans (Fr.trans ((unhide HA).trans (unhide HB) (fun _ _ t => t)) ((Fr.refl _ wb).alloc _) (fun _ _ t => t)) hd (fun _ _ t => t)
      have HFY := hide ((unhide HFX).trans hall (fun _ _ t => t))
      obtain ⟨rfl, _, hc1⟩ := jV_cell ((unhide HKA).keep (by omega) hall) (k := 0) (b := ⟨1, 1, 2, 480, 510, false⟩) rfl
      obtain ⟨_, _, hc2⟩ := jV_cell ((unhide HKA).keep (by omega) hall) (k := 1) (b := ⟨4, 9, 9, 520, 520, false⟩) rfl
      obtain ⟨rfl, _, hc3⟩ := jV_cell ((unhide HKB).keep (by omega) hall) (k := 0) (b := ⟨2, 1, 1, 480, 480, false⟩) rfl
      obtain ⟨_, _, hc4⟩ := jV_cell ((unhide HKB).keep (by omega) hall) (k := 1) (b := ⟨3, 2, 2, 601, 601, false⟩) rfl
      have a0 : wd.cell? ⟨g1, 0, none⟩ = some (.int .i64 1) := hc1 0 (by omega) _ rfl
      have a1 : wd.cell? ⟨g1, 1, none⟩ = some (.int .i64 1) := hc1 1 (by omega) _ rfl
      have a2 : wd.cell? ⟨g1, 2, none⟩ = some (.int .i64 2) := hc1 2 (by omega) _ rfl
      have a3 : wd.cell? ⟨g1, 3, none⟩ = some (.int .i64 480) := hc1 3 (by omega) _ rfl
      have a4 : wd.cell? ⟨g1, 4, none⟩ = some (.int .i64 510) := hc1 4 (by omega) _ rfl
      have a5 : wd.cell? ⟨g1, 5, none⟩ = some (.bool false) := hc1 5 (by omega) _ rfl
      have a6 : wd.cell? ⟨g1, 6, none⟩ = some (.int .i64 4) := hc2 0 (by omega) _ rfl
      have b0 : wd.cell? ⟨g2, 0, none⟩ = some (.int .i64 2) := hc3 0 (by omega) _ rfl
      have b6 : wd.cell? ⟨g2, 6, none⟩ = some (.int .i64 3) := hc4 0 (by omega) _ rfl
      have q1 := egJ
      have q2 := eqJ
      clear hc1 hc2 hc3 hc4 hall hd HKA HKB HFX HA HB
      go_wp2
      go_ret
      exact ⟨rfl, unhide HFY⟩

end Go.Proofs.Ythgkifkcckandaa

