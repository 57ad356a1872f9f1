/- The walk of the law SumBack. -/
import Derived.Test.YtgbaofdbdpopnaaDoorS8
namespace Go.Proofs.YtgbaofdbdpopnaaDoor
open Go.RowKit

theorem openF_frame (a : List UInt8) : openF (frameF a) = some a := by rw [frameF, openF_parts a _ rfl, if_pos rfl]

theorem openF_back {b y : List UInt8} (h : openF b = some y) : frameF y = b := by
  by_cases h4 : b.length < 4
  · rw [openF_short h4] at h; cases h
  · obtain ⟨body, tl, rfl, htl⟩ : ∃ body tl, b = body ++ tl ∧ tl.length = 4 := ⟨b.take (b.length - 4), b.drop (b.length - 4), (List.take_append_drop _ _).symm, by rw [List.length_drop]; omega⟩
    rw [openF_parts body tl htl] at h
    by_cases hq : tl = le4 (sumF body)
    · rw [if_pos hq] at h
      cases h
      rw [frameF, ← hq]
    · rw [if_neg hq] at h; cases h

theorem openF_length {b y : List UInt8} (h : openF b = some y) : b.length = y.length + 4 := by rw [← openF_back h, frameF_length]

theorem openF_far {a b z : List UInt8} (h : openF (frameF a ++ b) = some z) (hb : 0 < b.length) : z ≠ a := by
  intro e
  have := openF_length h
  rw [List.length_append, frameF_length, e] at this
  omega

theorem Row.le {w : World} {ao : Option Addr} {n cap g : Nat} {bs : List UInt8} (h : Row w (.slice ao n cap) g bs) : bs.length ≤ cap := by
  obtain ⟨ao0, cap0, hv0, h1, _⟩ := h.shape
  injection hv0 with e1 e2 e3
  rw [e3]; exact h1

set_option maxHeartbeats 2000000 in
theorem back_walk (w : World) (hT : TabAt w) (ao : Option Addr) (ca : Nat) (a : List UInt8) (hA : BAt w ao ca a) (bo : Option Addr) (cb : Nat) (b : List UInt8) (hB : BAt w bo cb b) (hcb : b.length ≤ cb)
    (hfit : a.length + 4 + b.length ≤ 140737488355328) :
    Calls Tryd.prog 8 #[.slice ao a.length ca, .slice bo b.length cb] w fun e w' => e = .returned (.bool true) ∧ Fr (fun _ => False) w w' := by
  obtain ⟨i0, hi, hz0, hz1, hz2⟩ := info_parts Tryd.info5
  have HT := hide hT
  have HA := hide hA
  have HB := hide hB
  have HFIT := hide hfit
  clear hT hA hB
  go_enter Tryd.func8, Tryd.ntmps8
  go_wp2_with fail
  refine (awake_any _ (unhide HT)).mono ?_
  rintro e w1 ⟨rfl, hF1⟩
  have HF1 := hide hF1
  clear hF1
  go_wp2_with fail
  refine (frame_any w1 ((unhide HT).later (unhide HF1)) ao ca a ((unhide HA).later (unhide HF1)) (by omega)).mono ?_
  rintro e w2 ⟨v, rfl, g, hrow, hF, hg⟩
  obtain ⟨f, hf⟩ : ∃ f, frameF a = f := ⟨_, rfl⟩
  have hfl : f.length = a.length + 4 := by rw [← hf, frameF_length]
  rw [hf] at hrow
  obtain ⟨fo, fc, rfl, hfc, _⟩ := hrow.shape
  have HF2 := hide ((unhide HF1).trans hF (fun _ _ t => t))
  have HR := hide (hrow.bat (by omega)).2
  have Hf := hide hf
  have Hfl := hide hfl
  clear hrow hF hg HF1 hf hfl
  go_wp2_with fail
  refine (open_any w2 ((unhide HT).later (unhide HF2)) fo fc f (unhide HR) hfc).mono ?_
  rw [show openF f = some a by rw [← unhide Hf]; exact openF_frame a]
  rintro e w3 ⟨v, rfl, g3, hrow, hF, hg⟩
  obtain ⟨xo, xc, rfl, _⟩ := hrow.shape
  have HF3 := hide ((unhide HF2).trans hF (fun _ _ t => t))
  have HX := hide (show BAt w3 xo xc a from (hrow.bat (by simp; omega)).2)
  clear hrow hF hg HF2 HR hfc
  rw [show ((some a).getD []).length = a.length from rfl]
  go_wp2_with fail
  refine (open_any w3 ((unhide HT).later (unhide HF3)) bo cb b ((unhide HB).later (unhide HF3)) hcb).mono ?_
  obtain ⟨ob, hob⟩ : ∃ o, openF b = o := ⟨_, rfl⟩
  rw [hob]
  have Hob := hide hob
  clear hob
  rintro e w4 ⟨v, rfl, g4, hrow, hF, hg⟩
  obtain ⟨ys, hys⟩ : ∃ l, ob.getD [] = l := ⟨_, rfl⟩
  rw [hys] at hrow
  have hyl : ys.length ≤ 140737488355324 := by
    cases ob with
    | none => rw [← hys]; simp
    | some y =>
      have := openF_length (unhide Hob)
      rw [← hys]
      simp
      omega
  have HYS := hide hys
  clear hys
  obtain ⟨yo, yc, rfl, _⟩ := hrow.shape
  have HF4 := hide ((unhide HF3).trans hF (fun _ _ t => t))
  have HX4 := hide ((unhide HX).later hF)
  have HY := hide (hrow.bat (by omega)).2
  clear hrow hF hg HF3 HX
  go_wp2_with fail
  refine (frame_any w4 ((unhide HT).later (unhide HF4)) ao ca a ((unhide HA).later (unhide HF4)) (by omega)).mono ?_
  rw [unhide Hf]
  rintro e w5 ⟨v, rfl, g5, hrow, hF, hg⟩
  obtain ⟨zo, zc, rfl, _⟩ := hrow.shape
  have HZ := hide (And.intro hrow (And.intro hF hg))
  clear hrow hF hg
  go_wp2_with (at_builtin; refine wpList_append_row _ rfl (.tmp 26) (.tmp 27) 22 22 rfl 5 i0 Tryd.underlying22 hi hz0 hz1 hz2 (ao := zo) (g := g5) (bs := f) (cap := zc) rfl (unhide HZ).1 _ b rfl ?src1 ?fit1 ?next1)
  case src1 => exact src_slice Tryd.underlying22 _ bo cb b ((unhide HB).later ((unhide HF4).trans (unhide HZ).2.1 (fun _ _ t => t))).2.1
  case fit1 => rw [unhide Hfl]; exact hfit
  intro zo2 zc2 w6 g6 hrow hfr _
  have hF46 : Fr (fun _ => False) w4 w6 := (unhide HZ).2.1.trans hfr (fun i hi t => by have := (unhide HZ).2.2; omega)
  have HF6 := hide ((unhide HF4).trans hF46 (fun _ _ t => t))
  have HX6 := hide ((unhide HX4).later hF46)
  have HY6 := hide ((unhide HY).later hF46)
  obtain ⟨l, hl⟩ : ∃ l, f ++ b = l := ⟨_, rfl⟩
  have hll : f.length + b.length = l.length := by rw [← hl, List.length_append]
  rw [hll, hl] at hrow
  rw [hll]
  have hlc := hrow.le
  have HL := hide (hrow.bat (by rw [← hll, unhide Hfl]; exact hfit)).2
  have Hl := hide hl
  clear hrow hfr hF46 HZ HY HX4 HF4 hl hll
  go_wp2_with fail
  refine (open_any w6 ((unhide HT).later (unhide HF6)) zo2 zc2 l (unhide HL) hlc).mono ?_
  obtain ⟨ol, hol⟩ : ∃ o, openF l = o := ⟨_, rfl⟩
  rw [hol]
  have Hol := hide hol
  clear hol
  rintro e w7 ⟨v, rfl, g7, hrow, hF, hg⟩
  have HF7 := hide ((unhide HF6).trans hF (fun _ _ t => t))
  have cx := conv_bytes ((unhide HX6).later hF)
  have ca7 := conv_bytes ((unhide HA).later ((unhide HF6).trans hF (fun _ _ t => t)))
  have HY7 := hide ((unhide HY6).later hF)
  have HB7 := hide ((unhide HB).later ((unhide HF6).trans hF (fun _ _ t => t)))
  have hself : (a == a) = true := by simp
  have HT7 := hide ((unhide HT).later (unhide HF7))
  obtain ⟨zs, hzs⟩ : ∃ l, ol.getD [] = l := ⟨_, rfl⟩
  rw [hzs] at hrow
  have hzl : zs.length ≤ 140737488355328 := by
    cases ol with
    | none => rw [← hzs]; simp
    | some z =>
      have h1 := openF_length (unhide Hol)
      rw [← unhide Hl, List.length_append, unhide Hfl] at h1
      rw [← hzs]
      simp
      omega
  have HZS := hide hzs
  clear hzs
  obtain ⟨ro, rc, rfl, _⟩ := hrow.shape
  have cz := conv_bytes (hrow.bat hzl).2
  clear hrow hF hg HX6 HY6 HF6 HL
  obtain ⟨fb, hfb⟩ : ∃ t, ol.isSome = t := ⟨_, rfl⟩
  rw [hfb]
  obtain ⟨yb, hyb⟩ : ∃ t, ob.isSome = t := ⟨_, rfl⟩
  rw [hyb]
  have hfar : (fb && (decide (0 < b.length) && (zs == a))) = false := by
    cases ol with
    | none => rw [← hfb]; rfl
    | some z =>
      by_cases h0 : 0 < b.length
      · have h1 : openF (frameF a ++ b) = some z := by rw [unhide Hf, unhide Hl]; exact unhide Hol
        have hne := openF_far h1 h0
        have hz : zs = z := (unhide HZS).symm
        rw [hz]
        simp [hne]
      · simp [h0]
  have hyy : yb = true → frameF ys = b := by
    intro ht
    cases ob with
    | none => rw [← hyb] at ht; cases ht
    | some y =>
      have : ys = y := (unhide HYS).symm
      rw [this]
      exact openF_back (unhide Hob)
  have HYY := hide hyy
  clear hfb hyb hyy
  cases fb with
  | false =>
    cases yb with
    | false =>
      go_wp2_with fail
      go_quiet (fail)
      go_wp2
      go_ret
      exact ⟨rfl, (unhide HF7).drewN _⟩
    | true =>
      have hq := unhide HYY rfl
      have c7 := conv_bytes ((unhide HB7).later ((Fr.refl (fun _ => False) w7).drew))
      go_wp2_with fail
      go_region_with (go_at_call 18; refine (frame_any w7.drew ((unhide HT7).later ((Fr.refl _ _).drew)) yo yc ys ((unhide HY7).later ((Fr.refl _ _).drew)) (by omega)).mono ?_; rw [hq]; rintro e w8 ⟨v, rfl, g8, hrow8, hF8, hg8⟩; obtain ⟨fo8, fc8, rfl, _⟩ := hrow8.shape; have c8 := conv_bytes (hrow8.bat (unhide HB7).2.2).2; have c9 := conv_bytes ((unhide HB7).later (((Fr.refl _ _).drew).trans hF8 (fun _ _ t => t))); have HF8 := hide (((unhide HF7).drew).trans hF8 (fun _ _ t => t)); clear hF8 hrow8 hg8)
      all_goals go_wp2
      all_goals go_ret
      all_goals exact ⟨rfl, unhide HF8⟩
  | true =>
    by_cases h0 : 0 < b.length
    · have hd : decide ((0 : Int) < (b.length : Int)) = true := decide_eq_true (by omega)
      have hza : (zs == a) = false := by simpa [h0] using hfar
      clear hfar
      cases yb with
      | false =>
        go_wp2_with fail
        go_quiet (fail)
        go_wp2
        go_ret
        exact ⟨rfl, (unhide HF7).drewN _⟩
      | true =>
        have hq := unhide HYY rfl
        have c7 := conv_bytes ((unhide HB7).later ((Fr.refl (fun _ => False) w7).drew))
        go_wp2_with fail
        go_region_with (go_at_call 18; refine (frame_any w7.drew ((unhide HT7).later ((Fr.refl _ _).drew)) yo yc ys ((unhide HY7).later ((Fr.refl _ _).drew)) (by omega)).mono ?_; rw [hq]; rintro e w8 ⟨v, rfl, g8, hrow8, hF8, hg8⟩; obtain ⟨fo8, fc8, rfl, _⟩ := hrow8.shape; have c8 := conv_bytes (hrow8.bat (unhide HB7).2.2).2; have c9 := conv_bytes ((unhide HB7).later (((Fr.refl _ _).drew).trans hF8 (fun _ _ t => t))); have HF8 := hide (((unhide HF7).drew).trans hF8 (fun _ _ t => t)); clear hF8 hrow8 hg8)
        all_goals go_wp2
        all_goals go_ret
        all_goals exact ⟨rfl, unhide HF8⟩
    · have hd : decide ((0 : Int) < (b.length : Int)) = false := decide_eq_false (by omega)
      clear hfar
      cases yb with
      | false =>
        go_wp2_with fail
        go_quiet (fail)
        go_wp2
        go_ret
        exact ⟨rfl, (unhide HF7).drewN _⟩
      | true =>
        have hq := unhide HYY rfl
        have c7 := conv_bytes ((unhide HB7).later ((Fr.refl (fun _ => False) w7).drew))
        go_wp2_with fail
        go_region_with (go_at_call 18; refine (frame_any w7.drew ((unhide HT7).later ((Fr.refl _ _).drew)) yo yc ys ((unhide HY7).later ((Fr.refl _ _).drew)) (by omega)).mono ?_; rw [hq]; rintro e w8 ⟨v, rfl, g8, hrow8, hF8, hg8⟩; obtain ⟨fo8, fc8, rfl, _⟩ := hrow8.shape; have c8 := conv_bytes (hrow8.bat (unhide HB7).2.2).2; have c9 := conv_bytes ((unhide HB7).later (((Fr.refl _ _).drew).trans hF8 (fun _ _ t => t))); have HF8 := hide (((unhide HF7).drew).trans hF8 (fun _ _ t => t)); clear hF8 hrow8 hg8)
        all_goals go_wp2
        all_goals go_ret
        all_goals exact ⟨rfl, unhide HF8⟩

end Go.Proofs.YtgbaofdbdpopnaaDoor
