/- The walk of SealApart. -/
import Derived.Test.YtgklgbomfipagaaDoorT1
namespace Go.Proofs.YtgklgbomfipagaaDoor
open Go.RowKit

theorem litD (d : Nat) (hd : d ≤ 65535) : #[Value.int .u8 100, .int .u8 101, .int .u8 118, .int .u8 105, .int .u8 99, .int .u8 101, .int .u8 ((d : Int) / 256), .int .u8 ((d : Int) % 256)] = (bytesV (devB d)).toArray := by
  simp [bytesV, devB]
  omega

set_option maxHeartbeats 2000000 in
set_option maxRecDepth 100000 in
theorem apart_walk (w : World) (hT : TabP w) (s : List UInt8) (d : Int) (c : List UInt8) :
    Calls Tryd.prog 8 #[.string ⟨s.toArray⟩, .int .i64 d, .string ⟨c.toArray⟩] w fun e w' => e = .returned (.bool true) ∧ Fr (fun _ => False) w w' := by
  have HT := hide hT
  clear hT
  go_enter Tryd.func8, Tryd.ntmps8
  go_wp2_with fail
  refine (awake_any w (unhide HT)).mono ?_
  rintro e w1 ⟨rfl, hF1⟩
  have HF1 := hide hF1
  clear hF1
  by_cases hs : 200 < s.length
  · go_wp2_with fail
    refine (key_long w1 s hs _).mono ?_
    rintro e w2 ⟨rfl, rfl⟩
    go_wp2_with fail
    refine (token_long w2 s hs _).mono ?_
    rintro e w2 ⟨rfl, rfl⟩
    go_wp2
    go_ret
    exact ⟨rfl, unhide HF1⟩
  · have hs' : s.length ≤ 200 := by omega
    by_cases hd : d < 0 ∨ 65535 < d
    · go_wp2_with fail
      refine (key_bad w1 s hs' d hd).mono ?_
      rintro e w2 ⟨rfl, rfl⟩
      have HFk := HF1
      by_cases hc : c.length = 0 ∨ 64 < c.length
      · go_wp2_with fail
        refine (token_bad w2 s hs' c hc).mono ?_
        rintro e w3 ⟨rfl, rfl⟩
        go_wp2
        go_ret
        exact ⟨rfl, unhide HFk⟩
      · go_wp2_with fail
        refine (token_any w2 ((unhide HT).later (unhide HFk)) s hs' c (by omega) (by omega)).mono ?_
        rintro e w3 ⟨rfl, hF3⟩
        have HFk := hide ((unhide HFk).trans hF3 (fun _ _ t => t))
        clear hF3
        have hba : ((⟨#[116, 111, 107, 101, 110]⟩ : ByteArray) ++ (⟨c.toArray⟩ : ByteArray)) = ⟨(tokB c).toArray⟩ := ba_append [116, 111, 107, 101, 110] c c.toArray rfl
        have htl : (tokB c).length = 5 + c.length := by unfold tokB; simp; omega
        obtain ⟨C, w5, hcv, H5⟩ := conv_str w3 (tokB c) (by omega)
        have hb5 := (unhide H5).1.batn (by omega)
        have hF5 := (unhide HFk).trans (unhide H5).2.1 (fun _ _ t => t)
        have HS := hide (seal_any w5 ((unhide HT).later hF5) s hs' _ C (tokB c) hb5.1 hb5.2.2 (by omega))
        have HF5 := hide hF5
        rw [htl] at HS hcv
        have HTL := hide htl
        clear hb5 hF5 htl
        go_wp2_with fail
        refine (unhide HS).mono ?_
        rintro e w6 ⟨so, sc, rfl, g6, r1, r2, r3⟩
        obtain ⟨_, _, esh, hlc, _, had, _⟩ := r1.shape
        injection esh with e1 e2 e3
        subst e1 e3
        have hlc2 : 5 + c.length + 16 ≤ sc := by rw [sealed_length, unhide HTL] at hlc; omega
        obtain rfl := had (by omega)
        have HF6 := hide ((unhide HF5).trans r2 (fun _ _ t => t))
        have h8 : ((hmac s (tokB c)).take 8).length = 8 := by rw [List.length_take, hmac_length]; rfl
        have cv6 : (convert 22 9 (.slice (some ⟨g6, 5 + c.length, none⟩) 8 (sc - (5 + c.length)))).run Tryd.prog w6 = .ok (.string ⟨((hmac s (tokB c)).take 8).toArray⟩) w6 := by
          have := conv_bytes (w := w6) (ao := some ⟨g6, 5 + c.length, none⟩) (cap := sc - (5 + c.length)) (bs := (hmac s (tokB c)).take 8) ⟨fun e => (by cases e), fun _ => ⟨g6, 5 + c.length, rfl, fun j hj => by
            rw [r1.cells (5 + c.length + j) (by rw [sealed_length, unhide HTL]; omega)]
            unfold sealed
            rw [List.getElem_append_right (by rw [unhide HTL]; omega)]
            simp [unhide HTL]⟩, by omega⟩
          rw [h8] at this
          exact this
        have hnil : ∀ n w, (binOp .eql 22 (.slice (some ⟨g6, 0, none⟩) n sc) (.slice none 0 0)).run Tryd.prog w = .ok (.bool false) w := fun _ _ => by kernel_rfl
        generalize (hmac s (tokB c)).take 8 = T8 at *
        clear r1 r2 r3 hlc had e2 HS hcv hba
        go_wp2
        go_ret
        exact ⟨rfl, unhide HF6⟩
    · obtain ⟨d, rfl⟩ := Int.eq_ofNat_of_zero_le (show 0 ≤ d by omega)
      go_wp2_with fail
      refine (key_any w1 ((unhide HT).later (unhide HF1)) s hs' d (by omega)).mono ?_
      rintro e w2 ⟨rfl, hF2⟩
      have HFk := hide ((unhide HF1).trans hF2 (fun _ _ t => t))
      have hd65 : d ≤ 65535 := by omega
      clear hF2 hd
      by_cases hc : c.length = 0 ∨ 64 < c.length
      · go_wp2_with fail
        refine (token_bad w2 s hs' c hc).mono ?_
        rintro e w3 ⟨rfl, rfl⟩
        have hFa := (Fr.refl (fun _ => False) w3).alloc (.cells (bytesV (devB d)).toArray 5)
        have hFb := (unhide HFk).trans hFa (fun _ _ t => t)
        have HM := hide (macP_any (w3.alloc (.cells (bytesV (devB d)).toArray 5)) ((unhide HT).later hFb) s hs' (some ⟨w3.heap.size, 0, none⟩) 8 (devB d) (bat_lit w3 (devB d) 5 (0, 0) (by simp [devB])) (by simp [devB]))
        rw [← litD d (by omega)] at HM
        have hdl : (devB d).length = 8 := rfl
        rw [hdl] at HM
        rw [← litD d (by omega)] at hFb
        have HFb := hide hFb
        clear hFa hFb hdl
        go_wp2_with fail
        refine (unhide HM).mono ?_
        rintro e w4 ⟨mo, mc, rfl, g4, r1, r2, r3⟩
        have cvm := conv_bytes (r1.batn (by omega)).1
        rw [hmac_length] at cvm
        have HFm := hide ((unhide HFb).trans r2 (fun _ _ t => t))
        clear r1 r2 r3 HM HFb
        generalize hmac s (devB d) = D at *
        go_wp2
        go_ret
        exact ⟨rfl, unhide HFm⟩
      · go_wp2_with fail
        refine (token_any w2 ((unhide HT).later (unhide HFk)) s hs' c (by omega) (by omega)).mono ?_
        rintro e w3 ⟨rfl, hF3⟩
        have HFk := hide ((unhide HFk).trans hF3 (fun _ _ t => t))
        clear hF3
        have hFa := (Fr.refl (fun _ => False) w3).alloc (.cells (bytesV (devB d)).toArray 5)
        have hFb := (unhide HFk).trans hFa (fun _ _ t => t)
        have HM := hide (macP_any (w3.alloc (.cells (bytesV (devB d)).toArray 5)) ((unhide HT).later hFb) s hs' (some ⟨w3.heap.size, 0, none⟩) 8 (devB d) (bat_lit w3 (devB d) 5 (0, 0) (by simp [devB])) (by simp [devB]))
        rw [← litD d (by omega)] at HM
        have hdl : (devB d).length = 8 := rfl
        rw [hdl] at HM
        rw [← litD d (by omega)] at hFb
        have HFb := hide hFb
        clear hFa hFb hdl
        go_wp2_with fail
        refine (unhide HM).mono ?_
        rintro e w4 ⟨mo, mc, rfl, g4, r1, r2, r3⟩
        have cvm := conv_bytes (r1.batn (by omega)).1
        rw [hmac_length] at cvm
        have HFm := hide ((unhide HFb).trans r2 (fun _ _ t => t))
        clear r1 r2 r3 HM HFb
        generalize hmac s (devB d) = D at *
        have hba : ((⟨#[116, 111, 107, 101, 110]⟩ : ByteArray) ++ (⟨c.toArray⟩ : ByteArray)) = ⟨(tokB c).toArray⟩ := ba_append [116, 111, 107, 101, 110] c c.toArray rfl
        have htl : (tokB c).length = 5 + c.length := by unfold tokB; simp; omega
        obtain ⟨C, w5, hcv, H5⟩ := conv_str w4 (tokB c) (by omega)
        have hb5 := (unhide H5).1.batn (by omega)
        have hF5 := (unhide HFm).trans (unhide H5).2.1 (fun _ _ t => t)
        have HS := hide (seal_any w5 ((unhide HT).later hF5) s hs' _ C (tokB c) hb5.1 hb5.2.2 (by omega))
        have HF5 := hide hF5
        rw [htl] at HS hcv
        have HTL := hide htl
        clear hb5 hF5 htl
        go_wp2_with fail
        refine (unhide HS).mono ?_
        rintro e w6 ⟨so, sc, rfl, g6, r1, r2, r3⟩
        obtain ⟨_, _, esh, hlc, _, had, _⟩ := r1.shape
        injection esh with e1 e2 e3
        subst e1 e3
        have hlc2 : 5 + c.length + 16 ≤ sc := by rw [sealed_length, unhide HTL] at hlc; omega
        obtain rfl := had (by omega)
        have HF6 := hide ((unhide HF5).trans r2 (fun _ _ t => t))
        have h8 : ((hmac s (tokB c)).take 8).length = 8 := by rw [List.length_take, hmac_length]; rfl
        have cv6 : (convert 22 9 (.slice (some ⟨g6, 5 + c.length, none⟩) 8 (sc - (5 + c.length)))).run Tryd.prog w6 = .ok (.string ⟨((hmac s (tokB c)).take 8).toArray⟩) w6 := by
          have := conv_bytes (w := w6) (ao := some ⟨g6, 5 + c.length, none⟩) (cap := sc - (5 + c.length)) (bs := (hmac s (tokB c)).take 8) ⟨fun e => (by cases e), fun _ => ⟨g6, 5 + c.length, rfl, fun j hj => by
            rw [r1.cells (5 + c.length + j) (by rw [sealed_length, unhide HTL]; omega)]
            unfold sealed
            rw [List.getElem_append_right (by rw [unhide HTL]; omega)]
            simp [unhide HTL]⟩, by omega⟩
          rw [h8] at this
          exact this
        have hnil : ∀ n w, (binOp .eql 22 (.slice (some ⟨g6, 0, none⟩) n sc) (.slice none 0 0)).run Tryd.prog w = .ok (.bool false) w := fun _ _ => by kernel_rfl
        generalize (hmac s (tokB c)).take 8 = T8 at *
        clear r1 r2 r3 hlc had e2 HS hcv hba
        go_wp2
        go_ret
        exact ⟨rfl, unhide HF6⟩

end Go.Proofs.YtgklgbomfipagaaDoor
