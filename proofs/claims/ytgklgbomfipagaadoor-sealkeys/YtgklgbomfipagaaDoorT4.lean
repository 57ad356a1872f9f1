/- The walk of SealKeys. -/
import Derived.Test.YtgklgbomfipagaaDoorV2
import Derived.Test.YtgklgbomfipagaaDoorS9
namespace Go.Proofs.YtgklgbomfipagaaDoor
open Go.RowKit

set_option maxHeartbeats 2000000 in
set_option maxRecDepth 100000 in
theorem keys_walk (w : World) (hT : TabP w) (hR : TabR w) (s : List UInt8) (d : Int) (c : List UInt8) :
    Calls Tryd.prog 4 #[.string ⟨s.toArray⟩, .int .i64 d, .string ⟨c.toArray⟩] w fun e w' => e = .returned (.bool true) ∧ Fr (fun _ => False) w w' := by
  have HT := hide hT
  have HR := hide hR
  clear hT hR
  go_enter Tryd.func4, Tryd.ntmps4
  go_wp2_with fail
  refine (awake_any w (unhide HT)).mono ?_
  rintro e w1 ⟨rfl, hF1⟩
  have HF1 := hide hF1
  clear hF1
  by_cases hs : 200 < s.length
  · go_wp2_with fail
    refine (key_long w1 s hs _).mono ?_
    rintro e w2 ⟨rfl, rfl⟩
    go_wp2_with fail
    refine (token_long w2 s hs _).mono ?_
    rintro e w2 ⟨rfl, rfl⟩
    go_wp2_with fail
    refine (rkey_long w2 s hs _).mono ?_
    rintro e w2 ⟨rfl, rfl⟩
    go_wp2_with fail
    refine (rtoken_long w2 s hs _).mono ?_
    rintro e w2 ⟨rfl, rfl⟩
    go_wp2
    go_ret
    exact ⟨rfl, unhide HF1⟩
  · have hs' : s.length ≤ 200 := by omega
    clear hs
    by_cases hd : d < 0 ∨ 65535 < d
    · by_cases hc : c.length = 0 ∨ 64 < c.length
      · go_wp2_with fail
        refine (key_bad w1 s hs' d hd).mono ?_
        rintro e w2 ⟨rfl, rfl⟩
        go_wp2_with fail
        refine (token_bad w2 s hs' c hc).mono ?_
        rintro e w3 ⟨rfl, rfl⟩
        go_wp2_with fail
        refine (rkey_bad w3 s hs' d hd).mono ?_
        rintro e w4 ⟨rfl, rfl⟩
        go_wp2_with fail
        refine (rtoken_bad w4 s hs' c hc).mono ?_
        rintro e w5 ⟨rfl, rfl⟩
        go_wp2
        go_ret
        exact ⟨rfl, unhide HF1⟩
      · go_wp2_with fail
        refine (key_bad w1 s hs' d hd).mono ?_
        rintro e w2 ⟨rfl, rfl⟩
        go_wp2_with fail
        refine (token_any w2 ((unhide HT).later (unhide HF1)) s hs' c (by omega) (by omega)).mono ?_
        rintro e w3 ⟨rfl, hF⟩
        have HF3 := hide ((unhide HF1).trans hF (fun _ _ t => t))
        clear hF
        go_wp2_with fail
        refine (rkey_bad w3 s hs' d hd).mono ?_
        rintro e w4 ⟨rfl, rfl⟩
        go_wp2_with fail
        refine (rtoken_any w4 ((unhide HR).later (unhide HF3)) s hs' c (by omega) (by omega)).mono ?_
        rintro e w5 ⟨rfl, hF⟩
        have HF5 := hide ((unhide HF3).trans hF (fun _ _ t => t))
        clear hF
        generalize (hmac s (tokB c)).take 8 = E at *
        go_wp2
        go_ret
        exact ⟨rfl, unhide HF5⟩
    · obtain ⟨d, rfl⟩ := Int.eq_ofNat_of_zero_le (show 0 ≤ d by omega)
      have hd65 : d ≤ 65535 := by omega
      clear hd
      by_cases hc : c.length = 0 ∨ 64 < c.length
      · go_wp2_with fail
        refine (key_any w1 ((unhide HT).later (unhide HF1)) s hs' d hd65).mono ?_
        rintro e w2 ⟨rfl, hF⟩
        have HF2 := hide ((unhide HF1).trans hF (fun _ _ t => t))
        clear hF
        go_wp2_with fail
        refine (token_bad w2 s hs' c hc).mono ?_
        rintro e w3 ⟨rfl, rfl⟩
        go_wp2_with fail
        refine (rkey_any w3 ((unhide HR).later (unhide HF2)) s hs' d hd65).mono ?_
        rintro e w4 ⟨rfl, hF⟩
        have HF4 := hide ((unhide HF2).trans hF (fun _ _ t => t))
        clear hF
        go_wp2_with fail
        refine (rtoken_bad w4 s hs' c hc).mono ?_
        rintro e w5 ⟨rfl, rfl⟩
        generalize hmac s (devB d) = D at *
        go_wp2
        go_ret
        exact ⟨rfl, unhide HF4⟩
      · go_wp2_with fail
        refine (key_any w1 ((unhide HT).later (unhide HF1)) s hs' d hd65).mono ?_
        rintro e w2 ⟨rfl, hF⟩
        have HF2 := hide ((unhide HF1).trans hF (fun _ _ t => t))
        clear hF
        go_wp2_with fail
        refine (token_any w2 ((unhide HT).later (unhide HF2)) s hs' c (by omega) (by omega)).mono ?_
        rintro e w3 ⟨rfl, hF⟩
        have HF3 := hide ((unhide HF2).trans hF (fun _ _ t => t))
        clear hF
        go_wp2_with fail
        refine (rkey_any w3 ((unhide HR).later (unhide HF3)) s hs' d hd65).mono ?_
        rintro e w4 ⟨rfl, hF⟩
        have HF4 := hide ((unhide HF3).trans hF (fun _ _ t => t))
        clear hF
        go_wp2_with fail
        refine (rtoken_any w4 ((unhide HR).later (unhide HF4)) s hs' c (by omega) (by omega)).mono ?_
        rintro e w5 ⟨rfl, hF⟩
        have HF5 := hide ((unhide HF4).trans hF (fun _ _ t => t))
        clear hF
        generalize hmac s (devB d) = D at *
        generalize (hmac s (tokB c)).take 8 = E at *
        go_wp2
        go_ret
        exact ⟨rfl, unhide HF5⟩

end Go.Proofs.YtgklgbomfipagaaDoor
