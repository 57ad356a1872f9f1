/- The document's reader, the other calls. -/
import Derived.Test.YtkjoojamkbpfcaaF2
namespace Go.Proofs.Ytkjoojamkbpfcaa
open Go.RowKit

section
variable {w : World} {p : Nat} {ao : Option Addr} {cap : Nat} {bs : List UInt8} {s : RS}

theorem xInt (h : XAt w p ao cap bs s) :
    Calls Try.prog 73 #[.pointer (some ⟨p, 0, none⟩)] w (XDone p ao cap bs w (stepR s (.int .i64 0) (oInt bs s.a))) := by
  have H := hide h
  clear h
  by_cases h2 : s.c = 0 → (bs.length : Int) - s.a < 8
  · rw [stepR_short _ (fun hc => show oInt bs s.a = .error 10 by simp [oInt, h2 hc])]
    have H2 := hide h2
    clear h2
    go_enter Try.func73, Try.ntmps73
    go_wp2_with fail
    refine (xsome_no (unhide H) 8 (unhide H2)).mono ?_
    rintro e w2 ⟨rfl, hX, hF⟩
    have H3 := hide (And.intro hX hF)
    clear hX hF
    go_wp2
    go_ret
    exact ⟨rfl, unhide H3⟩
  have hc : s.c = 0 := by
    by_cases hc : s.c = 0
    · exact hc
    · exact absurd (fun t => absurd t hc) h2
  have h3 : ¬ (bs.length : Int) - s.a < 8 := fun t => h2 (fun _ => t)
  have hle := (unhide H).le
  have ht : s.a + 8 ≤ bs.length := by omega
  obtain ⟨N, HN⟩ : ∃ N, Hid (num ((bs.drop s.a).take 8) = N) := ⟨_, rfl⟩
  have hq : (8 : Int) ≤ (bs.length : Int) - s.a := by omega
  rw [show oInt bs s.a = .ok (.int .i64 (wrap64 N), s.a + 8) by rw [← unhide HN]; simp [oInt, h3], stepR_ok _ _ _ hc]
  have HC := hide hc
  clear h2 h3 hc
  go_enter Try.func73, Try.ntmps73
  go_wp2_with fail
  refine (xsome_ok (unhide H) 8 (unhide HC) hq).mono ?_
  rintro e w1 ⟨rfl, hX, hF⟩
  have H1 := hide (And.intro hX hF)
  clear hX hF
  go_wp2_with fail
  refine (xnumber (unhide H1).1 8 ht (by omega)).mono ?_
  rw [unhide HN]
  rintro e w2 ⟨rfl, j, rfl⟩
  go_wp2_with fail
  refine (xtook ((unhide H1).1.drewN j) 8 ht).mono ?_
  rintro e w3 ⟨rfl, hX, hF⟩
  have H2 := hide (And.intro hX (((unhide H1).2.drewN j).trans hF (fun _ _ t => t)))
  clear hX hF H1
  go_wp2
  go_ret
  exact ⟨rfl, unhide H2⟩

theorem xBool (h : XAt w p ao cap bs s) :
    Calls Try.prog 74 #[.pointer (some ⟨p, 0, none⟩)] w (XDone p ao cap bs w (stepR s (.bool false) (oBool bs s.a))) := by
  have H := hide h
  clear h
  by_cases h2 : s.c = 0 → (bs.length : Int) - s.a < 1
  · rw [stepR_short _ (fun hc => show oBool bs s.a = .error 10 by simp [oBool, h2 hc])]
    have H2 := hide h2
    clear h2
    go_enter Try.func74, Try.ntmps74
    go_wp2_with fail
    refine (xsome_no (unhide H) 1 (unhide H2)).mono ?_
    rintro e w2 ⟨rfl, hX, hF⟩
    have H3 := hide (And.intro hX hF)
    clear hX hF
    go_wp2
    go_ret
    exact ⟨rfl, unhide H3⟩
  have hc : s.c = 0 := by
    by_cases hc : s.c = 0
    · exact hc
    · exact absurd (fun t => absurd t hc) h2
  have h3 : ¬ (bs.length : Int) - s.a < 1 := fun t => h2 (fun _ => t)
  have hle := (unhide H).le
  have ht : s.a + 1 ≤ bs.length := by omega
  obtain ⟨N, HN⟩ : ∃ N, Hid (num ((bs.drop s.a).take 1) = N) := ⟨_, rfl⟩
  have hq : (1 : Int) ≤ (bs.length : Int) - s.a := by omega
  have e1 : oBool bs s.a = if 1 < N then .error 11 else .ok (.bool (N == 1), s.a + 1) := by unfold oBool; rw [if_neg h3, unhide HN]
  have HC := hide hc
  clear h2 h3 hc
  by_cases h4 : 1 < N
  · rw [e1, if_pos h4, stepR_error]
    clear e1
    have h4' : decide ((1 : Int) < N) = true := by simp; omega
    have H4 := hide h4
    clear h4
    go_enter Try.func74, Try.ntmps74
    go_wp2_with fail
    refine (xsome_ok (unhide H) 1 (unhide HC) hq).mono ?_
    rintro e w1 ⟨rfl, hX, hF⟩
    have H1 := hide (And.intro hX hF)
    clear hX hF
    go_wp2_with fail
    refine (xnumber (unhide H1).1 1 ht (by omega)).mono ?_
    rw [unhide HN]
    rintro e w2 ⟨rfl, j, rfl⟩
    go_wp2_with fail
    refine (xbad ((unhide H1).1.drewN j) 11).mono ?_
    rintro e w3 ⟨rfl, hX, hF⟩
    have H2 := hide (And.intro hX (((unhide H1).2.drewN j).trans hF (fun _ _ t => t)))
    clear hX hF H1
    go_wp2
    go_ret
    exact ⟨rfl, unhide H2⟩
  · rw [e1, if_neg h4, stepR_ok _ _ _ (unhide HC)]
    clear e1
    have h4' : decide ((1 : Int) < N) = false := by simp; omega
    have HE : Hid (((N : Int) == 1) = (N == 1)) := by show _ = _; rw [Bool.eq_iff_iff]; simp; omega
    have H4 := hide h4
    clear h4
    go_enter Try.func74, Try.ntmps74
    go_wp2_with fail
    refine (xsome_ok (unhide H) 1 (unhide HC) hq).mono ?_
    rintro e w1 ⟨rfl, hX, hF⟩
    have H1 := hide (And.intro hX hF)
    clear hX hF
    go_wp2_with fail
    refine (xnumber (unhide H1).1 1 ht (by omega)).mono ?_
    rw [unhide HN]
    rintro e w2 ⟨rfl, j, rfl⟩
    go_wp2_with fail
    refine (xtook ((unhide H1).1.drewN j) 1 ht).mono ?_
    rintro e w3 ⟨rfl, hX, hF⟩
    have H2 := hide (And.intro hX (((unhide H1).2.drewN j).trans hF (fun _ _ t => t)))
    clear hX hF H1
    go_wp2
    go_ret
    exact ⟨by rw [← unhide HE]; rfl, unhide H2⟩

theorem xCount (h : XAt w p ao cap bs s) (most : Int) :
    Calls Try.prog 81 #[.pointer (some ⟨p, 0, none⟩), .int .i64 most] w (XDone p ao cap bs w (stepR s (.int .i64 0) (oCount bs s.a most))) := by
  have H := hide h
  clear h
  by_cases h1 : most < 0
  · rw [show oCount bs s.a most = .error 1 by simp [oCount, h1], stepR_error]
    have hd : decide (most < 0) = true := by simp; omega
    go_enter Try.func81, Try.ntmps81
    go_wp2_with fail
    refine (xbad (unhide H) 1).mono ?_
    rintro e w1 ⟨rfl, hX, hF⟩
    have H1 := hide (And.intro hX hF)
    clear hX hF
    go_wp2_with fail
    refine (xsome_no (unhide H1).1 2 (fun t => absurd t (badR_c s (by decide)))).mono ?_
    rw [badR_bad (badR_c s (by decide))]
    rintro e w2 ⟨rfl, hX, hF⟩
    have H2 := hide (And.intro hX ((unhide H1).2.trans hF (fun _ _ t => t)))
    clear hX hF H1
    go_wp2
    go_ret
    exact ⟨rfl, unhide H2⟩
  have hd : decide (most < 0) = false := by simp; omega
  by_cases h2 : s.c = 0 → (bs.length : Int) - s.a < 2
  · rw [stepR_short _ (fun hc => show oCount bs s.a most = .error 10 by simp [oCount, h1, h2 hc])]
    have H2 := hide h2
    clear h1 h2
    go_enter Try.func81, Try.ntmps81
    go_wp2_with fail
    refine (xsome_no (unhide H) 2 (unhide H2)).mono ?_
    rintro e w2 ⟨rfl, hX, hF⟩
    have H3 := hide (And.intro hX hF)
    clear hX hF
    go_wp2
    go_ret
    exact ⟨rfl, unhide H3⟩
  have hc : s.c = 0 := by
    by_cases hc : s.c = 0
    · exact hc
    · exact absurd (fun t => absurd t hc) h2
  have h3 : ¬ (bs.length : Int) - s.a < 2 := fun t => h2 (fun _ => t)
  have hle := (unhide H).le
  have ht : s.a + 2 ≤ bs.length := by omega
  obtain ⟨N, HN⟩ : ∃ N, Hid (num ((bs.drop s.a).take 2) = N) := ⟨_, rfl⟩
  have hN : N < 65536 := by
    rw [← unhide HN]
    refine Nat.lt_of_lt_of_le (num_lt _) (Nat.le_trans (Nat.pow_le_pow_right (by omega) (List.length_take_le 2 _)) (by decide))
  have hq : (2 : Int) ≤ (bs.length : Int) - s.a := by omega
  have e1 : oCount bs s.a most = if most < N then .error 12 else .ok (.int .i64 N, s.a + 2) := by unfold oCount; rw [if_neg h1, if_neg h3, unhide HN]
  have HC := hide hc
  clear h1 h2 h3 hc
  by_cases h4 : most < N
  · rw [e1, if_pos h4, stepR_error]
    clear e1
    have h4' : decide (most < (N : Int)) = true := by simp; omega
    have H4 := hide h4
    clear h4
    go_enter Try.func81, Try.ntmps81
    go_wp2_with fail
    refine (xsome_ok (unhide H) 2 (unhide HC) hq).mono ?_
    rintro e w1 ⟨rfl, hX, hF⟩
    have H1 := hide (And.intro hX hF)
    clear hX hF
    go_wp2_with fail
    refine (xnumber (unhide H1).1 2 ht (by omega)).mono ?_
    rw [unhide HN]
    rintro e w2 ⟨rfl, j, rfl⟩
    go_wp2_with fail
    refine (xbad ((unhide H1).1.drewN j) 12).mono ?_
    rintro e w3 ⟨rfl, hX, hF⟩
    have H2 := hide (And.intro hX (((unhide H1).2.drewN j).trans hF (fun _ _ t => t)))
    clear hX hF H1
    go_wp2
    go_ret
    exact ⟨rfl, unhide H2⟩
  · rw [e1, if_neg h4, stepR_ok _ _ _ (unhide HC)]
    clear e1
    have h4' : decide (most < (N : Int)) = false := by simp; omega
    have H4 := hide h4
    clear h4
    go_enter Try.func81, Try.ntmps81
    go_wp2_with fail
    refine (xsome_ok (unhide H) 2 (unhide HC) hq).mono ?_
    rintro e w1 ⟨rfl, hX, hF⟩
    have H1 := hide (And.intro hX hF)
    clear hX hF
    go_wp2_with fail
    refine (xnumber (unhide H1).1 2 ht (by omega)).mono ?_
    rw [unhide HN]
    rintro e w2 ⟨rfl, j, rfl⟩
    go_wp2_with fail
    refine (xtook ((unhide H1).1.drewN j) 2 ht).mono ?_
    rintro e w3 ⟨rfl, hX, hF⟩
    have H2 := hide (And.intro hX (((unhide H1).2.drewN j).trans hF (fun _ _ t => t)))
    clear hX hF H1
    go_wp2
    go_ret
    exact ⟨rfl, unhide H2⟩

end
end Go.Proofs.Ytkjoojamkbpfcaa
