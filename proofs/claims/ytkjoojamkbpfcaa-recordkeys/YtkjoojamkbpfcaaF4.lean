/- The document's reader: End, Fixed, Text. -/
import Derived.Test.YtkjoojamkbpfcaaF3
namespace Go.Proofs.Ytkjoojamkbpfcaa
open Go.RowKit

section
variable {w : World} {p : Nat} {ao : Option Addr} {cap : Nat} {bs : List UInt8} {s : RS}

/-- A part of the reader's bytes, as a string. -/
theorem conv_x (h : XAt w p ao cap bs s) (A : Option Addr) (o k c : Nat) (hs : o + k ≤ bs.length) (hA : 0 < k → A = ao.map (·.add o)) :
    (convert 24 9 (.slice A k c)).run Try.prog w = .ok (.string ⟨((bs.drop o).take k).toArray⟩) w := by
  by_cases hk : 0 < k
  · obtain ⟨b, off, e1, e2, hc⟩ := h.row (by omega)
    subst e1
    rw [hA hk]
    have hL : ((bs.drop o).take k).length = k := by simp; omega
    have := run_convert_bytes_back (P := Try.prog) w 24 9 5 ⟨b, off + o, none⟩ c ((bs.drop o).take k) Try.underlying24 Try.underlying5 Try.underlying9 (fun j hj => by
      have hplain : (⟨b, off + o, none⟩ : Addr).add j = ⟨b, off + (o + j), none⟩ := by unfold Addr.add; split <;> simp_all [Nat.add_assoc]
      rw [hplain, hc (o + j) (by omega)]
      simp [List.getElem_take, List.getElem_drop])
    have hpl : (some (⟨b, off, none⟩ : Addr)).map (·.add o) = some ⟨b, off + o, none⟩ := by simp only [Option.map_some, Addr.add]; split <;> simp_all
    rw [hpl]
    generalize ((bs.drop o).take k) = L at this hL ⊢
    subst hL
    exact this
  · obtain rfl : k = 0 := by omega
    cases A with
    | none =>
      rw [run_convert_bytes_nil w 24 5 Try.underlying24 Try.underlying5 0 c 9 Try.underlying9]
      simp; rfl
    | some x =>
      have := run_convert_bytes_back (P := Try.prog) w 24 9 5 x c [] Try.underlying24 Try.underlying5 Try.underlying9 (fun j hj => by simp at hj)
      simpa using this

theorem xFixed (h : XAt w p ao cap bs s) (size : Int) :
    Calls Try.prog 46 #[.pointer (some ⟨p, 0, none⟩), .int .i64 size] w (XDone p ao cap bs w (stepR s (.string ⟨#[]⟩) (oFixed bs s.a size))) := by
  have H := hide h
  clear h
  by_cases h1 : size < 0 ∨ 65535 < size
  · rw [show oFixed bs s.a size = .error 1 by simp [oFixed, h1], stepR_error]
    go_enter Try.func46, Try.ntmps46
    rcases h1 with h1 | h1
    · have hd : decide (size < 0) = true := by simp; omega
      go_wp2_with fail
      refine (xbad (unhide H) 1).mono ?_
      rintro e w1 ⟨rfl, hX, hF⟩
      have H1 := hide (And.intro hX hF)
      clear hX hF
      go_wp2_with fail
      refine (xsome_no (unhide H1).1 size (fun t => absurd t (badR_c s (by decide)))).mono ?_
      rw [badR_bad (badR_c s (by decide))]
      rintro e w2 ⟨rfl, hX, hF⟩
      have H2 := hide (And.intro hX ((unhide H1).2.trans hF (fun _ _ t => t)))
      clear hX hF H1
      go_wp2
      go_ret
      exact ⟨rfl, unhide H2⟩
    · have hd : decide (size < 0) = false := by simp; omega
      have hd2 : decide (65535 < size) = true := by simp; omega
      go_wp2_with fail
      refine (xbad (unhide H) 1).mono ?_
      rintro e w1 ⟨rfl, hX, hF⟩
      have H1 := hide (And.intro hX hF)
      clear hX hF
      go_wp2_with fail
      refine (xsome_no (unhide H1).1 size (fun t => absurd t (badR_c s (by decide)))).mono ?_
      rw [badR_bad (badR_c s (by decide))]
      rintro e w2 ⟨rfl, hX, hF⟩
      have H2 := hide (And.intro hX ((unhide H1).2.trans hF (fun _ _ t => t)))
      clear hX hF H1
      go_wp2
      go_ret
      exact ⟨rfl, unhide H2⟩
  obtain ⟨k, rfl⟩ : ∃ k : Nat, size = k := ⟨size.toNat, by omega⟩
  have hd : decide ((k : Int) < 0) = false := by simp
  have hd2 : decide (65535 < (k : Int)) = false := by simp; omega
  by_cases h2 : s.c = 0 → (bs.length : Int) - s.a < k
  · rw [stepR_short _ (fun hc => show oFixed bs s.a k = .error 10 by simp [oFixed, h1, h2 hc])]
    have H2 := hide h2
    clear h1 h2
    go_enter Try.func46, Try.ntmps46
    go_wp2_with fail
    refine (xsome_no (unhide H) k (unhide H2)).mono ?_
    rintro e w2 ⟨rfl, hX, hF⟩
    have H3 := hide (And.intro hX hF)
    clear hX hF
    go_wp2
    go_ret
    exact ⟨rfl, unhide H3⟩
  have hc : s.c = 0 := by
    by_cases hc : s.c = 0
    · exact hc
    · exact absurd (fun t => absurd t hc) h2
  have h3 : ¬ (bs.length : Int) - s.a < k := fun t => h2 (fun _ => t)
  have hle := (unhide H).le
  have hsm := (unhide H).small
  have hlc := (unhide H).lc
  have hcm := (unhide H).cm
  have ht : s.a + k ≤ bs.length := by omega
  have hq : (k : Int) ≤ (bs.length : Int) - s.a := by omega
  obtain ⟨S, HS⟩ : ∃ S, Hid ((⟨((bs.drop s.a).take k).toArray⟩ : ByteArray) = S) := ⟨_, rfl⟩
  rw [show oFixed bs s.a k = .ok (.string S, s.a + k) by rw [← unhide HS]; simp [oFixed, h1, h3], stepR_ok _ _ _ hc]
  have HC := hide hc
  clear h1 h2 h3 hc
  go_enter Try.func46, Try.ntmps46
  go_wp2_with fail
  refine (xsome_ok (unhide H) k (unhide HC) hq).mono ?_
  rintro e w1 ⟨rfl, hX, hF⟩
  have c0 := hX.c0
  have c1 := hX.c1
  have hb1 : (s.a : Int) ≤ (s.a : Int) + k := by omega
  have hb2 : (s.a : Int) + k ≤ cap := by omega
  by_cases hne : cap = s.a
  · have hcv : ∀ j c, (convert 24 9 (.slice ao k c)).run Try.prog (w1.drewN j) = .ok (.string S) (w1.drewN j) := fun j c => by
      rw [← unhide HS]; exact conv_x (hX.drewN j) ao s.a k c ht (fun h0 => by omega)
    have H1 := hide (And.intro hX hF)
    clear hX hF
    go_wp2_with fail
    go_quiet (fail)
    go_wp2_with fail
    refine (xtook ((unhide H1).1.drewN nq) k ht).mono ?_
    rintro e w3 ⟨rfl, hX, hF⟩
    have H2 := hide (And.intro hX (((unhide H1).2.drewN nq).trans hF (fun _ _ t => t)))
    clear hX hF H1
    go_wp2
    go_ret
    exact ⟨rfl, unhide H2⟩
  · have hcv : ∀ j c, (convert 24 9 (.slice (ao.map (·.add s.a)) k c)).run Try.prog (w1.drewN j) = .ok (.string S) (w1.drewN j) := fun j c => by
      rw [← unhide HS]; exact conv_x (hX.drewN j) _ s.a k c ht (fun h0 => rfl)
    have H1 := hide (And.intro hX hF)
    clear hX hF
    go_wp2_with fail
    go_quiet (fail)
    go_wp2_with fail
    refine (xtook ((unhide H1).1.drewN nq) k ht).mono ?_
    rintro e w3 ⟨rfl, hX, hF⟩
    have H2 := hide (And.intro hX (((unhide H1).2.drewN nq).trans hF (fun _ _ t => t)))
    clear hX hF H1
    go_wp2
    go_ret
    exact ⟨rfl, unhide H2⟩

end
end Go.Proofs.Ytkjoojamkbpfcaa
