/- The document's reader: contracts of its calls. Each answers, and leaves the reader, as the program's own reader does ('stepR'). -/
import Derived.Test.YtkjoojamkbpfcaaF1
namespace Go.Proofs.Ytkjoojamkbpfcaa
open Go.RowKit

theorem badR_c (s : RS) {x : Int} (hx : x ≠ 0) : (badR s x).c ≠ 0 := by
  unfold badR; split
  · exact hx
  · assumption

theorem badR_bad {s : RS} (hc : s.c ≠ 0) (y : Int) : badR s y = s := by simp [badR, hc]

theorem stepR_error (s : RS) (z : Value) (x : Int) : stepR s z (.error x) = (z, badR s x) := by
  unfold stepR badR; split <;> rfl

theorem stepR_short {s : RS} {o : Except Int (Value × Nat)} (z : Value) (h : s.c = 0 → o = .error 10) : stepR s z o = (z, badR s 10) := by
  by_cases hc : s.c = 0
  · rw [h hc, stepR_error]
  · rw [stepR_bad hc, badR_bad hc]

theorem stepR_ok {s : RS} (z v : Value) (n : Nat) (hc : s.c = 0) : stepR s z (.ok (v, s.a + n)) = (v, { s with a := s.a + n, l := s.a }) := by
  obtain ⟨a, l, c, f⟩ := s
  have hc' : c = 0 := hc
  subst hc'
  simp [stepR]

/-- What a call of the document's reader promises. -/
def XDone (p : Nat) (ao : Option Addr) (cap : Nat) (bs : List UInt8) (w : World) (r : Value × RS) (e : Ending) (w' : World) : Prop :=
  e = .returned r.1 ∧ XAt w' p ao cap bs r.2 ∧ Fr (· = p) w w'

section
variable {w : World} {p : Nat} {ao : Option Addr} {cap : Nat} {bs : List UInt8} {s : RS}

theorem xNumber (h : XAt w p ao cap bs s) (size : Int) :
    Calls Try.prog 45 #[.pointer (some ⟨p, 0, none⟩), .int .i64 size] w (XDone p ao cap bs w (stepR s (.int .i64 0) (oNumber bs s.a size))) := by
  have H := hide h
  clear h
  by_cases h1 : size < 1 ∨ 8 < size
  · rw [show oNumber bs s.a size = .error 1 by simp [oNumber, h1], stepR_error]
    go_enter Try.func45, Try.ntmps45
    rcases h1 with h1 | h1
    · have hd : decide (size < 1) = true := by simp; omega
      go_wp2_with fail
      refine (xbad (unhide H) 1).mono ?_
      rintro e w1 ⟨rfl, hX, hF⟩
      have H1 := hide (And.intro hX hF)
      clear hX hF
      go_wp2_with fail
      refine (xsome_no (unhide H1).1 size (fun t => absurd t (badR_c s (by decide)))).mono ?_
      rw [badR_bad (badR_c s (by decide))]
      rintro e w2 ⟨rfl, hX, hF⟩
      have H2 := hide (And.intro hX ((unhide H1).2.trans hF (fun _ _ t => t)))
      clear hX hF H1
      go_wp2
      go_ret
      exact ⟨rfl, unhide H2⟩
    · have hd : decide (size < 1) = false := by simp; omega
      have hd2 : decide (8 < size) = true := by simp; omega
      go_wp2_with fail
      refine (xbad (unhide H) 1).mono ?_
      rintro e w1 ⟨rfl, hX, hF⟩
      have H1 := hide (And.intro hX hF)
      clear hX hF
      go_wp2_with fail
      refine (xsome_no (unhide H1).1 size (fun t => absurd t (badR_c s (by decide)))).mono ?_
      rw [badR_bad (badR_c s (by decide))]
      rintro e w2 ⟨rfl, hX, hF⟩
      have H2 := hide (And.intro hX ((unhide H1).2.trans hF (fun _ _ t => t)))
      clear hX hF H1
      go_wp2
      go_ret
      exact ⟨rfl, unhide H2⟩
  obtain ⟨k, rfl⟩ : ∃ k : Nat, size = k := ⟨size.toNat, by omega⟩
  have hd : decide ((k : Int) < 1) = false := by simp; omega
  have hd2 : decide (8 < (k : Int)) = false := by simp; omega
  by_cases h2 : s.c = 0 → (bs.length : Int) - s.a < k
  · rw [stepR_short _ (fun hc => show oNumber bs s.a k = .error 10 by simp [oNumber, h1, h2 hc])]
    have H2 := hide h2
    clear h1 h2
    go_enter Try.func45, Try.ntmps45
    go_wp2_with fail
    refine (xsome_no (unhide H) k (unhide H2)).mono ?_
    rintro e w2 ⟨rfl, hX, hF⟩
    have H3 := hide (And.intro hX hF)
    clear hX hF
    go_wp2
    go_ret
    exact ⟨rfl, unhide H3⟩
  have hc : s.c = 0 := by
    by_cases hc : s.c = 0
    · exact hc
    · exact absurd (fun t => absurd t hc) h2
  have h3 : ¬ (bs.length : Int) - s.a < k := fun t => h2 (fun _ => t)
  have hle := (unhide H).le
  have ht : s.a + k ≤ bs.length ∧ k ≤ 8 := by omega
  obtain ⟨N, HN⟩ : ∃ N, Hid (num ((bs.drop s.a).take k) = N) := ⟨_, rfl⟩
  have e1 : oNumber bs s.a k = if 9223372036854775807 < N then .error 11 else .ok (.int .i64 N, s.a + k) := by rw [← unhide HN]; simp [oNumber, h1, h3]
  have hq : (k : Int) ≤ (bs.length : Int) - s.a := by omega
  have HC := hide hc
  clear h1 h2 h3 hc
  by_cases h4 : 9223372036854775807 < N
  · rw [e1, if_pos h4, stepR_error]
    clear e1
    have h4' : decide ((9223372036854775808 : Int) ≤ N) = true := by simp; omega
    have H4 := hide h4
    clear h4
    go_enter Try.func45, Try.ntmps45
    go_wp2_with fail
    refine (xsome_ok (unhide H) k (unhide HC) hq).mono ?_
    rintro e w1 ⟨rfl, hX, hF⟩
    have H1 := hide (And.intro hX hF)
    clear hX hF
    go_wp2_with fail
    refine (xnumber (unhide H1).1 k ht.1 ht.2).mono ?_
    rw [unhide HN]
    rintro e w2 ⟨rfl, j, rfl⟩
    go_wp2_with fail
    refine (xbad ((unhide H1).1.drewN j) 11).mono ?_
    rintro e w3 ⟨rfl, hX, hF⟩
    have H2 := hide (And.intro hX (((unhide H1).2.drewN j).trans hF (fun _ _ t => t)))
    clear hX hF H1
    go_wp2
    go_ret
    exact ⟨rfl, unhide H2⟩
  · rw [e1, if_neg h4, stepR_ok _ _ _ (unhide HC)]
    clear e1
    have h4' : decide ((9223372036854775808 : Int) ≤ N) = false := by simp; omega
    have h5 : (N : Int) ≤ 9223372036854775807 := by omega
    clear h4
    go_enter Try.func45, Try.ntmps45
    go_wp2_with fail
    refine (xsome_ok (unhide H) k (unhide HC) hq).mono ?_
    rintro e w1 ⟨rfl, hX, hF⟩
    have H1 := hide (And.intro hX hF)
    clear hX hF
    go_wp2_with fail
    refine (xnumber (unhide H1).1 k ht.1 ht.2).mono ?_
    rw [unhide HN]
    rintro e w2 ⟨rfl, j, rfl⟩
    go_wp2_with fail
    refine (xtook ((unhide H1).1.drewN j) k ht.1).mono ?_
    rintro e w3 ⟨rfl, hX, hF⟩
    have H2 := hide (And.intro hX (((unhide H1).2.drewN j).trans hF (fun _ _ t => t)))
    clear hX hF H1
    go_wp2
    go_ret
    exact ⟨rfl, unhide H2⟩

end
end Go.Proofs.Ytkjoojamkbpfcaa
