/- The document's reader: Text, End. -/
import Derived.Test.YtdbmojiplfkniaaF4
namespace Go.Proofs.Ytdbmojiplfkniaa
open Go.RowKit

section
variable {w : World} {p : Nat} {ao : Option Addr} {cap : Nat} {bs : List UInt8} {s : RS}

theorem xText (h : XAt w p ao cap bs s) (most : Int) :
    Calls Try.prog 55 #[.pointer (some ⟨p, 0, none⟩), .int .i64 most] w (XDone p ao cap bs w (stepR s (.string ⟨#[]⟩) (oText bs s.a most))) := by
  have H := hide h
  clear h
  by_cases h1 : most < 0
  · rw [show oText bs s.a most = .error 1 by simp [oText, h1], stepR_error]
    have hd : decide (most < 0) = true := by simp; omega
    go_enter Try.func55, Try.ntmps55
    go_wp2_with fail
    refine (xbad (unhide H) 1).mono ?_
    rintro e w1 ⟨rfl, hX, hF⟩
    have H1 := hide (And.intro hX hF)
    clear hX hF
    go_wp2_with fail
    refine (xsome_no (unhide H1).1 2 (fun t => absurd t (badR_c s (by decide)))).mono ?_
    rw [badR_bad (badR_c s (by decide))]
    rintro e w2 ⟨rfl, hX, hF⟩
    have H2 := hide (And.intro hX ((unhide H1).2.trans hF (fun _ _ t => t)))
    clear hX hF H1
    go_wp2
    go_ret
    exact ⟨rfl, unhide H2⟩
  have hd : decide (most < 0) = false := by simp; omega
  by_cases h2 : s.c = 0 → (bs.length : Int) - s.a < 2
  · rw [stepR_short _ (fun hc => show oText bs s.a most = .error 10 by simp [oText, h1, h2 hc])]
    have H2 := hide h2
    clear h1 h2
    go_enter Try.func55, Try.ntmps55
    go_wp2_with fail
    refine (xsome_no (unhide H) 2 (unhide H2)).mono ?_
    rintro e w2 ⟨rfl, hX, hF⟩
    have H3 := hide (And.intro hX hF)
    clear hX hF
    go_wp2
    go_ret
    exact ⟨rfl, unhide H3⟩
  have hc : s.c = 0 := by
    by_cases hc : s.c = 0
    · exact hc
    · exact absurd (fun t => absurd t hc) h2
  have h3 : ¬ (bs.length : Int) - s.a < 2 := fun t => h2 (fun _ => t)
  have hle := (unhide H).le
  have hsm := (unhide H).small
  have hlc := (unhide H).lc
  have hcm := (unhide H).cm
  have ht : s.a + 2 ≤ bs.length := by omega
  obtain ⟨N, HN⟩ : ∃ N, Hid (num ((bs.drop s.a).take 2) = N) := ⟨_, rfl⟩
  have hN : N < 65536 := by
    rw [← unhide HN]
    refine Nat.lt_of_lt_of_le (num_lt _) (Nat.le_trans (Nat.pow_le_pow_right (by omega) (List.length_take_le 2 _)) (by decide))
  have hq : (2 : Int) ≤ (bs.length : Int) - s.a := by omega
  have e1 : oText bs s.a most = if most < N then .error 12 else if (bs.length : Int) - (s.a + 2 : Nat) < N then .error 10 else .ok (.string ⟨((bs.drop (s.a + 2)).take N).toArray⟩, s.a + (2 + N)) := by
    unfold oText; rw [if_neg h1, if_neg h3, unhide HN, Nat.add_assoc]
  have HC := hide hc
  clear h1 h2 h3 hc
  by_cases h4 : most < N
  · rw [e1, if_pos h4, stepR_error]
    clear e1
    have h4' : decide (most < (N : Int)) = true := by simp; omega
    have H4 := hide h4
    clear h4
    go_enter Try.func55, Try.ntmps55
    go_wp2_with fail
    refine (xsome_ok (unhide H) 2 (unhide HC) hq).mono ?_
    rintro e w1 ⟨rfl, hX, hF⟩
    have H1 := hide (And.intro hX hF)
    clear hX hF
    go_wp2_with fail
    refine (xnumber (unhide H1).1 2 ht (by omega)).mono ?_
    rw [unhide HN]
    rintro e w2 ⟨rfl, j, rfl⟩
    go_wp2_with fail
    refine (xbad ((unhide H1).1.drewN j) 12).mono ?_
    rintro e w3 ⟨rfl, hX, hF⟩
    have H2 := hide (And.intro hX (((unhide H1).2.drewN j).trans hF (fun _ _ t => t)))
    clear hX hF H1
    go_wp2
    go_ret
    exact ⟨rfl, unhide H2⟩
  rw [e1, if_neg h4]
  clear e1
  have h4' : decide (most < (N : Int)) = false := by simp; omega
  have H4 := hide h4
  clear h4
  by_cases h5 : (bs.length : Int) - (s.a + 2 : Nat) < N
  · rw [if_pos h5, stepR_error]
    have h5' : decide ((N : Int) ≤ (bs.length : Int) - s.a - (2 : Nat)) = false := by simp; omega
    have H5 := hide h5
    clear h5
    go_enter Try.func55, Try.ntmps55
    go_wp2_with fail
    refine (xsome_ok (unhide H) 2 (unhide HC) hq).mono ?_
    rintro e w1 ⟨rfl, hX, hF⟩
    have H1 := hide (And.intro hX hF)
    clear hX hF
    go_wp2_with fail
    refine (xnumber (unhide H1).1 2 ht (by omega)).mono ?_
    rw [unhide HN]
    rintro e w2 ⟨rfl, j, rfl⟩
    go_wp2_with fail
    refine (xhas ((unhide H1).1.drewN j) 2 (by omega) N).mono ?_
    rw [h5']
    rintro e w2 ⟨rfl, j2, rfl⟩
    have HX := hide (And.intro (((unhide H1).1.drewN j).drewN j2) (((unhide H1).2.drewN j).drewN j2))
    generalize ((w1.drewN j).drewN j2) = wA at HX ⊢
    go_wp2_with fail
    refine (xbad (unhide HX).1 10).mono ?_
    rintro e w3 ⟨rfl, hX, hF⟩
    have H2 := hide (And.intro hX ((unhide HX).2.trans hF (fun _ _ t => t)))
    clear hX hF H1
    go_wp2
    go_ret
    exact ⟨rfl, unhide H2⟩
  rw [if_neg h5]
  have h5' : decide ((N : Int) ≤ (bs.length : Int) - s.a - (2 : Nat)) = true := by simp; omega
  have ht2 : s.a + 2 + N ≤ bs.length := by omega
  clear h5
  obtain ⟨S, HS⟩ : ∃ S, Hid ((⟨((bs.drop (s.a + 2)).take N).toArray⟩ : ByteArray) = S) := ⟨_, rfl⟩
  rw [unhide HS, stepR_ok _ _ _ (unhide HC)]
  have ht3 : s.a + (2 + N) ≤ bs.length := by omega
  have hb1 : (s.a : Int) + 2 ≤ (s.a : Int) + 2 + N := by omega
  have hb2 : (s.a : Int) + 2 + N ≤ cap := by omega
  go_enter Try.func55, Try.ntmps55
  go_wp2_with fail
  refine (xsome_ok (unhide H) 2 (unhide HC) hq).mono ?_
  rintro e w1 ⟨rfl, hX, hF⟩
  have H1 := hide (And.intro hX hF)
  clear hX hF
  go_wp2_with fail
  refine (xnumber (unhide H1).1 2 ht (by omega)).mono ?_
  rw [unhide HN]
  rintro e w2 ⟨rfl, j, rfl⟩
  go_wp2_with fail
  refine (xhas ((unhide H1).1.drewN j) 2 (by omega) N).mono ?_
  rw [h5']
  rintro e w2 ⟨rfl, j2, rfl⟩
  have HX := hide (And.intro (((unhide H1).1.drewN j).drewN j2) (((unhide H1).2.drewN j).drewN j2))
  generalize ((w1.drewN j).drewN j2) = wA at HX ⊢
  clear H1
  have c0 := (unhide HX).1.c0
  have c1 := (unhide HX).1.c1
  by_cases hne : cap = s.a + 2
  · have hcv : ∀ j c, (convert 27 9 (.slice ao N c)).run Try.prog (wA.drewN j) = .ok (.string S) (wA.drewN j) := fun j c => by
      rw [← unhide HS]; exact conv_x ((unhide HX).1.drewN j) ao (s.a + 2) N c ht2 (fun h0 => by omega)
    go_wp2_with fail
    go_quiet (fail)
    go_wp2_with fail
    refine (xtook ((unhide HX).1.drewN nq) (2 + N) ht3).mono ?_
    rintro e w3 ⟨rfl, hX, hF⟩
    have H2 := hide (And.intro hX (((unhide HX).2.drewN nq).trans hF (fun _ _ t => t)))
    clear hX hF HX
    go_wp2
    go_ret
    exact ⟨rfl, unhide H2⟩
  · have hcv : ∀ j c, (convert 27 9 (.slice (ao.map (fun x => (⟨x.block, x.off + (s.a + 1 + 1), none⟩ : Addr))) N c)).run Try.prog (wA.drewN j) = .ok (.string S) (wA.drewN j) := fun j c => by
      rw [← unhide HS]; exact conv_x ((unhide HX).1.drewN j) _ (s.a + 2) N c ht2 (fun h0 => rfl)
    have hn2 : ((s.a : Int) + 2).toNat = s.a + 2 := by omega
    have hn3 : ((s.a : Int) + 2 + N).toNat = s.a + 2 + N := by omega
    have hw1 : IntKind.i64.wrap ((s.a : Int) + 2) = (s.a : Int) + 2 := by rw [IntKind.wrap_i64]; omega
    have hw2 : IntKind.i64.wrap ((s.a : Int) + 2 + N) = (s.a : Int) + 2 + N := by rw [IntKind.wrap_i64]; omega
    have hz0 : (0 : Int) ≤ (s.a : Int) + 2 := by omega
    go_wp2_with fail
    go_quiet (fail)
    go_wp2_with fail
    refine (xtook ((unhide HX).1.drewN nq) (2 + N) ht3).mono ?_
    rintro e w3 ⟨rfl, hX, hF⟩
    have H2 := hide (And.intro hX (((unhide HX).2.drewN nq).trans hF (fun _ _ t => t)))
    clear hX hF HX
    go_wp2
    go_ret
    exact ⟨rfl, unhide H2⟩

theorem XAt.setOther (h : XAt w p ao cap bs s) {b o : Nat} (hp : b ≠ p) (hg : ∀ b' off, ao = some ⟨b', off, none⟩ → 0 < bs.length → b ≠ b') (v : Value) : XAt (w.setCell ⟨b, o, none⟩ v) p ao cap bs s :=
  h.stay (Below.heap_setCell _ _ _ _ (fun e => hp e.symm)) fun b' off e h0 _ => Below.heap_setCell _ _ _ _ (fun t => hg b' off e h0 t.symm)

theorem XAt.rowlt (h : XAt w p ao cap bs s) {b' off : Nat} (e : ao = some ⟨b', off, none⟩) (h0 : 0 < bs.length) : b' < w.heap.size := by
  obtain ⟨b, o, e1, _, hc⟩ := h.row h0
  rw [e] at e1
  injection e1 with e1
  injection e1 with e1 e2
  subst e1
  exact World.block_lt_of_cell? _ _ (hc 0 h0)

theorem xEnd (h : XAt w p ao cap bs s) :
    Calls Try.prog 59 #[.pointer (some ⟨p, 0, none⟩)] w fun e w' => e = .returned (.agg #[.int .i64 (endR s bs.length).c, .int .i64 (endR s bs.length).f]) ∧ XAt w' p ao cap bs (endR s bs.length) ∧ Fr (· = p) w w' := by
  have H := hide h
  have hlt := h.lt
  have hsm := h.small
  have c0 := h.c0
  have c1 := h.c1
  have c3 := h.c3
  have c4 := h.c4
  clear h
  have hnp : w.heap.size ≠ p := by omega
  by_cases ha : s.a < bs.length
  · obtain ⟨s', Hs'⟩ : ∃ s', Hid (badR s 13 = s') := ⟨_, rfl⟩
    rw [show endR s bs.length = s' by rw [← unhide Hs']; unfold endR badR; simp [ha]]
    have hd : decide ((s.a : Int) < (bs.length : Int)) = true := by simp; omega
    go_enter Try.func59, Try.ntmps59
    go_wp2
    go_quiet (fail)
    go_wp2_with fail
    refine (xbad (XAt.drewN (XAt.alloc (unhide H) (.cells #[.int .i64 0, .int .i64 0] 47)) nq) 13).mono ?_
    rw [unhide Hs']
    rintro e w2 ⟨rfl, hX, hF⟩
    have d3 := hX.c3
    have d4 := hX.c4
    have hF0 := (((Fr.refl (· = p) w).alloc (.cells #[.int .i64 0, .int .i64 0] 47)).drewN nq)
    have m0 : w2.cell? ⟨w.heap.size, 0, none⟩ = some (.int .i64 0) := (hF.cell (a := ⟨w.heap.size, 0, none⟩) (by simp) hnp).trans (by simp [go_sem])
    have m1 : w2.cell? ⟨w.heap.size, 1, none⟩ = some (.int .i64 0) := (hF.cell (a := ⟨w.heap.size, 1, none⟩) (by simp) hnp).trans (by simp [go_sem])
    have g0 : w2.frozen? ⟨w.heap.size, 0, none⟩ = false := (hF.frozen (a := ⟨w.heap.size, 0, none⟩) (by simp) hnp).trans (by simp [go_sem])
    have g1 : w2.frozen? ⟨w.heap.size, 1, none⟩ = false := (hF.frozen (a := ⟨w.heap.size, 1, none⟩) (by simp) hnp).trans (by simp [go_sem])
    have hng : ∀ b' off, ao = some ⟨b', off, none⟩ → 0 < bs.length → w.heap.size ≠ b' := fun b' off e h0 => by have := XAt.rowlt (unhide H) e h0; omega
    have HR := hide ((hX.setOther (o := 0) hnp hng (.int .i64 s'.c)).setOther (o := 1) hnp hng (.int .i64 s'.f))
    have HF := hide (((hF0.trans hF (fun _ _ t => t)).setCell (p := ⟨w.heap.size, 0, none⟩) (fun t => absurd t (Nat.lt_irrefl _)) (.int .i64 s'.c)).setCell (p := ⟨w.heap.size, 1, none⟩) (fun t => absurd t (Nat.lt_irrefl _)) (.int .i64 s'.f))
    have hpw := hX.lt
    have hwl : w.heap.size < w2.heap.size := World.block_lt_of_cell? _ _ m0
    clear hX hF hF0 hng
    go_wp2
    exact bodyPost_ret (v := .agg #[.int .i64 s'.c, .int .i64 s'.f]) (by simp [results, Try.results59, go_sem, m0, m1]) rfl ⟨rfl, unhide HR, unhide HF⟩
  · rw [show endR s bs.length = s by simp [endR, ha]]
    have hd : decide ((s.a : Int) < (bs.length : Int)) = false := by simp; omega
    have hng : ∀ b' off, ao = some ⟨b', off, none⟩ → 0 < bs.length → w.heap.size ≠ b' := fun b' off e h0 => by have := XAt.rowlt (unhide H) e h0; omega
    have Hng := hide hng
    clear hng
    go_enter Try.func59, Try.ntmps59
    go_wp2
    go_quiet (fail)
    have HR := hide ((((XAt.alloc (unhide H) (.cells #[.int .i64 0, .int .i64 0] 47)).drewN nq).setOther (o := 0) hnp (unhide Hng) (.int .i64 s.c)).setOther (o := 1) hnp (unhide Hng) (.int .i64 s.f))
    have HF := hide (((((Fr.refl (· = p) w).alloc (.cells #[.int .i64 0, .int .i64 0] 47)).drewN nq).setCell (p := ⟨w.heap.size, 0, none⟩) (fun t => absurd t (Nat.lt_irrefl _)) (.int .i64 s.c)).setCell (p := ⟨w.heap.size, 1, none⟩) (fun t => absurd t (Nat.lt_irrefl _)) (.int .i64 s.f))
    go_wp2
    exact bodyPost_ret (v := .agg #[.int .i64 s.c, .int .i64 s.f]) (by simp [results, Try.results59, go_sem]) rfl ⟨rfl, unhide HR, unhide HF⟩

end
end Go.Proofs.Ytdbmojiplfkniaa
