/- The walk of HashApart. -/
import Derived.Test.YtchdjfhenjbcnaaDoorK4
namespace Go.Proofs.YtchdjfhenjbcnaaDoor
open Go.RowKit

set_option maxHeartbeats 2000000 in
theorem apart_walk (w : World) (hT : TabP w) (ao bo co : Option Addr) (ac bc cc : Nat) (az bs cs : List UInt8) (hA : BAt w ao ac az) (hB : BAt w bo bc bs) (hC : BAt w co cc cs) (hca : az.length ≤ ac) (hcb : bs.length ≤ bc) (hcc : cs.length ≤ cc) (hla : az.length ≤ 1048576) (hlb : bs.length ≤ 1048576) (hlc : cs.length ≤ 1048576) :
    Calls Tryd.prog 6 #[.slice ao az.length ac, .slice bo bs.length bc, .slice co cs.length cc] w fun e w' => e = .returned (.bool true) ∧ Fr (fun _ => False) w w' := by
  have HT := hide hT
  have HA := hide hA
  have HB := hide hB
  have HC := hide hC
  clear hT hA hB hC
  go_enter Tryd.func6, Tryd.ntmps6
  go_wp2_with fail
  refine (awake_any w (unhide HT)).mono ?_
  rintro e w1 ⟨rfl, hF1⟩
  have HF1 := hide hF1
  clear hF1
  go_wp2_with fail
  refine (new_any w1 ((unhide HT).later (unhide HF1))).mono ?_
  rintro e w2 ⟨p, rfl, h1, h2, h3⟩
  have hp3 : 3 < p := by
    have := ((unhide HT).later (unhide HF1)).gt
    omega
  have hwp : w.heap.size ≤ p := Nat.le_trans (unhide HF1).size h3
  have H2 := hide (And.intro h1 ((unhide HF1).trans h2 (fun _ _ t => t)))
  clear h1 h2 h3 HF1
  go_wp2_with fail
  refine (write_any w2 ((unhide HT).later (unhide H2).2) p [] (unhide H2).1 hp3 ao ac az ((unhide HA).later (unhide H2).2) hca (sep_row (unhide HA) rfl hwp) (by simp; omega)).mono ?_
  rintro e w3 ⟨rfl, k1, k2⟩
  rw [List.nil_append] at k1
  have H3 := hide (And.intro k1 (show Fr (fun _ => False) w w3 from (unhide H2).2.trans k2 (fun i hi t => by omega)))
  clear k1 k2 H2
  go_wp2_with fail
  refine (clone_any w3 p az (unhide H3).1).mono ?_
  rintro e w4 ⟨q, rfl, h1, h2, h3⟩
  have hpq : p ≠ q := by have := (unhide H3).1.lt; omega
  have hq3 : 3 < q := by have := (unhide H3).1.lt; omega
  have hwq : w.heap.size ≤ q := Nat.le_trans (unhide H3).2.size h3
  have H4 := hide (And.intro ((unhide H3).1.later h2) (And.intro h1 ((unhide H3).2.trans h2 (fun _ _ t => t))))
  clear h1 h2 h3 H3
  go_wp2_with fail
  refine (write_any w4 ((unhide HT).later (unhide H4).2.2) p az (unhide H4).1 hp3 bo bc bs ((unhide HB).later (unhide H4).2.2) hcb (sep_row (unhide HB) rfl hwp) (by omega)).mono ?_
  rintro e w5 ⟨rfl, k1, k2⟩
  have H5 := hide (And.intro k1 (And.intro ((unhide H4).2.1.frame k2 (fun t => hpq t.symm)) (show Fr (fun _ => False) w w5 from (unhide H4).2.2.trans k2 (fun i hi t => by omega))))
  clear k1 k2 H4
  go_wp2_with fail
  refine (write_any w5 ((unhide HT).later (unhide H5).2.2) q az (unhide H5).2.1 hq3 co cc cs ((unhide HC).later (unhide H5).2.2) hcc (sep_row (unhide HC) rfl hwq) (by omega)).mono ?_
  rintro e w6 ⟨rfl, k1, k2⟩
  have H6 := hide (And.intro ((unhide H5).1.frame k2 (fun t => hpq t)) (And.intro k1 (show Fr (fun _ => False) w w6 from (unhide H5).2.2.trans k2 (fun i hi t => by omega))))
  clear k1 k2 H5
  go_wp2_with fail
  refine (hsum_any w6 ((unhide HT).later (unhide H6).2.2) p (az ++ bs) (unhide H6).1 (by rw [List.length_append]; omega)).mono ?_
  rintro e w7 ⟨v, rfl, g7, m1, m2, m3⟩
  obtain ⟨xo, xc, rfl, _⟩ := m1.shape
  rw [digest_length] at m1 ⊢
  have H7 := hide (And.intro ((unhide H6).2.1.later m2) (And.intro ((unhide H6).2.2.trans m2 (fun _ _ t => t)) (m1.bat (by rw [digest_length]; omega)).2))
  clear m1 m2 m3 H6
  go_wp2_with fail
  refine (hsum_any w7 ((unhide HT).later (unhide H7).2.1) q (az ++ cs) (unhide H7).1 (by rw [List.length_append]; omega)).mono ?_
  rintro e w8 ⟨v, rfl, g8, m1, m2, m3⟩
  obtain ⟨yo, yc, rfl, _⟩ := m1.shape
  rw [digest_length] at m1 ⊢
  have H8 := hide (And.intro ((unhide H7).2.2.later m2) (And.intro ((unhide H7).2.1.trans m2 (fun _ _ t => t)) (m1.bat (by rw [digest_length]; omega)).2))
  clear m1 m2 m3 H7
  have hx : ∀ wx, Fr (fun _ => False) w8 wx → (convert 22 9 (.slice xo 32 xc)).run Tryd.prog wx = .ok (.string ⟨(digest (az ++ bs)).toArray⟩) wx := fun wx hx => by
    have := conv_bytes ((unhide H8).1.later hx)
    rw [digest_length] at this
    exact this
  have hy : ∀ wx, Fr (fun _ => False) w8 wx → (convert 22 9 (.slice yo 32 yc)).run Tryd.prog wx = .ok (.string ⟨(digest (az ++ cs)).toArray⟩) wx := fun wx hx => by
    have := conv_bytes ((unhide H8).2.2.later hx)
    rw [digest_length] at this
    exact this
  have HX := hide (And.intro hx hy)
  clear hx hy
  go_wp2
  refine a13_any w8 ((unhide HT).later (unhide H8).2.1) ao bo co xo yo ac bc cc xc yc az bs cs ((unhide HA).later (unhide H8).2.1) ((unhide HB).later (unhide H8).2.1) ((unhide HC).later (unhide H8).2.1) hla hlb hlc (unhide HX).1 (unhide HX).2 _ _ _ _ _ _ _ _ _ _ _ _ _ _ _ _ _ _ _ _ _ _ _ _ _ _ _ _ _ _ _ _ _ _ _ _ _ _ _ _ _ _ _ _ _ _ _ _ _ _ _ _ _ _ (fun _ _ _ _ _ h => h) ?_
  intro w9 v39 v41 v43 v44 v50 v52 v54 v55 hF9
  have H9 := hide ((unhide H8).2.1.trans hF9 (fun _ _ t => t))
  clear hF9
  go_wp2
  go_ret
  exact ⟨rfl, unhide H9⟩

end Go.Proofs.YtchdjfhenjbcnaaDoor
