/- The walk of HashSums. -/
import Derived.Test.YtchdjfhenjbcnaaDoorR5
import Derived.Test.YtchdjfhenjbcnaaDoorL1
import Derived.Test.YtchdjfhenjbcnaaDoorI3
namespace Go.Proofs.YtchdjfhenjbcnaaDoor
open Go.RowKit

/-- Lent bytes can be read. -/
theorem lent_bat {w : World} {g : Nat} {bs : List UInt8} (hsm : bs.length ≤ 140737488355328) (h : ∀ j, j < bs.length + 3 → w.cell? ⟨g, j, none⟩ = some (.int .u8 (lentF bs (bs.length + 3) j)) ∧ w.frozen? ⟨g, j, none⟩ = false) : BAt w (some ⟨g, 0, none⟩) (bs.length + 3) bs :=
  ⟨fun e => (by cases e), fun _ => ⟨g, 0, rfl, fun j hj => by rw [Nat.zero_add, (h j (by omega)).1, lentF_in _ _ _ hj]⟩, hsm⟩

/-- Two rows. -/
def two (a b : RD) : Nat → RD
  | 0 => a
  | _ => b

theorem two_handed {w : World} {a b : RD} (oa : Own w a) (ob : Own w b) (ab : 0 < a.cap → 0 < b.cap → a.g < b.g) (fa : a.n + 9 ≤ 140737488355328) (fb : b.n + 9 ≤ 140737488355328) :
    Handed (w.alloc (.cells #[a.val, b.val] 22)) w.heap.size 2 (two a b) := by
  have st : ∀ {x : RD}, Own w x → Own (w.alloc (.cells #[a.val, b.val] 22)) x := fun h => h.stay (fun hc => Below.heap_alloc _ _ _ (h.lt hc))
  refine ⟨fun j hj => ?_, fun j hj => ?_, fun j k hj hk hne h1 h2 => ?_, fun j hj hc => ?_, fun j hj => ?_, by omega⟩
  · rw [World.cell?_alloc_new]
    match j, hj with
    | 0, _ => rfl
    | 1, _ => rfl
  · match j, hj with
    | 0, _ => exact st oa
    | 1, _ => exact st ob
  · match j, k, hj, hk with
    | 0, 0, _, _ => exact absurd rfl hne
    | 1, 1, _, _ => exact absurd rfl hne
    | 0, 1, _, _ => have := ab h1 h2; simp only [two]; omega
    | 1, 0, _, _ => have := ab h2 h1; simp only [two]; omega
  · match j, hj with
    | 0, _ => have := oa.lt hc; simp only [two]; omega
    | 1, _ => have := ob.lt hc; simp only [two]; omega
  · match j, hj with
    | 0, _ => exact fa
    | 1, _ => exact fb

set_option maxHeartbeats 1000000 in
theorem sums_walk (w : World) (hT : TabP w) (hR : TabR w) (ao : Option Addr) (cap : Nat) (bs : List UInt8) (hB : BAt w ao cap bs) (hfit : bs.length + 72 ≤ 140737488355328) :
    Calls Tryd.prog 3 #[.slice ao bs.length cap] w fun e w' => e = .returned (.bool true) ∧ Fr (fun _ => False) w w' := by
  have HT := hide hT
  have HR := hide hR
  have HB := hide hB
  have hsm := hB.2.2
  clear hT hR hB
  go_enter Tryd.func3, Tryd.ntmps3
  go_wp2_with fail
  refine (awake_any w (unhide HT)).mono ?_
  rintro e w1 ⟨rfl, hF1⟩
  have HF1 := hide hF1
  clear hF1
  go_wp2_with fail
  refine (lent_any w1 ao cap bs ((unhide HB).later (unhide HF1))).mono ?_
  rintro e w2 ⟨g0, rfl, hF2, hg0, hrow⟩
  have HF2 := hide ((unhide HF1).trans hF2 (fun _ _ t => t))
  have hg : w.heap.size ≤ g0 := Nat.le_trans (unhide HF1).size hg0
  have HL := hide hrow
  clear hF2 hg0 hrow HF1
  go_wp2_with fail
  refine (sum_any w2 ((unhide HT).later (unhide HF2)) _ (bs.length + 3) bs (lent_bat hsm (unhide HL)) (by omega)).mono ?_
  rintro e w3 ⟨v3, rfl, g3, x1, x2, x3⟩
  obtain ⟨xo, xc, rfl, _⟩ := x1.shape
  rw [digest_length] at x1 ⊢
  have hF23 := x2
  have HX := hide (And.intro x1 (And.intro x2 (And.intro x3 ((unhide HF2).trans x2 (fun _ _ t => t)))))
  have HL3 : Hid (∀ j, j < bs.length + 3 → w3.cell? ⟨g0, j, none⟩ = some (.int .u8 (lentF bs (bs.length + 3) j)) ∧ w3.frozen? ⟨g0, j, none⟩ = false) := fun j hj => by
    have hl : g0 < w2.heap.size := World.block_lt_of_cell? _ _ ((unhide HL) j hj).1
    rw [x2.cell (a := ⟨g0, j, none⟩) hl (fun t => t), x2.frozen (a := ⟨g0, j, none⟩) hl (fun t => t)]
    exact unhide HL j hj
  clear x1 x2 x3 hF23
  go_wp2_with fail
  refine (sum_any w3 ((unhide HT).later (unhide HX).2.2.2) _ (bs.length + 3) bs (lent_bat hsm (unhide HL3)) (by omega)).mono ?_
  rintro e w4 ⟨v4, rfl, g4, y1, y2, y3⟩
  obtain ⟨yo, yc, rfl, _⟩ := y1.shape
  rw [digest_length] at y1 ⊢
  have HY := hide (And.intro y1 (And.intro y2 (And.intro y3 ((unhide HX).2.2.2.trans y2 (fun _ _ t => t)))))
  have HL4 : Hid (∀ j, j < bs.length + 3 → w4.cell? ⟨g0, j, none⟩ = some (.int .u8 (lentF bs (bs.length + 3) j)) ∧ w4.frozen? ⟨g0, j, none⟩ = false) := fun j hj => by
    have hl : g0 < w3.heap.size := World.block_lt_of_cell? _ _ ((unhide HL3) j hj).1
    rw [y2.cell (a := ⟨g0, j, none⟩) hl (fun t => t), y2.frozen (a := ⟨g0, j, none⟩) hl (fun t => t)]
    exact unhide HL3 j hj
  have hgl : g0 < w2.heap.size := World.block_lt_of_cell? _ _ ((unhide HL) 0 (by omega)).1
  clear y1 y2 y3 HL3
  go_wp2_with fail
  refine (back_any w4 ao cap bs ((unhide HB).later (unhide HY).2.2.2) g0 (fun b off e h0 => by
    obtain ⟨b', off', e', hc⟩ := (unhide HB).2.1 h0
    rw [e] at e'
    injection e' with e'
    injection e' with e1 e2
    have h1 : b' < w.heap.size := World.block_lt_of_cell? _ _ (hc 0 h0)
    omega) (unhide HL4)).mono ?_
  rintro e w5 ⟨rfl, hF5⟩
  have hF05 : Fr (fun _ => False) w w5 := (unhide HY).2.2.2.trans hF5 (fun i hi t => by omega)
  have hg34 : w2.heap.size ≤ g3 ∧ g3 < w3.heap.size ∧ w3.heap.size ≤ g4 := ⟨(unhide HX).2.2.1, by
    obtain ⟨_, _, e, h1, _⟩ := (unhide HX).1.shape
    injection e with _ _ e
    subst e
    rw [digest_length] at h1
    exact (unhide HX).1.vrow.lt (by omega), (unhide HY).2.2.1⟩
  have x5 := ((unhide HX).1.frame (unhide HY).2.1 (fun t => t)).frame hF5 (by show ¬ g3 = g0; omega)
  have y5 := (unhide HY).1.frame hF5 (by show ¬ g4 = g0; have := (unhide HX).2.1.size; omega)
  have H5 := hide (And.intro x5 (And.intro y5 hF05))
  clear x5 y5 hF05 hF5 HX HY HL4
  go_wp2_with fail
  refine (rsum_any w5 ((unhide HR).later (unhide H5).2.2) ao cap bs ((unhide HB).later (unhide H5).2.2) hfit).mono ?_
  rintro e w6 ⟨v6, rfl, g6, z1, z2, z3⟩
  obtain ⟨zo, zc, rfl, _⟩ := z1.shape
  rw [digest_length] at z1 ⊢
  have x6 := (unhide H5).1.frame z2 (fun t => t)
  have y6 := (unhide H5).2.1.frame z2 (fun t => t)
  obtain ⟨D, hD⟩ : ∃ D, D = digest bs := ⟨_, rfl⟩
  have hDl : D.length = 32 := by rw [hD]; exact digest_length _
  rw [← hD] at x6 y6 z1
  have cx := conv_bytes (x6.bat (by omega)).2
  have cy := conv_bytes (y6.bat (by omega)).2
  have cz := conv_bytes (z1.bat (by omega)).2
  rw [hDl] at cx cy cz
  have x7 : Row w6 (.slice xo D.length xc) g3 D := by rw [hDl]; exact x6
  have y7 : Row w6 (.slice yo D.length yc) g4 D := by rw [hDl]; exact y6
  have hHd := two_handed (a := ⟨xo, D.length, xc, g3⟩) (b := ⟨yo, D.length, yc, g4⟩) x7.own y7.own (fun _ _ => by simp only []; omega) (by simp only []; omega) (by simp only []; omega)
  simp only [RD.val, hDl] at hHd
  have HHd := hide hHd
  have H6 := hide ((unhide H5).2.2.trans z2 (fun _ _ t => t))
  have e1 : (D == D) = true := by simp
  clear x6 y6 z1 z2 z3 x7 y7 hHd hD H5
  go_wp2_with fail
  refine (owned_any _ w6.heap.size 2 2 _ (unhide HHd)).mono ?_
  rintro e w7 ⟨rfl, hF7⟩
  have HF7 := hide (((unhide H6).alloc _).trans hF7 (fun k hk t => by
    have hw2 := (unhide HF2).size
    obtain ⟨j, hj, hc, e⟩ := t
    match j, hj, e with
    | 0, _, e => have e' : k = g3 := e; omega
    | 1, _, e => have e' : k = g4 := e; omega))
  clear hF7
  go_wp2
  go_ret
  exact ⟨rfl, unhide HF7⟩

end Go.Proofs.YtchdjfhenjbcnaaDoor
