/- The walk of SealMacs. -/
import Derived.Test.YtgklgbomfipagaaDoorV2
import Derived.Test.YtgklgbomfipagaaDoorS9
import Derived.Test.YtgklgbomfipagaaDoorI3
namespace Go.Proofs.YtgklgbomfipagaaDoor
open Go.RowKit

/-- Lent bytes can be read. -/
theorem lent_bat {w : World} {g : Nat} {bs : List UInt8} (hsm : bs.length ≤ 140737488355328) (h : ∀ j, j < bs.length + 3 → w.cell? ⟨g, j, none⟩ = some (.int .u8 (lentF bs (bs.length + 3) j)) ∧ w.frozen? ⟨g, j, none⟩ = false) : BAt w (some ⟨g, 0, none⟩) (bs.length + 3) bs :=
  ⟨fun e => (by cases e), fun _ => ⟨g, 0, rfl, fun j hj => by rw [Nat.zero_add, (h j (by omega)).1, lentF_in _ _ _ hj]⟩, hsm⟩

/-- Two rows. -/
def two (a b : RD) : Nat → RD
  | 0 => a
  | _ => b

theorem two_handed {w : World} {a b : RD} (oa : Own w a) (ob : Own w b) (ab : 0 < a.cap → 0 < b.cap → a.g < b.g) (fa : a.n + 9 ≤ 140737488355328) (fb : b.n + 9 ≤ 140737488355328) :
    Handed (w.alloc (.cells #[a.val, b.val] 22)) w.heap.size 2 (two a b) := by
  have st : ∀ {x : RD}, Own w x → Own (w.alloc (.cells #[a.val, b.val] 22)) x := fun h => h.stay (fun hc => Below.heap_alloc _ _ _ (h.lt hc))
  refine ⟨fun j hj => ?_, fun j hj => ?_, fun j k hj hk hne h1 h2 => ?_, fun j hj hc => ?_, fun j hj => ?_, by omega⟩
  · rw [World.cell?_alloc_new]
    match j, hj with
    | 0, _ => rfl
    | 1, _ => rfl
  · match j, hj with
    | 0, _ => exact st oa
    | 1, _ => exact st ob
  · match j, k, hj, hk with
    | 0, 0, _, _ => exact absurd rfl hne
    | 1, 1, _, _ => exact absurd rfl hne
    | 0, 1, _, _ => have := ab h1 h2; simp only [two]; omega
    | 1, 0, _, _ => have := ab h2 h1; simp only [two]; omega
  · match j, hj with
    | 0, _ => have := oa.lt hc; simp only [two]; omega
    | 1, _ => have := ob.lt hc; simp only [two]; omega
  · match j, hj with
    | 0, _ => exact fa
    | 1, _ => exact fb

/-- Lent bytes stay, where only others turn. -/
theorem lent_stay {S : Nat → Prop} {w w' : World} {g : Nat} {bs : List UInt8} (h : ∀ j, j < bs.length + 3 → w.cell? ⟨g, j, none⟩ = some (.int .u8 (lentF bs (bs.length + 3) j)) ∧ w.frozen? ⟨g, j, none⟩ = false) (hF : Fr S w w') (hn : ¬ S g) :
    ∀ j, j < bs.length + 3 → w'.cell? ⟨g, j, none⟩ = some (.int .u8 (lentF bs (bs.length + 3) j)) ∧ w'.frozen? ⟨g, j, none⟩ = false := fun j hj => by
  have hl : g < w.heap.size := World.block_lt_of_cell? _ _ (h j hj).1
  rw [hF.cell (a := ⟨g, j, none⟩) hl hn, hF.frozen (a := ⟨g, j, none⟩) hl hn]
  exact h j hj

theorem BAt.apart {w : World} {ao : Option Addr} {cap : Nat} {bs : List UInt8} (h : BAt w ao cap bs) {g : Nat} (hg : w.heap.size ≤ g) : ∀ b off, ao = some ⟨b, off, none⟩ → 0 < bs.length → g ≠ b := fun b off e h0 => by
  obtain ⟨b', off', e', hc⟩ := h.2.1 h0
  rw [e] at e'
  injection e' with e'
  injection e' with e1 e2
  have h1 : b' < w.heap.size := World.block_lt_of_cell? _ _ (hc 0 h0)
  omega

theorem Row.lt {w : World} {ao : Option Addr} {n cap g : Nat} {bs : List UInt8} (h : Row w (.slice ao n cap) g bs) (hn : 0 < n) : g < w.heap.size := by
  obtain ⟨_, _, e, _⟩ := h.shape
  injection e with _ e _
  exact World.block_lt_of_cell? _ _ (h.cells 0 (by omega))

theorem Row.ownn {w : World} {ao : Option Addr} {n cap g : Nat} {bs : List UInt8} (h : Row w (.slice ao n cap) g bs) : Own w ⟨ao, n, cap, g⟩ := by
  obtain ⟨_, _, e, _⟩ := h.shape
  injection e with _ e _
  subst e
  exact h.own

theorem dec_beq (b c : List UInt8) : decide (b = c) = (b == c) := by
  by_cases h : b = c
  · rw [decide_eq_true h, h]; simp
  · rw [decide_eq_false h]; simpa using h

set_option maxHeartbeats 2000000 in
set_option maxRecDepth 100000 in
theorem macs_walk (w : World) (hT : TabP w) (hR : TabR w) (s : List UInt8) (ao : Option Addr) (cap : Nat) (b : List UInt8) (hB : BAt w ao cap b) (co : Option Addr) (cc : Nat) (c : List UInt8) (hC : BAt w co cc c) (hfit : b.length + 136 ≤ 140737488355328) :
    Calls Tryd.prog 3 #[.string ⟨s.toArray⟩, .slice ao b.length cap, .slice co c.length cc] w fun e w' => e = .returned (.bool true) ∧ Fr (fun _ => False) w w' := by
  have HT := hide hT
  have HR := hide hR
  have HB := hide hB
  have HC := hide hC
  clear hT hR hB hC
  obtain ⟨i0, hi, hz0, hz1, hz2⟩ := info_parts Tryd.info5
  have HI := hide hi
  clear hi
  go_enter Tryd.func3, Tryd.ntmps3
  go_wp2_with fail
  refine (awake_any w (unhide HT)).mono ?_
  rintro e w1 ⟨rfl, hF1⟩
  have HF1 := hide hF1
  clear hF1
  go_wp2_with fail
  refine (lent_any w1 ao cap b ((unhide HB).later (unhide HF1))).mono ?_
  rintro e w2 ⟨g0, rfl, hF2, hg0, hrow⟩
  have HF2 := hide ((unhide HF1).trans hF2 (fun _ _ t => t))
  have hg : w.heap.size ≤ g0 := Nat.le_trans (unhide HF1).size hg0
  have hgl : g0 < w2.heap.size := World.block_lt_of_cell? _ _ (hrow 0 (by omega)).1
  have HL := hide hrow
  clear hF2 hg0 hrow HF1
  by_cases hs : 200 < s.length
  · go_wp2_with fail
    refine (macP_long w2 s hs _).mono ?_
    rintro e w3 ⟨rfl, rfl⟩
    go_wp2_with fail
    refine (macP_long w3 s hs _).mono ?_
    rintro e w4 ⟨rfl, rfl⟩
    go_wp2_with fail
    refine (back_any w4 ao cap b ((unhide HB).later (unhide HF2)) g0 ((unhide HB).apart hg) (unhide HL)).mono ?_
    rintro e w5 ⟨rfl, hF5⟩
    have HF5 := hide ((unhide HF2).trans hF5 (T := (· = g0)) (fun i hi t => by omega))
    clear hF5 HL
    go_wp2_with fail
    refine (rmac_long w5 s hs _).mono ?_
    rintro e w6 ⟨rfl, rfl⟩
    go_wp2_with fail
    refine (same_any w6 ao cap b ((unhide HB).later (unhide HF5)) co cc c ((unhide HC).later (unhide HF5))).mono ?_
    rintro e w6 ⟨rfl, rfl⟩
    rw [dec_beq]
    have HS : Hid (Src Tryd.prog 1 22 (.slice ao b.length cap) b.length (bytesV b) (w6.alloc (.cells #[] 5))) := src_slice Tryd.underlying22 (w6.alloc (.cells #[] 5)) ao cap b ((unhide HB).later ((unhide HF5).alloc _)).2.1
    go_wp2_with (at_builtin; refine wpList_append_n _ rfl (.tmp 46) (.tmp 47) 22 22 rfl 5 i0 Tryd.underlying22 (unhide HI) hz0 hz1 hz2 (ao := some ⟨w6.heap.size, 0, none⟩) (n := 0) (cap := 0) (g := w6.heap.size) (bs := []) rfl ?hr _ b b.length rfl rfl (unhide HS) (by omega) ?nx)
    case hr => exact Row.empty (Nat.zero_le _) (fun j hj => absurd hj (by omega))
    intro po pc w7 g7 hrow hF hg7
    have hF7 : Fr (fun _ => False) w6 w7 := ((Fr.refl (fun _ => False) w6).alloc (.cells #[] 5)).trans hF (fun i hi t => by omega)
    have hrow7 : Row w7 (.slice po b.length pc) g7 b := by simpa using hrow
    have hF07 := (unhide HF5).trans hF7 (fun _ _ t => t)
    have HSa := hide (same_any w7 ao cap b ((unhide HB).later hF07) po pc b (hrow7.batn (by omega)).1)
    rw [decide_eq_true (rfl : b = b)] at HSa
    have cx : (convert 22 9 (.slice none 0 0)).run Tryd.prog w7 = .ok (.string ⟨#[]⟩) w7 := conv_bytes (w := w7) (ao := none) (cap := 0) (bs := []) ⟨fun _ => ⟨rfl, rfl⟩, fun h => absurd h (by simp), by simp⟩
    have cb := conv_bytes ((unhide HB).later hF07)
    have ccv := conv_bytes ((unhide HC).later hF07)
    have HHd := hide (two_handed (a := ⟨none, 0, 0, 0⟩) (b := ⟨none, 0, 0, 0⟩) (Row.nil w7 0).ownn (Row.nil w7 0).ownn (fun h _ => absurd h (by simp)) (by simp) (by simp))
    have H7 := hide hF07
    clear hrow hF hg7 hF7 hrow7 hF07 HS
    simp only [RD.val] at HHd
    go_wp2_with fail
    refine (unhide HSa).mono ?_
    rintro e w8 ⟨rfl, rfl⟩
    go_wp2_with fail
    refine (owned_any _ w8.heap.size 2 2 _ (unhide HHd)).mono ?_
    rintro e w9 ⟨rfl, hF9⟩
    have HF9 := hide (((unhide H7).alloc _).trans hF9 (fun k hk t => by
      obtain ⟨j, hj, hc, e⟩ := t
      match j, hj, hc with
      | 0, _, hc => exact absurd hc (by simp [two])
      | 1, _, hc => exact absurd hc (by simp [two])))
    clear hF9
    go_wp2
    go_ret
    exact ⟨rfl, unhide HF9⟩
  · have hs' : s.length ≤ 200 := by omega
    clear hs
    go_wp2_with fail
    refine (macP_any w2 ((unhide HT).later (unhide HF2)) s hs' _ (b.length + 3) b (lent_bat (by omega) (unhide HL)) (by omega)).mono ?_
    rintro e w3 ⟨xo, xc, rfl, g3, x1, x2, x3⟩
    have HX := hide (And.intro x1 (And.intro x2 (And.intro x3 ((unhide HF2).trans x2 (fun _ _ t => t)))))
    have HL3 := hide (lent_stay (unhide HL) x2 (fun t => t))
    have hl3 := x1.lt (by omega)
    clear x1 x2 x3 HL
    go_wp2_with fail
    refine (macP_any w3 ((unhide HT).later (unhide HX).2.2.2) s hs' _ (b.length + 3) b (lent_bat (by omega) (unhide HL3)) (by omega)).mono ?_
    rintro e w4 ⟨yo, yc, rfl, g4, y1, y2, y3⟩
    have HY := hide (And.intro y1 (And.intro y2 (And.intro y3 ((unhide HX).2.2.2.trans y2 (fun _ _ t => t)))))
    have HL4 := hide (lent_stay (unhide HL3) y2 (fun t => t))
    clear y1 y2 y3 HL3
    go_wp2_with fail
    refine (back_any w4 ao cap b ((unhide HB).later (unhide HY).2.2.2) g0 ((unhide HB).apart hg) (unhide HL4)).mono ?_
    rintro e w5 ⟨rfl, hF5⟩
    have hF05 : Fr (fun _ => False) w w5 := (unhide HY).2.2.2.trans hF5 (fun i hi t => by omega)
    have hx3 := (unhide HX).2.2.1
    have hy3 := (unhide HY).2.2.1
    have x5 := ((unhide HX).1.frame (unhide HY).2.1 (fun t => t)).frame hF5 (by show ¬ g3 = g0; omega)
    have y5 := (unhide HY).1.frame hF5 (by show ¬ g4 = g0; have := (unhide HX).2.1.size; omega)
    have H5 := hide (And.intro x5 (And.intro y5 hF05))
    clear x5 y5 hF05 hF5 HX HY HL4
    go_wp2_with fail
    refine (rmac_any w5 ((unhide HR).later (unhide H5).2.2) s hs' ao cap b ((unhide HB).later (unhide H5).2.2) hfit).mono ?_
    rintro e w6 ⟨zo, zc, rfl, g6, z1, z2, z3⟩
    have H6 := hide (And.intro ((unhide H5).1.frame z2 (fun t => t)) (And.intro ((unhide H5).2.1.frame z2 (fun t => t)) (And.intro z1 ((unhide H5).2.2.trans z2 (fun _ _ t => t)))))
    clear z1 z2 z3 H5
    go_wp2_with fail
    refine (same_any w6 ao cap b ((unhide HB).later (unhide H6).2.2.2) co cc c ((unhide HC).later (unhide H6).2.2.2)).mono ?_
    rintro e w6 ⟨rfl, rfl⟩
    rw [dec_beq]
    have HS : Hid (Src Tryd.prog 1 22 (.slice ao b.length cap) b.length (bytesV b) (w6.alloc (.cells #[] 5))) := src_slice Tryd.underlying22 (w6.alloc (.cells #[] 5)) ao cap b ((unhide HB).later ((unhide H6).2.2.2.alloc _)).2.1
    go_wp2_with (at_builtin; refine wpList_append_n _ rfl (.tmp 46) (.tmp 47) 22 22 rfl 5 i0 Tryd.underlying22 (unhide HI) hz0 hz1 hz2 (ao := some ⟨w6.heap.size, 0, none⟩) (n := 0) (cap := 0) (g := w6.heap.size) (bs := []) rfl ?hr2 _ b b.length rfl rfl (unhide HS) (by omega) ?nx2)
    case hr2 => exact Row.empty (Nat.zero_le _) (fun j hj => absurd hj (by omega))
    intro po pc w7 g7 hrow hF hg7
    have hF7 : Fr (fun _ => False) w6 w7 := ((Fr.refl (fun _ => False) w6).alloc (.cells #[] 5)).trans hF (fun i hi t => by omega)
    have hrow7 : Row w7 (.slice po b.length pc) g7 b := by simpa using hrow
    have hF07 := (unhide H6).2.2.2.trans hF7 (fun _ _ t => t)
    have HSa := hide (same_any w7 ao cap b ((unhide HB).later hF07) po pc b (hrow7.batn (by omega)).1)
    rw [decide_eq_true (rfl : b = b)] at HSa
    have x7 := (unhide H6).1.frame hF7 (fun t => t)
    have y7 := (unhide H6).2.1.frame hF7 (fun t => t)
    have z7 := (unhide H6).2.2.1.frame hF7 (fun t => t)
    have cx := conv_bytes (x7.batn (by omega)).1
    have cy := conv_bytes (y7.batn (by omega)).1
    have cz := conv_bytes (z7.batn (by omega)).1
    have cb := conv_bytes ((unhide HB).later hF07)
    have ccv := conv_bytes ((unhide HC).later hF07)
    rw [hmac_length] at cx cy cz
    have HHd := hide (two_handed (a := ⟨xo, 32, xc, g3⟩) (b := ⟨yo, 32, yc, g4⟩) x7.ownn y7.ownn (fun _ _ => by simp only []; omega) (by simp only []; omega) (by simp only []; omega))
    have H7 := hide hF07
    clear hrow hF hg7 hF7 hrow7 hF07 x7 y7 z7 H6 HS
    simp only [RD.val] at HHd
    go_wp2_with fail
    refine (unhide HSa).mono ?_
    rintro e w8 ⟨rfl, rfl⟩
    generalize hmac s b = D at *
    go_wp2_with fail
    refine (owned_any _ w8.heap.size 2 2 _ (unhide HHd)).mono ?_
    rintro e w9 ⟨rfl, hF9⟩
    have HF9 := hide (((unhide H7).alloc _).trans hF9 (fun k hk t => by
      have hw2 := (unhide HF2).size
      obtain ⟨j, hj, hc, e⟩ := t
      match j, hj, e with
      | 0, _, e => have e' : k = g3 := e; omega
      | 1, _, e => have e' : k = g4 := e; omega))
    clear hF9
    go_wp2
    go_ret
    exact ⟨rfl, unhide HF9⟩

end Go.Proofs.YtgklgbomfipagaaDoor
