/- The walk of the law SumAffine. -/
import Derived.Test.YtgbaofdbdpopnabDoorS8
import Derived.Deep.RegionLaw
namespace Go.Proofs.YtgbaofdbdpopnabDoor
open Go.RowKit

/-- Three rows, exchanged bit by bit. -/
def xor3 (a b c : List UInt8) : List UInt8 := List.zipWith (· ^^^ ·) (List.zipWith (· ^^^ ·) a b) c

theorem run_zip (s t : Nat) (x y : List UInt8) (h : x.length = y.length) : run (s ^^^ t) (List.zipWith (· ^^^ ·) x y) = run s x ^^^ run t y := by
  induction x generalizing s t y with
  | nil =>
    obtain rfl : y = [] := List.eq_nil_of_length_eq_zero (by simpa using h.symm)
    rfl
  | cons c x ih =>
    match y, h with
    | d :: y, h =>
      show run (stp (s ^^^ t) (c ^^^ d)) (List.zipWith (· ^^^ ·) x y) = run (stp s c) x ^^^ run (stp t d) y
      have e : stp (s ^^^ t) (c ^^^ d) = stp s c ^^^ stp t d := by
        unfold stp
        rw [← trn_xor, UInt8.toNat_xor]
        congr 1
        rw [Nat.xor_assoc, Nat.xor_assoc, ← Nat.xor_assoc t, Nat.xor_comm t, Nat.xor_assoc]
      rw [e]
      exact ih _ _ _ (by simpa using h)

theorem sum_xor3 (a b c : List UInt8) (h1 : a.length = b.length) (h2 : a.length = c.length) : sumF (xor3 a b c) = sumF a ^^^ sumF b ^^^ sumF c := by
  have e : (4294967295 : Nat) = 4294967295 ^^^ 4294967295 ^^^ 4294967295 := rfl
  unfold sumF moreF xor3
  rw [Nat.zero_xor]
  conv => lhs; rw [e, run_zip _ _ _ _ (by rw [List.length_zipWith]; omega), run_zip _ _ _ _ h1]
  generalize run 4294967295 a = x
  generalize run 4294967295 b = y
  generalize run 4294967295 c = z
  rw [Nat.xor_assoc (x ^^^ y), ← e]
  have e2 : x ^^^ 4294967295 ^^^ (y ^^^ 4294967295) = x ^^^ y := by
    rw [Nat.xor_assoc, ← Nat.xor_assoc 4294967295, Nat.xor_comm 4294967295 y, Nat.xor_assoc, Nat.xor_self, Nat.xor_zero]
  rw [e2]

theorem xor3_length {a b c : List UInt8} {n : Nat} (h1 : a.length = n) (h2 : b.length = n) (h3 : c.length = n) : (xor3 a b c).length = n := by
  unfold xor3
  rw [List.length_zipWith, List.length_zipWith]
  omega

theorem xor3_get {a b c : List UInt8} {i : Nat} (h1 : i < a.length) (h2 : i < b.length) (h3 : i < c.length) (h : i < (xor3 a b c).length) : (xor3 a b c)[i] = a[i] ^^^ b[i] ^^^ c[i] := by
  simp [xor3]

theorem BAt.first {w : World} {ao : Option Addr} {cap : Nat} {bs : List UInt8} (h : BAt w ao cap bs) (n : Nat) : BAt w ao cap (bs.take n) := by
  refine ⟨fun e => ?_, fun h0 => ?_, ?_⟩
  · have := h.1 e; exact ⟨by rw [List.length_take]; omega, this.2⟩
  · rw [List.length_take] at h0
    obtain ⟨b, off, e, hc⟩ := h.2.1 (by omega)
    refine ⟨b, off, e, fun j hj => ?_⟩
    rw [List.length_take] at hj
    rw [hc j (by omega), List.getElem_take]
  · have := h.2.2; rw [List.length_take]; omega

/-- The byte that a round appends. -/
theorem one_byte (w : World) (x : UInt8) (i : Nat) (hi1 : i < [x].length) : (w.alloc (.cells #[.int .u8 (x.toNat : Int)] 5)).cell? ⟨w.heap.size, 0 + i, none⟩ = some (.int .u8 (([x][i].toNat : Nat) : Int)) := by
  obtain rfl : i = 0 := by simpa using hi1
  rw [World.cell?_alloc_new]
  rfl

theorem affine_round {w : World} {ao bo co : Option Addr} {ca cb cc n i : Nat} {A B C : List UInt8} (hA : BAt w ao ca A) (hB : BAt w bo cb B) (hC : BAt w co cc C) (h1 : A.length = n) (h2 : B.length = n) (h3 : C.length = n) (hi : i < n) :
    ∃ (ba oa bb ob bc oc p1 p2 p3 q : Nat) (v : UInt8), ao = some ⟨ba, oa, none⟩ ∧ bo = some ⟨bb, ob, none⟩ ∧ co = some ⟨bc, oc, none⟩ ∧ w.cell? ⟨ba, oa + i, none⟩ = some (.int .u8 p1) ∧ w.cell? ⟨bb, ob + i, none⟩ = some (.int .u8 p2) ∧ w.cell? ⟨bc, oc + i, none⟩ = some (.int .u8 p3) ∧
      bits .xor .u8 (p1 : Int) (p2 : Int) = (q : Int) ∧ bits .xor .u8 (q : Int) (p3 : Int) = ((v.toNat : Nat) : Int) ∧ (xor3 A B C).take (i + 1) = (xor3 A B C).take i ++ [v] ∧ ((xor3 A B C).take i).length = i := by
  have hl := xor3_length h1 h2 h3
  obtain ⟨ba, oa, e1, c1⟩ := hA.2.1 (by omega)
  obtain ⟨bb, ob, e2, c2⟩ := hB.2.1 (by omega)
  obtain ⟨bc, oc, e3, c3⟩ := hC.2.1 (by omega)
  refine ⟨ba, oa, bb, ob, bc, oc, _, _, _, _, (xor3 A B C)[i]'(by omega), e1, e2, e3, c1 i (by omega), c2 i (by omega), c3 i (by omega), u8_xor_nat _ _ (UInt8.toNat_lt _) (UInt8.toNat_lt _), ?_, List.take_succ_eq_append_getElem (by omega), by rw [List.length_take]; omega⟩
  rw [xor3_get (by omega) (by omega) (by omega), UInt8.toNat_xor, UInt8.toNat_xor]
  exact u8_xor_nat _ _ (by rw [← UInt8.toNat_xor]; exact UInt8.toNat_lt _) (UInt8.toNat_lt _)

set_option maxHeartbeats 4000000 in
set_option maxRecDepth 100000 in
theorem affine_walk (w : World) (hT : TabAt w) (ao : Option Addr) (ca : Nat) (a : List UInt8) (hA : BAt w ao ca a) (hca : a.length ≤ ca) (bo : Option Addr) (cb : Nat) (b : List UInt8) (hB : BAt w bo cb b) (hcb : b.length ≤ cb) (co : Option Addr) (cc : Nat) (c : List UInt8) (hC : BAt w co cc c) (hcc : c.length ≤ cc) :
    Calls Tryd.prog 3 #[.slice ao a.length ca, .slice bo b.length cb, .slice co c.length cc] w fun e w' => e = .returned (.bool true) ∧ Fr (fun _ => False) w w' := by
  obtain ⟨i0, hi, hz0, hz1, hz2⟩ := info_parts Tryd.info5
  have HT := hide hT
  have HA := hide hA
  have HB := hide hB
  have HC := hide hC
  have hsm := hA.2.2
  have hsm2 := hB.2.2
  have hsm3 := hC.2.2
  obtain ⟨la, hla⟩ : ∃ l, a.length = l := ⟨_, rfl⟩
  obtain ⟨lb, hlb⟩ : ∃ l, b.length = l := ⟨_, rfl⟩
  obtain ⟨lc, hlc⟩ : ∃ l, c.length = l := ⟨_, rfl⟩
  rw [hla] at hca hsm ⊢
  rw [hlb] at hcb hsm2 ⊢
  rw [hlc] at hcc hsm3 ⊢
  have HLA := hide hla
  have HLB := hide hlb
  have HLC := hide hlc
  clear hT hA hB hC hla hlb hlc
  by_cases h1 : la ≤ lb ∧ la ≤ lc
  · have hN : (la : Int) ≤ lb ∧ (la : Int) ≤ lc := by omega
    have hA1 : (a.take la).length = la := by rw [List.length_take, unhide HLA]; omega
    have hB1 : (b.take la).length = la := by rw [List.length_take, unhide HLB]; omega
    have hC1 : (c.take la).length = la := by rw [List.length_take, unhide HLC]; omega
    have HS3 := hide (sum_xor3 (a.take la) (b.take la) (c.take la) (by omega) (by omega))
    have hX1 := xor3_length hA1 hB1 hC1
    obtain ⟨A, hA⟩ : ∃ l, a.take la = l := ⟨_, rfl⟩
    obtain ⟨B, hB⟩ : ∃ l, b.take la = l := ⟨_, rfl⟩
    obtain ⟨C, hC⟩ : ∃ l, c.take la = l := ⟨_, rfl⟩
    have HA2 := hide (show BAt w ao ca A by rw [← hA]; exact (unhide HA).first la)
    have HB2 := hide (show BAt w bo cb B by rw [← hB]; exact (unhide HB).first la)
    have HC2 := hide (show BAt w co cc C by rw [← hC]; exact (unhide HC).first la)
    rw [hA, hB, hC] at HS3 hX1
    rw [hA] at hA1
    rw [hB] at hB1
    rw [hC] at hC1
    obtain ⟨X, hX⟩ : ∃ l, xor3 A B C = l := ⟨_, rfl⟩
    have HX := hide hX
    rw [hX] at HS3 hX1
    have HL := hide (And.intro hA1 (And.intro hB1 (And.intro hC1 hX1)))
    clear hA hB hC hA1 hB1 hC1 hX1 hX
    have sA := sumF_lt A
    have sB := sumF_lt B
    have sC := sumF_lt C
    have HN := hide hN
    clear hN
    go_enter Tryd.func3, Tryd.ntmps3
    go_wp2_with fail
    refine (awake_any _ (unhide HT)).mono ?_
    rintro e w1 ⟨rfl, hF1⟩
    have HF1 := hide hF1
    clear hF1
    have hN := unhide HN
    go_wp2
    clear hN
    go_loopw [9, 10] (fun lv iv wr => ∃ i : Nat, i ≤ la ∧ iv = .int .i64 i ∧ ∃ xo xc g, lv = .slice xo i xc ∧ Hid (Row wr (.slice xo i xc) g (X.take i) ∧ Fr (fun _ => False) w wr ∧ (0 < xc → w.heap.size ≤ g))) (fun _ iv _ => la - (intOf iv).toNat)
    case atStart => exact ⟨0, Nat.zero_le _, rfl, none, 0, 0, rfl, by simpa using Row.nil _ 0, unhide HF1, fun h => absurd h (by omega)⟩
    case round =>
      obtain ⟨i, hi2, rfl, xo, xc, g, rfl, HR⟩ := hrel
      obtain ⟨eA, eB, eC, eX⟩ := unhide HL
      by_cases hlt : i < la
      · obtain ⟨ba, oa, bb, ob, bc, oc, p1, p2, p3, q, v, rfl, rfl, rfl, c1, c2, c3, x1, x2, htk, hlk⟩ := affine_round ((unhide HA2).later (unhide HR).2.1) ((unhide HB2).later (unhide HR).2.1) ((unhide HC2).later (unhide HR).2.1) eA eB eC hlt
        rw [unhide HX] at htk hlk
        have l1 : i < la := by have := unhide HN; omega
        have l2 : i < lb := by have := unhide HN; omega
        have l3 : i < lc := by have := unhide HN; omega
        have hfit : i + 1 ≤ 140737488355328 := by omega
        obtain ⟨R, hR⟩ : ∃ l, X.take i = l := ⟨_, rfl⟩
        rw [hR] at HR htk hlk
        have HTK := hide htk
        obtain ⟨hrow, hfr, hgg⟩ := unhide HR
        have HR2 := hide (And.intro hfr hgg)
        clear htk hR HR hfr hgg eA eB eC eX
        subst hlk
        have HRow := hide hrow
        clear hrow
        go_wp2
        go_region_law (refine step_append_row rfl (.tmp 27) (.tmp 42) 22 22 rfl 5 i0 Tryd.underlying22 hi hz0 hz1 hz2 (ao := xo) (cap := xc) (g := g) (bs := R) rfl ((unhide HRow).stay (fun hx => Below.heap_alloc wr _ _ hx)) _ [v] rfl (src_slice Tryd.underlying22 _ _ 1 [v] (fun _ => ⟨wr.heap.size, 0, rfl, fun i hi1 => one_byte wr v i hi1⟩)) hfit ?_; intro ao' cap' w1 g2 hr hf hg; have HQ := hide (And.intro hr (And.intro hf hg)); clear hr hf hg)
        all_goals
          obtain ⟨k1, k2, k3⟩ := unhide HQ
          obtain ⟨m1, m2⟩ := unhide HR2
          have hF2 := (m1.alloc (.cells #[.int .u8 (v.toNat : Int)] 5)).drew
          have HN2 := hide (And.intro k1 (And.intro (hF2.trans k2 (fun k hk t => by have := m2 t.2; omega)) (show 0 < cap' → w.heap.size ≤ g2 by
            intro _
            rcases k3 with ⟨e1, e2⟩ | k3
            · rw [e1]; exact m2 (by omega)
            · have h9 := Nat.le_trans hF2.size k3; exact h9)))
          clear HQ k1 k2 k3 m1 m2 hF2
          go_wp2
          refine ⟨⟨R.length + 1, by omega, by go_num, ao', cap', g2, rfl, ?_, (unhide HN2).2.1, (unhide HN2).2.2⟩, by simp [intOf]; omega⟩
          rw [unhide HTK]
          exact (unhide HN2).1
      · obtain rfl : la = i := by omega
        have l1 : la ≤ la := by have := unhide HN; omega
        have l2 : la ≤ lb := by have := unhide HN; omega
        have l3 : la ≤ lc := by have := unhide HN; omega
        have l4 : la ≤ ca := by omega
        have l5 : la ≤ cb := by omega
        have l6 : la ≤ cc := by omega
        have hT7 := (unhide HT).later (unhide HR).2.1
        have s1 := sum_any wr hT7 ao ca A ((unhide HA2).later (unhide HR).2.1)
        have s2 := sum_any wr hT7 bo cb B ((unhide HB2).later (unhide HR).2.1)
        have s3 := sum_any wr hT7 co cc C ((unhide HC2).later (unhide HR).2.1)
        rw [eA] at s1
        rw [eB] at s2
        rw [eC] at s3
        have htx : X.take la = X := List.take_of_length_le (by omega)
        have hrow := (unhide HR).1
        rw [htx] at hrow
        have s4 := sum_any wr hT7 xo xc X (hrow.bat (by omega)).2
        rw [eX, unhide HS3] at s4
        have x1 := i64_xor_nat (sumF A) (sumF B) (by omega) (by omega)
        have sAB := xor32 sA sB
        have x2 := i64_xor_nat (sumF A ^^^ sumF B) (sumF C) (by omega) (by omega)
        have HSS := hide (And.intro s1 (And.intro s2 (And.intro s3 s4)))
        have HF9 := hide (unhide HR).2.1
        clear s1 s2 s3 s4 hrow htx hT7 eA eB eC eX HR
        obtain ⟨f1, e1⟩ : ∃ f, sumF A = f := ⟨_, rfl⟩
        obtain ⟨f2, e2⟩ : ∃ f, sumF B = f := ⟨_, rfl⟩
        obtain ⟨f3, e3⟩ : ∃ f, sumF C = f := ⟨_, rfl⟩
        rw [e1, e2, e3] at x2
        rw [e1, e2] at x1 sAB
        rw [e1, e2, e3] at HSS
        rw [e1] at sA
        rw [e2] at sB
        rw [e3] at sC
        clear e1 e2 e3 HS3
        obtain ⟨q12, h12⟩ : ∃ q, f1 ^^^ f2 = q := ⟨_, rfl⟩
        rw [h12] at x1 x2 sAB HSS
        obtain ⟨q3, h3⟩ : ∃ q, q12 ^^^ f3 = q := ⟨_, rfl⟩
        rw [h3] at x2 HSS
        clear h12 h3
        go_wp2_with fail
        refine (unhide HSS).1.mono ?_
        rintro e w2 ⟨rfl, rfl⟩
        go_wp2_with fail
        refine (unhide HSS).2.1.mono ?_
        rintro e w2 ⟨rfl, rfl⟩
        go_wp2_with fail
        refine (unhide HSS).2.2.1.mono ?_
        rintro e w2 ⟨rfl, rfl⟩
        go_wp2_with fail
        refine (unhide HSS).2.2.2.mono ?_
        rintro e w2 ⟨rfl, rfl⟩
        go_wp2
        go_ret
        exact ⟨rfl, unhide HF9⟩
  · by_cases h2 : lb ≤ lc
    · have hN : (lb : Int) ≤ la ∧ (lb : Int) ≤ lc := by omega
      have hA1 : (a.take lb).length = lb := by rw [List.length_take, unhide HLA]; omega
      have hB1 : (b.take lb).length = lb := by rw [List.length_take, unhide HLB]; omega
      have hC1 : (c.take lb).length = lb := by rw [List.length_take, unhide HLC]; omega
      have HS3 := hide (sum_xor3 (a.take lb) (b.take lb) (c.take lb) (by omega) (by omega))
      have hX1 := xor3_length hA1 hB1 hC1
      obtain ⟨A, hA⟩ : ∃ l, a.take lb = l := ⟨_, rfl⟩
      obtain ⟨B, hB⟩ : ∃ l, b.take lb = l := ⟨_, rfl⟩
      obtain ⟨C, hC⟩ : ∃ l, c.take lb = l := ⟨_, rfl⟩
      have HA2 := hide (show BAt w ao ca A by rw [← hA]; exact (unhide HA).first lb)
      have HB2 := hide (show BAt w bo cb B by rw [← hB]; exact (unhide HB).first lb)
      have HC2 := hide (show BAt w co cc C by rw [← hC]; exact (unhide HC).first lb)
      rw [hA, hB, hC] at HS3 hX1
      rw [hA] at hA1
      rw [hB] at hB1
      rw [hC] at hC1
      obtain ⟨X, hX⟩ : ∃ l, xor3 A B C = l := ⟨_, rfl⟩
      have HX := hide hX
      rw [hX] at HS3 hX1
      have HL := hide (And.intro hA1 (And.intro hB1 (And.intro hC1 hX1)))
      clear hA hB hC hA1 hB1 hC1 hX1 hX
      have sA := sumF_lt A
      have sB := sumF_lt B
      have sC := sumF_lt C
      have HN := hide hN
      clear hN
      go_enter Tryd.func3, Tryd.ntmps3
      go_wp2_with fail
      refine (awake_any _ (unhide HT)).mono ?_
      rintro e w1 ⟨rfl, hF1⟩
      have HF1 := hide hF1
      clear hF1
      have hN := unhide HN
      go_wp2
      clear hN
      go_loopw [9, 10] (fun lv iv wr => ∃ i : Nat, i ≤ lb ∧ iv = .int .i64 i ∧ ∃ xo xc g, lv = .slice xo i xc ∧ Hid (Row wr (.slice xo i xc) g (X.take i) ∧ Fr (fun _ => False) w wr ∧ (0 < xc → w.heap.size ≤ g))) (fun _ iv _ => lb - (intOf iv).toNat)
      case atStart => exact ⟨0, Nat.zero_le _, rfl, none, 0, 0, rfl, by simpa using Row.nil _ 0, unhide HF1, fun h => absurd h (by omega)⟩
      case round =>
        obtain ⟨i, hi2, rfl, xo, xc, g, rfl, HR⟩ := hrel
        obtain ⟨eA, eB, eC, eX⟩ := unhide HL
        by_cases hlt : i < lb
        · obtain ⟨ba, oa, bb, ob, bc, oc, p1, p2, p3, q, v, rfl, rfl, rfl, c1, c2, c3, x1, x2, htk, hlk⟩ := affine_round ((unhide HA2).later (unhide HR).2.1) ((unhide HB2).later (unhide HR).2.1) ((unhide HC2).later (unhide HR).2.1) eA eB eC hlt
          rw [unhide HX] at htk hlk
          have l1 : i < la := by have := unhide HN; omega
          have l2 : i < lb := by have := unhide HN; omega
          have l3 : i < lc := by have := unhide HN; omega
          have hfit : i + 1 ≤ 140737488355328 := by omega
          obtain ⟨R, hR⟩ : ∃ l, X.take i = l := ⟨_, rfl⟩
          rw [hR] at HR htk hlk
          have HTK := hide htk
          obtain ⟨hrow, hfr, hgg⟩ := unhide HR
          have HR2 := hide (And.intro hfr hgg)
          clear htk hR HR hfr hgg eA eB eC eX
          subst hlk
          have HRow := hide hrow
          clear hrow
          go_wp2
          go_region_law (refine step_append_row rfl (.tmp 27) (.tmp 42) 22 22 rfl 5 i0 Tryd.underlying22 hi hz0 hz1 hz2 (ao := xo) (cap := xc) (g := g) (bs := R) rfl ((unhide HRow).stay (fun hx => Below.heap_alloc wr _ _ hx)) _ [v] rfl (src_slice Tryd.underlying22 _ _ 1 [v] (fun _ => ⟨wr.heap.size, 0, rfl, fun i hi1 => one_byte wr v i hi1⟩)) hfit ?_; intro ao' cap' w1 g2 hr hf hg; have HQ := hide (And.intro hr (And.intro hf hg)); clear hr hf hg)
          all_goals
            obtain ⟨k1, k2, k3⟩ := unhide HQ
            obtain ⟨m1, m2⟩ := unhide HR2
            have hF2 := (m1.alloc (.cells #[.int .u8 (v.toNat : Int)] 5)).drew
            have HN2 := hide (And.intro k1 (And.intro (hF2.trans k2 (fun k hk t => by have := m2 t.2; omega)) (show 0 < cap' → w.heap.size ≤ g2 by
              intro _
              rcases k3 with ⟨e1, e2⟩ | k3
              · rw [e1]; exact m2 (by omega)
              · have h9 := Nat.le_trans hF2.size k3; exact h9)))
            clear HQ k1 k2 k3 m1 m2 hF2
            go_wp2
            refine ⟨⟨R.length + 1, by omega, by go_num, ao', cap', g2, rfl, ?_, (unhide HN2).2.1, (unhide HN2).2.2⟩, by simp [intOf]; omega⟩
            rw [unhide HTK]
            exact (unhide HN2).1
        · obtain rfl : lb = i := by omega
          have l1 : lb ≤ la := by have := unhide HN; omega
          have l2 : lb ≤ lb := by have := unhide HN; omega
          have l3 : lb ≤ lc := by have := unhide HN; omega
          have l4 : lb ≤ ca := by omega
          have l5 : lb ≤ cb := by omega
          have l6 : lb ≤ cc := by omega
          have hT7 := (unhide HT).later (unhide HR).2.1
          have s1 := sum_any wr hT7 ao ca A ((unhide HA2).later (unhide HR).2.1)
          have s2 := sum_any wr hT7 bo cb B ((unhide HB2).later (unhide HR).2.1)
          have s3 := sum_any wr hT7 co cc C ((unhide HC2).later (unhide HR).2.1)
          rw [eA] at s1
          rw [eB] at s2
          rw [eC] at s3
          have htx : X.take lb = X := List.take_of_length_le (by omega)
          have hrow := (unhide HR).1
          rw [htx] at hrow
          have s4 := sum_any wr hT7 xo xc X (hrow.bat (by omega)).2
          rw [eX, unhide HS3] at s4
          have x1 := i64_xor_nat (sumF A) (sumF B) (by omega) (by omega)
          have sAB := xor32 sA sB
          have x2 := i64_xor_nat (sumF A ^^^ sumF B) (sumF C) (by omega) (by omega)
          have HSS := hide (And.intro s1 (And.intro s2 (And.intro s3 s4)))
          have HF9 := hide (unhide HR).2.1
          clear s1 s2 s3 s4 hrow htx hT7 eA eB eC eX HR
          obtain ⟨f1, e1⟩ : ∃ f, sumF A = f := ⟨_, rfl⟩
          obtain ⟨f2, e2⟩ : ∃ f, sumF B = f := ⟨_, rfl⟩
          obtain ⟨f3, e3⟩ : ∃ f, sumF C = f := ⟨_, rfl⟩
          rw [e1, e2, e3] at x2
          rw [e1, e2] at x1 sAB
          rw [e1, e2, e3] at HSS
          rw [e1] at sA
          rw [e2] at sB
          rw [e3] at sC
          clear e1 e2 e3 HS3
          obtain ⟨q12, h12⟩ : ∃ q, f1 ^^^ f2 = q := ⟨_, rfl⟩
          rw [h12] at x1 x2 sAB HSS
          obtain ⟨q3, h3⟩ : ∃ q, q12 ^^^ f3 = q := ⟨_, rfl⟩
          rw [h3] at x2 HSS
          clear h12 h3
          go_wp2_with fail
          refine (unhide HSS).1.mono ?_
          rintro e w2 ⟨rfl, rfl⟩
          go_wp2_with fail
          refine (unhide HSS).2.1.mono ?_
          rintro e w2 ⟨rfl, rfl⟩
          go_wp2_with fail
          refine (unhide HSS).2.2.1.mono ?_
          rintro e w2 ⟨rfl, rfl⟩
          go_wp2_with fail
          refine (unhide HSS).2.2.2.mono ?_
          rintro e w2 ⟨rfl, rfl⟩
          go_wp2
          go_ret
          exact ⟨rfl, unhide HF9⟩
    · have hN : (lc : Int) < lb ∧ (lc : Int) ≤ la := by omega
      have hA1 : (a.take lc).length = lc := by rw [List.length_take, unhide HLA]; omega
      have hB1 : (b.take lc).length = lc := by rw [List.length_take, unhide HLB]; omega
      have hC1 : (c.take lc).length = lc := by rw [List.length_take, unhide HLC]; omega
      have HS3 := hide (sum_xor3 (a.take lc) (b.take lc) (c.take lc) (by omega) (by omega))
      have hX1 := xor3_length hA1 hB1 hC1
      obtain ⟨A, hA⟩ : ∃ l, a.take lc = l := ⟨_, rfl⟩
      obtain ⟨B, hB⟩ : ∃ l, b.take lc = l := ⟨_, rfl⟩
      obtain ⟨C, hC⟩ : ∃ l, c.take lc = l := ⟨_, rfl⟩
      have HA2 := hide (show BAt w ao ca A by rw [← hA]; exact (unhide HA).first lc)
      have HB2 := hide (show BAt w bo cb B by rw [← hB]; exact (unhide HB).first lc)
      have HC2 := hide (show BAt w co cc C by rw [← hC]; exact (unhide HC).first lc)
      rw [hA, hB, hC] at HS3 hX1
      rw [hA] at hA1
      rw [hB] at hB1
      rw [hC] at hC1
      obtain ⟨X, hX⟩ : ∃ l, xor3 A B C = l := ⟨_, rfl⟩
      have HX := hide hX
      rw [hX] at HS3 hX1
      have HL := hide (And.intro hA1 (And.intro hB1 (And.intro hC1 hX1)))
      clear hA hB hC hA1 hB1 hC1 hX1 hX
      have sA := sumF_lt A
      have sB := sumF_lt B
      have sC := sumF_lt C
      have HN := hide hN
      clear hN
      go_enter Tryd.func3, Tryd.ntmps3
      go_wp2_with fail
      refine (awake_any _ (unhide HT)).mono ?_
      rintro e w1 ⟨rfl, hF1⟩
      have HF1 := hide hF1
      clear hF1
      have hN := unhide HN
      go_wp2
      clear hN
      go_loopw [9, 10] (fun lv iv wr => ∃ i : Nat, i ≤ lc ∧ iv = .int .i64 i ∧ ∃ xo xc g, lv = .slice xo i xc ∧ Hid (Row wr (.slice xo i xc) g (X.take i) ∧ Fr (fun _ => False) w wr ∧ (0 < xc → w.heap.size ≤ g))) (fun _ iv _ => lc - (intOf iv).toNat)
      case atStart => exact ⟨0, Nat.zero_le _, rfl, none, 0, 0, rfl, by simpa using Row.nil _ 0, unhide HF1, fun h => absurd h (by omega)⟩
      case round =>
        obtain ⟨i, hi2, rfl, xo, xc, g, rfl, HR⟩ := hrel
        obtain ⟨eA, eB, eC, eX⟩ := unhide HL
        by_cases hlt : i < lc
        · obtain ⟨ba, oa, bb, ob, bc, oc, p1, p2, p3, q, v, rfl, rfl, rfl, c1, c2, c3, x1, x2, htk, hlk⟩ := affine_round ((unhide HA2).later (unhide HR).2.1) ((unhide HB2).later (unhide HR).2.1) ((unhide HC2).later (unhide HR).2.1) eA eB eC hlt
          rw [unhide HX] at htk hlk
          have l1 : i < la := by have := unhide HN; omega
          have l2 : i < lb := by have := unhide HN; omega
          have l3 : i < lc := by have := unhide HN; omega
          have hfit : i + 1 ≤ 140737488355328 := by omega
          obtain ⟨R, hR⟩ : ∃ l, X.take i = l := ⟨_, rfl⟩
          rw [hR] at HR htk hlk
          have HTK := hide htk
          obtain ⟨hrow, hfr, hgg⟩ := unhide HR
          have HR2 := hide (And.intro hfr hgg)
          clear htk hR HR hfr hgg eA eB eC eX
          subst hlk
          have HRow := hide hrow
          clear hrow
          go_wp2
          go_region_law (refine step_append_row rfl (.tmp 27) (.tmp 42) 22 22 rfl 5 i0 Tryd.underlying22 hi hz0 hz1 hz2 (ao := xo) (cap := xc) (g := g) (bs := R) rfl ((unhide HRow).stay (fun hx => Below.heap_alloc wr _ _ hx)) _ [v] rfl (src_slice Tryd.underlying22 _ _ 1 [v] (fun _ => ⟨wr.heap.size, 0, rfl, fun i hi1 => one_byte wr v i hi1⟩)) hfit ?_; intro ao' cap' w1 g2 hr hf hg; have HQ := hide (And.intro hr (And.intro hf hg)); clear hr hf hg)
          all_goals
            obtain ⟨k1, k2, k3⟩ := unhide HQ
            obtain ⟨m1, m2⟩ := unhide HR2
            have hF2 := (m1.alloc (.cells #[.int .u8 (v.toNat : Int)] 5)).drew
            have HN2 := hide (And.intro k1 (And.intro (hF2.trans k2 (fun k hk t => by have := m2 t.2; omega)) (show 0 < cap' → w.heap.size ≤ g2 by
              intro _
              rcases k3 with ⟨e1, e2⟩ | k3
              · rw [e1]; exact m2 (by omega)
              · have h9 := Nat.le_trans hF2.size k3; exact h9)))
            clear HQ k1 k2 k3 m1 m2 hF2
            go_wp2
            refine ⟨⟨R.length + 1, by omega, by go_num, ao', cap', g2, rfl, ?_, (unhide HN2).2.1, (unhide HN2).2.2⟩, by simp [intOf]; omega⟩
            rw [unhide HTK]
            exact (unhide HN2).1
        · obtain rfl : lc = i := by omega
          have l1 : lc ≤ la := by have := unhide HN; omega
          have l2 : lc ≤ lb := by have := unhide HN; omega
          have l3 : lc ≤ lc := by have := unhide HN; omega
          have l4 : lc ≤ ca := by omega
          have l5 : lc ≤ cb := by omega
          have l6 : lc ≤ cc := by omega
          have hT7 := (unhide HT).later (unhide HR).2.1
          have s1 := sum_any wr hT7 ao ca A ((unhide HA2).later (unhide HR).2.1)
          have s2 := sum_any wr hT7 bo cb B ((unhide HB2).later (unhide HR).2.1)
          have s3 := sum_any wr hT7 co cc C ((unhide HC2).later (unhide HR).2.1)
          rw [eA] at s1
          rw [eB] at s2
          rw [eC] at s3
          have htx : X.take lc = X := List.take_of_length_le (by omega)
          have hrow := (unhide HR).1
          rw [htx] at hrow
          have s4 := sum_any wr hT7 xo xc X (hrow.bat (by omega)).2
          rw [eX, unhide HS3] at s4
          have x1 := i64_xor_nat (sumF A) (sumF B) (by omega) (by omega)
          have sAB := xor32 sA sB
          have x2 := i64_xor_nat (sumF A ^^^ sumF B) (sumF C) (by omega) (by omega)
          have HSS := hide (And.intro s1 (And.intro s2 (And.intro s3 s4)))
          have HF9 := hide (unhide HR).2.1
          clear s1 s2 s3 s4 hrow htx hT7 eA eB eC eX HR
          obtain ⟨f1, e1⟩ : ∃ f, sumF A = f := ⟨_, rfl⟩
          obtain ⟨f2, e2⟩ : ∃ f, sumF B = f := ⟨_, rfl⟩
          obtain ⟨f3, e3⟩ : ∃ f, sumF C = f := ⟨_, rfl⟩
          rw [e1, e2, e3] at x2
          rw [e1, e2] at x1 sAB
          rw [e1, e2, e3] at HSS
          rw [e1] at sA
          rw [e2] at sB
          rw [e3] at sC
          clear e1 e2 e3 HS3
          obtain ⟨q12, h12⟩ : ∃ q, f1 ^^^ f2 = q := ⟨_, rfl⟩
          rw [h12] at x1 x2 sAB HSS
          obtain ⟨q3, h3⟩ : ∃ q, q12 ^^^ f3 = q := ⟨_, rfl⟩
          rw [h3] at x2 HSS
          clear h12 h3
          go_wp2_with fail
          refine (unhide HSS).1.mono ?_
          rintro e w2 ⟨rfl, rfl⟩
          go_wp2_with fail
          refine (unhide HSS).2.1.mono ?_
          rintro e w2 ⟨rfl, rfl⟩
          go_wp2_with fail
          refine (unhide HSS).2.2.1.mono ?_
          rintro e w2 ⟨rfl, rfl⟩
          go_wp2_with fail
          refine (unhide HSS).2.2.2.mono ?_
          rintro e w2 ⟨rfl, rfl⟩
          go_wp2
          go_ret
          exact ⟨rfl, unhide HF9⟩

end Go.Proofs.YtgbaofdbdpopnabDoor
