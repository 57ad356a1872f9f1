/- A lesser rate makes no fare greater; in the peak it does not matter (the walk of TariffRates). -/
import Derived.Test.YthgkdpepgnoepaaU3
import Derived.Test.YthgkdpepgnoepaaM3
import Derived.Test.YthgkdpepgnoepaaR5
namespace Go.Proofs.Ythgkdpepgnoepaa
open Go.RowKit

theorem run_store_float {P : Program} {w : World} {a : Addr} {m : Mode} (x : Nat) : (store a (.float .f64 x) m).run P w = stored P w a (.float .f64 x) m := run_store P w a _ m rfl
attribute [local go_sem] run_store_float

theorem gtr_rates (f g : Nat) (hf : f ≤ 4607182418800017408) (hg : g ≤ 4607182418800017408) (t : TypeId) : binOp .gtr t (.float .f64 f) (.float .f64 g) = pure (.bool (decide (g < f))) := by
  rw [gtr_order f g _ (order_pos (by omega) (by omega)) t]
  rcases cmp_cases f g with ⟨e, h⟩ | ⟨e, h⟩ | ⟨e, h⟩ <;> rw [e] <;> refine congrArg (fun z => pure (Value.bool z)) ?_ <;> unfold cmpN at h <;> (repeat' split at h) <;> simp <;> omega
theorem leq_rates (f g : Nat) (hf : f ≤ 4607182418800017408) (hg : g ≤ 4607182418800017408) (t : TypeId) : binOp .leq t (.float .f64 f) (.float .f64 g) = pure (.bool (decide (f ≤ g))) := by
  rw [binOp_float_cmp_leq]
  refine congrArg (fun z => pure (Value.bool z)) ?_
  show (Ieee.double.order f g == some .lt || Ieee.double.order f g == some .eq) = decide (f ≤ g)
  rw [order_pos (by omega) (by omega)]
  rcases cmp_cases f g with ⟨e, h⟩ | ⟨e, h⟩ | ⟨e, h⟩ <;> rw [e] <;> unfold cmpN at h <;> (repeat' split at h) <;> simp <;> omega

/-- The same tariff at another rate. -/
abbrev atRate (t : Tf) (f : Nat) : Tf := { t with off := f }

theorem rates_facts {t : Tf} {f : Nat} (h0 : rightE t = 0) (h1 : rightE (atRate t f) = 0) (a b : Int) : t.off ≤ 4607182418800017408 ∧ f ≤ 4607182418800017408 ∧ ∃ x y p e : Int, singleR t a b false = (x, e) ∧ singleR (atRate t f) a b false = (y, e) ∧ singleR t a b true = (p, e) ∧ singleR (atRate t f) a b true = (p, e) ∧ (t.off < f → x ≤ y) ∧ (f ≤ t.off → y ≤ x) := by
  have r0 : t.off ≤ 4607182418800017408 := by simpa [rate] using (rightE_zero h0).2.2
  have r1 : f ≤ 4607182418800017408 := by simpa [rate] using (rightE_zero h1).2.2
  refine ⟨r0, r1, ?_⟩
  have hsp : spanOf (atRate t f) a b = spanOf t a b := rfl
  rcases single_facts h0 a b with ⟨hnone, hx⟩ | ⟨s, n, hs, hn, x1, _, x3, _⟩
  · rcases single_facts h1 a b with ⟨_, hy⟩ | ⟨s', n', hs', _⟩
    · exact ⟨0, 0, 0, 1, (hx false).1, (hy false).1, (hx true).1, (hy true).1, fun _ => Int.le_refl _, fun _ => Int.le_refl _⟩
    · rw [hsp, hnone] at hs'
      cases hs'
  · rcases single_facts h1 a b with ⟨hnone, _⟩ | ⟨s', n', hs', hn', y1, _, y3, _⟩
    · rw [hsp, hs] at hnone
      cases hnone
    · rw [hsp, hs] at hs'
      injection hs' with hs'
      subst hs'
      obtain rfl : n = n' := by omega
      refine ⟨_, _, _, _, x3, y3, x1, y1, fun h => ?_, fun h => ?_⟩
      · have := sc_mono_b (n := n) r1 (Nat.le_of_lt h)
        exact Int.ofNat_le.2 this
      · have := sc_mono_b (n := n) r0 h
        exact Int.ofNat_le.2 this

set_option maxRecDepth 100000 in
theorem rates_walk (w : World) (A : Ad) (t : Tf) (h : TAt w A t) (f : Nat) (hf : f < 18446744073709551616) (a b : Int) :
    Calls Try.prog 7 #[tv A t, .float .f64 f, .int .i64 a, .int .i64 b] w fun e w' => e = .returned (.bool true) ∧ Fr (fun _ => False) w w' := by
  have R0 := awake_any (w.alloc (.cells (tc A t) 27))
  have HB0 := hide (TB.new w A t)
  have HF0 := hide ((Fr.refl (fun _ => False) w).alloc (.cells (tc A t) 27))
  have HR := hide (fun (w' : World) (hf : Fr (fun _ => False) w w') => right_walk w' A t (h.keep hf))
  have HS := hide (fun (w' : World) (hf : Fr (fun _ => False) w w') (pk : Bool) => single_any w' A t (h.keep hf) a b pk)
  have hu : ∀ w', Fr (fun _ => False) w w' → TAt w' A (atRate t f) := fun w' hfr => by
    have h' := h.keep hfr
    exact ⟨h'.st, h'.sp, h'.bd, h'.lS, h'.lP, h'.lB, hf⟩
  have HRu := hide (fun (w' : World) (hf : Fr (fun _ => False) w w') => right_walk w' A (atRate t f) (hu w' hf))
  have HSu := hide (fun (w' : World) (hf : Fr (fun _ => False) w w') (pk : Bool) => single_any w' A (atRate t f) (hu w' hf) a b pk)
  have HX := hide (fun h0 h1 => rates_facts (t := t) (f := f) h0 h1 a b)
  obtain ⟨r0, hr0⟩ : ∃ r, r = rightE t := ⟨_, rfl⟩
  obtain ⟨r1, hr1⟩ : ∃ r, r = rightE (atRate t f) := ⟨_, rfl⟩
  rw [← hr0] at HR HX
  rw [← hr1] at HRu HX
  clear hr0 hr1 hu hf h
  obtain ⟨N, hN⟩ : ∃ N, w.heap.size = N := ⟨_, rfl⟩
  rw [hN] at HB0
  unfold tv
  go_enter Try.func7, Try.ntmps7
  go_wp2_with fail
  refine R0.mono ?_
  rintro e w1 ⟨rfl, hF⟩
  have HB1 := hide ((unhide HB0).keep hF)
  have HF1 := hide ((unhide HF0).trans hF (fun _ _ t => t))
  have HG : Hid ((w1.alloc (.cells #[.slice none 0 0, .slice none 0 0, .slice none 0 0, .float .f64 0, .int .i64 0, .int .i64 0, .int .i64 0, .int .i64 0, .int .i64 0, .int .i64 0, .int .i64 0, .int .i64 0, .int .i64 0, .int .i64 0] 27)).heap[w1.heap.size]? = some (.cells #[.slice none 0 0, .slice none 0 0, .slice none 0 0, .float .f64 0, .int .i64 0, .int .i64 0, .int .i64 0, .int .i64 0, .int .i64 0, .int .i64 0, .int .i64 0, .int .i64 0, .int .i64 0, .int .i64 0] 27 (0, 0))) := hide (heap_new _ _)
  obtain ⟨w2, hw2⟩ : ∃ w2, w2 = (w1.alloc (.cells #[.slice none 0 0, .slice none 0 0, .slice none 0 0, .float .f64 0, .int .i64 0, .int .i64 0, .int .i64 0, .int .i64 0, .int .i64 0, .int .i64 0, .int .i64 0, .int .i64 0, .int .i64 0, .int .i64 0] 27)).setRow w1.heap.size (tc A t) := ⟨_, rfl⟩
  have hB2 : TB w2 w1.heap.size A t := by rw [hw2]; exact TB.set (unhide HG) A t
  have hF2 : Fr (fun _ => False) w1 w2 := by rw [hw2]; exact ((Fr.refl _ w1).alloc _).setRow (fun h => absurd h (Nat.lt_irrefl _)) _
  have c3 : w2.cell? ⟨w1.heap.size, 3, none⟩ = some (.float .f64 t.off) := hB2.cell 3
  have f3 := hB2.frozen 3
  obtain ⟨M, hM⟩ : ∃ M, w1.heap.size = M := ⟨_, rfl⟩
  have hNM : N < M := by rw [← hM]; exact (unhide HB1).lt
  have HB3 : Hid (TB (w2.setCell ⟨M, 3, none⟩ (.float .f64 f)) M A (atRate t f)) := hide (by rw [← hM]; exact hB2.setCell 3 _ rfl)
  have hFr : Fr (fun _ => False) w1 (w2.setCell ⟨M, 3, none⟩ (.float .f64 f)) := hF2.setCell (p := ⟨M, 3, none⟩) (fun h => absurd h (by rw [hM]; exact Nat.lt_irrefl _)) _
  have HBt := hide ((unhide HB1).keep hFr)
  have HF3 := hide ((unhide HF1).trans hFr (fun _ _ t => t))
  rw [hM] at c3 f3 hw2 HG
  rw [hw2] at c3 f3 HB3 HBt HF3
  clear hw2 hB2 hF2 hFr w2
  go_wp2_with (first | refine wpList_load_tariff rfl (.tmp 4) rfl (g := N) (A := A) (t := t) rfl (unhide HB1) ?_ | refine wpList_store_tariff rfl (.tmp 10) (.tmp 22) rfl (g := M) (A := A) (t := t) rfl rfl _ (unhide HG) rfl ?_ | refine wpList_load_tariff rfl (.tmp 4) rfl (g := N) (A := A) (t := t) rfl (unhide HBt) ?_)
  refine (unhide HR _ (unhide HF3)).mono ?_
  rintro e w3 ⟨rfl, hF⟩
  have HBt3 := hide ((unhide HBt).keep hF)
  have HBu3 := hide ((unhide HB3).keep hF)
  have HF4 := hide ((unhide HF3).trans hF (fun _ _ t => t))
  clear hF HBt HB3 HF3 HB1 HF1 HB0 HF0 HG c3 f3 R0 HR
  go_wp2_with (refine wpList_load_tariff rfl (.tmp 10) rfl (g := M) (A := A) (t := atRate t f) rfl (unhide HBu3) ?_)
  refine (unhide HRu _ (unhide HF4)).mono ?_
  rintro e w4 ⟨rfl, hF⟩
  have HBt4 := hide ((unhide HBt3).keep hF)
  have HBu4 := hide ((unhide HBu3).keep hF)
  have HF5 := hide ((unhide HF4).trans hF (fun _ _ t => t))
  clear hF HBt3 HBu3 HF4 HRu
  by_cases h0 : r0 = 0
  · by_cases h1 : r1 = 0
    · obtain ⟨l0, l1, x, y, p, e, e1, e2, e3, e4, k1, k2⟩ := unhide HX h0 h1
      subst h0 h1
      have o1 := gtr_rates f t.off l1 l0
      have o2 := leq_rates f t.off l1 l0
      have R1 := unhide HS w4 (unhide HF5) false
      rw [e1] at R1
      go_wp2_with (refine wpList_load_tariff rfl (.tmp 4) rfl (g := N) (A := A) (t := t) rfl (unhide HBt4) ?_)
      refine R1.mono ?_
      rintro e' w5 ⟨rfl, hF⟩
      have HBt5 := hide ((unhide HBt4).keep hF)
      have HBu5 := hide ((unhide HBu4).keep hF)
      have HF6 := hide ((unhide HF5).trans hF (fun _ _ t => t))
      clear hF HBt4 HBu4 HF5 R1
      have R1 := unhide HSu w5 (unhide HF6) false
      rw [e2] at R1
      go_wp2_with (refine wpList_load_tariff rfl (.tmp 10) rfl (g := M) (A := A) (t := atRate t f) rfl (unhide HBu5) ?_)
      refine R1.mono ?_
      rintro e' w6 ⟨rfl, hF⟩
      have HBt6 := hide ((unhide HBt5).keep hF)
      have HBu6 := hide ((unhide HBu5).keep hF)
      have HF7 := hide ((unhide HF6).trans hF (fun _ _ t => t))
      clear hF HBt5 HBu5 HF6 R1
      have R1 := unhide HS w6 (unhide HF7) true
      rw [e3] at R1
      go_wp2_with (refine wpList_load_tariff rfl (.tmp 4) rfl (g := N) (A := A) (t := t) rfl (unhide HBt6) ?_)
      refine R1.mono ?_
      rintro e' w7 ⟨rfl, hF⟩
      have HBt7 := hide ((unhide HBt6).keep hF)
      have HBu7 := hide ((unhide HBu6).keep hF)
      have HF8 := hide ((unhide HF7).trans hF (fun _ _ t => t))
      clear hF HBt6 HBu6 HF7 R1
      have R1 := unhide HSu w7 (unhide HF8) true
      rw [e4] at R1
      go_wp2_with (refine wpList_load_tariff rfl (.tmp 10) rfl (g := M) (A := A) (t := atRate t f) rfl (unhide HBu7) ?_)
      refine R1.mono ?_
      rintro e' w8 ⟨rfl, hF⟩
      have HF9 := hide ((unhide HF8).trans hF (fun _ _ t => t))
      have c3 : w8.cell? ⟨N, 3, none⟩ = some (.float .f64 t.off) := ((unhide HBt7).keep hF).cell 3
      clear hF HBt7 HBu7 HF8 R1 HS HSu HX e1 e2 e3 e4 l0 l1
      generalize t.off = g at *
      by_cases hlt : g < f
      · have hle : ¬ f ≤ g := by omega
        have kx := k1 hlt
        clear k1 k2
        go_wp2
        go_ret
        exact ⟨by first | rfl | simp [kx] | simp_all, unhide HF9⟩
      · have hle : f ≤ g := by omega
        have kx := k2 hle
        clear k1 k2
        go_wp2
        go_ret
        exact ⟨by first | rfl | simp [kx] | simp_all, unhide HF9⟩
    · have h1' : (r1 != 0) = true := by simpa using h1
      subst h0
      clear HX HS HSu HBt4 HBu4
      go_wp2
      go_ret
      exact ⟨by first | rfl | simp, unhide HF5⟩
  · have h0' : (r0 != 0) = true := by simpa using h0
    clear HX HS HSu HBt4 HBu4
    go_wp2
    go_ret
    exact ⟨by first | rfl | simp, unhide HF5⟩

end Go.Proofs.Ythgkdpepgnoepaa
