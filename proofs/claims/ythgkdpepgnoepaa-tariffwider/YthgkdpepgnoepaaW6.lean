/- What is wider, and the peak, cost no less; the way back as much (the walk of TariffWider). -/
import Derived.Test.YthgkdpepgnoepaaU3
import Derived.Test.YthgkdpepgnoepaaM3
namespace Go.Proofs.Ythgkdpepgnoepaa
open Go.RowKit

theorem run_min (ts : Array TypeId) (t : TypeId) (x y : Int) (w : World) : (Builtin.min_ ts t #[.int .i64 x, .int .i64 y]).run Try.prog w = .ok (.int .i64 (imin x y)) w := run_min_int2 w ts t .i64 .i64 x y
theorem run_max (ts : Array TypeId) (t : TypeId) (x y : Int) (w : World) : (Builtin.max_ ts t #[.int .i64 x, .int .i64 y]).run Try.prog w = .ok (.int .i64 (imax x y)) w := run_max_int2 w ts t .i64 .i64 x y

set_option maxRecDepth 100000 in
theorem wider_walk (w : World) (A : Ad) (t : Tf) (h : TAt w A t) (a b c d : Int) :
    Calls Try.prog 6 #[tv A t, .int .i64 a, .int .i64 b, .int .i64 c, .int .i64 d] w fun e w' => e = .returned (.bool true) ∧ Fr (fun _ => False) w w' := by
  have R0 := awake_any (w.alloc (.cells (tc A t) 27))
  have HB0 := hide (TB.new w A t)
  have HF0 := hide ((Fr.refl (fun _ => False) w).alloc (.cells (tc A t) 27))
  have HR := hide (fun (w' : World) (hf : Fr (fun _ => False) w w') => right_walk w' A t (h.keep hf))
  have HS := hide (fun (w' : World) (hf : Fr (fun _ => False) w w') (a b : Int) (pk : Bool) => single_any w' A t (h.keep hf) a b pk)
  by_cases hr : rightE t = 0
  · rw [hr] at HR
    have hab := single_facts hr a b
    have hcd := single_facts hr c d
    have HW := hide (fun s s' n n' hs hs' hn hn' h1 h2 => single_within hr (a := a) (b := b) (c := c) (d := d) (s := s) (s' := s') (n := n) (n' := n') hs hs' hn hn' h1 h2)
    clear hr h
    obtain ⟨N, hN⟩ : ∃ N, w.heap.size = N := ⟨_, rfl⟩
    rw [hN] at HB0
    unfold tv
    rcases hab with ⟨ha, hx⟩ | ⟨s, n, ha, hn, x1, x2, x3, hle⟩
    · clear hcd HW
      go_enter Try.func6, Try.ntmps6
      go_wp2_with fail
      refine R0.mono ?_
      rintro e w1 ⟨rfl, hF⟩
      have HB1 := hide ((unhide HB0).keep hF)
      have HF1 := hide ((unhide HF0).trans hF (fun _ _ t => t))
      clear hF R0 HB0 HF0
      go_wp2_with (refine wpList_load_tariff rfl (.tmp 5) rfl (g := N) (A := A) (t := t) rfl (unhide HB1) ?_)
      refine (unhide HR w1 (unhide HF1)).mono ?_
      rintro e w2 ⟨rfl, hF⟩
      have HB2 := hide ((unhide HB1).keep hF)
      have HF2 := hide ((unhide HF1).trans hF (fun _ _ t => t))
      clear hF HB1 HF1
      have R := unhide HS w2 (unhide HF2) a b true
      rw [(hx true).1] at R
      go_wp2_with (refine wpList_load_tariff rfl (.tmp 5) rfl (g := N) (A := A) (t := t) rfl (unhide HB2) ?_)
      refine R.mono ?_
      rintro e w3 ⟨rfl, hF⟩
      have HB3 := hide ((unhide HB2).keep hF)
      have HF3 := hide ((unhide HF2).trans hF (fun _ _ t => t))
      clear hF R HB2 HF2
      have R := unhide HS w3 (unhide HF3) b a true
      rw [(hx true).2] at R
      go_wp2_with (refine wpList_load_tariff rfl (.tmp 5) rfl (g := N) (A := A) (t := t) rfl (unhide HB3) ?_)
      refine R.mono ?_
      rintro e w4 ⟨rfl, hF⟩
      have HB4 := hide ((unhide HB3).keep hF)
      have HF4 := hide ((unhide HF3).trans hF (fun _ _ t => t))
      clear hF R HB3 HF3
      have R := unhide HS w4 (unhide HF4) a b false
      rw [(hx false).1] at R
      go_wp2_with (refine wpList_load_tariff rfl (.tmp 5) rfl (g := N) (A := A) (t := t) rfl (unhide HB4) ?_)
      refine R.mono ?_
      rintro e w5 ⟨rfl, hF⟩
      have HB5 := hide ((unhide HB4).keep hF)
      have HF5 := hide ((unhide HF4).trans hF (fun _ _ t => t))
      clear hF R HB4 HF4
      have R := unhide HS w5 (unhide HF5) c d true
      generalize singleR t c d true = p1 at R
      go_wp2_with (refine wpList_load_tariff rfl (.tmp 5) rfl (g := N) (A := A) (t := t) rfl (unhide HB5) ?_)
      refine R.mono ?_
      rintro e w6 ⟨rfl, hF⟩
      have HB6 := hide ((unhide HB5).keep hF)
      have HF6 := hide ((unhide HF5).trans hF (fun _ _ t => t))
      clear hF R HB5 HF5
      have R := unhide HS w6 (unhide HF6) c d false
      generalize singleR t c d false = p2 at R
      go_wp2_with (refine wpList_load_tariff rfl (.tmp 5) rfl (g := N) (A := A) (t := t) rfl (unhide HB6) ?_)
      refine R.mono ?_
      rintro e w7 ⟨rfl, hF⟩
      have HB7 := hide ((unhide HB6).keep hF)
      have HF7 := hide ((unhide HF6).trans hF (fun _ _ t => t))
      clear hF R HB6 HF6
      clear hx HR HS HB7 hN
      go_wp2
      go_ret
      exact ⟨by first | rfl | simp, unhide HF7⟩
    · have hm0 : ((sc n t.off : Nat) : Int) ≤ (n : Int) := by omega
      rcases hcd with ⟨hc, hy⟩ | ⟨s', n', hc, hn', y1, _, y3, _⟩
      · clear HW
        generalize sc n t.off = m at *
        go_enter Try.func6, Try.ntmps6
        go_wp2_with fail
        refine R0.mono ?_
        rintro e w1 ⟨rfl, hF⟩
        have HB1 := hide ((unhide HB0).keep hF)
        have HF1 := hide ((unhide HF0).trans hF (fun _ _ t => t))
        clear hF R0 HB0 HF0
        go_wp2_with (refine wpList_load_tariff rfl (.tmp 5) rfl (g := N) (A := A) (t := t) rfl (unhide HB1) ?_)
        refine (unhide HR w1 (unhide HF1)).mono ?_
        rintro e w2 ⟨rfl, hF⟩
        have HB2 := hide ((unhide HB1).keep hF)
        have HF2 := hide ((unhide HF1).trans hF (fun _ _ t => t))
        clear hF HB1 HF1
        have R := unhide HS w2 (unhide HF2) a b true
        rw [x1] at R
        go_wp2_with (refine wpList_load_tariff rfl (.tmp 5) rfl (g := N) (A := A) (t := t) rfl (unhide HB2) ?_)
        refine R.mono ?_
        rintro e w3 ⟨rfl, hF⟩
        have HB3 := hide ((unhide HB2).keep hF)
        have HF3 := hide ((unhide HF2).trans hF (fun _ _ t => t))
        clear hF R HB2 HF2
        have R := unhide HS w3 (unhide HF3) b a true
        rw [x2] at R
        go_wp2_with (refine wpList_load_tariff rfl (.tmp 5) rfl (g := N) (A := A) (t := t) rfl (unhide HB3) ?_)
        refine R.mono ?_
        rintro e w4 ⟨rfl, hF⟩
        have HB4 := hide ((unhide HB3).keep hF)
        have HF4 := hide ((unhide HF3).trans hF (fun _ _ t => t))
        clear hF R HB3 HF3
        have R := unhide HS w4 (unhide HF4) a b false
        rw [x3] at R
        go_wp2_with (refine wpList_load_tariff rfl (.tmp 5) rfl (g := N) (A := A) (t := t) rfl (unhide HB4) ?_)
        refine R.mono ?_
        rintro e w5 ⟨rfl, hF⟩
        have HB5 := hide ((unhide HB4).keep hF)
        have HF5 := hide ((unhide HF4).trans hF (fun _ _ t => t))
        clear hF R HB4 HF4
        have R := unhide HS w5 (unhide HF5) c d true
        rw [(hy true).1] at R
        go_wp2_with (refine wpList_load_tariff rfl (.tmp 5) rfl (g := N) (A := A) (t := t) rfl (unhide HB5) ?_)
        refine R.mono ?_
        rintro e w6 ⟨rfl, hF⟩
        have HB6 := hide ((unhide HB5).keep hF)
        have HF6 := hide ((unhide HF5).trans hF (fun _ _ t => t))
        clear hF R HB5 HF5
        have R := unhide HS w6 (unhide HF6) c d false
        rw [(hy false).1] at R
        go_wp2_with (refine wpList_load_tariff rfl (.tmp 5) rfl (g := N) (A := A) (t := t) rfl (unhide HB6) ?_)
        refine R.mono ?_
        rintro e w7 ⟨rfl, hF⟩
        have HB7 := hide ((unhide HB6).keep hF)
        have HF7 := hide ((unhide HF6).trans hF (fun _ _ t => t))
        clear hF R HB6 HF6
        clear hy HR HS HB7 hN
        go_wp2
        go_ret
        exact ⟨by first | rfl | simp, unhide HF7⟩
      · have HM : Hid (imin c d ≤ imin a b → imax a b ≤ imax c d → n ≤ n' ∧ sc n t.off ≤ sc n' t.off) := hide (fun h1 h2 => unhide HW s s' n n' ha hc hn hn' (by rw [← imin_eq, ← imin_eq]; exact h1) (by rw [← imax_eq, ← imax_eq]; exact h2))
        have k1 := run_min
        have k2 := run_max
        generalize sc n t.off = m at *
        generalize sc n' t.off = m' at *
        clear HW
        go_enter Try.func6, Try.ntmps6
        go_wp2_with fail
        refine R0.mono ?_
        rintro e w1 ⟨rfl, hF⟩
        have HB1 := hide ((unhide HB0).keep hF)
        have HF1 := hide ((unhide HF0).trans hF (fun _ _ t => t))
        clear hF R0 HB0 HF0
        go_wp2_with (refine wpList_load_tariff rfl (.tmp 5) rfl (g := N) (A := A) (t := t) rfl (unhide HB1) ?_)
        refine (unhide HR w1 (unhide HF1)).mono ?_
        rintro e w2 ⟨rfl, hF⟩
        have HB2 := hide ((unhide HB1).keep hF)
        have HF2 := hide ((unhide HF1).trans hF (fun _ _ t => t))
        clear hF HB1 HF1
        have R := unhide HS w2 (unhide HF2) a b true
        rw [x1] at R
        go_wp2_with (refine wpList_load_tariff rfl (.tmp 5) rfl (g := N) (A := A) (t := t) rfl (unhide HB2) ?_)
        refine R.mono ?_
        rintro e w3 ⟨rfl, hF⟩
        have HB3 := hide ((unhide HB2).keep hF)
        have HF3 := hide ((unhide HF2).trans hF (fun _ _ t => t))
        clear hF R HB2 HF2
        have R := unhide HS w3 (unhide HF3) b a true
        rw [x2] at R
        go_wp2_with (refine wpList_load_tariff rfl (.tmp 5) rfl (g := N) (A := A) (t := t) rfl (unhide HB3) ?_)
        refine R.mono ?_
        rintro e w4 ⟨rfl, hF⟩
        have HB4 := hide ((unhide HB3).keep hF)
        have HF4 := hide ((unhide HF3).trans hF (fun _ _ t => t))
        clear hF R HB3 HF3
        have R := unhide HS w4 (unhide HF4) a b false
        rw [x3] at R
        go_wp2_with (refine wpList_load_tariff rfl (.tmp 5) rfl (g := N) (A := A) (t := t) rfl (unhide HB4) ?_)
        refine R.mono ?_
        rintro e w5 ⟨rfl, hF⟩
        have HB5 := hide ((unhide HB4).keep hF)
        have HF5 := hide ((unhide HF4).trans hF (fun _ _ t => t))
        clear hF R HB4 HF4
        have R := unhide HS w5 (unhide HF5) c d true
        rw [y1] at R
        go_wp2_with (refine wpList_load_tariff rfl (.tmp 5) rfl (g := N) (A := A) (t := t) rfl (unhide HB5) ?_)
        refine R.mono ?_
        rintro e w6 ⟨rfl, hF⟩
        have HB6 := hide ((unhide HB5).keep hF)
        have HF6 := hide ((unhide HF5).trans hF (fun _ _ t => t))
        clear hF R HB5 HF5
        have R := unhide HS w6 (unhide HF6) c d false
        rw [y3] at R
        go_wp2_with (refine wpList_load_tariff rfl (.tmp 5) rfl (g := N) (A := A) (t := t) rfl (unhide HB6) ?_)
        refine R.mono ?_
        rintro e w7 ⟨rfl, hF⟩
        have HB7 := hide ((unhide HB6).keep hF)
        have HF7 := hide ((unhide HF6).trans hF (fun _ _ t => t))
        clear hF R HB6 HF6
        clear HR HS HB7 hN x1 x2 x3 y1 y3 ha hc hn hn'
        by_cases g1 : imin c d ≤ imin a b
        · by_cases g2 : imax a b ≤ imax c d
          · obtain ⟨q1, q2⟩ := unhide HM g1 g2
            have q1' : (n : Int) ≤ (n' : Int) := by omega
            have q2' : (m : Int) ≤ (m' : Int) := by omega
            go_wp2
            go_ret
            exact ⟨by first | rfl | simp [q1, q2] | simp_all, unhide HF7⟩
          · go_wp2
            go_ret
            exact ⟨by first | rfl | simp | simp_all, unhide HF7⟩
        · go_wp2
          go_ret
          exact ⟨by first | rfl | simp | simp_all, unhide HF7⟩
  · have hr' : (rightE t != 0) = true := by simpa using hr
    clear HS h
    generalize rightE t = r at *
    obtain ⟨N, hN⟩ : ∃ N, w.heap.size = N := ⟨_, rfl⟩
    rw [hN] at HB0
    unfold tv
    go_enter Try.func6, Try.ntmps6
    go_wp2_with fail
    refine R0.mono ?_
    rintro e w1 ⟨rfl, hF⟩
    have HB1 := hide ((unhide HB0).keep hF)
    have HF1 := hide ((unhide HF0).trans hF (fun _ _ t => t))
    clear hF R0 HB0 HF0
    go_wp2_with (refine wpList_load_tariff rfl (.tmp 5) rfl (g := N) (A := A) (t := t) rfl (unhide HB1) ?_)
    refine (unhide HR w1 (unhide HF1)).mono ?_
    rintro e w2 ⟨rfl, hF⟩
    have HB2 := hide ((unhide HB1).keep hF)
    have HF2 := hide ((unhide HF1).trans hF (fun _ _ t => t))
    clear hF HB1 HF1
    clear HR HB2 hN
    go_wp2
    go_ret
    exact ⟨by first | rfl | simp, unhide HF2⟩

end Go.Proofs.Ythgkdpepgnoepaa
