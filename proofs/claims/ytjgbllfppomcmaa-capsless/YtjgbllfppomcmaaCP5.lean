import Derived.Test.YtjgbllfppomcmaaCP1
import Derived.Test.YtjgbllfppomcmaaQY
import Derived.Deep.RegionHeldLaw
import Derived.Deep.RegionHeld3
import Derived.Deep.Cut
import Derived.Deep.CutBlock
/- The program's follows, areTotals, areZones, right. -/
namespace Go.Proofs.Ytjgbllfppomcmaa
open Go.RowKit

theorem capsFollows_any (w : World) (d a : Dy) : Calls Try.prog 12 #[.agg (dyC d), .agg (dyC a)] w fun e w' => e = .returned (.bool (follB d a)) ∧ Fr (fun _ => False) w w' := by
  have HX : Hid (follB d a = (decide (a.day < d.day) && decide (weekV d.day = weekV a.day))) := rfl
  have RW := hide (fun (u : World) (n : Int) => week_any u n)
  obtain ⟨v, hv⟩ : ∃ v, v = (w.alloc (.cells (dyC d) 43)).alloc (.cells (dyC a) 43) := ⟨_, rfl⟩
  have HFV : Hid (Fr (fun _ => False) w v) := hide (by rw [hv]; exact ((Fr.refl _ w).alloc _).alloc _)
  have h1 : Bx v w.heap.size (dyC d) 43 := by rw [hv]; exact (Bx.new w _ _).keep ((Fr.refl _ _).alloc _)
  have h2 : Bx v (w.heap.size + 1) (dyC a) 43 := by
    rw [hv, ← heap_alloc w (.cells (dyC d) 43)]; exact Bx.new _ _ _
  obtain ⟨B, hB⟩ : ∃ B, B = w.heap.size := ⟨_, rfl⟩
  rw [← hB] at h1 h2
  have H1 := hide h1
  have H2 := hide h2
  have HV := hide hv
  have HB := hide hB
  clear hv hB h1 h2
  generalize follB d a = z at *
  obtain ⟨d0, d1, d2, d3, d4, d5, d6⟩ := d
  obtain ⟨a0, a1, a2, a3, a4, a5, a6⟩ := a
  simp only [dyC] at *
  have c0 : v.cell? ⟨B, 0, none⟩ = some (.int .i64 d0) := (unhide H1).cell 0
  have e0 : v.cell? ⟨B + 1, 0, none⟩ = some (.int .i64 a0) := (unhide H2).cell 0
  by_cases hlt : a0 < d0
  · have HZ : Hid (z = (decide (weekV d0 = weekV a0))) := hide (by rw [unhide HX]; simp [hlt])
    clear HX
    go_enter Try.func12, Try.ntmps12
    go_upto_region 1 with (fail)
    rw [← unhide HV, ← unhide HB]
    clear HV
    go_region_held3 (fun u => u.cell? ⟨B, 0, none⟩ = some (.int .i64 d0) ∧ u.cell? ⟨B + 1, 0, none⟩ = some (.int .i64 a0))
      ((exact ⟨c0, e0⟩))
      ((go_at_call 28; refine (unhide RW _ _).mono ?_; rintro e wa ⟨rfl, rfl⟩))
    go_wp2
    go_ret
    exact ⟨by rw [unhide HZ]; rfl, (unhide HFV).drew⟩
  · have HZ : Hid (z = false) := hide (by rw [unhide HX]; simp [hlt])
    clear HX
    go_enter Try.func12, Try.ntmps12
    go_upto_region 1 with (fail)
    rw [← unhide HV, ← unhide HB]
    clear HV
    go_quiet (fail)
    go_wp2
    go_ret
    exact ⟨by rw [unhide HZ]; rfl, (unhide HFV).drewN _⟩

theorem ints4 (w : World) (a b c d : Int) : CAt (w.alloc (.cells #[.int .i64 a, .int .i64 b, .int .i64 c, .int .i64 d] 3)) (some ⟨w.heap.size, 0, none⟩) ([a, b, c, d].map (Value.int .i64)) := by
  refine fun _ => ⟨_, _, rfl, fun j hj => ?_⟩
  rw [World.cell?_alloc_new, Nat.zero_add]
  match j, hj with
  | 0, _ => rfl
  | 1, _ => rfl
  | 2, _ => rfl
  | 3, _ => rfl
  | j + 4, hj => simp at hj; omega

theorem tot_cases (n : Int) : (totB n = true ∧ 0 ≤ n ∧ n ≤ 1099511627776) ∨ (totB n = false ∧ (n < 0 ∨ (¬ n < 0 ∧ 1099511627776 < n))) := by
  cases h : totB n with
  | true => left; unfold totB at h; simp at h; exact ⟨rfl, h.1, h.2⟩
  | false => right; unfold totB at h; simp at h; exact ⟨rfl, by omega⟩

theorem areTotals_any (w : World) (ao : Option Addr) (cap : Nat) (l : List Int) (h : CAt w ao (l.map (Value.int .i64))) (hl : l.length ≤ 1000) (n : Nat) (hn : n = l.length) :
    Calls Try.prog 29 #[.slice ao n cap] w fun e w' => e = .returned (.bool (l.all totB)) ∧ w' = w := by
  subst hn
  have H := hide h
  clear h
  obtain ⟨y, HY⟩ : ∃ y, Hid (l.all totB = y) := ⟨_, rfl⟩
  rw [unhide HY]
  go_enter Try.func29, Try.ntmps29
  go_wp2
  go_loopw [2, 4, 7] (fun _ _ iv wr => ∃ (i : Nat), i ≤ l.length ∧ iv = .int .i64 i ∧ wr = w ∧ Hid ((l.drop i).all totB = y)) (fun _ _ iv _ => l.length - (intOf iv).toNat)
  case atStart => exact ⟨0, Nat.zero_le _, rfl, rfl, hide (by simpa using unhide HY)⟩
  case round =>
    obtain ⟨i, hi, rfl, rfl, HI⟩ := hrel
    by_cases hil : i < l.length
    · obtain ⟨b, off, rfl, c0⟩ := (unhide H).ints hil
      have ht := unhide HI
      rw [List.drop_eq_getElem_cons hil, List.all_cons] at ht
      have HT := hide ht
      clear ht HI
      generalize l[i] = x at *
      rcases tot_cases x with ⟨hp, h0, h1⟩ | ⟨hp, h0 | ⟨h0, h1⟩⟩
      · have HT' : Hid ((l.drop (i + 1)).all totB = y) := hide (by rw [← unhide HT, hp]; rfl)
        have h0' : ¬ x < 0 := by omega
        have h1' : ¬ 1099511627776 < x := by omega
        clear hp HT h0 h1
        go_wp2
        exact ⟨⟨i + 1, by omega, by go_num, (by first | rfl | trivial), unhide HT'⟩, by simp [intOf]; omega⟩
      · have HT' : Hid (y = false) := hide (by rw [← unhide HT, hp]; rfl)
        clear hp HT HY
        go_wp2
        go_ret
        exact ⟨by rw [unhide HT']; rfl, rfl⟩
      · have HT' : Hid (y = false) := hide (by rw [← unhide HT, hp]; rfl)
        clear hp HT HY
        go_wp2
        go_ret
        exact ⟨by rw [unhide HT']; rfl, rfl⟩
    · obtain rfl : i = l.length := by omega
      have HT' : Hid (y = true) := hide (by rw [← unhide HI, List.drop_length]; rfl)
      clear HI HY H
      go_wp2
      go_ret
      exact ⟨by rw [unhide HT']; rfl, rfl⟩

theorem areZones_any (w : World) (A : Ad) (t : Tf) (h : TAt w A t) (lo hi : Int) : Calls Try.prog 30 #[tv A t, .int .i64 lo, .int .i64 hi] w fun e w' => e = .returned (.bool (zonB t lo hi)) ∧ Fr (fun _ => False) w w' := by
  have HX : Hid (zonB t lo hi = if lo = 0 ∧ hi = 0 then true else ((spanOf t lo hi).isSome && decide (lo ≤ hi))) := rfl
  have RS := hide (fun (u : World) (hu : Fr (fun _ => False) w u) => span_any u A t (h.keep hu) lo hi)
  generalize zonB t lo hi = z at *
  generalize (spanOf t lo hi).getD ⟨0, 0, 0, 0, 0⟩ = sp at *
  generalize (spanOf t lo hi).isSome = sb at *
  obtain ⟨v, hv⟩ : ∃ v, v = w.alloc (.cells (tc A t) 27) := ⟨_, rfl⟩
  have HFV : Hid (Fr (fun _ => False) w v) := hide (by rw [hv]; exact (Fr.refl _ w).alloc _)
  have hTB : TB v w.heap.size A t := by rw [hv]; exact TB.new w A t
  obtain ⟨B, hB⟩ : ∃ B, B = w.heap.size := ⟨_, rfl⟩
  rw [← hB] at hTB
  have HTB := hide hTB
  have HV := hide hv
  have HB := hide hB
  clear hv hB hTB h
  unfold tv
  unfold tc at HV ⊢
  by_cases h0 : lo = 0
  · subst h0
    by_cases h1 : hi = 0
    · subst h1
      have HZ : Hid (z = true) := hide (by rw [unhide HX]; simp)
      clear HX RS
      go_enter Try.func30, Try.ntmps30
      go_upto_region 1 with (fail)
      rw [← unhide HV, ← unhide HB]
      clear HV
      go_wp2
      go_ret
      exact ⟨by rw [unhide HZ]; rfl, unhide HFV⟩
    · have HZ : Hid (z = (sb && decide (0 ≤ hi))) := hide (by rw [unhide HX, if_neg (fun k => h1 k.2)])
      have hb : (hi == 0) = false := by simp [h1]
      clear HX h1
      go_enter Try.func30, Try.ntmps30
      go_upto_region 1 with (fail)
      rw [← unhide HV, ← unhide HB]
      clear HV
      go_wp2_with (refine wpList_load_tariff rfl (.tmp 3) rfl (g := B) (A := A) (t := t) rfl (unhide HTB) ?_)
      refine (unhide RS v (unhide HFV)).mono ?_
      rintro e w1 ⟨rfl, hF⟩
      have HF1 := hide ((unhide HFV).trans hF (fun _ _ t => t))
      clear hF RS
      obtain ⟨p0, p1, p2, p3, p4⟩ := sp
      simp only [spA] at *
      cases sb with
      | false =>
        go_wp2
        go_ret
        exact ⟨by rw [unhide HZ]; rfl, (unhide HF1).alloc _⟩
      | true =>
        go_wp2
        go_ret
        exact ⟨by rw [unhide HZ]; rfl, (unhide HF1).alloc _⟩
  · have HZ : Hid (z = (sb && decide (lo ≤ hi))) := hide (by rw [unhide HX, if_neg (fun k => h0 k.1)])
    have hb : (lo == 0) = false := by simp [h0]
    clear HX h0
    go_enter Try.func30, Try.ntmps30
    go_upto_region 1 with (fail)
    rw [← unhide HV, ← unhide HB]
    clear HV
    go_wp2_with (refine wpList_load_tariff rfl (.tmp 3) rfl (g := B) (A := A) (t := t) rfl (unhide HTB) ?_)
    refine (unhide RS v (unhide HFV)).mono ?_
    rintro e w1 ⟨rfl, hF⟩
    have HF1 := hide ((unhide HFV).trans hF (fun _ _ t => t))
    clear hF RS
    obtain ⟨p0, p1, p2, p3, p4⟩ := sp
    simp only [spA] at *
    cases sb with
    | false =>
      go_wp2
      go_ret
      exact ⟨by rw [unhide HZ]; rfl, (unhide HF1).alloc _⟩
    | true =>
      go_wp2
      go_ret
      exact ⟨by rw [unhide HZ]; rfl, (unhide HF1).alloc _⟩

end Go.Proofs.Ytjgbllfppomcmaa

