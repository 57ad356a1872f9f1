import Derived.Test.YthgkifkcckandaaJNE
import Derived.Test.YthgkifkcckandaaQZ1
/- Journeys of a day: Build. -/
namespace Go.Proofs.Ythgkifkcckandaa
open Go.RowKit

/-- What Build leaves. -/
def Built (t : Tf) (l : List Tp) (w : World) (e : Ending) (w' : World) : Prop :=
  ∃ ao' cap' g', e = .returned (.tuple #[.slice ao' (buildJ (tmOf t) (rightE t) l).length cap', .int .i64 (buildE (rightE t) l)]) ∧ KRow w' ao' cap' g' 6 (jV (buildJ (tmOf t) (rightE t) l)) ∧ (0 < cap' → w.heap.size ≤ g') ∧ Fr (fun _ => False) w w'

theorem Built.fail {t : Tf} {l : List Tp} {w w' : World} {x : Int} (hf : Fr (fun _ => False) w w') (hx : buildE (rightE t) l = x) (h0 : x ≠ 0) : Built t l w (.returned (.tuple #[.slice none 0 0, .int .i64 x])) w' := by
  have e : buildJ (tmOf t) (rightE t) l = [] := by unfold buildJ; rw [if_neg (by rw [hx]; exact h0)]
  exact ⟨none, 0, 0, by rw [e, hx]; rfl, by rw [e]; exact KRow.nil _ _ _, fun h => absurd h (by omega), hf⟩

set_option maxHeartbeats 1000000 in
theorem build_any (w : World) (A : Ad) (t : Tf) (hT : TAt w A t) (ao0 : Option Addr) (cap0 : Nat) (l : List Tp) (h : CAt w ao0 (tpV l)) (hl : l.length ≤ 4398046511104) :
    Calls Try.prog 8 #[tv A t, .slice ao0 l.length cap0] w fun e w' => Built t l w e w' := by
  have RT := hide (fun (u : World) (hu : Fr (fun _ => False) w u) => right_walk u A t (hT.keep hu))
  have RR := hide (fun (u : World) (hu : Fr (fun _ => False) w u) => jright_any u ao0 cap0 l (h.keep hu) hl)
  have RD := hide (fun (u : World) (hu : Fr (fun _ => False) w u) (h0 : 0 < l.length) => dayLength_any u ao0 cap0 l (h.keep hu) hl h0)
  have RW := hide (fun (u : World) (hu : Fr (fun _ => False) w u) (hlg : 0 ≤ t.longest) (h1 : l.length ≤ 2000) (h2 : RgtOk l) => walked_any u A t (hT.keep hu) hlg ao0 cap0 l (h.keep hu) h1 h2)
  have HE : Hid (buildE (rightE t) l = if rightE t ≠ 0 then rightE t else if rightT l ≠ 0 then rightT l else if 0 < l.length ∧ dayLn l < l.length then 170 else 0) := hide rfl
  have HSM : Hid (rightE t = 0 → 0 ≤ t.longest) := hide (fun e => (small_of e).longest.1)
  have HRT : Hid (rightT l = 0 → l.length ≤ 2000 ∧ RgtOk l) := hide (rightT_zero l).1
  have HJ : Hid (buildE (rightE t) l = 0 → buildJ (tmOf t) (rightE t) l = walkedJ (tmOf t) l) := hide (fun e => by unfold buildJ; rw [if_pos e])
  have HDL := hide (dayLn_le l)
  have HTB := hide (TB.new w A t)
  obtain ⟨v, hv⟩ : ∃ v, v = w.alloc (.cells (tc A t) 27) := ⟨_, rfl⟩
  have hFv : Fr (fun _ => False) w v := by rw [hv]; exact (Fr.refl _ _).alloc _
  have HFV := hide hFv
  have HV := hide hv
  rw [← hv] at HTB
  clear hFv hv hT h
  unfold tv
  unfold tc at HV ⊢
  go_enter Try.func8, Try.ntmps8
  go_upto_region 1 with (fail)
  rw [← unhide HV]
  clear HV
  go_wp2_with (refine wpList_load_tariff rfl (.tmp 2) rfl (g := w.heap.size) (A := A) (t := t) rfl (unhide HTB) ?_)
  refine (unhide RT v (unhide HFV)).mono ?_
  rintro e w1 ⟨rfl, hF1⟩
  have HF1 := hide ((unhide HFV).trans hF1 (fun _ _ t => t))
  have HTB1 := hide ((unhide HTB).keep hF1)
  clear hF1 HFV HTB RT
  by_cases h1 : rightE t = 0
  · rw [h1]
    have RR1 := hide (unhide RR w1 (unhide HF1))
    go_wp2_with fail
    refine (unhide RR1).mono ?_
    rintro e w2 ⟨rfl, hF2⟩
    have HF2 := hide ((unhide HF1).trans hF2 (fun _ _ t => t))
    have HTB2 := hide ((unhide HTB1).keep hF2)
    clear hF2 HF1 HTB1 RR1 RR
    by_cases h2 : rightT l = 0
    · rw [h2]
      obtain ⟨hl2, hok⟩ := unhide HRT h2
      have RW1 := hide (fun (u : World) (hu : Fr (fun _ => False) w u) => unhide RW u hu (unhide HSM h1) hl2 hok)
      clear RW HSM HRT
      by_cases h0 : 0 < l.length
      · have RD1 := hide (unhide RD w2 (unhide HF2) h0)
        have h0b : decide ((0 : Int) < (l.length : Int)) = true := by simp; omega
        have h0i : (0 : Int) < (l.length : Int) := by omega
        by_cases h3 : dayLn l < l.length
        · have HX : Hid (buildE (rightE t) l = 170) := hide (by rw [unhide HE]; simp [h1, h2, h0, h3])
          have h3i : (dayLn l : Int) < (l.length : Int) := by omega
          generalize dayLn l = dl at *
          clear HE HJ h1 h2 h3 hok RW1 RD
          go_wp2_with fail
          refine (unhide RD1).mono ?_
          rintro e w3 ⟨rfl, hF3⟩
          have HF3 := hide ((unhide HF2).trans hF3 (fun _ _ t => t))
          clear hF3 HF2 HTB2 RD1
          go_wp2
          go_ret2
          exact Built.fail (unhide HF3) (unhide HX) (by decide)
        · have HX : Hid (buildE (rightE t) l = 0) := hide (by rw [unhide HE]; simp [h1, h2, h3])
          have h3i : ¬ (dayLn l : Int) < (l.length : Int) := by omega
          have HJ1 := hide (unhide HJ (unhide HX))
          generalize dayLn l = dl at *
          clear HE HJ h1 h2 h3 hok RD
          go_wp2_with fail
          refine (unhide RD1).mono ?_
          rintro e w3 ⟨rfl, hF3⟩
          have HF3 := hide ((unhide HF2).trans hF3 (fun _ _ t => t))
          have HTB3 := hide ((unhide HTB2).keep hF3)
          have RW2 := hide (unhide RW1 w3 (unhide HF3))
          clear hF3 HF2 HTB2 RD1 RW1
          go_wp2_with (refine wpList_load_tariff rfl (.tmp 2) rfl (g := w.heap.size) (A := A) (t := t) rfl (unhide HTB3) ?_)
          refine (unhide RW2).mono ?_
          rintro e w4 ⟨ao', cap', g', rfl, hK, hg, hF4⟩
          have HR : Hid (Built t l w (.returned (.tuple #[.slice ao' (walkedJ (tmOf t) l).length cap', .int .i64 0])) w4) := hide ⟨ao', cap', g', by rw [unhide HJ1, unhide HX], by rw [unhide HJ1]; exact hK, fun hc => Nat.le_trans (unhide HF3).size (hg hc), (unhide HF3).trans hF4 (fun _ _ t => t)⟩
          clear hK hg hF4 HF3 HTB3 RW2 HJ1 HX
          generalize walkedJ (tmOf t) l = wj at *
          go_wp2
          go_ret2
          exact unhide HR
      · obtain rfl : l = [] := List.eq_nil_of_length_eq_zero (by omega)
        have HX : Hid (buildE (rightE t) [] = 0) := hide (by rw [unhide HE]; simp [h1, h2])
        have HJ1 := hide (unhide HJ (unhide HX))
        have RW2 := hide (unhide RW1 w2 (unhide HF2))
        clear HE HJ h1 h2 hok RD RW1 HDL
        simp only [List.length_nil] at RW2
        go_wp2_with (refine wpList_load_tariff rfl (.tmp 2) rfl (g := w.heap.size) (A := A) (t := t) rfl (unhide HTB2) ?_)
        refine (unhide RW2).mono ?_
        rintro e w4 ⟨ao', cap', g', rfl, hK, hg, hF4⟩
        have HR : Hid (Built t [] w (.returned (.tuple #[.slice ao' (walkedJ (tmOf t) []).length cap', .int .i64 0])) w4) := hide ⟨ao', cap', g', by rw [unhide HJ1, unhide HX], by rw [unhide HJ1]; exact hK, fun hc => Nat.le_trans (unhide HF2).size (hg hc), (unhide HF2).trans hF4 (fun _ _ t => t)⟩
        clear hK hg hF4 HF2 HTB2 RW2 HJ1 HX
        generalize walkedJ (tmOf t) [] = wj at *
        go_wp2
        go_ret2
        exact unhide HR
    · have HX : Hid (buildE (rightE t) l = rightT l) := hide (by rw [unhide HE]; simp [h1, h2])
      have hb2 : (rightT l == 0) = false := by simp [h2]
      have hb3 : (rightT l != 0) = true := by simp [h2]
      have H2 := hide h2
      generalize rightT l = rr at *
      clear HE HJ h1 HRT RW RD HTB2
      go_wp2
      go_ret2
      exact Built.fail (unhide HF2) (unhide HX) (unhide H2)
  · have HX : Hid (buildE (rightE t) l = rightE t) := hide (by rw [unhide HE]; simp [h1])
    have hb2 : (rightE t == 0) = false := by simp [h1]
    have hb3 : (rightE t != 0) = true := by simp [h1]
    have HXX : Hid (∀ w', Fr (fun _ => False) w w' → Built t l w (.returned (.tuple #[.slice none 0 0, .int .i64 (rightE t)])) w') := hide (fun w' hf => Built.fail hf (unhide HX) h1)
    clear HE HJ HRT RW RD RR HTB1 HSM HX HDL h1
    generalize rightE t = rr at *
    go_wp2
    go_ret2
    exact unhide HXX _ (unhide HF1)

end Go.Proofs.Ythgkifkcckandaa

