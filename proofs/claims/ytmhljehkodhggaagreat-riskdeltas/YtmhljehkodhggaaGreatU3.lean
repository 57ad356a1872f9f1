import Derived.Test.YtmhljehkodhggaaGreatU2
import Derived.Test.YtmhljehkodhggaaGreatN9
/- Package risk: which lists and deltas may be, what is wrong ahead of a next version or of a delta joined. -/
namespace Go.Proofs.YtmhljehkodhggaaGreat
open Go.RowKit

theorem right_any (w : World) (l : Rl) (a : Option Addr) (c : Nat) (h : SAt w a l.toks) (hl : l.toks.length ≤ 140737488355328) :
    Calls Tryz.prog 8 #[.agg (rlC l a c)] w fun e w' => e = .returned (.int .i64 (rightE l)) ∧ Fr (fun _ => False) w w' := by
  have hA : Fr (fun _ => False) w (w.alloc (.cells (rlC l a c) 24)) := (Fr.refl _ _).alloc _
  have RT : Hid (∀ w1, Fr (fun _ => False) w w1 → Calls Tryz.prog 25 #[.slice a l.toks.length c] w1 fun e w' => e = .returned (.bool (l.toks.all isTok)) ∧ Fr (fun _ => False) w1 w') := hide (fun w1 hf => areTokens_any w1 a c l.toks (h.keep hf) hl)
  have RR : Hid (∀ w1, Fr (fun _ => False) w w1 → Calls Tryz.prog 26 #[.slice a l.toks.length c] w1 fun e w' => e = .returned (.bool (risB l.toks)) ∧ Fr (fun _ => False) w1 w') := hide (fun w1 hf => isRising_any w1 a c l.toks (h.keep hf) hl)
  have D : Hid (∀ w1, Fr (fun _ => False) (w.alloc (.cells (rlC l a c) 24)) w1 → w1.cell? ⟨w.heap.size, 0, none⟩ = some (.int .i64 l.ver) ∧ w1.cell? ⟨w.heap.size, 1, none⟩ = some (.slice a l.toks.length c)) := hide (fun w1 hf => by
    refine ⟨?_, ?_⟩ <;> (rw [hf.cell (by simp) (fun t => t)]; simp [rlC]))
  have HA := hide hA
  have HE : Hid (rightE l = if l.ver < 0 ∨ (l.ver = 0 ∧ 0 < l.toks.length) then 130 else if 1000 < l.toks.length then 2 else if l.toks.all isTok && risB l.toks then 0 else 131) := hide rfl
  clear h hA
  unfold rlC at D HA ⊢
  generalize rightE l = E at HE ⊢
  generalize l.toks.all isTok = b1 at *
  generalize risB l.toks = b2 at *
  generalize l.toks.length = n at *
  generalize l.ver = v at *
  clear l
  by_cases h1 : v < 0
  · go_enter Tryz.func8, Tryz.ntmps8
    go_wp2
    go_ret
    exact ⟨by rw [unhide HE, if_pos (Or.inl h1)]; rfl, unhide HA⟩
  · by_cases h2 : v = 0 ∧ 0 < n
    · obtain ⟨rfl, h2⟩ := h2
      go_enter Tryz.func8, Tryz.ntmps8
      go_wp2
      go_ret
      exact ⟨by rw [unhide HE]; simp [h2], unhide HA⟩
    · have HN : Hid (¬ (v < 0 ∨ (v = 0 ∧ 0 < n))) := hide (fun t => t.elim h1 h2)
      by_cases h3 : 1000 < n
      · have hv : (v == 0) = false := by rw [beq_eq_false_iff_ne]; omega
        clear h2
        go_enter Tryz.func8, Tryz.ntmps8
        go_wp2
        go_ret
        exact ⟨by rw [unhide HE, if_neg (unhide HN), if_pos h3]; rfl, unhide HA⟩
      · have hand : ((v == 0) && decide (0 < (n : Int))) = false := by
          cases hv : (v == 0) with
          | false => rfl
          | true =>
            have : v = 0 := by simpa using hv
            rw [Bool.true_and, decide_eq_false_iff_not]
            omega
        cases hv : (v == 0) with
        | true =>
          have hn0 : n = 0 := by
            have : v = 0 := by simpa using hv
            omega
          subst hn0
          clear h2 hand
          cases b1
          · go_enter Tryz.func8, Tryz.ntmps8
            go_wp2_with fail
            refine (unhide RT _ (unhide HA)).mono ?_
            rintro e w1 ⟨rfl, hF⟩
            have HF := hide ((unhide HA).trans hF (fun _ _ t => t))
            clear hF
            go_wp2
            go_ret
            exact ⟨by rw [unhide HE, if_neg (unhide HN), if_neg (by omega)]; rfl, unhide HF⟩
          · go_enter Tryz.func8, Tryz.ntmps8
            go_wp2_with fail
            refine (unhide RT _ (unhide HA)).mono ?_
            rintro e w1 ⟨rfl, hF⟩
            obtain ⟨k0, k1⟩ := unhide D w1 hF
            have HF := hide ((unhide HA).trans hF (fun _ _ t => t))
            clear hF
            go_wp2_with fail
            refine (unhide RR _ (unhide HF)).mono ?_
            rintro e w2 ⟨rfl, hF⟩
            have HF2 := hide ((unhide HF).trans hF (fun _ _ t => t))
            clear hF
            cases b2
            all_goals
              go_wp2
              go_ret
              exact ⟨by rw [unhide HE, if_neg (unhide HN), if_neg (by omega)]; rfl, unhide HF2⟩
        | false =>
          clear h2 hand
          cases b1
          · go_enter Tryz.func8, Tryz.ntmps8
            go_wp2_with fail
            refine (unhide RT _ (unhide HA)).mono ?_
            rintro e w1 ⟨rfl, hF⟩
            have HF := hide ((unhide HA).trans hF (fun _ _ t => t))
            clear hF
            go_wp2
            go_ret
            exact ⟨by rw [unhide HE, if_neg (unhide HN), if_neg (by omega)]; rfl, unhide HF⟩
          · go_enter Tryz.func8, Tryz.ntmps8
            go_wp2_with fail
            refine (unhide RT _ (unhide HA)).mono ?_
            rintro e w1 ⟨rfl, hF⟩
            obtain ⟨k0, k1⟩ := unhide D w1 hF
            have HF := hide ((unhide HA).trans hF (fun _ _ t => t))
            clear hF
            go_wp2_with fail
            refine (unhide RR _ (unhide HF)).mono ?_
            rintro e w2 ⟨rfl, hF⟩
            have HF2 := hide ((unhide HF).trans hF (fun _ _ t => t))
            clear hF
            cases b2
            all_goals
              go_wp2
              go_ret
              exact ⟨by rw [unhide HE, if_neg (unhide HN), if_neg (by omega)]; rfl, unhide HF2⟩

/-- A delta that is handed in. -/
structure DI (w : World) (d : Dl) (a1 : Option Addr) (c1 : Nat) (a2 : Option Addr) (c2 : Nat) : Prop where
  add : SAt w a1 d.add
  gone : SAt w a2 d.gone
  l1 : d.add.length ≤ 140737488355328
  l2 : d.gone.length ≤ 140737488355328
  ver : d.ver ≤ 9223372036854775807
  n1 : d.add.length ≤ c1
  n2 : d.gone.length ≤ c2
/-- A list that is handed in. -/
structure RIn (w : World) (l : Rl) (a : Option Addr) (c : Nat) : Prop where
  toks : SAt w a l.toks
  len : l.toks.length ≤ 140737488355328
  n1 : l.toks.length ≤ c
  ver : l.ver ≤ 9223372036854775807
theorem DI.keep {w w' : World} {d : Dl} {a1 : Option Addr} {c1 : Nat} {a2 : Option Addr} {c2 : Nat} (h : DI w d a1 c1 a2 c2) (hf : Fr (fun _ => False) w w') : DI w' d a1 c1 a2 c2 := ⟨h.add.keep hf, h.gone.keep hf, h.l1, h.l2, h.ver, h.n1, h.n2⟩
theorem RIn.keep {w w' : World} {l : Rl} {a : Option Addr} {c : Nat} (h : RIn w l a c) (hf : Fr (fun _ => False) w w') : RIn w' l a c := ⟨h.toks.keep hf, h.len, h.n1, h.ver⟩

theorem sat_cat {w : World} {ao : Option Addr} {l : List ByteArray} (h : SAt w ao l) : CAt w ao (tkV l) := fun h0 => by
  rw [tkV_len] at h0
  obtain ⟨b, off, e, hc⟩ := h h0
  refine ⟨b, off, e, fun j hj => ?_⟩
  have hj' : j < l.length := by rw [tkV_len] at hj; exact hj
  rw [hc j hj', getD_eq hj']
  have h2 := flat_get tkC 1 (fun _ => rfl) l j hj' 0 (by omega)
  rw [Nat.mul_one, Nat.add_zero] at h2
  have h3 : (tkV l)[j]? = (tkC l[j])[0]? := h2
  rw [List.getElem?_eq_getElem hj] at h3
  rw [h3]
  rfl
theorem DI.din {w : World} {d : Dl} {a1 : Option Addr} {c1 : Nat} {a2 : Option Addr} {c2 : Nat} (h : DI w d a1 c1 a2 c2) : DIn w d a1 c1 a2 c2 := ⟨sat_cat h.add, sat_cat h.gone, h.l1, h.l2, h.ver, h.n1, h.n2⟩

theorem step_some {s o : Option (List UInt8)} (h1 : s.isSome = true) (h2 : o.isSome = true) : (stepW s o).isSome = true := by
  cases s with
  | none => cases h1
  | some a => cases o with
    | none => cases h2
    | some b => rfl
theorem wrN_toks : ∀ (l : List ByteArray), (∀ x ∈ l, isTok x = true) → (wrN tokenK (l.map tkC)).isSome = true
  | [], _ => rfl
  | a :: l, h => by
    rw [List.map_cons, wrN]
    refine step_some ?_ (wrN_toks l (fun x hx => h x (List.mem_cons_of_mem _ hx)))
    have h1 : (a.size : Int) = 8 := by have := h a (List.mem_cons_self ..); simpa [isTok] using this
    show (stepW (wFixed a 8) (some [])).isSome = true
    refine step_some ?_ rfl
    unfold wFixed
    rw [if_pos ⟨by omega, by omega, h1⟩]
    rfl
theorem wrM_toks {l : List ByteArray} (h : listOk l = true) : (wrM tokenK (l.map tkC)).isSome = true := by
  obtain ⟨h1, h2, _⟩ := listOk_iff.1 h
  refine step_some ?_ (wrN_toks l h2)
  unfold wCount
  rw [List.length_map, if_pos ⟨by omega, by omega⟩]
  rfl
theorem deltaW_code (d : Dl) (hv : d.ver ≤ 9223372036854775807) : (deltaW d).2 = if deltaOk d then 0 else 80 := by
  unfold deltaW
  split
  · rename_i hk
    have hk' := hk
    simp only [deltaOk, Bool.and_eq_true, decide_eq_true_eq] at hk'
    have : (deltaB d).isSome = true := by
      unfold deltaB
      refine step_some (step_some (step_some rfl ?_) (wrM_toks hk'.1.1.2)) (wrM_toks hk'.1.2)
      show (stepW (wNumber d.ver 8) (some [])).isSome = true
      refine step_some ?_ rfl
      unfold wNumber
      rw [if_pos ⟨by omega, by omega, by omega, by rw [show (256 : Int) ^ (8 : Int).toNat = 18446744073709551616 from rfl]; omega⟩]
      rfl
    simp only [codeOf, this]
    rfl
  · rfl

theorem mayBe_any (w : World) (d : Dl) (a1 : Option Addr) (c1 : Nat) (a2 : Option Addr) (c2 : Nat) (h : DI w d a1 c1 a2 c2) :
    Calls Tryz.prog 41 #[.agg (dlC d a1 c1 a2 c2)] w fun e w' => e = .returned (.bool (deltaOk d)) ∧ Fr (fun _ => False) w w' := by
  have hA : Fr (fun _ => False) w (w.alloc (.cells (dlC d a1 c1 a2 c2) 26)) := (Fr.refl _ _).alloc _
  have R := hide (recDelta_any d (w.alloc (.cells (dlC d a1 c1 a2 c2) 26)) a1 c1 a2 c2 (h.din.keep hA))
  have HC := hide (deltaW_code d h.ver)
  have HA := hide hA
  clear h hA
  unfold dlC at *
  generalize (deltaW d).1 = bs at *
  generalize (deltaW d).2 = cd at *
  generalize deltaOk d = b at *
  go_enter Tryz.func41, Tryz.ntmps41
  go_wp2_with fail
  refine (unhide R).mono ?_
  rintro e w1 ⟨ao, cap, gb, rfl, _, _, hF⟩
  have HF := hide ((unhide HA).trans hF (fun _ _ t => t))
  have hc := unhide HC
  clear hF HC R
  cases b
  · obtain rfl : cd = 80 := hc
    go_wp2
    go_ret
    exact ⟨rfl, unhide HF⟩
  · obtain rfl : cd = 0 := hc
    go_wp2
    go_ret
    exact ⟨rfl, unhide HF⟩

theorem follows_any (w : World) (d : Dl) (a1 : Option Addr) (c1 : Nat) (a2 : Option Addr) (c2 : Nat) (v : Int) (h0 : 1 ≤ d.ver) (h1 : d.ver ≤ 9223372036854775807) :
    Calls Tryz.prog 42 #[.agg (dlC d a1 c1 a2 c2), .int .i64 v] w fun e w' => e = .returned (.bool (d.ver - 1 == v)) ∧ Fr (fun _ => False) w w' := by
  have hA : Fr (fun _ => False) w (w.alloc (.cells (dlC d a1 c1 a2 c2) 26)) := (Fr.refl _ _).alloc _
  have HA := hide hA
  clear hA
  unfold dlC at *
  generalize d.ver = u at *
  have hw : IntKind.i64.wrap (u - 1) = u - 1 := by rw [IntKind.wrap_i64]; omega
  go_enter Tryz.func42, Tryz.ntmps42
  go_wp2
  go_ret
  exact ⟨rfl, unhide HA⟩

end Go.Proofs.YtmhljehkodhggaaGreat

