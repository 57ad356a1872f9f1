/- Times as texts, the way back: Parse. -/
import Derived.Test.YtnnhhfajcecdkaaDoorS4
namespace Go.Proofs.YtnnhhfajcecdkaaDoor
open Go.RowKit Go.Sort

theorem day_ba (w : World) (f : ByteArray) (hE : Env w) : Calls Tryd.prog 37 #[.string f] w fun e w' => e = .returned (.int .i64 ((dayIx f.data.toList : Nat) : Int)) ∧ Fr (fun _ => False) w w' := by
  have h := day_any7 w f.data.toList hE
  have e : (⟨f.data.toList.toArray⟩ : ByteArray) = f := by simp
  rw [e] at h
  exact h.mono fun _ _ ⟨h1, h2⟩ => ⟨h1, by rw [h2]; exact Fr.refl _ _⟩

theorem dayIx_lt (l : List UInt8) : dayIx l < 7 := by
  unfold dayIx
  split
  · decide
  · split
    · decide
    · split
      · decide
      · split
        · decide
        · split
          · decide
          · split
            · decide
            · split <;> decide

theorem fields_size (p : Nat → Bool) (s : ByteArray) : ∀ f ∈ Lib.goFieldsP p s, f.size ≤ s.size := by
  intro f hf
  unfold Lib.goFieldsP at hf
  obtain ⟨x, _, rfl⟩ := List.mem_map.1 hf
  simp only [ByteArray.size_extract]
  omega

theorem pred_sep (w : World) : PredAtRunes Tryd.prog 35 #[] sep w := by
  intro W x _ _
  refine (sepf_any W x).mono ?_
  rintro e w' ⟨rfl, rfl⟩
  exact ⟨rfl, 0, rfl⟩

theorem enters35 : ∀ args w, (callFunc 35 args).run Tryd.prog w = .ok (.enter 35 args) w := Go.Proofs.enters_of Tryd.func35 (by kernel_rfl) rfl

theorem fields_any (w : World) (s : List UInt8) (hl : s.length ≤ 16) :
    Calls Tryd.prog 34 #[.string ⟨s.toArray⟩, .func (.func 35) #[] #[]] w fun e w' => ∃ A, e = .returned (.slice (some ⟨A, 0, none⟩) (Lib.goFieldsP sep ⟨s.toArray⟩).length (Lib.goFieldsP sep ⟨s.toArray⟩).length) ∧ Fr (fun _ => False) w w' ∧
      ∀ j (hj : j < (Lib.goFieldsP sep ⟨s.toArray⟩).length), w'.cell? ⟨A, j, none⟩ = some (.string (Lib.goFieldsP sep ⟨s.toArray⟩)[j]) := by
  refine (Tryd.strings_FieldsFunc_runes 35 #[] enters35 sep ⟨s.toArray⟩ w (by simp [ByteArray.size]; omega) (pred_sep w)).mono ?_
  rintro e w' ⟨A, rfl, _, hO, hB⟩
  refine ⟨A, rfl, below_fr hB, fun j hj => ?_⟩
  rw [hO.cellAt j (by omega)]
  simp [hj]

/-- What the parts of a text come to. -/
theorem sum_text (t : Nat) (ht : t ≤ 2147483648) (a b c d : ByteArray)
    (h : [a, b, c, d] = [⟨(Lib.decDigits (t / 10080)).toArray⟩, ⟨(word (t % 10080 / 1440)).toArray⟩, ⟨(two (t % 1440 / 60)).toArray⟩, ⟨(two (t % 60)).toArray⟩]) :
    wrap64 (wrap64 (wrap64 (wrap64 (numV a.data.toList * 10080) + ((dayIx b.data.toList : Nat) : Int) * 1440) + wrap64 (numV c.data.toList * 60)) + numV d.data.toList) = (t : Int) := by
  injection h with h1 h
  injection h with h2 h
  injection h with h3 h
  injection h with h4 _
  subst h1 h2 h3 h4
  have e0 : numV (Lib.decDigits (t / 10080)).toArray.toList = ((t / 10080 : Nat) : Int) := by simp [numV, atoi_dec]
  have e1 : dayIx (word (t % 10080 / 1440)).toArray.toList = t % 10080 / 1440 := by rw [List.toList_toArray]; exact dayIx_word _ (by omega)
  have e2 : numV (two (t % 1440 / 60)).toArray.toList = ((t % 1440 / 60 : Nat) : Int) := by simp [numV, atoi_two (t % 1440 / 60) (by omega)]
  have e3 : numV (two (t % 60)).toArray.toList = ((t % 60 : Nat) : Int) := by simp [numV, atoi_two (t % 60) (by omega)]
  rw [e0, e1, e2, e3]
  rw [IntWalk.wrap64_in (((t / 10080 : Nat) : Int) * 10080) ⟨by omega, by omega⟩, IntWalk.wrap64_in (((t % 1440 / 60 : Nat) : Int) * 60) ⟨by omega, by omega⟩]
  rw [IntWalk.wrap64_in (((t / 10080 : Nat) : Int) * 10080 + _) ⟨by omega, by omega⟩]
  rw [IntWalk.wrap64_in (((t / 10080 : Nat) : Int) * 10080 + _ + _) ⟨by omega, by omega⟩]
  rw [IntWalk.wrap64_in _ ⟨by omega, by omega⟩]
  omega

theorem numV_bound (f : ByteArray) (h : f.size ≤ 18) : -1000000000000000000 < numV f.data.toList ∧ numV f.data.toList < 1000000000000000000 := by
  unfold numV
  cases e : Lib.atoi f.data.toList with
  | none =>
    show -1000000000000000000 < (0 : Int) ∧ (0 : Int) < 1000000000000000000
    omega
  | some n =>
    have hl : f.data.toList.length ≤ 18 := by rw [Array.length_toList]; exact h
    exact Lib.atoi_bound e hl

theorem parse_any (w : World) (s : List UInt8) (hl : s.length ≤ 140737488355328) (hE : Env w) :
    Calls Tryd.prog 23 #[.string ⟨s.toArray⟩] w fun e w' => e = .returned (.tuple #[.int .i64 (rv (parsed s)), .int .i64 (re (parsed s))]) ∧ Fr (fun _ => False) w w' := by
  by_cases hlong : 16 < s.length
  · have e1 : parsed s = none := parsed_none (fun t ht e => by have := textN_le t ht; rw [e] at this; omega)
    rw [e1]
    clear e1 hE
    go_enter Tryd.func23, Tryd.ntmps23
    go_wp2
    go_ret2
    exact ⟨rfl, Fr.refl _ _⟩
  · have R1 := fields_any w s (by omega)
    have hsz := fields_size sep ⟨s.toArray⟩
    have HF : Hid (∀ t, textN t = s → Lib.goFieldsP sep ⟨s.toArray⟩ = [⟨(Lib.decDigits (t / 10080)).toArray⟩, ⟨(word (t % 10080 / 1440)).toArray⟩, ⟨(two (t % 1440 / 60)).toArray⟩, ⟨(two (t % 60)).toArray⟩]) := fun t e => by rw [← e]; exact fields_text t
    have hs0 : (⟨s.toArray⟩ : ByteArray).size = s.length := by simp [ByteArray.size]
    rw [hs0] at hsz
    have hs0 : (Lib.goFieldsP sep ⟨s.toArray⟩).length = 4 → s ≠ [] := fun h e => by
      subst e
      exact absurd h (by decide)
    generalize Lib.goFieldsP sep ⟨s.toArray⟩ = F at *
    by_cases h4 : F.length = 4
    · match F, h4 with
      | [a, b, c, d], hq4 =>
        have HS0 := hide (hs0 hq4)
        clear hs0 hq4 h4 F
        have ha := hsz a (by simp)
        have hc := hsz c (by simp)
        have hd := hsz d (by simp)
        have HSZ := hide (And.intro ha (And.intro hc hd))
        clear hsz ha hc hd
        have HE := hide hE
        clear hE
        go_enter Tryd.func23, Tryd.ntmps23
        go_wp2_with fail
        refine R1.mono ?_
        rintro e w1 ⟨A, rfl, hF1, hcs⟩
        have HF1 := hide hF1
        have x0 := hcs 0 (by simp)
        have x1 := hcs 1 (by simp)
        have x2 := hcs 2 (by simp)
        have x3 := hcs 3 (by simp)
        have X0 := fun d os => cell_regrown x0 d os
        have X1 := fun d os => cell_regrown x1 d os
        have X2 := fun d os => cell_regrown x2 d os
        have X3 := fun d os => cell_regrown x3 d os
        have hE1 := (unhide HE).frame hF1
        have H0 := hide (fun (d : Nat) (os : Array Obj) => number_any (grow (redrawn w1 d) os) a (by have := (unhide HSZ).1; omega) (hE1.frame (below_fr (below_regrown w1 d os))))
        have H1 := hide (fun (d : Nat) (os : Array Obj) => day_ba (grow (redrawn w1 d) os) b (hE1.frame (below_fr (below_regrown w1 d os))))
        have H2 := hide (fun (d : Nat) (os : Array Obj) => number_any (grow (redrawn w1 d) os) c (by have := (unhide HSZ).2.1; omega) (hE1.frame (below_fr (below_regrown w1 d os))))
        have H3 := hide (fun (x : Nat) (os : Array Obj) => number_any (grow (redrawn w1 x) os) d (by have := (unhide HSZ).2.2; omega) (hE1.frame (below_fr (below_regrown w1 x os))))
        simp only [List.getElem_cons_zero, List.getElem_cons_succ] at X0 X1 X2 X3
        have b0 := numV_bound a (by have := (unhide HSZ).1; omega)
        have b2 := numV_bound c (by have := (unhide HSZ).2.1; omega)
        have b3 := numV_bound d (by have := (unhide HSZ).2.2; omega)
        have b1 := dayIx_lt b.data.toList
        have HE1 := hide hE1
        clear hcs x0 x1 x2 x3 hF1 hE1 HE R1
        have HT : Hid (∀ t, t ≤ 2147483648 → textN t = s → wrap64 (wrap64 (wrap64 (wrap64 (numV a.data.toList * 10080) + ((dayIx b.data.toList : Nat) : Int) * 1440) + wrap64 (numV c.data.toList * 60)) + numV d.data.toList) = (t : Int)) := fun t ht e => sum_text t ht a b c d (unhide HF t e)
        generalize numV a.data.toList = n0 at *
        generalize numV c.data.toList = n2 at *
        generalize numV d.data.toList = n3 at *
        generalize dayIx b.data.toList = n1 at *
        simp only [List.length_cons, List.length_nil]
        go_wp2_with fail
        refine wp_region_quiet_below (by kernel_rfl) (by kernel_rfl) ?_
        repeat (first | go_big_quiet_skip | (go_big_quiet_want; go_big_quiet_op; go_big_quiet_on))
        (go_big_quiet_want; go_big_quiet_op; go_big_quiet_call (exact Calls.regrown_of ((unhide H0 _ _).mono fun _ _ h => ⟨h.1, fr_below h.2⟩)))
        repeat (first | go_big_quiet_skip | (go_big_quiet_want; go_big_quiet_op; go_big_quiet_on))
        (go_big_quiet_want; go_big_quiet_op; go_big_quiet_call (exact Calls.regrown_of ((unhide H1 _ _).mono fun _ _ h => ⟨h.1, fr_below h.2⟩)))
        repeat (first | go_big_quiet_skip | (go_big_quiet_want; go_big_quiet_op; go_big_quiet_on))
        (go_big_quiet_want; go_big_quiet_op; go_big_quiet_call (exact Calls.regrown_of ((unhide H2 _ _).mono fun _ _ h => ⟨h.1, fr_below h.2⟩)))
        repeat (first | go_big_quiet_skip | (go_big_quiet_want; go_big_quiet_op; go_big_quiet_on))
        (go_big_quiet_want; go_big_quiet_op; go_big_quiet_call (exact Calls.regrown_of ((unhide H3 _ _).mono fun _ _ h => ⟨h.1, fr_below h.2⟩)))
        repeat (first | go_big_quiet_skip | (go_big_quiet_want; go_big_quiet_op; go_big_quiet_on))
        refine wpQuiet_nil ?_
        intro _ hw'
        obtain ⟨⟨dq, osq⟩, hw''⟩ := hw'
        subst hw''
        have HB := hide ((unhide HF1).trans (below_fr (below_regrown w1 dq osq)) (fun _ _ t => t))
        have R2 := fun T => text_any (grow (redrawn w1 dq) osq) T ((unhide HE1).frame (below_fr (below_regrown w1 dq osq)))
        clear HE1 H0 H1 H2 H3 X0 X1 X2 X3 HF1
        generalize wrap64 (wrap64 (wrap64 (wrap64 (n0 * 10080) + (n1 : Int) * 1440) + wrap64 (n2 * 60)) + n3) = T at HT ⊢
        have R2 := R2 T
        generalize grow (redrawn w1 dq) osq = w2 at HB R2 ⊢
        clear b0 b1 b2 b3 HF HSZ
        by_cases hts : text T = s
        · have hb : (text T == s) = true := by simpa using hts
          have HP : Hid (∃ n : Nat, T = (n : Int) ∧ parsed s = some n) := hide (parsed_of s T (unhide HS0) hts)
          generalize text T = TT at *
          clear hts HT
          go_wp2_with fail
          refine R2.mono ?_
          rintro e w3 ⟨rfl, hF3⟩
          have HF3 := hide ((unhide HB).trans hF3 (fun _ _ t => t))
          clear hF3 R2
          go_wp2
          go_ret2
          refine ⟨?_, unhide HF3⟩
          obtain ⟨n, rfl, hp⟩ := unhide HP
          rw [hp]
          rfl
        · have hb : (text T == s) = false := by simpa using hts
          have HP : Hid (parsed s = none) := hide (parsed_none (fun t ht e => hts (by rw [unhide HT t ht e, text_nat t ht, e])))
          generalize text T = TT at *
          clear hts HT
          go_wp2_with fail
          refine R2.mono ?_
          rintro e w3 ⟨rfl, hF3⟩
          have HF3 := hide ((unhide HB).trans hF3 (fun _ _ t => t))
          clear hF3 R2
          go_wp2
          go_ret2
          refine ⟨?_, unhide HF3⟩
          rw [unhide HP]
          rfl
    · have e1 : parsed s = none := parsed_none (fun t _ e => by have := unhide HF t e; rw [this] at h4; exact h4 rfl)
      rw [e1]
      clear e1 hE hsz HF hs0
      have hn : ((F.length : Int) == 4) = false := by simp; omega
      go_enter Tryd.func23, Tryd.ntmps23
      go_wp2_with fail
      refine R1.mono ?_
      rintro e w1 ⟨A, rfl, hF1, _⟩
      have HF1 := hide hF1
      clear hF1 R1
      go_wp2
      go_ret2
      exact ⟨rfl, unhide HF1⟩

end Go.Proofs.YtnnhhfajcecdkaaDoor
