import Derived.Test.YtmhljehkodhggaaGreatU9
/- The document's own: which lists may be, a token put into a rising list, what of the one is not in the other one. -/
namespace Go.Proofs.YtmhljehkodhggaaGreat
open Go.RowKit

theorem refToken_is {s : ByteArray} {b : Bool} (hb : isTok s = b) (w : World) : Calls Tryz.prog 17 #[.string s] w fun e w' => e = .returned (.bool b) ∧ w' = w := by
  subst hb
  go_enter Tryz.func17, Tryz.ntmps17
  go_wp2
  go_ret
  exact ⟨rfl, rfl⟩

theorem rightE_long {l : Rl} (h0 : ¬ (l.ver < 0 ∨ (l.ver = 0 ∧ 0 < l.toks.length))) (h : ¬ 1000 < l.toks.length) : rightE l = if listOk l.toks then 0 else 131 := by
  unfold rightE
  rw [if_neg h0, if_neg h, listOk_parts, decide_eq_true (show l.toks.length ≤ 1000 by omega), Bool.true_and]

set_option maxHeartbeats 2000000 in
set_option maxRecDepth 20000 in
theorem refRight_any (w : World) (l : Rl) (a : Option Addr) (c : Nat) (h : SAt w a l.toks) (hl : l.toks.length ≤ 140737488355328) :
    Calls Tryz.prog 16 #[.agg (rlC l a c)] w fun e w' => e = .returned (.int .i64 (rightE l)) ∧ Fr (fun _ => False) w w' := by
  obtain ⟨B, HB⟩ : ∃ B, Hid (w.heap.size = B) := ⟨_, rfl⟩
  have HS : Hid (∀ w', Fr (fun _ => False) (w.alloc (.cells (rlC l a c) 24)) w' → Fr (fun _ => False) w w' ∧ w'.cell? ⟨B, 1, none⟩ = some (.slice a l.toks.length c) ∧ SAt w' a l.toks) := hide (fun w' hf => by
    have hb := (Bx.new w (rlC l a c) 24).keep hf
    rw [unhide HB] at hb
    have h0 : Fr (fun _ => False) w w' := ((Fr.refl _ _).alloc _).trans hf (fun _ _ t => t)
    exact ⟨h0, hb.cell 1, h.keep h0⟩)
  have HF0 : Hid (Fr (fun _ => False) w (w.alloc (.cells (rlC l a c) 24))) := hide ((Fr.refl _ _).alloc _)
  have HE : Hid (rightE l = if l.ver < 0 ∨ (l.ver = 0 ∧ 0 < l.toks.length) then 130 else if 1000 < l.toks.length then 2 else if l.toks.all isTok && risB l.toks then 0 else 131) := hide rfl
  have HLg := hide (rightE_long (l := l))
  clear h
  unfold rlC at HS HF0 ⊢
  generalize rightE l = E at HE HLg ⊢
  obtain ⟨v, ts⟩ := l
  simp only at HE HLg HS HF0 hl ⊢
  by_cases h1 : v < 0
  · go_enter Tryz.func16, Tryz.ntmps16
    go_wp2
    go_ret
    exact ⟨by rw [unhide HE, if_pos (Or.inl h1)]; rfl, unhide HF0⟩
  · by_cases h2 : v = 0 ∧ 0 < ts.length
    · obtain ⟨rfl, h2⟩ := h2
      go_enter Tryz.func16, Tryz.ntmps16
      go_wp2
      go_ret
      exact ⟨by rw [unhide HE]; simp [h2], unhide HF0⟩
    · have HN : Hid (¬ (v < 0 ∨ (v = 0 ∧ 0 < ts.length))) := hide (fun t => t.elim h1 h2)
      by_cases h3 : 1000 < ts.length
      · have hv : (v == 0) = false := by rw [beq_eq_false_iff_ne]; omega
        clear h2
        go_enter Tryz.func16, Tryz.ntmps16
        go_wp2
        go_ret
        exact ⟨by rw [unhide HE, if_neg (unhide HN), if_pos h3]; rfl, unhide HF0⟩
      · have HEE : Hid (E = if listOk ts then 0 else 131) := hide (unhide HLg (unhide HN) h3)
        have hn0 : v = 0 → ts.length = 0 := fun e => by omega
        obtain ⟨vb, hvb⟩ : ∃ vb, (v == 0) = vb := ⟨_, rfl⟩
        have hcase : vb = false ∨ ts.length = 0 := by
          cases vb with
          | false => exact Or.inl rfl
          | true => exact Or.inr (hn0 (by simpa using hvb))
        have HC := hide hcase
        clear h2 hn0 HE HLg hcase HN
        cases vb with
        | true =>
          have hcs := unhide HC
          clear HC
          have hlen0 : ts.length = 0 := hcs.resolve_left (by simp)
          have hts : ts = [] := List.eq_nil_of_length_eq_zero hlen0
          subst hts
          clear hlen0 hcs
          go_enter Tryz.func16, Tryz.ntmps16
          go_wp2
          rw [unhide HB]
          go_loopw [3] (fun iv wr => ∃ (i : Nat), i ≤ 0 ∧ iv = .int .i64 i ∧ Hid (Fr (fun _ => False) (w.alloc (.cells #[.int .i64 v, .slice a ([] : List ByteArray).length c] 24)) wr)) (fun iv _ => 0 - (intOf iv).toNat)
          case atStart => exact ⟨0, Nat.zero_le _, rfl, Fr.refl _ _⟩
          case round =>
            obtain ⟨i, hi, rfl, HI⟩ := hrel
            obtain rfl : i = 0 := by omega
            have x1 := (unhide HS wr (unhide HI)).2.1
            have HFF := hide (unhide HS wr (unhide HI)).1
            clear HI
            go_wp2
            go_ret
            exact ⟨by rw [unhide HEE]; rfl, unhide HFF⟩
        | false =>
          clear HC
          go_enter Tryz.func16, Tryz.ntmps16
          go_wp2
          rw [unhide HB]
          go_loopw [3] (fun iv wr => ∃ (i : Nat), i ≤ ts.length ∧ iv = .int .i64 i ∧ Hid (Fr (fun _ => False) (w.alloc (.cells #[.int .i64 v, .slice a ts.length c] 24)) wr ∧ ∀ k, k < i → okAt ts k = true)) (fun iv _ => ts.length - (intOf iv).toNat)
          case atStart => exact ⟨0, Nat.zero_le _, rfl, Fr.refl _ _, fun k hk => absurd hk (Nat.not_lt_zero k)⟩
          case round =>
            obtain ⟨i, hi, rfl, HI⟩ := hrel
            have x1 := (unhide HS wr (unhide HI).1).2.1
            by_cases hil : i < ts.length
            · obtain ⟨b, off, rfl, hc⟩ := (unhide HS wr (unhide HI).1).2.2 (by omega)
              have c0 := hc i hil
              obtain ⟨t, ht⟩ : ∃ t, isTok (ts.getD i ⟨#[]⟩) = t := ⟨_, rfl⟩
              cases t with
              | false =>
                have HT : Hid (E = 131) := hide (by rw [unhide HEE, listOk_bad hil (by unfold okAt; rw [ht]; rfl)]; rfl)
                generalize ts.getD i ⟨#[]⟩ = x at *
                have hd : ((x.size : Int) == 8) = false := ht
                have hn : ((x.size : Int) != 8) = true := by rw [bne, hd]; rfl
                have HFF := hide (unhide HS wr (unhide HI).1).1
                clear hc ht
                go_wp2
                go_quiet (fail)
                go_wp2
                go_ret
                exact ⟨by rw [unhide HT]; rfl, (unhide HFF).drewN _⟩
              | true =>
                cases i with
                | zero =>
                  have HT : Hid (okAt ts 0 = true) := hide (by unfold okAt; rw [ht]; rfl)
                  generalize ts.getD 0 ⟨#[]⟩ = x at *
                  have hd : ((x.size : Int) == 8) = true := ht
                  have hn : ((x.size : Int) != 8) = false := by rw [bne, hd]; rfl
                  rw [Nat.add_zero] at c0
                  clear hc ht
                  go_wp2
                  go_quiet (fail)
                  go_wp2
                  exact ⟨⟨1, by omega, by go_num, (unhide HI).1.drewN _, upto_all (unhide HI).2 (unhide HT)⟩, by simp [intOf]; omega⟩
                | succ m =>
                  have c1 := hc m (by omega)
                  obtain ⟨z, HZ⟩ : ∃ z, Hid ((ltS (ts.getD (m + 1) ⟨#[]⟩) (ts.getD m ⟨#[]⟩) || eqS (ts.getD (m + 1) ⟨#[]⟩) (ts.getD m ⟨#[]⟩)) = z) := ⟨_, rfl⟩
                  have HT : Hid (okAt ts (m + 1) = !z) := hide (by unfold okAt; rw [ht, Nat.add_one_sub_one, unhide HZ]; simp)
                  generalize ts.getD (m + 1) ⟨#[]⟩ = x at *
                  generalize ts.getD m ⟨#[]⟩ = x' at *
                  have hd : ((x.size : Int) == 8) = true := ht
                  have hn : ((x.size : Int) != 8) = false := by rw [bne, hd]; rfl
                  clear hc ht
                  go_wp2
                  go_quiet (fail)
                  go_wp2
                  · rename_i hh
                    go_ret
                    exact ⟨by rw [unhide HEE, listOk_bad hil (by rw [unhide HT, ← unhide HZ]; show (!(Op.bytesLess _ _ || _ == _)) = false; rcases hh with hh | hh <;> rw [hh] <;> simp)]; rfl, ((unhide HS wr (unhide HI).1).1).drewN _⟩
                  · rename_i hh
                    refine ⟨⟨m + 2, by omega, by go_num, (unhide HI).1.drewN _, upto_all (unhide HI).2 (by rw [unhide HT, ← unhide HZ]; simpa [ltS, eqS] using hh)⟩, ?_⟩
                    simp [intOf]
                    omega
            · obtain rfl : i = ts.length := by omega
              have HT : Hid (E = 0) := hide (by rw [unhide HEE, listOk_all (by omega) (unhide HI).2]; rfl)
              have HFF := hide (unhide HS wr (unhide HI).1).1
              clear HI
              go_wp2
              go_ret
              exact ⟨by rw [unhide HT]; rfl, unhide HFF⟩

end Go.Proofs.YtmhljehkodhggaaGreat

