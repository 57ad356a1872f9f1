/- Which deltas may be: the program's word, the document's. -/
import Derived.Test.YtkjoojamkbpfcaaE4
namespace Go.Proofs.Ytkjoojamkbpfcaa
open Go.RowKit

/-- A delta of a list. -/
structure Dl where
  ver : Int
  add : List ByteArray
  gone : List ByteArray
def dlC (d : Dl) (a1 : Option Addr) (c1 : Nat) (a2 : Option Addr) (c2 : Nat) : Array Value := #[.int .i64 d.ver, .slice a1 d.add.length c1, .slice a2 d.gone.length c2]
def deltaOk (d : Dl) : Bool := decide (1 ≤ d.ver) && listOk d.add && listOk d.gone && !(d.add.any (memS d.gone))
def deltaE (d : Dl) : Int := if deltaOk d then 0 else 80

theorem listOk_len {l : List ByteArray} (h : listOk l = true) : l.length ≤ 1000 := by
  simp only [listOk, Bool.and_eq_true, decide_eq_true_eq] at h
  exact h.1

set_option maxHeartbeats 1000000 in
theorem deltaError_any (d : Dl) (w : World) (a1 : Option Addr) (c1 : Nat) (a2 : Option Addr) (c2 : Nat) (h1 : SAt w a1 d.add) (h2 : SAt w a2 d.gone) (l1 : d.add.length ≤ 140737488355328) (l2 : d.gone.length ≤ 140737488355328) :
    Calls Try.prog 55 #[.agg (dlC d a1 c1 a2 c2)] w fun e w' => e = .returned (.int .i64 (deltaE d)) ∧ Fr (fun _ => False) w w' := by
  have hA : Fr (fun _ => False) w (w.alloc (.cells (dlC d a1 c1 a2 c2) 41)) := (Fr.refl _ _).alloc _
  have RL1 : Hid (∀ w1, Fr (fun _ => False) w w1 → Calls Try.prog 108 #[.slice a1 d.add.length c1] w1 fun e w' => e = .returned (.bool (listOk d.add)) ∧ Fr (fun _ => False) w1 w') := hide (fun w1 hf => areListed_any w1 a1 c1 d.add (h1.keep hf) l1)
  have RL2 : Hid (∀ w1, Fr (fun _ => False) w w1 → Calls Try.prog 108 #[.slice a2 d.gone.length c2] w1 fun e w' => e = .returned (.bool (listOk d.gone)) ∧ Fr (fun _ => False) w1 w') := hide (fun w1 hf => areListed_any w1 a2 c2 d.gone (h2.keep hf) l2)
  have RA : Hid (listOk d.add = true → listOk d.gone = true → ∀ w1, Fr (fun _ => False) w w1 → Calls Try.prog 109 #[.slice a1 d.add.length c1, .slice a2 d.gone.length c2] w1 fun e w' => e = .returned (.bool !(d.add.any (memS d.gone))) ∧ Fr (fun _ => False) w1 w') := hide (fun k1 k2 w1 hf => areApart_any w1 a2 c2 d.gone (h2.keep hf) k2 a1 c1 d.add (h1.keep hf) (listOk_len k1))
  have D : Hid (∀ w1, Fr (fun _ => False) (w.alloc (.cells (dlC d a1 c1 a2 c2) 41)) w1 → w1.cell? ⟨w.heap.size, 0, none⟩ = some (.int .i64 d.ver) ∧ w1.cell? ⟨w.heap.size, 1, none⟩ = some (.slice a1 d.add.length c1) ∧ w1.cell? ⟨w.heap.size, 2, none⟩ = some (.slice a2 d.gone.length c2)) := hide (fun w1 hf => by
    refine ⟨?_, ?_, ?_⟩ <;> (rw [hf.cell (by simp) (fun t => t)]; simp [dlC]))
  have HA := hide hA
  have HE : Hid (deltaE d = if decide (1 ≤ d.ver) && listOk d.add && listOk d.gone && !(d.add.any (memS d.gone)) then 0 else 80) := hide rfl
  clear h1 h2 l1 l2 hA
  unfold dlC at D HA ⊢
  generalize hq : deltaE d = E at HE ⊢
  clear hq
  generalize d.add.length = n1 at *
  generalize d.gone.length = n2 at *
  generalize d.add.any (memS d.gone) = b3 at *
  generalize listOk d.add = b1 at *
  generalize listOk d.gone = b2 at *
  generalize d.ver = v at *
  clear d
  by_cases hv : 1 ≤ v
  · cases b1
    · go_enter Try.func55, Try.ntmps55
      go_wp2_with fail
      refine (unhide RL1 _ (unhide HA)).mono ?_
      rintro e w1 ⟨rfl, hF⟩
      have HF := hide ((unhide HA).trans hF (fun _ _ t => t))
      clear hF
      go_wp2_with fail
      refine (errorUnless_any false _).mono ?_
      rintro e w1 ⟨rfl, hq⟩
      obtain rfl := hq.symm
      go_wp2
      go_ret
      exact ⟨by rw [unhide HE]; simp, unhide HF⟩
    · go_enter Try.func55, Try.ntmps55
      go_wp2_with fail
      refine (unhide RL1 _ (unhide HA)).mono ?_
      rintro e w1 ⟨rfl, hF⟩
      have HF := hide hF
      obtain ⟨k0, k1, k2⟩ := unhide D w1 hF
      clear hF
      go_wp2_with fail
      refine (unhide RL2 _ ((unhide HA).trans (unhide HF) (fun _ _ t => t))).mono ?_
      rintro e w2 ⟨rfl, hF⟩
      have HF2 := hide ((unhide HF).trans hF (fun _ _ t => t))
      obtain ⟨m0, m1, m2⟩ := unhide D w2 (unhide HF2)
      clear hF
      cases b2
      · go_wp2_with fail
        refine (errorUnless_any false _).mono ?_
        rintro e w1 ⟨rfl, hq⟩
        obtain rfl := hq.symm
        go_wp2
        go_ret
        exact ⟨by rw [unhide HE]; simp, (unhide HA).trans (unhide HF2) (fun _ _ t => t)⟩
      · go_wp2_with fail
        refine (unhide RA trivial trivial _ ((unhide HA).trans (unhide HF2) (fun _ _ t => t))).mono ?_
        rintro e w3 ⟨rfl, hF⟩
        have HF3 := hide ((unhide HA).trans ((unhide HF2).trans hF (fun _ _ t => t)) (fun _ _ t => t))
        clear hF
        cases b3
        all_goals
          go_wp2_with fail
          refine (errorUnless_any _ _).mono ?_
          rintro e w1 ⟨rfl, hq⟩
          obtain rfl := hq.symm
          go_wp2
          go_ret
          exact ⟨by rw [unhide HE, decide_eq_true (by omega)]; rfl, unhide HF3⟩
  · go_enter Try.func55, Try.ntmps55
    go_wp2_with fail
    refine (errorUnless_any false _).mono ?_
    rintro e w1 ⟨rfl, hq⟩
    obtain rfl := hq.symm
    go_wp2
    go_ret
    exact ⟨by rw [unhide HE, decide_eq_false (by omega)]; rfl, unhide HA⟩

theorem rising_any (w : World) (ao : Option Addr) (cap : Nat) (l : List ByteArray) (h : SAt w ao l) (hl : l.length ≤ 140737488355328) :
    Calls Try.prog 110 #[.slice ao l.length cap] w fun e w' => e = .returned (.bool (listOk l)) ∧ Fr (fun _ => False) w w' := by
  obtain ⟨y, HY⟩ : ∃ y, Hid (listOk l = y) := ⟨_, rfl⟩
  rw [unhide HY]
  have H := hide h
  clear h
  by_cases hlong : 1000 < l.length
  · have HT : Hid (y = false) := hide (by rw [← unhide HY, listOk_long hlong])
    clear HY H
    go_enter Try.func110, Try.ntmps110
    go_wp2
    go_ret
    exact ⟨by rw [unhide HT]; rfl, Fr.refl _ _⟩
  go_enter Try.func110, Try.ntmps110
  go_wp2
  go_loopw [3] (fun iv wr => ∃ (i : Nat), i ≤ l.length ∧ iv = .int .i64 i ∧ Hid (Fr (fun _ => False) w wr ∧ ∀ k, k < i → okAt l k = true)) (fun iv _ => l.length - (intOf iv).toNat)
  case atStart => exact ⟨0, Nat.zero_le _, rfl, Fr.refl _ _, fun k hk => absurd hk (Nat.not_lt_zero k)⟩
  case round =>
    obtain ⟨i, hi, rfl, HI⟩ := hrel
    by_cases hil : i < l.length
    · obtain ⟨b, off, rfl, hc⟩ := ((unhide H).keep (unhide HI).1) (by omega)
      have c0 := hc i hil
      obtain ⟨t, ht⟩ : ∃ t, isTok (l.getD i ⟨#[]⟩) = t := ⟨_, rfl⟩
      cases t with
      | false =>
        have HT : Hid (y = false) := hide (by rw [← unhide HY]; exact listOk_bad hil (by unfold okAt; rw [ht]; rfl))
        generalize l.getD i ⟨#[]⟩ = x at *
        have hd : ((x.size : Int) == 8) = false := ht
        have hn : ((x.size : Int) != 8) = true := by rw [bne, hd]; rfl
        clear HY hc ht
        go_wp2
        go_quiet (fail)
        go_wp2
        go_ret
        exact ⟨by rw [unhide HT]; rfl, (unhide HI).1.drewN _⟩
      | true =>
        cases i with
        | zero =>
          have HT : Hid (okAt l 0 = true) := hide (by unfold okAt; rw [ht]; rfl)
          generalize l.getD 0 ⟨#[]⟩ = x at *
          have hd : ((x.size : Int) == 8) = true := ht
          have hn : ((x.size : Int) != 8) = false := by rw [bne, hd]; rfl
          rw [Nat.add_zero] at c0
          clear hc ht
          go_wp2
          go_quiet (fail)
          go_wp2
          exact ⟨⟨1, by omega, by go_num, (unhide HI).1.drewN _, upto_all (unhide HI).2 (unhide HT)⟩, by simp [intOf]; omega⟩
        | succ m =>
          have c1 := hc m (by omega)
          obtain ⟨z, HZ⟩ : ∃ z, Hid ((ltS (l.getD (m + 1) ⟨#[]⟩) (l.getD m ⟨#[]⟩) || eqS (l.getD (m + 1) ⟨#[]⟩) (l.getD m ⟨#[]⟩)) = z) := ⟨_, rfl⟩
          have HT : Hid (okAt l (m + 1) = !z) := hide (by unfold okAt; rw [ht, Nat.add_one_sub_one, unhide HZ]; simp)
          generalize l.getD (m + 1) ⟨#[]⟩ = x at *
          generalize l.getD m ⟨#[]⟩ = x' at *
          have hd : ((x.size : Int) == 8) = true := ht
          have hn : ((x.size : Int) != 8) = false := by rw [bne, hd]; rfl
          have hz : (Op.bytesLess x.toList x'.toList || x.toList == x'.toList) = z := unhide HZ
          clear ht hc
          go_wp2
          go_quiet (fail)
          go_wp2
          · rename_i hh
            go_ret
            exact ⟨by rw [← unhide HY, listOk_bad hil (by rw [unhide HT, hh]; rfl)]; rfl, (unhide HI).1.drewN _⟩
          · rename_i hh
            refine ⟨⟨m + 2, by omega, by go_num, (unhide HI).1.drewN _, upto_all (unhide HI).2 (by rw [unhide HT, hh]; rfl)⟩, ?_⟩
            simp [intOf]
            omega
    · obtain rfl : i = l.length := by omega
      have HT : Hid (y = true) := hide (by rw [← unhide HY]; exact listOk_all (by omega) (unhide HI).2)
      have HF := hide (unhide HI).1
      clear HI H HY
      go_wp2
      go_ret
      exact ⟨by rw [unhide HT]; rfl, unhide HF⟩

/-- Has the document's own search through two lists come so far with nothing found? -/
def FarS (l g : List ByteArray) (i j : Nat) : Prop := (∀ k, k < i → memS g (l.getD k ⟨#[]⟩) = false) ∧ ∀ m, m < j → eqS (g.getD m ⟨#[]⟩) (l.getD i ⟨#[]⟩) = false

theorem mem_not {g : List ByteArray} {s : ByteArray} (h : ∀ m, m < g.length → eqS (g.getD m ⟨#[]⟩) s = false) : memS g s = false := by
  cases hm : memS g s with
  | false => rfl
  | true =>
    obtain ⟨i, hi, he⟩ := memS_iff.1 hm
    have := h i hi
    unfold eqS at this
    rw [he, beq_self_eq_true] at this
    cases this
theorem any_not {l g : List ByteArray} (h : ∀ k, k < l.length → memS g (l.getD k ⟨#[]⟩) = false) : l.any (memS g) = false := by
  rw [List.any_eq_false]
  intro x hx
  obtain ⟨i, hi, rfl⟩ := List.mem_iff_getElem.1 hx
  rw [← getD_eq hi, h i hi]
  exact Bool.false_ne_true
theorem any_hit {l g : List ByteArray} {i m : Nat} (hi : i < l.length) (hm : m < g.length) (h : eqS (g.getD m ⟨#[]⟩) (l.getD i ⟨#[]⟩) = true) : l.any (memS g) = true := by
  rw [List.any_eq_true]
  refine ⟨l[i], List.getElem_mem hi, memS_iff.2 ⟨m, hm, ?_⟩⟩
  rw [← getD_eq hi]
  exact eq_of_beq h

set_option maxHeartbeats 1000000 in
theorem deltaRight_any (d : Dl) (w : World) (a1 : Option Addr) (c1 : Nat) (a2 : Option Addr) (c2 : Nat) (h1 : SAt w a1 d.add) (h2 : SAt w a2 d.gone) (l1 : d.add.length ≤ 140737488355328) (l2 : d.gone.length ≤ 140737488355328) :
    Calls Try.prog 57 #[.agg (dlC d a1 c1 a2 c2)] w fun e w' => e = .returned (.bool (deltaOk d)) ∧ Fr (fun _ => False) w w' := by
  have hA : Fr (fun _ => False) w (w.alloc (.cells (dlC d a1 c1 a2 c2) 41)) := (Fr.refl _ _).alloc _
  have RL1 : Hid (∀ w1, Fr (fun _ => False) w w1 → Calls Try.prog 110 #[.slice a1 d.add.length c1] w1 fun e w' => e = .returned (.bool (listOk d.add)) ∧ Fr (fun _ => False) w1 w') := hide (fun w1 hf => rising_any w1 a1 c1 d.add (h1.keep hf) l1)
  have RL2 : Hid (∀ w1, Fr (fun _ => False) w w1 → Calls Try.prog 110 #[.slice a2 d.gone.length c2] w1 fun e w' => e = .returned (.bool (listOk d.gone)) ∧ Fr (fun _ => False) w1 w') := hide (fun w1 hf => rising_any w1 a2 c2 d.gone (h2.keep hf) l2)
  have D : Hid (∀ w1, Fr (fun _ => False) (w.alloc (.cells (dlC d a1 c1 a2 c2) 41)) w1 → w1.cell? ⟨w.heap.size, 0, none⟩ = some (.int .i64 d.ver) ∧ w1.cell? ⟨w.heap.size, 1, none⟩ = some (.slice a1 d.add.length c1) ∧ w1.cell? ⟨w.heap.size, 2, none⟩ = some (.slice a2 d.gone.length c2)) := hide (fun w1 hf => by
    refine ⟨?_, ?_, ?_⟩ <;> (rw [hf.cell (by simp) (fun t => t)]; simp [dlC]))
  have HA := hide hA
  have HE : Hid (deltaOk d = (decide (1 ≤ d.ver) && listOk d.add && listOk d.gone && !(d.add.any (memS d.gone)))) := hide rfl
  have H1 := hide h1
  have H2 := hide h2
  have N1 := hide (fun (h : listOk d.add = true) => listOk_len h)
  have N2 := hide (fun (h : listOk d.gone = true) => listOk_len h)
  clear h1 h2 l1 l2 hA
  unfold dlC at D HA ⊢
  generalize hq : deltaOk d = E at HE ⊢
  clear hq
  obtain ⟨v, add, gone⟩ := d
  simp only at RL1 RL2 D HA HE H1 H2 N1 N2 ⊢
  generalize hb1 : listOk add = b1 at *
  generalize hb2 : listOk gone = b2 at *
  clear hb1 hb2
  by_cases hb : (b1 && b2 && decide (1 ≤ v)) = false
  · have HE' : Hid (E = false) := hide (by rw [unhide HE]; revert hb; cases b1 <;> cases b2 <;> simp <;> omega)
    clear HE N1 N2 H1 H2
    cases b1
    all_goals
      try (have hv : ¬ 1 ≤ v ∨ b2 = false := by revert hb; cases b2 <;> simp <;> omega)
      clear hb
      go_enter Try.func57, Try.ntmps57
      go_wp2_with fail
      refine (unhide RL1 _ (unhide HA)).mono ?_
      rintro e w1 ⟨rfl, hF⟩
      have HF := hide hF
      obtain ⟨k0, k1, k2⟩ := unhide D w1 hF
      clear hF
      go_wp2_with fail
      refine (unhide RL2 _ ((unhide HA).trans (unhide HF) (fun _ _ t => t))).mono ?_
      rintro e w2 ⟨rfl, hF⟩
      have HF2 := hide ((unhide HF).trans hF (fun _ _ t => t))
      obtain ⟨m0, m1, m2⟩ := unhide D w2 (unhide HF2)
      clear hF
    · go_wp2
      go_ret
      exact ⟨by rw [unhide HE']; rfl, (unhide HA).trans (unhide HF2) (fun _ _ t => t)⟩
    · cases b2
      · clear hv
        go_wp2
        go_ret
        exact ⟨by rw [unhide HE']; rfl, (unhide HA).trans (unhide HF2) (fun _ _ t => t)⟩
      · have hv' : v < 1 := by rcases hv with h | h; omega; cases h
        clear hv
        go_wp2
        go_ret
        exact ⟨by rw [unhide HE']; rfl, (unhide HA).trans (unhide HF2) (fun _ _ t => t)⟩
  · obtain ⟨rfl, rfl, hv⟩ : b1 = true ∧ b2 = true ∧ 1 ≤ v := by
      revert hb; cases b1 <;> cases b2 <;> simp
    have n1 := unhide N1 rfl
    have n2 := unhide N2 rfl
    have HE' : Hid (E = !(add.any (memS gone))) := hide (by rw [unhide HE, decide_eq_true hv]; rfl)
    clear hb HE N1 N2
    go_enter Try.func57, Try.ntmps57
    go_wp2_with fail
    refine (unhide RL1 _ (unhide HA)).mono ?_
    rintro e w1 ⟨rfl, hF⟩
    have HF := hide hF
    obtain ⟨k0, k1, k2⟩ := unhide D w1 hF
    clear hF
    go_wp2_with fail
    refine (unhide RL2 _ ((unhide HA).trans (unhide HF) (fun _ _ t => t))).mono ?_
    rintro e w2 ⟨rfl, hF⟩
    have HF2 := hide ((unhide HF).trans hF (fun _ _ t => t))
    obtain ⟨m0, m1, m2⟩ := unhide D w2 (unhide HF2)
    clear hF k0 k1 k2 HF RL1 RL2
    go_wp2
    clear m0 m1 m2
    go_loopw [5, 6] (fun iv _ wr => ∃ (i : Nat), i ≤ add.length ∧ iv = .int .i64 i ∧ Hid (Fr (fun _ => False) (w.alloc (.cells #[.int .i64 v, .slice a1 add.length c1, .slice a2 gone.length c2] 41)) wr ∧ FarS add gone i 0)) (fun iv _ _ => add.length - (intOf iv).toNat)
    case atStart => exact ⟨0, Nat.zero_le _, rfl, unhide HF2, fun k hk => absurd hk (Nat.not_lt_zero k), fun k hk => absurd hk (Nat.not_lt_zero k)⟩
    case round =>
      obtain ⟨i, hi, rfl, HI⟩ := hrel
      obtain ⟨m0, m1, m2⟩ := unhide D wr (unhide HI).1
      by_cases hil : i < add.length
      · go_wp2
        clear m0 m1 m2
        go_loopw [6] (fun jv wq => ∃ (j : Nat), j ≤ gone.length ∧ jv = .int .i64 j ∧ Hid (Fr (fun _ => False) (w.alloc (.cells #[.int .i64 v, .slice a1 add.length c1, .slice a2 gone.length c2] 41)) wq ∧ FarS add gone i j)) (fun jv _ => gone.length - (intOf jv).toNat)
        case atStart => exact ⟨0, Nat.zero_le _, rfl, unhide HI⟩
        case round =>
          obtain ⟨j, hj, rfl, HJ⟩ := hrel
          obtain ⟨m0, m1, m2⟩ := unhide D wr (unhide HJ).1
          by_cases hjl : j < gone.length
          · obtain ⟨p1, o1, rfl, hc1⟩ := ((unhide H1).keep ((unhide HA).trans (unhide HJ).1 (fun _ _ t => t))) (by omega)
            obtain ⟨p2, o2, rfl, hc2⟩ := ((unhide H2).keep ((unhide HA).trans (unhide HJ).1 (fun _ _ t => t))) (by omega)
            have e1 := hc1 i hil
            have e2 := hc2 j hjl
            obtain ⟨z, HZ⟩ : ∃ z, Hid (eqS (gone.getD j ⟨#[]⟩) (add.getD i ⟨#[]⟩) = z) := ⟨_, rfl⟩
            have hz : ((add.getD i ⟨#[]⟩).toList == (gone.getD j ⟨#[]⟩).toList) = z := by
              rw [Bool.beq_comm]
              exact unhide HZ
            obtain ⟨x, HX⟩ : ∃ x, Hid (add.getD i ⟨#[]⟩ = x) := ⟨_, rfl⟩
            obtain ⟨x', HX'⟩ : ∃ x, Hid (gone.getD j ⟨#[]⟩ = x) := ⟨_, rfl⟩
            rw [unhide HX] at e1
            rw [unhide HX'] at e2
            rw [unhide HX, unhide HX'] at hz
            clear hc1 hc2 HX HX'
            cases z
            · go_wp2
              go_quiet (fail)
              go_wp2
              refine ⟨⟨j + 1, by omega, by go_num, (unhide HJ).1.drewN _, (unhide HJ).2.1, fun m hm => ?_⟩, by simp [intOf]; omega⟩
              by_cases e : m = j
              · subst e; exact unhide HZ
              · exact (unhide HJ).2.2 m (by omega)
            · have HT : Hid (E = false) := hide (by rw [unhide HE', any_hit hil hjl (unhide HZ)]; rfl)
              go_wp2
              go_quiet (fail)
              go_wp2
              go_ret
              exact ⟨by rw [unhide HT]; rfl, (unhide HA).trans ((unhide HJ).1.drewN _) (fun _ _ t => t)⟩
          · obtain rfl : j = gone.length := by omega
            go_wp2
            refine ⟨⟨i + 1, by omega, by go_num, (unhide HJ).1, fun k hk => ?_, fun k hk => absurd hk (Nat.not_lt_zero k)⟩, by simp [intOf]; omega⟩
            by_cases e : k = i
            · subst e; exact mem_not (unhide HJ).2.2
            · exact (unhide HJ).2.1 k (by omega)
      · obtain rfl : i = add.length := by omega
        have HT : Hid (E = true) := hide (by rw [unhide HE', any_not (unhide HI).2.1]; rfl)
        go_wp2
        go_ret
        exact ⟨by rw [unhide HT]; rfl, (unhide HA).trans (unhide HI).1 (fun _ _ t => t)⟩

end Go.Proofs.Ytkjoojamkbpfcaa
