import Derived.Test.YtmhljehkodhggaaGreatU0
/- Package risk: tokens, lists that may be, whether a token is listed. -/
namespace Go.Proofs.YtmhljehkodhggaaGreat
open Go.RowKit

theorem token_is {s : ByteArray} {b : Bool} (hb : isTok s = b) (w : World) : Calls Tryz.prog 9 #[.string s] w fun e w' => e = .returned (.bool b) ∧ w' = w := by
  subst hb
  go_enter Tryz.func9, Tryz.ntmps9
  go_wp2
  go_ret
  exact ⟨rfl, rfl⟩

theorem areTokens1_any (s : ByteArray) (w : World) : Calls Tryz.prog 39 #[.string s] w fun e w' => e = .returned (.bool (!isTok s)) ∧ w' = w := by
  obtain ⟨b, hb⟩ : ∃ b, isTok s = b := ⟨_, rfl⟩
  rw [hb]
  have R := hide (token_is hb)
  clear hb
  go_enter Tryz.func39, Tryz.ntmps39
  go_wp2_with fail
  refine (unhide R _).mono ?_
  rintro e w1 ⟨rfl, hq⟩
  obtain rfl := hq.symm
  go_wp2
  go_ret
  exact ⟨rfl, rfl⟩

theorem indexT_any (w : World) (ao : Option Addr) (cap : Nat) (l : List ByteArray) (h : SAt w ao l) (hl : l.length ≤ 140737488355328) :
    Calls Tryz.prog 51 #[.slice ao l.length cap, .func (.func 39) #[] #[]] w fun e w' => e = .returned (.int .i64 (ixS (fun s => !isTok s) l 0)) ∧ Fr (fun _ => False) w w' := by
  have HC : Hid (∀ (w' : World) (s : ByteArray), Calls Tryz.prog 39 #[.string s] w' fun e w'' => e = .returned (.bool ((fun s => !isTok s) s)) ∧ w'' = w') := hide (fun w' s => areTokens1_any s w')
  have H := hide h
  generalize (fun s => !isTok s) = p at *
  clear h
  go_enter Tryz.func51, Tryz.ntmps51
  go_wp2
  go_loopw [5, 8] (fun _ iv wr => ∃ (i : Nat), i ≤ l.length ∧ iv = .int .i64 i ∧ Hid (Fr (fun _ => False) w wr ∧ ixS p (l.drop i) i = ixS p l 0)) (fun _ iv _ => l.length - (intOf iv).toNat)
  case atStart => exact ⟨0, Nat.zero_le _, rfl, Fr.refl _ _, by simp⟩
  case round =>
    obtain ⟨i, hi, rfl, HI⟩ := hrel
    by_cases hil : i < l.length
    · obtain ⟨b, off, rfl, c0⟩ := ((unhide H).keep (unhide HI).1).at hil
      have ht := (unhide HI).2
      rw [List.drop_eq_getElem_cons hil, ixS] at ht
      have R := unhide HC wr l[i]
      generalize l[i] = x at *
      have HT := hide ht
      clear ht
      cases hx : p x with
      | true =>
        rw [hx] at R HT
        clear hx
        have HT' : Hid (ixS p l 0 = (i : Int)) := hide (by have := unhide HT; simpa using this.symm)
        clear HT
        go_wp2_with fail
        refine R.mono ?_
        rintro e w1 ⟨rfl, hq⟩
        obtain rfl := hq.symm
        clear hq R
        go_wp2
        go_ret
        exact ⟨by rw [unhide HT']; rfl, (unhide HI).1⟩
      | false =>
        rw [hx] at R HT
        clear hx
        have HT' : Hid (ixS p (l.drop (i + 1)) (i + 1) = ixS p l 0) := hide (by have := unhide HT; simpa using this)
        clear HT
        go_wp2_with fail
        refine R.mono ?_
        rintro e w1 ⟨rfl, hq⟩
        obtain rfl := hq.symm
        clear hq R
        go_wp2
        exact ⟨⟨i + 1, by omega, by go_num, (unhide HI).1, unhide HT'⟩, by simp [intOf]; omega⟩
    · obtain rfl : i = l.length := by omega
      have ht := (unhide HI).2
      rw [List.drop_length] at ht
      have HN := hide ht
      have HF := hide (unhide HI).1
      clear ht HI H
      go_wp2
      go_ret
      exact ⟨by rw [← unhide HN]; rfl, unhide HF⟩

theorem all_not_any (p : ByteArray → Bool) (l : List ByteArray) : (!l.any (fun s => !p s)) = l.all p := by
  induction l with
  | nil => rfl
  | cons a l ih => rw [List.any_cons, List.all_cons, ← ih]; cases p a <;> simp

theorem areTokens_any (w : World) (ao : Option Addr) (cap : Nat) (l : List ByteArray) (h : SAt w ao l) (hl : l.length ≤ 140737488355328) :
    Calls Tryz.prog 25 #[.slice ao l.length cap] w fun e w' => e = .returned (.bool (l.all isTok)) ∧ Fr (fun _ => False) w w' := by
  have R := hide (indexT_any w ao cap l h hl)
  have HA := hide (ixS_any (fun s => !isTok s) l 0)
  have HB := hide (all_not_any isTok l)
  generalize ixS (fun s => !isTok s) l 0 = m at R HA
  generalize l.any (fun s => !isTok s) = y at HA HB
  rw [← unhide HB]
  clear h HB
  have RC : Hid (Calls Tryz.prog 38 #[.slice ao l.length cap, .func (.func 39) #[] #[]] w fun e w' => e = .returned (.bool y) ∧ Fr (fun _ => False) w w') := hide (by
    go_enter Tryz.func38, Tryz.ntmps38
    go_wp2_with fail
    refine (unhide R).mono ?_
    rintro e w1 ⟨rfl, hF⟩
    have HF := hide hF
    clear hF
    go_wp2
    go_ret
    exact ⟨by rw [← unhide HA]; rfl, unhide HF⟩)
  clear R HA
  go_enter Tryz.func25, Tryz.ntmps25
  go_wp2_with fail
  refine (unhide RC).mono ?_
  rintro e w1 ⟨rfl, hF⟩
  have HF := hide hF
  clear hF
  go_wp2
  go_ret
  exact ⟨rfl, unhide HF⟩

/-- Is the text at a place above the one ahead of it? -/
def risAt (l : List ByteArray) (i : Nat) : Bool := decide (i = 0) || !(ltS (l.getD i ⟨#[]⟩) (l.getD (i - 1) ⟨#[]⟩) || eqS (l.getD i ⟨#[]⟩) (l.getD (i - 1) ⟨#[]⟩))
def risB (l : List ByteArray) : Bool := (List.range l.length).all (risAt l)

theorem risB_all {l : List ByteArray} (h : ∀ k, k < l.length → risAt l k = true) : risB l = true := by
  simp only [risB, List.all_eq_true, List.mem_range]
  exact h
theorem risB_bad {l : List ByteArray} {i : Nat} (hi : i < l.length) (h : risAt l i = false) : risB l = false := by
  rw [← Bool.not_eq_true]
  intro hb
  simp only [risB, List.all_eq_true, List.mem_range] at hb
  rw [hb i hi] at h
  cases h
theorem listOk_parts (l : List ByteArray) : listOk l = (decide (l.length ≤ 1000) && (l.all isTok && risB l)) := by
  unfold listOk
  congr 1
  rw [Bool.eq_iff_iff]
  simp only [risB, List.all_eq_true, List.mem_range, Bool.and_eq_true]
  constructor
  · intro h
    constructor
    · intro x hx
      obtain ⟨i, hi, rfl⟩ := List.mem_iff_getElem.1 hx
      have := h i hi
      unfold okAt at this
      rw [Bool.and_eq_true, getD_eq hi] at this
      exact this.1
    · intro i hi
      have := h i hi
      unfold okAt at this
      rw [Bool.and_eq_true] at this
      exact this.2
  · rintro ⟨h1, h2⟩ i hi
    unfold okAt
    rw [Bool.and_eq_true]
    exact ⟨by rw [getD_eq hi]; exact h1 _ (List.getElem_mem hi), h2 i hi⟩

theorem isRising_any (w : World) (ao : Option Addr) (cap : Nat) (l : List ByteArray) (h : SAt w ao l) (hl : l.length ≤ 140737488355328) :
    Calls Tryz.prog 26 #[.slice ao l.length cap] w fun e w' => e = .returned (.bool (risB l)) ∧ Fr (fun _ => False) w w' := by
  obtain ⟨y, HY⟩ : ∃ y, Hid (risB l = y) := ⟨_, rfl⟩
  rw [unhide HY]
  have H := hide h
  clear h
  go_enter Tryz.func26, Tryz.ntmps26
  go_wp2
  go_loopw [3] (fun iv wr => ∃ (i : Nat), 1 ≤ i ∧ i ≤ l.length + 1 ∧ iv = .int .i64 i ∧ Hid (Fr (fun _ => False) w wr ∧ ∀ k, k < i → k < l.length → risAt l k = true)) (fun iv _ => l.length - (intOf iv).toNat)
  case atStart =>
    refine ⟨1, Nat.le_refl _, by omega, rfl, Fr.refl _ _, fun k hk _ => ?_⟩
    obtain rfl : k = 0 := by omega
    rfl
  case round =>
    obtain ⟨i, h1, hi, rfl, HI⟩ := hrel
    by_cases hil : i < l.length
    · obtain ⟨m, rfl⟩ : ∃ m, i = m + 1 := ⟨i - 1, by omega⟩
      obtain ⟨b, off, rfl, hc⟩ := ((unhide H).keep (unhide HI).1) (by omega)
      have c0 := hc (m + 1) hil
      have c1 := hc m (by omega)
      obtain ⟨z, HZ⟩ : ∃ z, Hid ((ltS (l.getD (m + 1) ⟨#[]⟩) (l.getD m ⟨#[]⟩) || eqS (l.getD (m + 1) ⟨#[]⟩) (l.getD m ⟨#[]⟩)) = z) := ⟨_, rfl⟩
      have HT : Hid (risAt l (m + 1) = !z) := hide (by unfold risAt; rw [Nat.add_one_sub_one, unhide HZ]; simp)
      generalize l.getD (m + 1) ⟨#[]⟩ = x at *
      generalize l.getD m ⟨#[]⟩ = x' at *
      clear hc h1
      go_wp2
      go_quiet (fail)
      go_wp2
      · rename_i hh
        go_ret
        exact ⟨by rw [← unhide HY, risB_bad hil (by rw [unhide HT, ← unhide HZ]; show (!(Op.bytesLess _ _ || _ == _)) = false; rcases hh with hh | hh <;> rw [hh] <;> simp)]; rfl, (unhide HI).1.drewN _⟩
      · rename_i hh
        refine ⟨⟨m + 2, by omega, by omega, by go_num, (unhide HI).1.drewN _, fun k hk hk2 => ?_⟩, ?_⟩
        · by_cases e : k = m + 1
          · subst e
            rw [unhide HT, ← unhide HZ]
            simpa [ltS, eqS] using hh
          · exact (unhide HI).2 k (by omega) hk2
        · simp [intOf]
          omega
    · have HT : Hid (y = true) := hide (by rw [← unhide HY]; exact risB_all (fun k hk => (unhide HI).2 k (by omega) hk))
      have HF := hide (unhide HI).1
      clear HI H HY
      go_wp2
      go_ret
      exact ⟨by rw [unhide HT]; rfl, unhide HF⟩

theorem index_any (w : World) (ao : Option Addr) (cap : Nat) (l : List ByteArray) (s : ByteArray) (h : SAt w ao l) (hl : l.length ≤ 140737488355328) :
    Calls Tryz.prog 40 #[.slice ao l.length cap, .string s] w fun e w' => e = .returned (.int .i64 (ixS (fun x => eqS s x) l 0)) ∧ Fr (fun _ => False) w w' := by
  have H := hide h
  clear h
  go_enter Tryz.func40, Tryz.ntmps40
  go_wp2
  go_loopw [5, 8] (fun _ iv wr => ∃ (i : Nat), i ≤ l.length ∧ iv = .int .i64 i ∧ Hid (Fr (fun _ => False) w wr ∧ ixS (fun x => eqS s x) (l.drop i) i = ixS (fun x => eqS s x) l 0)) (fun _ iv _ => l.length - (intOf iv).toNat)
  case atStart => exact ⟨0, Nat.zero_le _, rfl, Fr.refl _ _, by simp⟩
  case round =>
    obtain ⟨i, hi, rfl, HI⟩ := hrel
    by_cases hil : i < l.length
    · obtain ⟨b, off, rfl, c0⟩ := ((unhide H).keep (unhide HI).1).at hil
      have ht := (unhide HI).2
      rw [List.drop_eq_getElem_cons hil, ixS] at ht
      generalize l[i] = x at *
      have HT := hide ht
      clear ht
      cases hx : (s.toList == x.toList) with
      | true =>
        have HT' : Hid (ixS (fun x => eqS s x) l 0 = (i : Int)) := hide (by have := unhide HT; simp only [eqS, hx] at this; simpa using this.symm)
        clear HT
        go_wp2
        go_ret
        exact ⟨by rw [unhide HT']; rfl, (unhide HI).1⟩
      | false =>
        have HT' : Hid (ixS (fun x => eqS s x) (l.drop (i + 1)) (i + 1) = ixS (fun x => eqS s x) l 0) := hide (by have := unhide HT; simp only [eqS, hx] at this; simpa using this)
        clear HT
        go_wp2
        exact ⟨⟨i + 1, by omega, by go_num, (unhide HI).1, unhide HT'⟩, by simp [intOf]; omega⟩
    · obtain rfl : i = l.length := by omega
      have ht := (unhide HI).2
      rw [List.drop_length] at ht
      have HN := hide ht
      have HF := hide (unhide HI).1
      clear ht HI H
      go_wp2
      go_ret
      exact ⟨by rw [← unhide HN]; rfl, unhide HF⟩

theorem any_mem (s : ByteArray) (l : List ByteArray) : l.any (fun x => eqS s x) = memS l s := by
  unfold memS
  congr 1
  funext x
  rw [Bool.eq_iff_iff, eqS_iff, eqS_iff]
  exact eq_comm

theorem contains_any (w : World) (ao : Option Addr) (cap : Nat) (l : List ByteArray) (s : ByteArray) (h : SAt w ao l) (hl : l.length ≤ 140737488355328) :
    Calls Tryz.prog 27 #[.slice ao l.length cap, .string s] w fun e w' => e = .returned (.bool (memS l s)) ∧ Fr (fun _ => False) w w' := by
  have R := hide (index_any w ao cap l s h hl)
  have HA := hide (ixS_any (fun x => eqS s x) l 0)
  rw [any_mem] at HA
  generalize ixS (fun x => eqS s x) l 0 = m at R HA
  generalize memS l s = y at HA ⊢
  clear h
  go_enter Tryz.func27, Tryz.ntmps27
  go_wp2_with fail
  refine (unhide R).mono ?_
  rintro e w1 ⟨rfl, hF⟩
  have HF := hide hF
  clear hF
  go_wp2
  go_ret
  exact ⟨by rw [← unhide HA]; rfl, unhide HF⟩

/-- A list of tokens that are refused. -/
structure Rl where
  ver : Int
  toks : List ByteArray
def rlC (l : Rl) (a : Option Addr) (c : Nat) : Array Value := #[.int .i64 l.ver, .slice a l.toks.length c]
/-- What is wrong with a list. -/
def rightE (l : Rl) : Int := if l.ver < 0 ∨ (l.ver = 0 ∧ 0 < l.toks.length) then 130 else if 1000 < l.toks.length then 2 else if l.toks.all isTok && risB l.toks then 0 else 131

theorem has_any (w : World) (l : Rl) (a : Option Addr) (c : Nat) (s : ByteArray) (h : SAt w a l.toks) (hl : l.toks.length ≤ 140737488355328) :
    Calls Tryz.prog 10 #[.agg (rlC l a c), .string s] w fun e w' => e = .returned (.bool (memS l.toks s)) ∧ Fr (fun _ => False) w w' := by
  have hA : Fr (fun _ => False) w (w.alloc (.cells (rlC l a c) 24)) := (Fr.refl _ _).alloc _
  have R := hide (contains_any (w.alloc (.cells (rlC l a c) 24)) a c l.toks s (h.keep hA) hl)
  have HA := hide hA
  clear h hA
  unfold rlC at *
  go_enter Tryz.func10, Tryz.ntmps10
  go_wp2_with fail
  refine (unhide R).mono ?_
  rintro e w1 ⟨rfl, hF⟩
  have HF := hide ((unhide HA).trans hF (fun _ _ t => t))
  clear hF
  go_wp2
  go_ret
  exact ⟨rfl, unhide HF⟩

end Go.Proofs.YtmhljehkodhggaaGreat

