/- A list of tokens that may be; the search in it; two lists apart. -/
import Derived.Test.YtkjoojamkbpfcaaE3
namespace Go.Proofs.Ytkjoojamkbpfcaa
open Go.RowKit

theorem upto_all {l : List ByteArray} {i : Nat} (h : ∀ k, k < i → okAt l k = true) (hi : okAt l i = true) : ∀ k, k < i + 1 → okAt l k = true := fun k hk => by
  by_cases e : k = i
  · subst e; exact hi
  · exact h k (by omega)
theorem listOk_all {l : List ByteArray} (hl : l.length ≤ 1000) (h : ∀ k, k < l.length → okAt l k = true) : listOk l = true := by
  simp only [listOk, Bool.and_eq_true, decide_eq_true_eq, List.all_eq_true, List.mem_range]
  exact ⟨hl, h⟩
theorem listOk_bad {l : List ByteArray} {i : Nat} (hi : i < l.length) (h : okAt l i = false) : listOk l = false := by
  cases hb : listOk l with
  | false => rfl
  | true => rw [listOk_at hb hi] at h; cases h
theorem listOk_long {l : List ByteArray} (hl : 1000 < l.length) : listOk l = false := by
  unfold listOk
  rw [decide_eq_false (by omega)]
  rfl

theorem areListed_any (w : World) (ao : Option Addr) (cap : Nat) (l : List ByteArray) (h : SAt w ao l) (hl : l.length ≤ 140737488355328) :
    Calls Try.prog 108 #[.slice ao l.length cap] w fun e w' => e = .returned (.bool (listOk l)) ∧ Fr (fun _ => False) w w' := by
  obtain ⟨y, HY⟩ : ∃ y, Hid (listOk l = y) := ⟨_, rfl⟩
  rw [unhide HY]
  have H := hide h
  clear h
  by_cases hlong : 1000 < l.length
  · have HT : Hid (y = false) := hide (by rw [← unhide HY, listOk_long hlong])
    clear HY H
    go_enter Try.func108, Try.ntmps108
    go_wp2
    go_ret
    exact ⟨by rw [unhide HT]; rfl, Fr.refl _ _⟩
  go_enter Try.func108, Try.ntmps108
  go_wp2
  go_loopw [3, 4, 10] (fun _ _ iv wr => ∃ (i : Nat), i ≤ l.length ∧ iv = .int .i64 i ∧ Hid (Fr (fun _ => False) w wr ∧ ∀ k, k < i → okAt l k = true)) (fun _ _ iv _ => l.length - (intOf iv).toNat)
  case atStart => exact ⟨0, Nat.zero_le _, rfl, Fr.refl _ _, fun k hk => absurd hk (Nat.not_lt_zero k)⟩
  case round =>
    obtain ⟨i, hi, rfl, HI⟩ := hrel
    by_cases hil : i < l.length
    · obtain ⟨b, off, rfl, hc⟩ := ((unhide H).keep (unhide HI).1) (by omega)
      have c0 := hc i hil
      cases hx : isTok (l.getD i ⟨#[]⟩) with
      | false =>
        have HT : Hid (y = false) := hide (by rw [← unhide HY]; exact listOk_bad hil (by unfold okAt; rw [hx]; rfl))
        have R := hide (isToken_is hx)
        generalize l.getD i ⟨#[]⟩ = x at *
        clear HY hx hc
        go_wp2_with fail
        refine (unhide R _).mono ?_
        rintro e w1 ⟨rfl, hq⟩
        obtain rfl := hq.symm
        go_wp2
        go_ret
        exact ⟨by rw [unhide HT]; rfl, (unhide HI).1⟩
      | true =>
        have R := hide (isToken_is hx)
        cases i with
        | zero =>
          have HT : Hid (okAt l 0 = true) := hide (by unfold okAt; rw [hx]; rfl)
          generalize l.getD 0 ⟨#[]⟩ = x at *
          rw [Nat.add_zero] at c0
          clear hx hc
          go_wp2_with fail
          refine (unhide R _).mono ?_
          rintro e w1 ⟨rfl, hq⟩
          obtain rfl := hq.symm
          go_wp2
          exact ⟨⟨1, by omega, by go_num, (unhide HI).1, upto_all (unhide HI).2 (unhide HT)⟩, by simp [intOf]; omega⟩
        | succ m =>
          have c1 := hc m (by omega)
          obtain ⟨z, HZ⟩ : ∃ z, Hid ((ltS (l.getD (m + 1) ⟨#[]⟩) (l.getD m ⟨#[]⟩) || eqS (l.getD (m + 1) ⟨#[]⟩) (l.getD m ⟨#[]⟩)) = z) := ⟨_, rfl⟩
          have HT : Hid (okAt l (m + 1) = !z) := hide (by unfold okAt; rw [hx, Nat.add_one_sub_one, unhide HZ]; simp)
          generalize l.getD (m + 1) ⟨#[]⟩ = x at *
          generalize l.getD m ⟨#[]⟩ = x' at *
          clear hx hc
          go_wp2_with fail
          refine (unhide R _).mono ?_
          rintro e w1 ⟨rfl, hq⟩
          obtain rfl := hq.symm
          go_wp2
          · rename_i hh
            go_ret
            exact ⟨by rw [← unhide HY, listOk_bad hil (by rw [unhide HT, ← unhide HZ]; show (!(Op.bytesLess _ _ || _ == _)) = false; rcases hh with hh | hh <;> rw [hh] <;> simp)]; rfl, (unhide HI).1⟩
          · rename_i hh
            refine ⟨⟨m + 2, by omega, by go_num, (unhide HI).1, upto_all (unhide HI).2 (by rw [unhide HT, ← unhide HZ]; simpa [ltS, eqS] using hh)⟩, ?_⟩
            simp [intOf]
            omega
    · obtain rfl : i = l.length := by omega
      have HT : Hid (y = true) := hide (by rw [← unhide HY]; exact listOk_all (by omega) (unhide HI).2)
      have HF := hide (unhide HI).1
      clear HI H HY
      go_wp2
      go_ret
      exact ⟨by rw [unhide HT]; rfl, unhide HF⟩

theorem search_any (w : World) (ao : Option Addr) (cap : Nat) (l : List ByteArray) (h : SAt w ao l) (hl : listOk l = true) (s : ByteArray) :
    Calls Try.prog 131 #[.slice ao l.length cap, .string s] w fun e w' => (∃ k : Int, e = .returned (.tuple #[.int .i64 k, .bool (memS l s)])) ∧ Fr (fun _ => False) w w' := by
  obtain ⟨y, HY⟩ : ∃ y, Hid (memS l s = y) := ⟨_, rfl⟩
  rw [unhide HY]
  have H := hide h
  have HL := hide hl
  have hn : l.length ≤ 1000 := by
    simp only [listOk, Bool.and_eq_true, decide_eq_true_eq] at hl
    exact hl.1
  clear h hl
  go_enter Try.func131, Try.ntmps131
  go_wp2
  go_loopw [7, 8, 9] (fun iv jv _ wr => ∃ (i j : Nat), i ≤ j ∧ j ≤ l.length ∧ iv = .int .i64 i ∧ jv = .int .i64 j ∧ Hid (Fr (fun _ => False) w wr ∧ Sought l s i j)) (fun iv jv _ _ => (intOf jv).toNat - (intOf iv).toNat)
  case atStart => exact ⟨0, l.length, Nat.zero_le _, Nat.le_refl _, rfl, rfl, Fr.refl _ _, Nat.zero_le _, Nat.le_refl _, fun k hk => absurd hk (Nat.not_lt_zero k), fun k h1 h2 => absurd h2 (by omega)⟩
  case round =>
    obtain ⟨i, j, hi, hj, rfl, rfl, HI⟩ := hrel
    by_cases hij : i < j
    · obtain ⟨b, off, rfl, hc⟩ := ((unhide H).keep (unhide HI).1) (by omega)
      have c0 := hc ((i + j) / 2) (by omega)
      obtain ⟨z, hz⟩ : ∃ z, ltS (l.getD ((i + j) / 2) ⟨#[]⟩) s = z := ⟨_, rfl⟩
      have R := hide (less9 hz)
      have HZ := hide hz
      clear hz hc
      obtain ⟨x, HX⟩ : ∃ x, Hid (l.getD ((i + j) / 2) ⟨#[]⟩ = x) := ⟨_, rfl⟩
      rw [unhide HX] at c0 R
      go_wp2_with fail
      refine (unhide R _).mono ?_
      rintro e w1 ⟨rfl, hq⟩
      obtain rfl := hq.symm
      have HZ' := HZ
      cases z
      · go_wp2
        exact ⟨⟨i, (i + j) / 2, by omega, by omega, rfl, by go_num, (unhide HI).1, (unhide HI).2.down (unhide HL) (by omega) (by omega) (unhide HZ)⟩, by simp [intOf]; omega⟩
      · go_wp2
        exact ⟨⟨(i + j) / 2 + 1, j, by omega, by omega, by go_num, rfl, (unhide HI).1, (unhide HI).2.up (unhide HL) (by omega) (unhide HZ)⟩, by simp [intOf]; omega⟩
    · obtain rfl : i = j := by omega
      have HM : Hid (y = (decide (i < l.length) && eqS (l.getD i ⟨#[]⟩) s)) := hide (by rw [← unhide HY]; exact (unhide HI).2.found (unhide HL))
      by_cases hil : i < l.length
      · obtain ⟨b, off, rfl, hc⟩ := ((unhide H).keep (unhide HI).1) (by omega)
        have c0 := hc i hil
        clear hc
        generalize l.getD i ⟨#[]⟩ = x at *
        have HF := hide (unhide HI).1
        clear HI HY
        obtain ⟨z, hz⟩ : ∃ z, (x.toList == s.toList) = z := ⟨_, rfl⟩
        have HM' : Hid (y = z) := hide (by rw [unhide HM, decide_eq_true hil, show eqS x s = z from hz]; rfl)
        clear HM
        cases z
        · go_wp2_with fail
          refine (snan9 x _).mono ?_
          rintro e w1 ⟨rfl, hq⟩
          obtain rfl := hq.symm
          go_wp2
          go_ret2
          exact ⟨⟨_, by rw [unhide HM']; rfl⟩, unhide HF⟩
        · go_wp2
          go_ret2
          exact ⟨⟨_, by rw [unhide HM']; rfl⟩, unhide HF⟩
      · have HM' : Hid (y = false) := hide (by rw [unhide HM, decide_eq_false hil]; rfl)
        have HF := hide (unhide HI).1
        clear HI HM HY
        go_wp2
        go_ret2
        exact ⟨⟨_, by rw [unhide HM']; rfl⟩, unhide HF⟩

theorem apart1_any (w : World) (s : ByteArray) (k : Nat) (ao : Option Addr) (cap : Nat) (l : List ByteArray) (hk : w.cell? ⟨k, 0, none⟩ = some (.slice ao l.length cap)) (h : SAt w ao l) (hl : listOk l = true) :
    Calls Try.prog 130 #[.string s, .pointer (some ⟨k, 0, none⟩)] w fun e w' => e = .returned (.bool (memS l s)) ∧ Fr (fun _ => False) w w' := by
  have R := hide (search_any w ao cap l h hl s)
  clear h hl
  go_enter Try.func130, Try.ntmps130
  go_wp2_with fail
  refine (unhide R).mono ?_
  rintro e w1 ⟨⟨k, rfl⟩, hF⟩
  have HF := hide hF
  clear hF
  go_wp2
  go_ret
  exact ⟨rfl, unhide HF⟩

/-- The first index that is as wanted, or -1. -/
def ixS (p : ByteArray → Bool) : List ByteArray → Nat → Int
  | [], _ => -1
  | b :: r, i => if p b then (i : Int) else ixS p r (i + 1)

theorem ixS_any (p : ByteArray → Bool) : ∀ (l : List ByteArray) (i : Nat), decide (0 ≤ ixS p l i) = l.any p
  | [], _ => rfl
  | b :: r, i => by
    rw [ixS, List.any_cons]
    cases p b with
    | true => simp
    | false => simpa using ixS_any p r (i + 1)

theorem SAt.at {w : World} {ao : Option Addr} {l : List ByteArray} (h : SAt w ao l) {i : Nat} (hi : i < l.length) : ∃ b off, ao = some ⟨b, off, none⟩ ∧ w.cell? ⟨b, off + i, none⟩ = some (.string l[i]) := by
  obtain ⟨b, off, e, hc⟩ := h (by omega)
  exact ⟨b, off, e, by rw [hc i hi, getD_eq hi]⟩

theorem indexS_any (w : World) (k : Nat) (ax : Option Addr) (cx : Nat) (lx : List ByteArray) (hk : w.cell? ⟨k, 0, none⟩ = some (.slice ax lx.length cx)) (hx : SAt w ax lx) (hlx : listOk lx = true) (ao : Option Addr) (cap : Nat) (l : List ByteArray) (h : SAt w ao l) (hl : l.length ≤ 1000) :
    Calls Try.prog 148 #[.slice ao l.length cap, .func (.func 130) #[] #[.pointer (some ⟨k, 0, none⟩)]] w fun e w' => e = .returned (.int .i64 (ixS (memS lx) l 0)) ∧ Fr (fun _ => False) w w' := by
  have HC := hide (fun (w' : World) (hf : Fr (fun _ => False) w w') (s : ByteArray) => (apart1_any w' s k ax cx lx ((hf.cell (a := ⟨k, 0, none⟩) (World.block_lt_of_cell? _ _ hk) (fun t => t)).trans hk) (hx.keep hf) hlx : Calls Try.prog 130 #[.string s, .pointer (some ⟨k, 0, none⟩)] w' fun e w'' => e = .returned (.bool ((memS lx) s)) ∧ Fr (fun _ => False) w' w''))
  have H := hide h
  generalize hp : (memS lx) = p at *
  have HC' : Hid (∀ (w' : World) (hf : Fr (fun _ => False) w w') (s : ByteArray), Calls Try.prog 130 #[.string s, .pointer (some ⟨k, 0, none⟩)] w' fun e w'' => e = .returned (.bool (p s)) ∧ Fr (fun _ => False) w' w'') := HC
  clear h hk hx hlx hp HC
  go_enter Try.func148, Try.ntmps148
  go_wp2
  go_loopw [5, 8] (fun _ iv wr => ∃ (i : Nat), i ≤ l.length ∧ iv = .int .i64 i ∧ Hid (Fr (fun _ => False) w wr ∧ ixS p (l.drop i) i = ixS p l 0)) (fun _ iv _ => l.length - (intOf iv).toNat)
  case atStart => exact ⟨0, Nat.zero_le _, rfl, Fr.refl _ _, by simp⟩
  case round =>
    obtain ⟨i, hi, rfl, HI⟩ := hrel
    by_cases hil : i < l.length
    · obtain ⟨b, off, rfl, c0⟩ := ((unhide H).keep (unhide HI).1).at hil
      have ht := (unhide HI).2
      rw [List.drop_eq_getElem_cons hil, ixS] at ht
      have R := unhide HC' wr (unhide HI).1 l[i]
      generalize l[i] = x at *
      have HT := hide ht
      clear ht
      cases hx : p x with
      | true =>
        rw [hx] at R HT
        clear hx
        have HT' : Hid (ixS p l 0 = (i : Int)) := hide (by have := unhide HT; simpa using this.symm)
        clear HT
        go_wp2_with fail
        refine R.mono ?_
        rintro e w1 ⟨rfl, hF⟩
        have HF := hide ((unhide HI).1.trans hF (fun _ _ t => t))
        clear hF R
        go_wp2
        go_ret
        exact ⟨by rw [unhide HT']; rfl, unhide HF⟩
      | false =>
        rw [hx] at R HT
        clear hx
        have HT' : Hid (ixS p (l.drop (i + 1)) (i + 1) = ixS p l 0) := hide (by have := unhide HT; simpa using this)
        clear HT
        go_wp2_with fail
        refine R.mono ?_
        rintro e w1 ⟨rfl, hF⟩
        have HF := hide ((unhide HI).1.trans hF (fun _ _ t => t))
        clear hF R
        go_wp2
        exact ⟨⟨i + 1, by omega, by go_num, unhide HF, unhide HT'⟩, by simp [intOf]; omega⟩
    · obtain rfl : i = l.length := by omega
      have ht := (unhide HI).2
      rw [List.drop_length] at ht
      have HN := hide ht
      have HF := hide (unhide HI).1
      clear ht HI H
      go_wp2
      go_ret
      exact ⟨by rw [← unhide HN]; rfl, unhide HF⟩

theorem areApart_any (w : World) (ax : Option Addr) (cx : Nat) (lx : List ByteArray) (hx : SAt w ax lx) (hlx : listOk lx = true) (ao : Option Addr) (cap : Nat) (l : List ByteArray) (h : SAt w ao l) (hl : l.length ≤ 1000) :
    Calls Try.prog 109 #[.slice ao l.length cap, .slice ax lx.length cx] w fun e w' => e = .returned (.bool !(l.any (memS lx))) ∧ Fr (fun _ => False) w w' := by
  have R : ∀ t, Hid (∀ w', w' = w.alloc (.cells #[.slice ax lx.length cx] t) → Calls Try.prog 148 #[.slice ao l.length cap, .func (.func 130) #[] #[.pointer (some ⟨w.heap.size, 0, none⟩)]] w' fun e w' => e = .returned (.int .i64 (ixS (memS lx) l 0)) ∧ Fr (fun _ => False) w w') := fun t => hide (fun w' hw => by
    subst hw
    have hF : Fr (fun _ => False) w (w.alloc (.cells #[.slice ax lx.length cx] t)) := (Fr.refl _ _).alloc _
    refine (indexS_any _ w.heap.size ax cx lx (by simp) (hx.keep hF) hlx ao cap l (h.keep hF) hl).mono ?_
    rintro e w2 ⟨rfl, hF2⟩
    exact ⟨rfl, hF.trans hF2 (fun _ _ t => t)⟩)
  have HA := hide (ixS_any (memS lx) l 0)
  generalize ixS (memS lx) l 0 = m at R HA
  generalize l.any (memS lx) = y at HA ⊢
  clear hx hlx h
  have RC : ∀ t, Hid (∀ w', w' = w.alloc (.cells #[.slice ax lx.length cx] t) → Calls Try.prog 129 #[.slice ao l.length cap, .func (.func 130) #[] #[.pointer (some ⟨w.heap.size, 0, none⟩)]] w' fun e w' => e = .returned (.bool y) ∧ Fr (fun _ => False) w w') := fun t => hide (fun w' hw => by
    have R1 := hide (unhide (R t) w' hw)
    clear R hw
    go_enter Try.func129, Try.ntmps129
    go_wp2_with fail
    refine (unhide R1).mono ?_
    rintro e w1 ⟨rfl, hF⟩
    have HF := hide hF
    clear hF
    go_wp2
    go_ret
    exact ⟨by rw [← unhide HA]; rfl, unhide HF⟩)
  clear R HA
  go_enter Try.func109, Try.ntmps109
  go_wp2_with fail
  refine (unhide (RC _) _ rfl).mono ?_
  rintro e w1 ⟨rfl, hF⟩
  have HF := hide hF
  clear hF
  go_wp2
  go_ret
  exact ⟨rfl, unhide HF⟩

end Go.Proofs.Ytkjoojamkbpfcaa
