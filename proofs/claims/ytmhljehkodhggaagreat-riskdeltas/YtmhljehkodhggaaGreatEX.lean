import Derived.Test.YtmhljehkodhggaaGreatE1
/- Which deltas may be: lists of tokens, rising; two lists apart. -/
namespace Go.Proofs.YtmhljehkodhggaaGreat
open Go.RowKit

/-- A text ahead of another one; the same text. -/
abbrev ltS (a b : ByteArray) : Bool := Op.bytesLess a.toList b.toList
abbrev eqS (a b : ByteArray) : Bool := a.toList == b.toList

theorem less_irrefl : ∀ (a : List UInt8), Op.bytesLess a a = false
  | [] => rfl
  | x :: r => by simp [Op.bytesLess, less_irrefl r]
theorem less_trans : ∀ (a b c : List UInt8), Op.bytesLess a b = true → Op.bytesLess b c = true → Op.bytesLess a c = true
  | _, [], _, h1, _ => by simp [Op.bytesLess] at h1
  | _, _ :: _, [], _, h2 => by simp [Op.bytesLess] at h2
  | [], _ :: _, _ :: _, _, _ => by simp [Op.bytesLess]
  | x :: a, y :: b, z :: c, h1, h2 => by
    simp only [Op.bytesLess, Bool.or_eq_true, Bool.and_eq_true, decide_eq_true_eq, beq_iff_eq] at h1 h2 ⊢
    rcases h1 with h1 | ⟨rfl, h1⟩
    · rcases h2 with h2 | ⟨rfl, _⟩
      · left; exact UInt8.lt_trans h1 h2
      · left; exact h1
    · rcases h2 with h2 | ⟨rfl, h2⟩
      · left; exact h2
      · right; exact ⟨rfl, less_trans a b c h1 h2⟩
theorem less_total : ∀ (a b : List UInt8), Op.bytesLess a b = true ∨ a = b ∨ Op.bytesLess b a = true
  | [], [] => by simp
  | [], _ :: _ => by simp [Op.bytesLess]
  | _ :: _, [] => by simp [Op.bytesLess]
  | x :: a, y :: b => by
    simp only [Op.bytesLess, Bool.or_eq_true, Bool.and_eq_true, decide_eq_true_eq, beq_iff_eq, List.cons.injEq]
    rcases Nat.lt_trichotomy x.toNat y.toNat with h | h | h
    · left; left; exact UInt8.lt_iff_toNat_lt.2 h
    · have e : x = y := UInt8.toNat_inj.1 h
      subst e
      rcases less_total a b with k | k | k
      · left; right; exact ⟨rfl, k⟩
      · right; left; exact ⟨rfl, k⟩
      · right; right; right; exact ⟨rfl, k⟩
    · right; right; left; exact UInt8.lt_iff_toNat_lt.2 h

/-- May the token at a place stand there? -/
def okAt (l : List ByteArray) (i : Nat) : Bool := isTok (l.getD i ⟨#[]⟩) && (decide (i = 0) || !(ltS (l.getD i ⟨#[]⟩) (l.getD (i - 1) ⟨#[]⟩) || eqS (l.getD i ⟨#[]⟩) (l.getD (i - 1) ⟨#[]⟩)))
/-- Are these tokens, rising, not too many? -/
def listOk (l : List ByteArray) : Bool := decide (l.length ≤ 1000) && (List.range l.length).all (okAt l)

theorem listOk_at {l : List ByteArray} (h : listOk l = true) {i : Nat} (hi : i < l.length) : okAt l i = true := by
  simp only [listOk, Bool.and_eq_true, List.all_eq_true, List.mem_range] at h
  exact h.2 i hi

theorem rise_one {l : List ByteArray} (h : listOk l = true) {i : Nat} (hi : i + 1 < l.length) : ltS (l.getD i ⟨#[]⟩) (l.getD (i + 1) ⟨#[]⟩) = true := by
  have h1 := listOk_at h hi
  simp only [okAt, ltS, eqS, Bool.and_eq_true, Nat.add_one_sub_one, Bool.or_eq_true, decide_eq_true_eq, Bool.not_eq_true', Bool.or_eq_false_iff, Nat.add_one_ne_zero, false_or] at h1
  show Op.bytesLess _ _ = true
  rcases less_total (l.getD i ⟨#[]⟩).toList (l.getD (i + 1) ⟨#[]⟩).toList with k | k | k
  · exact k
  · have h2 := h1.2.2
    rw [k, beq_self_eq_true] at h2
    cases h2
  · have h2 := h1.2.1
    rw [k] at h2
    cases h2

theorem rises {l : List ByteArray} (h : listOk l = true) {i j : Nat} (hij : i < j) (hj : j < l.length) : ltS (l.getD i ⟨#[]⟩) (l.getD j ⟨#[]⟩) = true := by
  induction j with
  | zero => omega
  | succ j ih =>
    by_cases e : i = j
    · subst e; exact rise_one h hj
    · exact less_trans _ _ _ (ih (by omega) (by omega)) (rise_one h hj)

/-- Is a text in a list? -/
def memS (l : List ByteArray) (s : ByteArray) : Bool := l.any (fun x => eqS x s)

theorem getD_eq {l : List ByteArray} {i : Nat} (hi : i < l.length) : l.getD i ⟨#[]⟩ = l[i] := by simp [List.getD, hi]

theorem memS_iff {l : List ByteArray} {s : ByteArray} : memS l s = true ↔ ∃ i, i < l.length ∧ (l.getD i ⟨#[]⟩).toList = s.toList := by
  unfold memS
  rw [List.any_eq_true]
  constructor
  · rintro ⟨x, hx, he⟩
    obtain ⟨i, hi, rfl⟩ := List.mem_iff_getElem.1 hx
    exact ⟨i, hi, by rw [getD_eq hi]; simpa using he⟩
  · rintro ⟨i, hi, he⟩
    exact ⟨l[i], List.getElem_mem hi, by rw [getD_eq hi] at he; simpa using he⟩

/-- Where the search has come to. -/
def Sought (l : List ByteArray) (s : ByteArray) (i j : Nat) : Prop := i ≤ j ∧ j ≤ l.length ∧ (∀ k, k < i → ltS (l.getD k ⟨#[]⟩) s = true) ∧ (∀ k, j ≤ k → k < l.length → ltS (l.getD k ⟨#[]⟩) s = false)

theorem Sought.up {l : List ByteArray} {s : ByteArray} {i j h : Nat} (hl : listOk l = true) (hs : Sought l s i j) (h1 : h < j) (hh : ltS (l.getD h ⟨#[]⟩) s = true) : Sought l s (h + 1) j := by
  obtain ⟨a, b, c, d⟩ := hs
  refine ⟨by omega, b, fun k hk => ?_, d⟩
  by_cases e : k = h
  · subst e; exact hh
  · exact less_trans _ _ _ (rises hl (show k < h by omega) (by omega)) hh

theorem Sought.down {l : List ByteArray} {s : ByteArray} {i j h : Nat} (hl : listOk l = true) (hs : Sought l s i j) (h0 : i ≤ h) (h1 : h < j) (hh : ltS (l.getD h ⟨#[]⟩) s = false) : Sought l s i h := by
  obtain ⟨a, b, c, d⟩ := hs
  refine ⟨h0, by omega, c, fun k hk hk2 => ?_⟩
  by_cases e : k = h
  · subst e; exact hh
  · cases hx : ltS (l.getD k ⟨#[]⟩) s with
    | false => rfl
    | true =>
      have h3 : ltS (l.getD h ⟨#[]⟩) s = true := less_trans _ _ _ (rises hl (show h < k by omega) hk2) hx
      rw [h3] at hh
      cases hh

theorem Sought.found {l : List ByteArray} {s : ByteArray} {i : Nat} (hl : listOk l = true) (hs : Sought l s i i) : memS l s = (decide (i < l.length) && eqS (l.getD i ⟨#[]⟩) s) := by
  obtain ⟨a, b, c, d⟩ := hs
  rw [Bool.eq_iff_iff, memS_iff]
  simp only [Bool.and_eq_true, decide_eq_true_eq, beq_iff_eq]
  constructor
  · rintro ⟨m, hm, he⟩
    have h1 : ¬ m < i := fun hlt => by
      have := c m hlt
      unfold ltS at this
      rw [he, less_irrefl] at this
      cases this
    have h2 : ¬ i < m := fun hlt => by
      have h3 := rises hl hlt hm
      unfold ltS at h3
      rw [he] at h3
      have h4 := d i (Nat.le_refl _) (by omega)
      unfold ltS at h4
      rw [h3] at h4
      cases h4
    obtain rfl : m = i := by omega
    exact ⟨hm, he⟩
  · rintro ⟨h1, h2⟩
    exact ⟨i, h1, h2⟩

/-- A list of texts in memory. -/
def SAt (w : World) (ao : Option Addr) (l : List ByteArray) : Prop := 0 < l.length → ∃ b off, ao = some ⟨b, off, none⟩ ∧ ∀ j, j < l.length → w.cell? ⟨b, off + j, none⟩ = some (.string (l.getD j ⟨#[]⟩))

theorem SAt.keep {w w' : World} {ao : Option Addr} {l : List ByteArray} (h : SAt w ao l) (hf : Fr (fun _ => False) w w') : SAt w' ao l := fun h0 => by
  obtain ⟨b, off, e, hc⟩ := h h0
  exact ⟨b, off, e, fun j hj => (hf.cell (a := ⟨b, off + j, none⟩) (World.block_lt_of_cell? _ _ (hc j hj)) (fun t => t)).trans (hc j hj)⟩

theorem cat_sat {w : World} {ao : Option Addr} {l : List ByteArray} (h : CAt w ao (tkV l)) : SAt w ao l := fun h0 => by
  have hL := tkV_length l
  obtain ⟨b, off, e, hc⟩ := h (by omega)
  refine ⟨b, off, e, fun j hj => ?_⟩
  rw [hc j (by omega)]
  have := flat_get tkC 1 (fun _ => rfl) l j hj 0 (by omega)
  rw [Nat.mul_one, Nat.add_zero] at this
  have h2 : (tkV l)[j]? = (tkC l[j])[0]? := this
  rw [List.getElem?_eq_getElem (by omega)] at h2
  rw [h2, getD_eq hj]
  rfl

theorem nan9 (s : ByteArray) (w : World) : Calls Tryz.prog 80 #[.string s] w fun e w' => e = .returned (.bool false) ∧ w' = w := by
  go_enter Tryz.func80, Tryz.ntmps80
  go_wp2
  go_ret
  exact ⟨by first | rfl | simp, rfl⟩
theorem snan9 (s : ByteArray) (w : World) : Calls Tryz.prog 113 #[.string s] w fun e w' => e = .returned (.bool false) ∧ w' = w := by
  go_enter Tryz.func113, Tryz.ntmps113
  go_wp2
  go_ret
  exact ⟨by first | rfl | simp, rfl⟩

theorem less9 {a b : ByteArray} {r : Bool} (hr : ltS a b = r) (w : World) : Calls Tryz.prog 67 #[.string a, .string b] w fun e w' => e = .returned (.bool r) ∧ w' = w := by
  have HR := hide hr
  clear hr
  go_enter Tryz.func67, Tryz.ntmps67
  go_wp2_with fail
  refine (nan9 a _).mono ?_
  rintro e w1 ⟨rfl, rfl⟩
  go_wp2
  go_ret
  exact ⟨by rw [← unhide HR]; rfl, rfl⟩

end Go.Proofs.YtmhljehkodhggaaGreat

/- A list of tokens that may be; the search in it; two lists apart. -/
namespace Go.Proofs.YtmhljehkodhggaaGreat
open Go.RowKit

theorem upto_all {l : List ByteArray} {i : Nat} (h : ∀ k, k < i → okAt l k = true) (hi : okAt l i = true) : ∀ k, k < i + 1 → okAt l k = true := fun k hk => by
  by_cases e : k = i
  · subst e; exact hi
  · exact h k (by omega)
theorem listOk_all {l : List ByteArray} (hl : l.length ≤ 1000) (h : ∀ k, k < l.length → okAt l k = true) : listOk l = true := by
  simp only [listOk, Bool.and_eq_true, decide_eq_true_eq, List.all_eq_true, List.mem_range]
  exact ⟨hl, h⟩
theorem listOk_bad {l : List ByteArray} {i : Nat} (hi : i < l.length) (h : okAt l i = false) : listOk l = false := by
  cases hb : listOk l with
  | false => rfl
  | true => rw [listOk_at hb hi] at h; cases h
theorem listOk_long {l : List ByteArray} (hl : 1000 < l.length) : listOk l = false := by
  unfold listOk
  rw [decide_eq_false (by omega)]
  rfl

theorem areListed_any (w : World) (ao : Option Addr) (cap : Nat) (l : List ByteArray) (h : SAt w ao l) (hl : l.length ≤ 140737488355328) :
    Calls Tryz.prog 78 #[.slice ao l.length cap] w fun e w' => e = .returned (.bool (listOk l)) ∧ Fr (fun _ => False) w w' := by
  obtain ⟨y, HY⟩ : ∃ y, Hid (listOk l = y) := ⟨_, rfl⟩
  rw [unhide HY]
  have H := hide h
  clear h
  by_cases hlong : 1000 < l.length
  · have HT : Hid (y = false) := hide (by rw [← unhide HY, listOk_long hlong])
    clear HY H
    go_enter Tryz.func78, Tryz.ntmps78
    go_wp2
    go_ret
    exact ⟨by rw [unhide HT]; rfl, Fr.refl _ _⟩
  go_enter Tryz.func78, Tryz.ntmps78
  go_wp2
  go_loopw [3, 4, 10] (fun _ _ iv wr => ∃ (i : Nat), i ≤ l.length ∧ iv = .int .i64 i ∧ Hid (Fr (fun _ => False) w wr ∧ ∀ k, k < i → okAt l k = true)) (fun _ _ iv _ => l.length - (intOf iv).toNat)
  case atStart => exact ⟨0, Nat.zero_le _, rfl, Fr.refl _ _, fun k hk => absurd hk (Nat.not_lt_zero k)⟩
  case round =>
    obtain ⟨i, hi, rfl, HI⟩ := hrel
    by_cases hil : i < l.length
    · obtain ⟨b, off, rfl, hc⟩ := ((unhide H).keep (unhide HI).1) (by omega)
      have c0 := hc i hil
      cases hx : isTok (l.getD i ⟨#[]⟩) with
      | false =>
        have HT : Hid (y = false) := hide (by rw [← unhide HY]; exact listOk_bad hil (by unfold okAt; rw [hx]; rfl))
        have R := hide (isToken_is hx)
        generalize l.getD i ⟨#[]⟩ = x at *
        clear HY hx hc
        go_wp2_with fail
        refine (unhide R _).mono ?_
        rintro e w1 ⟨rfl, hq⟩
        obtain rfl := hq.symm
        go_wp2
        go_ret
        exact ⟨by rw [unhide HT]; rfl, (unhide HI).1⟩
      | true =>
        have R := hide (isToken_is hx)
        cases i with
        | zero =>
          have HT : Hid (okAt l 0 = true) := hide (by unfold okAt; rw [hx]; rfl)
          generalize l.getD 0 ⟨#[]⟩ = x at *
          rw [Nat.add_zero] at c0
          clear hx hc
          go_wp2_with fail
          refine (unhide R _).mono ?_
          rintro e w1 ⟨rfl, hq⟩
          obtain rfl := hq.symm
          go_wp2
          exact ⟨⟨1, by omega, by go_num, (unhide HI).1, upto_all (unhide HI).2 (unhide HT)⟩, by simp [intOf]; omega⟩
        | succ m =>
          have c1 := hc m (by omega)
          obtain ⟨z, HZ⟩ : ∃ z, Hid ((ltS (l.getD (m + 1) ⟨#[]⟩) (l.getD m ⟨#[]⟩) || eqS (l.getD (m + 1) ⟨#[]⟩) (l.getD m ⟨#[]⟩)) = z) := ⟨_, rfl⟩
          have HT : Hid (okAt l (m + 1) = !z) := hide (by unfold okAt; rw [hx, Nat.add_one_sub_one, unhide HZ]; simp)
          generalize l.getD (m + 1) ⟨#[]⟩ = x at *
          generalize l.getD m ⟨#[]⟩ = x' at *
          clear hx hc
          go_wp2_with fail
          refine (unhide R _).mono ?_
          rintro e w1 ⟨rfl, hq⟩
          obtain rfl := hq.symm
          go_wp2
          · rename_i hh
            go_ret
            exact ⟨by rw [← unhide HY, listOk_bad hil (by rw [unhide HT, ← unhide HZ]; show (!(Op.bytesLess _ _ || _ == _)) = false; rcases hh with hh | hh <;> rw [hh] <;> simp)]; rfl, (unhide HI).1⟩
          · rename_i hh
            refine ⟨⟨m + 2, by omega, by go_num, (unhide HI).1, upto_all (unhide HI).2 (by rw [unhide HT, ← unhide HZ]; simpa [ltS, eqS] using hh)⟩, ?_⟩
            simp [intOf]
            omega
    · obtain rfl : i = l.length := by omega
      have HT : Hid (y = true) := hide (by rw [← unhide HY]; exact listOk_all (by omega) (unhide HI).2)
      have HF := hide (unhide HI).1
      clear HI H HY
      go_wp2
      go_ret
      exact ⟨by rw [unhide HT]; rfl, unhide HF⟩

theorem search_any (w : World) (ao : Option Addr) (cap : Nat) (l : List ByteArray) (h : SAt w ao l) (hl : listOk l = true) (s : ByteArray) :
    Calls Tryz.prog 97 #[.slice ao l.length cap, .string s] w fun e w' => (∃ k : Int, e = .returned (.tuple #[.int .i64 k, .bool (memS l s)])) ∧ Fr (fun _ => False) w w' := by
  obtain ⟨y, HY⟩ : ∃ y, Hid (memS l s = y) := ⟨_, rfl⟩
  rw [unhide HY]
  have H := hide h
  have HL := hide hl
  have hn : l.length ≤ 1000 := by
    simp only [listOk, Bool.and_eq_true, decide_eq_true_eq] at hl
    exact hl.1
  clear h hl
  go_enter Tryz.func97, Tryz.ntmps97
  go_wp2
  go_loopw [7, 8, 9] (fun iv jv _ wr => ∃ (i j : Nat), i ≤ j ∧ j ≤ l.length ∧ iv = .int .i64 i ∧ jv = .int .i64 j ∧ Hid (Fr (fun _ => False) w wr ∧ Sought l s i j)) (fun iv jv _ _ => (intOf jv).toNat - (intOf iv).toNat)
  case atStart => exact ⟨0, l.length, Nat.zero_le _, Nat.le_refl _, rfl, rfl, Fr.refl _ _, Nat.zero_le _, Nat.le_refl _, fun k hk => absurd hk (Nat.not_lt_zero k), fun k h1 h2 => absurd h2 (by omega)⟩
  case round =>
    obtain ⟨i, j, hi, hj, rfl, rfl, HI⟩ := hrel
    by_cases hij : i < j
    · obtain ⟨b, off, rfl, hc⟩ := ((unhide H).keep (unhide HI).1) (by omega)
      have c0 := hc ((i + j) / 2) (by omega)
      obtain ⟨z, hz⟩ : ∃ z, ltS (l.getD ((i + j) / 2) ⟨#[]⟩) s = z := ⟨_, rfl⟩
      have R := hide (less9 hz)
      have HZ := hide hz
      clear hz hc
      obtain ⟨x, HX⟩ : ∃ x, Hid (l.getD ((i + j) / 2) ⟨#[]⟩ = x) := ⟨_, rfl⟩
      rw [unhide HX] at c0 R
      go_wp2_with fail
      refine (unhide R _).mono ?_
      rintro e w1 ⟨rfl, hq⟩
      obtain rfl := hq.symm
      have HZ' := HZ
      cases z
      · go_wp2
        exact ⟨⟨i, (i + j) / 2, by omega, by omega, rfl, by go_num, (unhide HI).1, (unhide HI).2.down (unhide HL) (by omega) (by omega) (unhide HZ)⟩, by simp [intOf]; omega⟩
      · go_wp2
        exact ⟨⟨(i + j) / 2 + 1, j, by omega, by omega, by go_num, rfl, (unhide HI).1, (unhide HI).2.up (unhide HL) (by omega) (unhide HZ)⟩, by simp [intOf]; omega⟩
    · obtain rfl : i = j := by omega
      have HM : Hid (y = (decide (i < l.length) && eqS (l.getD i ⟨#[]⟩) s)) := hide (by rw [← unhide HY]; exact (unhide HI).2.found (unhide HL))
      by_cases hil : i < l.length
      · obtain ⟨b, off, rfl, hc⟩ := ((unhide H).keep (unhide HI).1) (by omega)
        have c0 := hc i hil
        clear hc
        generalize l.getD i ⟨#[]⟩ = x at *
        have HF := hide (unhide HI).1
        clear HI HY
        obtain ⟨z, hz⟩ : ∃ z, (x.toList == s.toList) = z := ⟨_, rfl⟩
        have HM' : Hid (y = z) := hide (by rw [unhide HM, decide_eq_true hil, show eqS x s = z from hz]; rfl)
        clear HM
        cases z
        · go_wp2_with fail
          refine (snan9 x _).mono ?_
          rintro e w1 ⟨rfl, hq⟩
          obtain rfl := hq.symm
          go_wp2
          go_ret2
          exact ⟨⟨_, by rw [unhide HM']; rfl⟩, unhide HF⟩
        · go_wp2
          go_ret2
          exact ⟨⟨_, by rw [unhide HM']; rfl⟩, unhide HF⟩
      · have HM' : Hid (y = false) := hide (by rw [unhide HM, decide_eq_false hil]; rfl)
        have HF := hide (unhide HI).1
        clear HI HM HY
        go_wp2
        go_ret2
        exact ⟨⟨_, by rw [unhide HM']; rfl⟩, unhide HF⟩

theorem apart1_any (w : World) (s : ByteArray) (k : Nat) (ao : Option Addr) (cap : Nat) (l : List ByteArray) (hk : w.cell? ⟨k, 0, none⟩ = some (.slice ao l.length cap)) (h : SAt w ao l) (hl : listOk l = true) :
    Calls Tryz.prog 96 #[.string s, .pointer (some ⟨k, 0, none⟩)] w fun e w' => e = .returned (.bool (memS l s)) ∧ Fr (fun _ => False) w w' := by
  have R := hide (search_any w ao cap l h hl s)
  clear h hl
  go_enter Tryz.func96, Tryz.ntmps96
  go_wp2_with fail
  refine (unhide R).mono ?_
  rintro e w1 ⟨⟨k, rfl⟩, hF⟩
  have HF := hide hF
  clear hF
  go_wp2
  go_ret
  exact ⟨rfl, unhide HF⟩

/-- The first index that is as wanted, or -1. -/
def ixS (p : ByteArray → Bool) : List ByteArray → Nat → Int
  | [], _ => -1
  | b :: r, i => if p b then (i : Int) else ixS p r (i + 1)

theorem ixS_any (p : ByteArray → Bool) : ∀ (l : List ByteArray) (i : Nat), decide (0 ≤ ixS p l i) = l.any p
  | [], _ => rfl
  | b :: r, i => by
    rw [ixS, List.any_cons]
    cases p b with
    | true => simp
    | false => simpa using ixS_any p r (i + 1)

theorem SAt.at {w : World} {ao : Option Addr} {l : List ByteArray} (h : SAt w ao l) {i : Nat} (hi : i < l.length) : ∃ b off, ao = some ⟨b, off, none⟩ ∧ w.cell? ⟨b, off + i, none⟩ = some (.string l[i]) := by
  obtain ⟨b, off, e, hc⟩ := h (by omega)
  exact ⟨b, off, e, by rw [hc i hi, getD_eq hi]⟩

theorem indexS_any (w : World) (k : Nat) (ax : Option Addr) (cx : Nat) (lx : List ByteArray) (hk : w.cell? ⟨k, 0, none⟩ = some (.slice ax lx.length cx)) (hx : SAt w ax lx) (hlx : listOk lx = true) (ao : Option Addr) (cap : Nat) (l : List ByteArray) (h : SAt w ao l) (hl : l.length ≤ 1000) :
    Calls Tryz.prog 51 #[.slice ao l.length cap, .func (.func 96) #[] #[.pointer (some ⟨k, 0, none⟩)]] w fun e w' => e = .returned (.int .i64 (ixS (memS lx) l 0)) ∧ Fr (fun _ => False) w w' := by
  have HC := hide (fun (w' : World) (hf : Fr (fun _ => False) w w') (s : ByteArray) => (apart1_any w' s k ax cx lx ((hf.cell (a := ⟨k, 0, none⟩) (World.block_lt_of_cell? _ _ hk) (fun t => t)).trans hk) (hx.keep hf) hlx : Calls Tryz.prog 96 #[.string s, .pointer (some ⟨k, 0, none⟩)] w' fun e w'' => e = .returned (.bool ((memS lx) s)) ∧ Fr (fun _ => False) w' w''))
  have H := hide h
  generalize hp : (memS lx) = p at *
  have HC' : Hid (∀ (w' : World) (hf : Fr (fun _ => False) w w') (s : ByteArray), Calls Tryz.prog 96 #[.string s, .pointer (some ⟨k, 0, none⟩)] w' fun e w'' => e = .returned (.bool (p s)) ∧ Fr (fun _ => False) w' w'') := HC
  clear h hk hx hlx hp HC
  go_enter Tryz.func51, Tryz.ntmps51
  go_wp2
  go_loopw [5, 8] (fun _ iv wr => ∃ (i : Nat), i ≤ l.length ∧ iv = .int .i64 i ∧ Hid (Fr (fun _ => False) w wr ∧ ixS p (l.drop i) i = ixS p l 0)) (fun _ iv _ => l.length - (intOf iv).toNat)
  case atStart => exact ⟨0, Nat.zero_le _, rfl, Fr.refl _ _, by simp⟩
  case round =>
    obtain ⟨i, hi, rfl, HI⟩ := hrel
    by_cases hil : i < l.length
    · obtain ⟨b, off, rfl, c0⟩ := ((unhide H).keep (unhide HI).1).at hil
      have ht := (unhide HI).2
      rw [List.drop_eq_getElem_cons hil, ixS] at ht
      have R := unhide HC' wr (unhide HI).1 l[i]
      generalize l[i] = x at *
      have HT := hide ht
      clear ht
      cases hx : p x with
      | true =>
        rw [hx] at R HT
        clear hx
        have HT' : Hid (ixS p l 0 = (i : Int)) := hide (by have := unhide HT; simpa using this.symm)
        clear HT
        go_wp2_with fail
        refine R.mono ?_
        rintro e w1 ⟨rfl, hF⟩
        have HF := hide ((unhide HI).1.trans hF (fun _ _ t => t))
        clear hF R
        go_wp2
        go_ret
        exact ⟨by rw [unhide HT']; rfl, unhide HF⟩
      | false =>
        rw [hx] at R HT
        clear hx
        have HT' : Hid (ixS p (l.drop (i + 1)) (i + 1) = ixS p l 0) := hide (by have := unhide HT; simpa using this)
        clear HT
        go_wp2_with fail
        refine R.mono ?_
        rintro e w1 ⟨rfl, hF⟩
        have HF := hide ((unhide HI).1.trans hF (fun _ _ t => t))
        clear hF R
        go_wp2
        exact ⟨⟨i + 1, by omega, by go_num, unhide HF, unhide HT'⟩, by simp [intOf]; omega⟩
    · obtain rfl : i = l.length := by omega
      have ht := (unhide HI).2
      rw [List.drop_length] at ht
      have HN := hide ht
      have HF := hide (unhide HI).1
      clear ht HI H
      go_wp2
      go_ret
      exact ⟨by rw [← unhide HN]; rfl, unhide HF⟩

theorem areApart_any (w : World) (ax : Option Addr) (cx : Nat) (lx : List ByteArray) (hx : SAt w ax lx) (hlx : listOk lx = true) (ao : Option Addr) (cap : Nat) (l : List ByteArray) (h : SAt w ao l) (hl : l.length ≤ 1000) :
    Calls Tryz.prog 79 #[.slice ao l.length cap, .slice ax lx.length cx] w fun e w' => e = .returned (.bool !(l.any (memS lx))) ∧ Fr (fun _ => False) w w' := by
  have R : ∀ t, Hid (∀ w', w' = w.alloc (.cells #[.slice ax lx.length cx] t) → Calls Tryz.prog 51 #[.slice ao l.length cap, .func (.func 96) #[] #[.pointer (some ⟨w.heap.size, 0, none⟩)]] w' fun e w' => e = .returned (.int .i64 (ixS (memS lx) l 0)) ∧ Fr (fun _ => False) w w') := fun t => hide (fun w' hw => by
    subst hw
    have hF : Fr (fun _ => False) w (w.alloc (.cells #[.slice ax lx.length cx] t)) := (Fr.refl _ _).alloc _
    refine (indexS_any _ w.heap.size ax cx lx (by simp) (hx.keep hF) hlx ao cap l (h.keep hF) hl).mono ?_
    rintro e w2 ⟨rfl, hF2⟩
    exact ⟨rfl, hF.trans hF2 (fun _ _ t => t)⟩)
  have HA := hide (ixS_any (memS lx) l 0)
  generalize ixS (memS lx) l 0 = m at R HA
  generalize l.any (memS lx) = y at HA ⊢
  clear hx hlx h
  have RC : ∀ t, Hid (∀ w', w' = w.alloc (.cells #[.slice ax lx.length cx] t) → Calls Tryz.prog 38 #[.slice ao l.length cap, .func (.func 96) #[] #[.pointer (some ⟨w.heap.size, 0, none⟩)]] w' fun e w' => e = .returned (.bool y) ∧ Fr (fun _ => False) w w') := fun t => hide (fun w' hw => by
    have R1 := hide (unhide (R t) w' hw)
    clear R hw
    go_enter Tryz.func38, Tryz.ntmps38
    go_wp2_with fail
    refine (unhide R1).mono ?_
    rintro e w1 ⟨rfl, hF⟩
    have HF := hide hF
    clear hF
    go_wp2
    go_ret
    exact ⟨by rw [← unhide HA]; rfl, unhide HF⟩)
  clear R HA
  go_enter Tryz.func79, Tryz.ntmps79
  go_wp2_with fail
  refine (unhide (RC _) _ rfl).mono ?_
  rintro e w1 ⟨rfl, hF⟩
  have HF := hide hF
  clear hF
  go_wp2
  go_ret
  exact ⟨rfl, unhide HF⟩

end Go.Proofs.YtmhljehkodhggaaGreat

/- Which deltas may be: the program's word, the document's. -/
namespace Go.Proofs.YtmhljehkodhggaaGreat
open Go.RowKit

/-- A delta of a list. -/
structure Dl where
  ver : Int
  add : List ByteArray
  gone : List ByteArray
def dlC (d : Dl) (a1 : Option Addr) (c1 : Nat) (a2 : Option Addr) (c2 : Nat) : Array Value := #[.int .i64 d.ver, .slice a1 d.add.length c1, .slice a2 d.gone.length c2]
def deltaOk (d : Dl) : Bool := decide (1 ≤ d.ver) && listOk d.add && listOk d.gone && !(d.add.any (memS d.gone))
def deltaE (d : Dl) : Int := if deltaOk d then 0 else 80

theorem listOk_len {l : List ByteArray} (h : listOk l = true) : l.length ≤ 1000 := by
  simp only [listOk, Bool.and_eq_true, decide_eq_true_eq] at h
  exact h.1

set_option maxHeartbeats 1000000 in
theorem deltaError_any (d : Dl) (w : World) (a1 : Option Addr) (c1 : Nat) (a2 : Option Addr) (c2 : Nat) (h1 : SAt w a1 d.add) (h2 : SAt w a2 d.gone) (l1 : d.add.length ≤ 140737488355328) (l2 : d.gone.length ≤ 140737488355328) :
    Calls Tryz.prog 59 #[.agg (dlC d a1 c1 a2 c2)] w fun e w' => e = .returned (.int .i64 (deltaE d)) ∧ Fr (fun _ => False) w w' := by
  have hA : Fr (fun _ => False) w (w.alloc (.cells (dlC d a1 c1 a2 c2) 26)) := (Fr.refl _ _).alloc _
  have RL1 : Hid (∀ w1, Fr (fun _ => False) w w1 → Calls Tryz.prog 78 #[.slice a1 d.add.length c1] w1 fun e w' => e = .returned (.bool (listOk d.add)) ∧ Fr (fun _ => False) w1 w') := hide (fun w1 hf => areListed_any w1 a1 c1 d.add (h1.keep hf) l1)
  have RL2 : Hid (∀ w1, Fr (fun _ => False) w w1 → Calls Tryz.prog 78 #[.slice a2 d.gone.length c2] w1 fun e w' => e = .returned (.bool (listOk d.gone)) ∧ Fr (fun _ => False) w1 w') := hide (fun w1 hf => areListed_any w1 a2 c2 d.gone (h2.keep hf) l2)
  have RA : Hid (listOk d.add = true → listOk d.gone = true → ∀ w1, Fr (fun _ => False) w w1 → Calls Tryz.prog 79 #[.slice a1 d.add.length c1, .slice a2 d.gone.length c2] w1 fun e w' => e = .returned (.bool !(d.add.any (memS d.gone))) ∧ Fr (fun _ => False) w1 w') := hide (fun k1 k2 w1 hf => areApart_any w1 a2 c2 d.gone (h2.keep hf) k2 a1 c1 d.add (h1.keep hf) (listOk_len k1))
  have D : Hid (∀ w1, Fr (fun _ => False) (w.alloc (.cells (dlC d a1 c1 a2 c2) 26)) w1 → w1.cell? ⟨w.heap.size, 0, none⟩ = some (.int .i64 d.ver) ∧ w1.cell? ⟨w.heap.size, 1, none⟩ = some (.slice a1 d.add.length c1) ∧ w1.cell? ⟨w.heap.size, 2, none⟩ = some (.slice a2 d.gone.length c2)) := hide (fun w1 hf => by
    refine ⟨?_, ?_, ?_⟩ <;> (rw [hf.cell (by simp) (fun t => t)]; simp [dlC]))
  have HA := hide hA
  have HE : Hid (deltaE d = if decide (1 ≤ d.ver) && listOk d.add && listOk d.gone && !(d.add.any (memS d.gone)) then 0 else 80) := hide rfl
  clear h1 h2 l1 l2 hA
  unfold dlC at D HA ⊢
  generalize hq : deltaE d = E at HE ⊢
  clear hq
  generalize d.add.length = n1 at *
  generalize d.gone.length = n2 at *
  generalize d.add.any (memS d.gone) = b3 at *
  generalize listOk d.add = b1 at *
  generalize listOk d.gone = b2 at *
  generalize d.ver = v at *
  clear d
  by_cases hv : 1 ≤ v
  · cases b1
    · go_enter Tryz.func59, Tryz.ntmps59
      go_wp2_with fail
      refine (unhide RL1 _ (unhide HA)).mono ?_
      rintro e w1 ⟨rfl, hF⟩
      have HF := hide ((unhide HA).trans hF (fun _ _ t => t))
      clear hF
      go_wp2_with fail
      refine (errorUnless_any false _).mono ?_
      rintro e w1 ⟨rfl, hq⟩
      obtain rfl := hq.symm
      go_wp2
      go_ret
      exact ⟨by rw [unhide HE]; simp, unhide HF⟩
    · go_enter Tryz.func59, Tryz.ntmps59
      go_wp2_with fail
      refine (unhide RL1 _ (unhide HA)).mono ?_
      rintro e w1 ⟨rfl, hF⟩
      have HF := hide hF
      obtain ⟨k0, k1, k2⟩ := unhide D w1 hF
      clear hF
      go_wp2_with fail
      refine (unhide RL2 _ ((unhide HA).trans (unhide HF) (fun _ _ t => t))).mono ?_
      rintro e w2 ⟨rfl, hF⟩
      have HF2 := hide ((unhide HF).trans hF (fun _ _ t => t))
      obtain ⟨m0, m1, m2⟩ := unhide D w2 (unhide HF2)
      clear hF
      cases b2
      · go_wp2_with fail
        refine (errorUnless_any false _).mono ?_
        rintro e w1 ⟨rfl, hq⟩
        obtain rfl := hq.symm
        go_wp2
        go_ret
        exact ⟨by rw [unhide HE]; simp, (unhide HA).trans (unhide HF2) (fun _ _ t => t)⟩
      · go_wp2_with fail
        refine (unhide RA trivial trivial _ ((unhide HA).trans (unhide HF2) (fun _ _ t => t))).mono ?_
        rintro e w3 ⟨rfl, hF⟩
        have HF3 := hide ((unhide HA).trans ((unhide HF2).trans hF (fun _ _ t => t)) (fun _ _ t => t))
        clear hF
        cases b3
        all_goals
          go_wp2_with fail
          refine (errorUnless_any _ _).mono ?_
          rintro e w1 ⟨rfl, hq⟩
          obtain rfl := hq.symm
          go_wp2
          go_ret
          exact ⟨by rw [unhide HE, decide_eq_true (by omega)]; rfl, unhide HF3⟩
  · go_enter Tryz.func59, Tryz.ntmps59
    go_wp2_with fail
    refine (errorUnless_any false _).mono ?_
    rintro e w1 ⟨rfl, hq⟩
    obtain rfl := hq.symm
    go_wp2
    go_ret
    exact ⟨by rw [unhide HE, decide_eq_false (by omega)]; rfl, unhide HA⟩

theorem rising_any (w : World) (ao : Option Addr) (cap : Nat) (l : List ByteArray) (h : SAt w ao l) (hl : l.length ≤ 140737488355328) :
    Calls Tryz.prog 47 #[.slice ao l.length cap] w fun e w' => e = .returned (.bool (listOk l)) ∧ Fr (fun _ => False) w w' := by
  obtain ⟨y, HY⟩ : ∃ y, Hid (listOk l = y) := ⟨_, rfl⟩
  rw [unhide HY]
  have H := hide h
  clear h
  by_cases hlong : 1000 < l.length
  · have HT : Hid (y = false) := hide (by rw [← unhide HY, listOk_long hlong])
    clear HY H
    go_enter Tryz.func47, Tryz.ntmps47
    go_wp2
    go_ret
    exact ⟨by rw [unhide HT]; rfl, Fr.refl _ _⟩
  go_enter Tryz.func47, Tryz.ntmps47
  go_wp2
  go_loopw [3] (fun iv wr => ∃ (i : Nat), i ≤ l.length ∧ iv = .int .i64 i ∧ Hid (Fr (fun _ => False) w wr ∧ ∀ k, k < i → okAt l k = true)) (fun iv _ => l.length - (intOf iv).toNat)
  case atStart => exact ⟨0, Nat.zero_le _, rfl, Fr.refl _ _, fun k hk => absurd hk (Nat.not_lt_zero k)⟩
  case round =>
    obtain ⟨i, hi, rfl, HI⟩ := hrel
    by_cases hil : i < l.length
    · obtain ⟨b, off, rfl, hc⟩ := ((unhide H).keep (unhide HI).1) (by omega)
      have c0 := hc i hil
      obtain ⟨t, ht⟩ : ∃ t, isTok (l.getD i ⟨#[]⟩) = t := ⟨_, rfl⟩
      cases t with
      | false =>
        have HT : Hid (y = false) := hide (by rw [← unhide HY]; exact listOk_bad hil (by unfold okAt; rw [ht]; rfl))
        generalize l.getD i ⟨#[]⟩ = x at *
        have hd : ((x.size : Int) == 8) = false := ht
        have hn : ((x.size : Int) != 8) = true := by rw [bne, hd]; rfl
        clear HY hc ht
        go_wp2
        go_quiet (fail)
        go_wp2
        go_ret
        exact ⟨by rw [unhide HT]; rfl, (unhide HI).1.drewN _⟩
      | true =>
        cases i with
        | zero =>
          have HT : Hid (okAt l 0 = true) := hide (by unfold okAt; rw [ht]; rfl)
          generalize l.getD 0 ⟨#[]⟩ = x at *
          have hd : ((x.size : Int) == 8) = true := ht
          have hn : ((x.size : Int) != 8) = false := by rw [bne, hd]; rfl
          rw [Nat.add_zero] at c0
          clear hc ht
          go_wp2
          go_quiet (fail)
          go_wp2
          exact ⟨⟨1, by omega, by go_num, (unhide HI).1.drewN _, upto_all (unhide HI).2 (unhide HT)⟩, by simp [intOf]; omega⟩
        | succ m =>
          have c1 := hc m (by omega)
          obtain ⟨z, HZ⟩ : ∃ z, Hid ((ltS (l.getD (m + 1) ⟨#[]⟩) (l.getD m ⟨#[]⟩) || eqS (l.getD (m + 1) ⟨#[]⟩) (l.getD m ⟨#[]⟩)) = z) := ⟨_, rfl⟩
          have HT : Hid (okAt l (m + 1) = !z) := hide (by unfold okAt; rw [ht, Nat.add_one_sub_one, unhide HZ]; simp)
          generalize l.getD (m + 1) ⟨#[]⟩ = x at *
          generalize l.getD m ⟨#[]⟩ = x' at *
          have hd : ((x.size : Int) == 8) = true := ht
          have hn : ((x.size : Int) != 8) = false := by rw [bne, hd]; rfl
          have hz : (Op.bytesLess x.toList x'.toList || x.toList == x'.toList) = z := unhide HZ
          clear ht hc
          go_wp2
          go_quiet (fail)
          go_wp2
          · rename_i hh
            go_ret
            exact ⟨by rw [← unhide HY, listOk_bad hil (by rw [unhide HT, hh]; rfl)]; rfl, (unhide HI).1.drewN _⟩
          · rename_i hh
            refine ⟨⟨m + 2, by omega, by go_num, (unhide HI).1.drewN _, upto_all (unhide HI).2 (by rw [unhide HT, hh]; rfl)⟩, ?_⟩
            simp [intOf]
            omega
    · obtain rfl : i = l.length := by omega
      have HT : Hid (y = true) := hide (by rw [← unhide HY]; exact listOk_all (by omega) (unhide HI).2)
      have HF := hide (unhide HI).1
      clear HI H HY
      go_wp2
      go_ret
      exact ⟨by rw [unhide HT]; rfl, unhide HF⟩

/-- Has the document's own search through two lists come so far with nothing found? -/
def FarS (l g : List ByteArray) (i j : Nat) : Prop := (∀ k, k < i → memS g (l.getD k ⟨#[]⟩) = false) ∧ ∀ m, m < j → eqS (g.getD m ⟨#[]⟩) (l.getD i ⟨#[]⟩) = false

theorem mem_not {g : List ByteArray} {s : ByteArray} (h : ∀ m, m < g.length → eqS (g.getD m ⟨#[]⟩) s = false) : memS g s = false := by
  cases hm : memS g s with
  | false => rfl
  | true =>
    obtain ⟨i, hi, he⟩ := memS_iff.1 hm
    have := h i hi
    unfold eqS at this
    rw [he, beq_self_eq_true] at this
    cases this
theorem any_not {l g : List ByteArray} (h : ∀ k, k < l.length → memS g (l.getD k ⟨#[]⟩) = false) : l.any (memS g) = false := by
  rw [List.any_eq_false]
  intro x hx
  obtain ⟨i, hi, rfl⟩ := List.mem_iff_getElem.1 hx
  rw [← getD_eq hi, h i hi]
  exact Bool.false_ne_true
theorem any_hit {l g : List ByteArray} {i m : Nat} (hi : i < l.length) (hm : m < g.length) (h : eqS (g.getD m ⟨#[]⟩) (l.getD i ⟨#[]⟩) = true) : l.any (memS g) = true := by
  rw [List.any_eq_true]
  refine ⟨l[i], List.getElem_mem hi, memS_iff.2 ⟨m, hm, ?_⟩⟩
  rw [← getD_eq hi]
  exact eq_of_beq h

set_option maxHeartbeats 1000000 in
theorem deltaRight_any (d : Dl) (w : World) (a1 : Option Addr) (c1 : Nat) (a2 : Option Addr) (c2 : Nat) (h1 : SAt w a1 d.add) (h2 : SAt w a2 d.gone) (l1 : d.add.length ≤ 140737488355328) (l2 : d.gone.length ≤ 140737488355328) :
    Calls Tryz.prog 31 #[.agg (dlC d a1 c1 a2 c2)] w fun e w' => e = .returned (.bool (deltaOk d)) ∧ Fr (fun _ => False) w w' := by
  have hA : Fr (fun _ => False) w (w.alloc (.cells (dlC d a1 c1 a2 c2) 26)) := (Fr.refl _ _).alloc _
  have RL1 : Hid (∀ w1, Fr (fun _ => False) w w1 → Calls Tryz.prog 47 #[.slice a1 d.add.length c1] w1 fun e w' => e = .returned (.bool (listOk d.add)) ∧ Fr (fun _ => False) w1 w') := hide (fun w1 hf => rising_any w1 a1 c1 d.add (h1.keep hf) l1)
  have RL2 : Hid (∀ w1, Fr (fun _ => False) w w1 → Calls Tryz.prog 47 #[.slice a2 d.gone.length c2] w1 fun e w' => e = .returned (.bool (listOk d.gone)) ∧ Fr (fun _ => False) w1 w') := hide (fun w1 hf => rising_any w1 a2 c2 d.gone (h2.keep hf) l2)
  have D : Hid (∀ w1, Fr (fun _ => False) (w.alloc (.cells (dlC d a1 c1 a2 c2) 26)) w1 → w1.cell? ⟨w.heap.size, 0, none⟩ = some (.int .i64 d.ver) ∧ w1.cell? ⟨w.heap.size, 1, none⟩ = some (.slice a1 d.add.length c1) ∧ w1.cell? ⟨w.heap.size, 2, none⟩ = some (.slice a2 d.gone.length c2)) := hide (fun w1 hf => by
    refine ⟨?_, ?_, ?_⟩ <;> (rw [hf.cell (by simp) (fun t => t)]; simp [dlC]))
  have HA := hide hA
  have HE : Hid (deltaOk d = (decide (1 ≤ d.ver) && listOk d.add && listOk d.gone && !(d.add.any (memS d.gone)))) := hide rfl
  have H1 := hide h1
  have H2 := hide h2
  have N1 := hide (fun (h : listOk d.add = true) => listOk_len h)
  have N2 := hide (fun (h : listOk d.gone = true) => listOk_len h)
  clear h1 h2 l1 l2 hA
  unfold dlC at D HA ⊢
  generalize hq : deltaOk d = E at HE ⊢
  clear hq
  obtain ⟨v, add, gone⟩ := d
  simp only at RL1 RL2 D HA HE H1 H2 N1 N2 ⊢
  generalize hb1 : listOk add = b1 at *
  generalize hb2 : listOk gone = b2 at *
  clear hb1 hb2
  by_cases hb : (b1 && b2 && decide (1 ≤ v)) = false
  · have HE' : Hid (E = false) := hide (by rw [unhide HE]; revert hb; cases b1 <;> cases b2 <;> simp <;> omega)
    clear HE N1 N2 H1 H2
    cases b1
    all_goals
      try (have hv : ¬ 1 ≤ v ∨ b2 = false := by revert hb; cases b2 <;> simp <;> omega)
      clear hb
      go_enter Tryz.func31, Tryz.ntmps31
      go_wp2_with fail
      refine (unhide RL1 _ (unhide HA)).mono ?_
      rintro e w1 ⟨rfl, hF⟩
      have HF := hide hF
      obtain ⟨k0, k1, k2⟩ := unhide D w1 hF
      clear hF
      go_wp2_with fail
      refine (unhide RL2 _ ((unhide HA).trans (unhide HF) (fun _ _ t => t))).mono ?_
      rintro e w2 ⟨rfl, hF⟩
      have HF2 := hide ((unhide HF).trans hF (fun _ _ t => t))
      obtain ⟨m0, m1, m2⟩ := unhide D w2 (unhide HF2)
      clear hF
    · go_wp2
      go_ret
      exact ⟨by rw [unhide HE']; rfl, (unhide HA).trans (unhide HF2) (fun _ _ t => t)⟩
    · cases b2
      · clear hv
        go_wp2
        go_ret
        exact ⟨by rw [unhide HE']; rfl, (unhide HA).trans (unhide HF2) (fun _ _ t => t)⟩
      · have hv' : v < 1 := by rcases hv with h | h; omega; cases h
        clear hv
        go_wp2
        go_ret
        exact ⟨by rw [unhide HE']; rfl, (unhide HA).trans (unhide HF2) (fun _ _ t => t)⟩
  · obtain ⟨rfl, rfl, hv⟩ : b1 = true ∧ b2 = true ∧ 1 ≤ v := by
      revert hb; cases b1 <;> cases b2 <;> simp
    have n1 := unhide N1 rfl
    have n2 := unhide N2 rfl
    have HE' : Hid (E = !(add.any (memS gone))) := hide (by rw [unhide HE, decide_eq_true hv]; rfl)
    clear hb HE N1 N2
    go_enter Tryz.func31, Tryz.ntmps31
    go_wp2_with fail
    refine (unhide RL1 _ (unhide HA)).mono ?_
    rintro e w1 ⟨rfl, hF⟩
    have HF := hide hF
    obtain ⟨k0, k1, k2⟩ := unhide D w1 hF
    clear hF
    go_wp2_with fail
    refine (unhide RL2 _ ((unhide HA).trans (unhide HF) (fun _ _ t => t))).mono ?_
    rintro e w2 ⟨rfl, hF⟩
    have HF2 := hide ((unhide HF).trans hF (fun _ _ t => t))
    obtain ⟨m0, m1, m2⟩ := unhide D w2 (unhide HF2)
    clear hF k0 k1 k2 HF RL1 RL2
    go_wp2
    clear m0 m1 m2
    go_loopw [5, 6] (fun iv _ wr => ∃ (i : Nat), i ≤ add.length ∧ iv = .int .i64 i ∧ Hid (Fr (fun _ => False) (w.alloc (.cells #[.int .i64 v, .slice a1 add.length c1, .slice a2 gone.length c2] 26)) wr ∧ FarS add gone i 0)) (fun iv _ _ => add.length - (intOf iv).toNat)
    case atStart => exact ⟨0, Nat.zero_le _, rfl, unhide HF2, fun k hk => absurd hk (Nat.not_lt_zero k), fun k hk => absurd hk (Nat.not_lt_zero k)⟩
    case round =>
      obtain ⟨i, hi, rfl, HI⟩ := hrel
      obtain ⟨m0, m1, m2⟩ := unhide D wr (unhide HI).1
      by_cases hil : i < add.length
      · go_wp2
        clear m0 m1 m2
        go_loopw [6] (fun jv wq => ∃ (j : Nat), j ≤ gone.length ∧ jv = .int .i64 j ∧ Hid (Fr (fun _ => False) (w.alloc (.cells #[.int .i64 v, .slice a1 add.length c1, .slice a2 gone.length c2] 26)) wq ∧ FarS add gone i j)) (fun jv _ => gone.length - (intOf jv).toNat)
        case atStart => exact ⟨0, Nat.zero_le _, rfl, unhide HI⟩
        case round =>
          obtain ⟨j, hj, rfl, HJ⟩ := hrel
          obtain ⟨m0, m1, m2⟩ := unhide D wr (unhide HJ).1
          by_cases hjl : j < gone.length
          · obtain ⟨p1, o1, rfl, hc1⟩ := ((unhide H1).keep ((unhide HA).trans (unhide HJ).1 (fun _ _ t => t))) (by omega)
            obtain ⟨p2, o2, rfl, hc2⟩ := ((unhide H2).keep ((unhide HA).trans (unhide HJ).1 (fun _ _ t => t))) (by omega)
            have e1 := hc1 i hil
            have e2 := hc2 j hjl
            obtain ⟨z, HZ⟩ : ∃ z, Hid (eqS (gone.getD j ⟨#[]⟩) (add.getD i ⟨#[]⟩) = z) := ⟨_, rfl⟩
            have hz : ((add.getD i ⟨#[]⟩).toList == (gone.getD j ⟨#[]⟩).toList) = z := by
              rw [Bool.beq_comm]
              exact unhide HZ
            obtain ⟨x, HX⟩ : ∃ x, Hid (add.getD i ⟨#[]⟩ = x) := ⟨_, rfl⟩
            obtain ⟨x', HX'⟩ : ∃ x, Hid (gone.getD j ⟨#[]⟩ = x) := ⟨_, rfl⟩
            rw [unhide HX] at e1
            rw [unhide HX'] at e2
            rw [unhide HX, unhide HX'] at hz
            clear hc1 hc2 HX HX'
            cases z
            · go_wp2
              go_quiet (fail)
              go_wp2
              refine ⟨⟨j + 1, by omega, by go_num, (unhide HJ).1.drewN _, (unhide HJ).2.1, fun m hm => ?_⟩, by simp [intOf]; omega⟩
              by_cases e : m = j
              · subst e; exact unhide HZ
              · exact (unhide HJ).2.2 m (by omega)
            · have HT : Hid (E = false) := hide (by rw [unhide HE', any_hit hil hjl (unhide HZ)]; rfl)
              go_wp2
              go_quiet (fail)
              go_wp2
              go_ret
              exact ⟨by rw [unhide HT]; rfl, (unhide HA).trans ((unhide HJ).1.drewN _) (fun _ _ t => t)⟩
          · obtain rfl : j = gone.length := by omega
            go_wp2
            refine ⟨⟨i + 1, by omega, by go_num, (unhide HJ).1, fun k hk => ?_, fun k hk => absurd hk (Nat.not_lt_zero k)⟩, by simp [intOf]; omega⟩
            by_cases e : k = i
            · subst e; exact mem_not (unhide HJ).2.2
            · exact (unhide HJ).2.1 k (by omega)
      · obtain rfl : i = add.length := by omega
        have HT : Hid (E = true) := hide (by rw [unhide HE', any_not (unhide HI).2.1]; rfl)
        go_wp2
        go_ret
        exact ⟨by rw [unhide HT]; rfl, (unhide HA).trans (unhide HI).1 (fun _ _ t => t)⟩

end Go.Proofs.YtmhljehkodhggaaGreat

