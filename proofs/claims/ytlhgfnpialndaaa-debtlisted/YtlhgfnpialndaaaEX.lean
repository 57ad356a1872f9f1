import Derived.Test.YtlhgfnpialndaaaE1
/- Which deltas may be: lists of tokens, rising; two lists apart. -/
namespace Go.Proofs.Ytlhgfnpialndaaa
open Go.RowKit

/-- A text ahead of another one; the same text. -/
abbrev ltS (a b : ByteArray) : Bool := Op.bytesLess a.toList b.toList
abbrev eqS (a b : ByteArray) : Bool := a.toList == b.toList

theorem less_irrefl : ∀ (a : List UInt8), Op.bytesLess a a = false
  | [] => rfl
  | x :: r => by simp [Op.bytesLess, less_irrefl r]
theorem less_trans : ∀ (a b c : List UInt8), Op.bytesLess a b = true → Op.bytesLess b c = true → Op.bytesLess a c = true
  | _, [], _, h1, _ => by simp [Op.bytesLess] at h1
  | _, _ :: _, [], _, h2 => by simp [Op.bytesLess] at h2
  | [], _ :: _, _ :: _, _, _ => by simp [Op.bytesLess]
  | x :: a, y :: b, z :: c, h1, h2 => by
    simp only [Op.bytesLess, Bool.or_eq_true, Bool.and_eq_true, decide_eq_true_eq, beq_iff_eq] at h1 h2 ⊢
    rcases h1 with h1 | ⟨rfl, h1⟩
    · rcases h2 with h2 | ⟨rfl, _⟩
      · left; exact UInt8.lt_trans h1 h2
      · left; exact h1
    · rcases h2 with h2 | ⟨rfl, h2⟩
      · left; exact h2
      · right; exact ⟨rfl, less_trans a b c h1 h2⟩
theorem less_total : ∀ (a b : List UInt8), Op.bytesLess a b = true ∨ a = b ∨ Op.bytesLess b a = true
  | [], [] => by simp
  | [], _ :: _ => by simp [Op.bytesLess]
  | _ :: _, [] => by simp [Op.bytesLess]
  | x :: a, y :: b => by
    simp only [Op.bytesLess, Bool.or_eq_true, Bool.and_eq_true, decide_eq_true_eq, beq_iff_eq, List.cons.injEq]
    rcases Nat.lt_trichotomy x.toNat y.toNat with h | h | h
    · left; left; exact UInt8.lt_iff_toNat_lt.2 h
    · have e : x = y := UInt8.toNat_inj.1 h
      subst e
      rcases less_total a b with k | k | k
      · left; right; exact ⟨rfl, k⟩
      · right; left; exact ⟨rfl, k⟩
      · right; right; right; exact ⟨rfl, k⟩
    · right; right; left; exact UInt8.lt_iff_toNat_lt.2 h

/-- May the token at a place stand there? -/
def okAt (l : List ByteArray) (i : Nat) : Bool := isTok (l.getD i ⟨#[]⟩) && (decide (i = 0) || !(ltS (l.getD i ⟨#[]⟩) (l.getD (i - 1) ⟨#[]⟩) || eqS (l.getD i ⟨#[]⟩) (l.getD (i - 1) ⟨#[]⟩)))
/-- Are these tokens, rising, not too many? -/
def listOk (l : List ByteArray) : Bool := decide (l.length ≤ 1000) && (List.range l.length).all (okAt l)

theorem listOk_at {l : List ByteArray} (h : listOk l = true) {i : Nat} (hi : i < l.length) : okAt l i = true := by
  simp only [listOk, Bool.and_eq_true, List.all_eq_true, List.mem_range] at h
  exact h.2 i hi

theorem rise_one {l : List ByteArray} (h : listOk l = true) {i : Nat} (hi : i + 1 < l.length) : ltS (l.getD i ⟨#[]⟩) (l.getD (i + 1) ⟨#[]⟩) = true := by
  have h1 := listOk_at h hi
  simp only [okAt, ltS, eqS, Bool.and_eq_true, Nat.add_one_sub_one, Bool.or_eq_true, decide_eq_true_eq, Bool.not_eq_true', Bool.or_eq_false_iff, Nat.add_one_ne_zero, false_or] at h1
  show Op.bytesLess _ _ = true
  rcases less_total (l.getD i ⟨#[]⟩).toList (l.getD (i + 1) ⟨#[]⟩).toList with k | k | k
  · exact k
  · have h2 := h1.2.2
    rw [k, beq_self_eq_true] at h2
    cases h2
  · have h2 := h1.2.1
    rw [k] at h2
    cases h2

theorem rises {l : List ByteArray} (h : listOk l = true) {i j : Nat} (hij : i < j) (hj : j < l.length) : ltS (l.getD i ⟨#[]⟩) (l.getD j ⟨#[]⟩) = true := by
  induction j with
  | zero => omega
  | succ j ih =>
    by_cases e : i = j
    · subst e; exact rise_one h hj
    · exact less_trans _ _ _ (ih (by omega) (by omega)) (rise_one h hj)

/-- Is a text in a list? -/
def memS (l : List ByteArray) (s : ByteArray) : Bool := l.any (fun x => eqS x s)

theorem getD_eq {l : List ByteArray} {i : Nat} (hi : i < l.length) : l.getD i ⟨#[]⟩ = l[i] := by simp [List.getD, hi]

theorem memS_iff {l : List ByteArray} {s : ByteArray} : memS l s = true ↔ ∃ i, i < l.length ∧ (l.getD i ⟨#[]⟩).toList = s.toList := by
  unfold memS
  rw [List.any_eq_true]
  constructor
  · rintro ⟨x, hx, he⟩
    obtain ⟨i, hi, rfl⟩ := List.mem_iff_getElem.1 hx
    exact ⟨i, hi, by rw [getD_eq hi]; simpa using he⟩
  · rintro ⟨i, hi, he⟩
    exact ⟨l[i], List.getElem_mem hi, by rw [getD_eq hi] at he; simpa using he⟩

/-- Where the search has come to. -/
def Sought (l : List ByteArray) (s : ByteArray) (i j : Nat) : Prop := i ≤ j ∧ j ≤ l.length ∧ (∀ k, k < i → ltS (l.getD k ⟨#[]⟩) s = true) ∧ (∀ k, j ≤ k → k < l.length → ltS (l.getD k ⟨#[]⟩) s = false)

theorem Sought.up {l : List ByteArray} {s : ByteArray} {i j h : Nat} (hl : listOk l = true) (hs : Sought l s i j) (h1 : h < j) (hh : ltS (l.getD h ⟨#[]⟩) s = true) : Sought l s (h + 1) j := by
  obtain ⟨a, b, c, d⟩ := hs
  refine ⟨by omega, b, fun k hk => ?_, d⟩
  by_cases e : k = h
  · subst e; exact hh
  · exact less_trans _ _ _ (rises hl (show k < h by omega) (by omega)) hh

theorem Sought.down {l : List ByteArray} {s : ByteArray} {i j h : Nat} (hl : listOk l = true) (hs : Sought l s i j) (h0 : i ≤ h) (h1 : h < j) (hh : ltS (l.getD h ⟨#[]⟩) s = false) : Sought l s i h := by
  obtain ⟨a, b, c, d⟩ := hs
  refine ⟨h0, by omega, c, fun k hk hk2 => ?_⟩
  by_cases e : k = h
  · subst e; exact hh
  · cases hx : ltS (l.getD k ⟨#[]⟩) s with
    | false => rfl
    | true =>
      have h3 : ltS (l.getD h ⟨#[]⟩) s = true := less_trans _ _ _ (rises hl (show h < k by omega) hk2) hx
      rw [h3] at hh
      cases hh

theorem Sought.found {l : List ByteArray} {s : ByteArray} {i : Nat} (hl : listOk l = true) (hs : Sought l s i i) : memS l s = (decide (i < l.length) && eqS (l.getD i ⟨#[]⟩) s) := by
  obtain ⟨a, b, c, d⟩ := hs
  rw [Bool.eq_iff_iff, memS_iff]
  simp only [Bool.and_eq_true, decide_eq_true_eq, beq_iff_eq]
  constructor
  · rintro ⟨m, hm, he⟩
    have h1 : ¬ m < i := fun hlt => by
      have := c m hlt
      unfold ltS at this
      rw [he, less_irrefl] at this
      cases this
    have h2 : ¬ i < m := fun hlt => by
      have h3 := rises hl hlt hm
      unfold ltS at h3
      rw [he] at h3
      have h4 := d i (Nat.le_refl _) (by omega)
      unfold ltS at h4
      rw [h3] at h4
      cases h4
    obtain rfl : m = i := by omega
    exact ⟨hm, he⟩
  · rintro ⟨h1, h2⟩
    exact ⟨i, h1, h2⟩

/-- A list of texts in memory. -/
def SAt (w : World) (ao : Option Addr) (l : List ByteArray) : Prop := 0 < l.length → ∃ b off, ao = some ⟨b, off, none⟩ ∧ ∀ j, j < l.length → w.cell? ⟨b, off + j, none⟩ = some (.string (l.getD j ⟨#[]⟩))

theorem SAt.keep {w w' : World} {ao : Option Addr} {l : List ByteArray} (h : SAt w ao l) (hf : Fr (fun _ => False) w w') : SAt w' ao l := fun h0 => by
  obtain ⟨b, off, e, hc⟩ := h h0
  exact ⟨b, off, e, fun j hj => (hf.cell (a := ⟨b, off + j, none⟩) (World.block_lt_of_cell? _ _ (hc j hj)) (fun t => t)).trans (hc j hj)⟩

theorem cat_sat {w : World} {ao : Option Addr} {l : List ByteArray} (h : CAt w ao (tkV l)) : SAt w ao l := fun h0 => by
  have hL := tkV_length l
  obtain ⟨b, off, e, hc⟩ := h (by omega)
  refine ⟨b, off, e, fun j hj => ?_⟩
  rw [hc j (by omega)]
  have := flat_get tkC 1 (fun _ => rfl) l j hj 0 (by omega)
  rw [Nat.mul_one, Nat.add_zero] at this
  have h2 : (tkV l)[j]? = (tkC l[j])[0]? := this
  rw [List.getElem?_eq_getElem (by omega)] at h2
  rw [h2, getD_eq hj]
  rfl

theorem nan9 (s : ByteArray) (w : World) : Calls Try.prog 89 #[.string s] w fun e w' => e = .returned (.bool false) ∧ w' = w := by
  go_enter Try.func89, Try.ntmps89
  go_wp2
  go_ret
  exact ⟨by first | rfl | simp, rfl⟩
theorem less9 {a b : ByteArray} {r : Bool} (hr : ltS a b = r) (w : World) : Calls Try.prog 68 #[.string a, .string b] w fun e w' => e = .returned (.bool r) ∧ w' = w := by
  have HR := hide hr
  clear hr
  go_enter Try.func68, Try.ntmps68
  go_wp2_with fail
  refine (nan9 a _).mono ?_
  rintro e w1 ⟨rfl, rfl⟩
  go_wp2
  go_ret
  exact ⟨by rw [← unhide HR]; rfl, rfl⟩

end Go.Proofs.Ytlhgfnpialndaaa

/- A list of tokens that may be; the search in it; two lists apart. -/
namespace Go.Proofs.Ytlhgfnpialndaaa
open Go.RowKit

theorem upto_all {l : List ByteArray} {i : Nat} (h : ∀ k, k < i → okAt l k = true) (hi : okAt l i = true) : ∀ k, k < i + 1 → okAt l k = true := fun k hk => by
  by_cases e : k = i
  · subst e; exact hi
  · exact h k (by omega)
theorem listOk_all {l : List ByteArray} (hl : l.length ≤ 1000) (h : ∀ k, k < l.length → okAt l k = true) : listOk l = true := by
  simp only [listOk, Bool.and_eq_true, decide_eq_true_eq, List.all_eq_true, List.mem_range]
  exact ⟨hl, h⟩
theorem listOk_bad {l : List ByteArray} {i : Nat} (hi : i < l.length) (h : okAt l i = false) : listOk l = false := by
  cases hb : listOk l with
  | false => rfl
  | true => rw [listOk_at hb hi] at h; cases h
theorem listOk_long {l : List ByteArray} (hl : 1000 < l.length) : listOk l = false := by
  unfold listOk
  rw [decide_eq_false (by omega)]
  rfl

/-- The first index that is as wanted, or -1. -/
def ixS (p : ByteArray → Bool) : List ByteArray → Nat → Int
  | [], _ => -1
  | b :: r, i => if p b then (i : Int) else ixS p r (i + 1)

theorem ixS_any (p : ByteArray → Bool) : ∀ (l : List ByteArray) (i : Nat), decide (0 ≤ ixS p l i) = l.any p
  | [], _ => rfl
  | b :: r, i => by
    rw [ixS, List.any_cons]
    cases p b with
    | true => simp
    | false => simpa using ixS_any p r (i + 1)

theorem SAt.at {w : World} {ao : Option Addr} {l : List ByteArray} (h : SAt w ao l) {i : Nat} (hi : i < l.length) : ∃ b off, ao = some ⟨b, off, none⟩ ∧ w.cell? ⟨b, off + i, none⟩ = some (.string l[i]) := by
  obtain ⟨b, off, e, hc⟩ := h (by omega)
  exact ⟨b, off, e, by rw [hc i hi, getD_eq hi]⟩

end Go.Proofs.Ytlhgfnpialndaaa

/- Which deltas may be: the program's word, the document's. -/
namespace Go.Proofs.Ytlhgfnpialndaaa
open Go.RowKit

/-- A delta of a list. -/
structure Dl where
  ver : Int
  add : List ByteArray
  gone : List ByteArray
def dlC (d : Dl) (a1 : Option Addr) (c1 : Nat) (a2 : Option Addr) (c2 : Nat) : Array Value := #[.int .i64 d.ver, .slice a1 d.add.length c1, .slice a2 d.gone.length c2]
def deltaOk (d : Dl) : Bool := decide (1 ≤ d.ver) && listOk d.add && listOk d.gone && !(d.add.any (memS d.gone))
def deltaE (d : Dl) : Int := if deltaOk d then 0 else 80

theorem listOk_len {l : List ByteArray} (h : listOk l = true) : l.length ≤ 1000 := by
  simp only [listOk, Bool.and_eq_true, decide_eq_true_eq] at h
  exact h.1

/-- Has the document's own search through two lists come so far with nothing found? -/
def FarS (l g : List ByteArray) (i j : Nat) : Prop := (∀ k, k < i → memS g (l.getD k ⟨#[]⟩) = false) ∧ ∀ m, m < j → eqS (g.getD m ⟨#[]⟩) (l.getD i ⟨#[]⟩) = false

theorem mem_not {g : List ByteArray} {s : ByteArray} (h : ∀ m, m < g.length → eqS (g.getD m ⟨#[]⟩) s = false) : memS g s = false := by
  cases hm : memS g s with
  | false => rfl
  | true =>
    obtain ⟨i, hi, he⟩ := memS_iff.1 hm
    have := h i hi
    unfold eqS at this
    rw [he, beq_self_eq_true] at this
    cases this
theorem any_not {l g : List ByteArray} (h : ∀ k, k < l.length → memS g (l.getD k ⟨#[]⟩) = false) : l.any (memS g) = false := by
  rw [List.any_eq_false]
  intro x hx
  obtain ⟨i, hi, rfl⟩ := List.mem_iff_getElem.1 hx
  rw [← getD_eq hi, h i hi]
  exact Bool.false_ne_true
theorem any_hit {l g : List ByteArray} {i m : Nat} (hi : i < l.length) (hm : m < g.length) (h : eqS (g.getD m ⟨#[]⟩) (l.getD i ⟨#[]⟩) = true) : l.any (memS g) = true := by
  rw [List.any_eq_true]
  refine ⟨l[i], List.getElem_mem hi, memS_iff.2 ⟨m, hm, ?_⟩⟩
  rw [← getD_eq hi]
  exact eq_of_beq h

end Go.Proofs.Ytlhgfnpialndaaa

