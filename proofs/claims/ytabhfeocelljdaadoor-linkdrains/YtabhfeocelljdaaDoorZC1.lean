import Derived.Test.YtabhfeocelljdaaDoorZG0
import Derived.Test.YtabhfeocelljdaaDoorZG8
/- LinkOnce: mathematics. What a tick sends of a queue; what a receiver is told of it. -/
namespace Go.Proofs.YtabhfeocelljdaaDoor
open Go.RowKit

/-- A queue's items: consecutive numbers from one on. -/
def numI : Int → List (List UInt8) → List Itm
  | _, [] => []
  | q, b :: r => ⟨q, b⟩ :: numI (q + 1) r
theorem numI_length (q : Int) (l : List (List UInt8)) : (numI q l).length = l.length := by
  induction l generalizing q with
  | nil => rfl
  | cons b r ih => simp [numI, ih]
theorem numI_get (q : Int) (l : List (List UInt8)) (i : Nat) (h : i < l.length) : (numI q l)[i]'(by rw [numI_length]; exact h) = ⟨q + i, l[i]⟩ := by
  induction l generalizing q i with
  | nil => simp at h
  | cons b r ih =>
    cases i with
    | zero => simp [numI]
    | succ i =>
      simp only [numI, List.getElem_cons_succ]
      rw [ih (q + 1) i (by simpa using h)]
      congr 1
      omega
theorem numI_drop (q : Int) (l : List (List UInt8)) (k : Nat) : (numI q l).drop k = numI (q + k) (l.drop k) := by
  induction l generalizing q k with
  | nil => simp [numI]
  | cons b r ih =>
    cases k with
    | zero => simp
    | succ k =>
      simp only [numI, List.drop_succ_cons]
      rw [ih (q + 1) k]
      congr 1
      omega
theorem numI_append (q : Int) (l m : List (List UInt8)) : numI q (l ++ m) = numI q l ++ numI (q + l.length) m := by
  induction l generalizing q with
  | nil => simp [numI]
  | cons b r ih =>
    simp only [List.cons_append, numI, ih]
    congr 2
    rw [List.length_cons]
    congr 1
    omega
theorem numI_isQ (q : Int) (l : List (List UInt8)) (hq : 1 ≤ q) (hm : q + l.length ≤ 4294967296) (hl : ∀ b ∈ l, b.length ≤ 256) : isQ (numI q l) = true := by
  have key : ∀ (l : List (List UInt8)) (q : Int) (p : Option Int), 1 ≤ q → q + l.length ≤ 4294967296 → (∀ b ∈ l, b.length ≤ 256) → (p = none ∨ p = some (q - 1)) → isQgo p (numI q l) = true := by
    intro l
    induction l with
    | nil => intro q p _ _ _ _; rfl
    | cons b r ih =>
      intro q p h1 h2 h3 h4
      rw [List.length_cons] at h2
      have hb := h3 b (by simp)
      simp only [numI, isQgo, Bool.and_eq_true]
      refine ⟨⟨?_, ?_⟩, ih (q + 1) (some q) (by omega) (by omega) (fun x hx => h3 x (by simp [hx])) (.inr (by congr 1; omega))⟩
      · simp only [okI, longB, Bool.and_eq_true, decide_eq_true_eq, Bool.not_eq_true', decide_eq_false_iff_not]
        exact ⟨by omega, by omega⟩
      · rcases h4 with rfl | rfl
        · rfl
        · simp only [nextI, decide_eq_true_eq]; omega
  exact key l q none hq hm hl (.inl rfl)

/-- A frame tells what stands in a queue: of base, from its first number on. -/
def Tells (base : Int) (l : List (List UInt8)) (i : Nat) (f : Fm) : Prop := ∃ k : Nat, f.seq = base + k ∧ k + f.items.length ≤ i ∧ f.items = (l.drop k).take f.items.length
theorem tells_put {base bat clk : Int} {l : List (List UInt8)} {i : Nat} (hi : i < l.length) {fs : List Fm} (h : ∀ f ∈ fs, Tells base l i f) : ∀ f ∈ addF l[i] (openF bat base (base + i) fs), Tells base l (i + 1) f := by
  have _ := clk
  have mono : ∀ f, Tells base l i f → Tells base l (i + 1) f := fun f ⟨k, h1, h2, h3⟩ => ⟨k, h1, by omega, h3⟩
  unfold openF
  by_cases hj : joinsF bat fs (base + i) = true
  · rw [if_pos hj]
    unfold joinsF at hj
    rcases List.eq_nil_or_concat fs with rfl | ⟨pre, f, rfl⟩
    · simp at hj
    · rw [List.concat_eq_append] at *
      rw [List.getLast?_concat] at hj
      simp only [decide_eq_true_eq] at hj
      rw [addF_snoc]
      intro x hx
      rw [List.mem_append, List.mem_singleton] at hx
      rcases hx with hx | rfl
      · exact mono x (h x (List.mem_append_left _ hx))
      · obtain ⟨k, h1, h2, h3⟩ := h f (by simp)
        have hki : k + f.items.length = i := by omega
        refine ⟨k, h1, ?_, ?_⟩
        · show k + (f.items ++ [l[i]]).length ≤ i + 1
          simp; omega
        · show f.items ++ [l[i]] = (l.drop k).take (f.items ++ [l[i]]).length
          have hlt : f.items.length < (l.drop k).length := by rw [List.length_drop]; omega
          rw [List.length_append, List.length_singleton, List.take_succ_eq_append_getElem hlt, ← h3, List.getElem_drop]
          congr 2
          congr 1
          omega
  · rw [if_neg hj, addF_snoc]
    intro x hx
    rw [List.mem_append, List.mem_singleton] at hx
    rcases hx with hx | rfl
    · exact mono x (h x hx)
    · refine ⟨i, rfl, by simp, ?_⟩
      have hlt : 0 < (l.drop i).length := by rw [List.length_drop]; omega
      show [l[i]] = (l.drop i).take 1
      rw [List.take_succ_eq_append_getElem hlt]
      simp
theorem tick_tells (s : Snd) (base : Int) (l : List (List UInt8)) (hq : 1 ≤ base) (hm : base + l.length ≤ 4294967296) (hl : ∀ b ∈ l, b.length ≤ 256) : ∀ f ∈ (tickF s (numI base l)).2, Tells base l l.length f := by
  have hb : ∀ x y, numI base l = x :: y → x.seq = base := by
    intro x y h
    cases l with
    | nil => cases h
    | cons b r => simp only [numI, List.cons.injEq] at h; rw [← h.1]
  have key : ∀ n, n ≤ l.length → ∀ f ∈ (((numI base l).take n).foldl (stepT { s with clk := s.clk + 1 } (baseOf (numI base l))) (s.sent.filter (keepS (numI base l) (s.clk + 1) s.evy), [])).2, Tells base l n f := by
    intro n
    induction n with
    | zero => intro _ f hf; simp at hf
    | succ n ih =>
      intro hn f hf
      have hlt : n < (numI base l).length := by rw [numI_length]; omega
      rw [List.take_succ_eq_append_getElem hlt, List.foldl_append] at hf
      have ih' := ih (by omega)
      generalize ((numI base l).take n).foldl (stepT { s with clk := s.clk + 1 } (baseOf (numI base l))) (s.sent.filter (keepS (numI base l) (s.clk + 1) s.evy), []) = st at *
      have hbase : baseOf (numI base l) = base := by
        cases l with
        | nil => simp at hn
        | cons b r => rfl
      simp only [List.foldl_cons, List.foldl_nil, numI_get base l n (by omega)] at hf
      unfold stepT at hf
      split at hf
      · obtain ⟨k, h1, h2, h3⟩ := ih' f hf
        exact ⟨k, h1, by omega, h3⟩
      · rw [hbase] at hf
        exact tells_put (clk := 0) (by omega) ih' f hf
  have _ := hb
  unfold tickF
  rw [numI_isQ base l hq hm hl]
  simp only [if_true]
  intro f hf
  have h1 : (numI base l).take s.win.toNat = (numI base l).take (min s.win.toNat l.length) := by
    rcases Nat.le_total s.win.toNat l.length with h | h
    · rw [Nat.min_eq_left h]
    · rw [Nat.min_eq_right h, List.take_of_length_le (by rw [numI_length]; exact h), List.take_of_length_le (by rw [numI_length]; omega)]
  rw [h1] at hf
  obtain ⟨k, e1, e2, e3⟩ := key (min s.win.toNat l.length) (Nat.min_le_right _ _) f hf
  exact ⟨k, e1, Nat.le_trans e2 (Nat.min_le_right _ _), e3⟩

/-- What comes next of a frame: from the next number on. -/
theorem gotL_from (n q : Int) (l : List (List UInt8)) (h : q ≤ n) : gotL n q l = numI n (l.drop (n - q).toNat) := by
  induction l generalizing q with
  | nil => simp [gotL, numI]
  | cons b r ih =>
    by_cases e : n = q
    · subst e
      have hall : ∀ (l : List (List UInt8)) (m : Int), n ≤ m → gotL n m l = numI m l := by
        intro l
        induction l with
        | nil => intro m _; rfl
        | cons x y ihy =>
          intro m hm
          simp only [gotL, numI]
          rw [if_pos hm, ihy (m + 1) (by omega)]
          rfl
      rw [hall _ _ (Int.le_refl _)]
      simp
    · simp only [gotL]
      rw [if_neg (by omega), ih (q + 1) (by omega), List.nil_append]
      have : (n - q).toNat = (n - (q + 1)).toNat + 1 := by omega
      rw [this, List.drop_succ_cons]

end Go.Proofs.YtabhfeocelljdaaDoor

