/- The parts of a text between its blanks and colons. No program is named here. -/
import Derived.Test.YtnnhhfajcecdkaaDoorM1
namespace Go.Proofs.YtnnhhfajcecdkaaDoor
open Go Go.Lib

/-- What parts a text. -/
def sep (n : Nat) : Bool := n == 32 || n == 58

theorem decode_ascii (s : ByteArray) (pos : Nat) (h : (s.get! pos).toNat < 128) : Utf8.decode s pos = ((s.get! pos).toNat, 1) := by
  rw [decode_at, decodeN_ascii _ _ _ _ _ h]

section
variable (p : Nat → Bool) (s : ByteArray)

theorem span_on (a : Nat) (acc : List (Nat × Nat)) : ∀ (k f pos : Nat), pos + k ≤ s.size → (∀ j, pos ≤ j → j < pos + k → (s.get! j).toNat < 128 ∧ p (s.get! j).toNat = false) →
    spansFromP p s (f + k) pos (some a) acc = spansFromP p s f (pos + k) (some a) acc
  | 0, _, _, _, _ => rfl
  | k + 1, f, pos, hp, h => by
    have h0 := h pos (Nat.le_refl _) (by omega)
    have e : spansFromP p s (f + (k + 1)) pos (some a) acc = spansFromP p s (f + k) (pos + 1) (some a) acc := by
      show spansFromP p s ((f + k) + 1) pos (some a) acc = _
      rw [spansFromP, if_pos (by omega), decode_ascii s pos h0.1]
      simp only [h0.2, Bool.false_eq_true, if_false]
    rw [e, span_on a acc k f (pos + 1) (by omega) (fun j h1 h2 => h j (by omega) (by omega))]
    congr 1
    omega

theorem span_begin (acc : List (Nat × Nat)) (k f pos : Nat) (hk : 0 < k) (hp : pos + k ≤ s.size) (h : ∀ j, pos ≤ j → j < pos + k → (s.get! j).toNat < 128 ∧ p (s.get! j).toNat = false) :
    spansFromP p s (f + k) pos none acc = spansFromP p s f (pos + k) (some pos) acc := by
  obtain ⟨m, rfl⟩ : ∃ m, k = m + 1 := ⟨k - 1, by omega⟩
  have h0 := h pos (Nat.le_refl _) (by omega)
  have e : spansFromP p s (f + (m + 1)) pos none acc = spansFromP p s (f + m) (pos + 1) (some pos) acc := by
    show spansFromP p s ((f + m) + 1) pos none acc = _
    rw [spansFromP, if_pos (by omega), decode_ascii s pos h0.1]
    simp only [h0.2, Bool.false_eq_true, if_false]
  rw [e, span_on p s pos acc m f (pos + 1) (by omega) (fun j h1 h2 => h j (by omega) (by omega))]
  congr 1
  omega

theorem span_sep (a : Nat) (acc : List (Nat × Nat)) (f pos : Nat) (hp : pos < s.size) (h1 : (s.get! pos).toNat < 128) (h2 : p (s.get! pos).toNat = true) :
    spansFromP p s (f + 1) pos (some a) acc = spansFromP p s f (pos + 1) none (acc ++ [(a, pos)]) := by
  rw [spansFromP, if_pos hp, decode_ascii s pos h1]
  simp only [h2, if_true]

end

theorem get_bang (l : List UInt8) (j : Nat) (h : j < l.length) : (⟨l.toArray⟩ : ByteArray).get! j = l[j] := by
  show l.toArray[j]! = l[j]
  simp [h]

theorem extract_list (l : List UInt8) (i j : Nat) : (⟨l.toArray⟩ : ByteArray).extract i j = ⟨((l.take j).drop i).toArray⟩ := by
  apply ByteArray.ext
  simp [List.drop_take]

/-- Four parts, three signs between them. -/
theorem fields_four (p : Nat → Bool) (a b c d : List UInt8) (x y z : UInt8) (ha : a ≠ []) (hb : b ≠ []) (hc : c ≠ []) (hd : d ≠ [])
    (qa : ∀ u ∈ a, u.toNat < 128 ∧ p u.toNat = false) (qb : ∀ u ∈ b, u.toNat < 128 ∧ p u.toNat = false) (qc : ∀ u ∈ c, u.toNat < 128 ∧ p u.toNat = false) (qd : ∀ u ∈ d, u.toNat < 128 ∧ p u.toNat = false)
    (qx : x.toNat < 128 ∧ p x.toNat = true) (qy : y.toNat < 128 ∧ p y.toNat = true) (qz : z.toNat < 128 ∧ p z.toNat = true) :
    goFieldsP p ⟨(a ++ (x :: (b ++ (y :: (c ++ (z :: d)))))).toArray⟩ = [⟨a.toArray⟩, ⟨b.toArray⟩, ⟨c.toArray⟩, ⟨d.toArray⟩] := by
  have la : 0 < a.length := List.length_pos_iff.2 ha
  have lb : 0 < b.length := List.length_pos_iff.2 hb
  have lc : 0 < c.length := List.length_pos_iff.2 hc
  have ld : 0 < d.length := List.length_pos_iff.2 hd
  obtain ⟨l, hl⟩ : ∃ l, l = a ++ (x :: (b ++ (y :: (c ++ (z :: d))))) := ⟨_, rfl⟩
  have hlen : l.length = a.length + b.length + c.length + d.length + 3 := by rw [hl]; simp; omega
  have hsz : (⟨l.toArray⟩ : ByteArray).size = l.length := by simp [ByteArray.size]
  have ga : ∀ j, 0 ≤ j → j < 0 + a.length → ((⟨l.toArray⟩ : ByteArray).get! j).toNat < 128 ∧ p ((⟨l.toArray⟩ : ByteArray).get! j).toNat = false := fun j _ h2 => by
    rw [get_bang l j (by omega)]
    have : l[j] = a[j]'(by omega) := by
      have e : l[j]? = a[j]? := by rw [hl, List.getElem?_append_left (by omega)]
      rw [List.getElem?_eq_getElem (by omega), List.getElem?_eq_getElem (by omega)] at e
      exact Option.some.inj e
    rw [this]
    exact qa _ (List.getElem_mem _)
  have gx : (⟨l.toArray⟩ : ByteArray).get! a.length = x := by
    rw [get_bang l _ (by omega)]
    have e : l[a.length]? = some x := by
      rw [hl, List.getElem?_append_right (Nat.le_refl _)]
      simp
    rw [List.getElem?_eq_getElem (by omega)] at e
    exact Option.some.inj e
  have hl2 : l = (a ++ [x]) ++ (b ++ (y :: (c ++ (z :: d)))) := by rw [hl]; simp
  have gb : ∀ j, a.length + 1 ≤ j → j < a.length + 1 + b.length → ((⟨l.toArray⟩ : ByteArray).get! j).toNat < 128 ∧ p ((⟨l.toArray⟩ : ByteArray).get! j).toNat = false := fun j h1 h2 => by
    rw [get_bang l j (by omega)]
    have : l[j] = b[j - (a.length + 1)]'(by omega) := by
      have e : l[j]? = b[j - (a.length + 1)]? := by
        rw [hl2, List.getElem?_append_right (by simp; omega), List.getElem?_append_left (by simp; omega)]
        simp
      rw [List.getElem?_eq_getElem (by omega), List.getElem?_eq_getElem (by omega)] at e
      exact Option.some.inj e
    rw [this]
    exact qb _ (List.getElem_mem _)
  have hl3 : l = (a ++ x :: b) ++ (y :: (c ++ (z :: d))) := by rw [hl]; simp
  have gy : (⟨l.toArray⟩ : ByteArray).get! (a.length + 1 + b.length) = y := by
    rw [get_bang l _ (by omega)]
    have e : l[a.length + 1 + b.length]? = some y := by
      rw [hl3, List.getElem?_append_right (by simp; omega)]
      have : a.length + 1 + b.length - (a ++ x :: b).length = 0 := by simp; omega
      rw [this]; rfl
    rw [List.getElem?_eq_getElem (by omega)] at e
    exact Option.some.inj e
  have hl4 : l = (a ++ x :: (b ++ [y])) ++ (c ++ (z :: d)) := by rw [hl]; simp
  have gc : ∀ j, a.length + 1 + b.length + 1 ≤ j → j < a.length + 1 + b.length + 1 + c.length → ((⟨l.toArray⟩ : ByteArray).get! j).toNat < 128 ∧ p ((⟨l.toArray⟩ : ByteArray).get! j).toNat = false := fun j h1 h2 => by
    rw [get_bang l j (by omega)]
    have : l[j] = c[j - (a.length + 1 + b.length + 1)]'(by omega) := by
      have e : l[j]? = c[j - (a.length + 1 + b.length + 1)]? := by
        rw [hl4, List.getElem?_append_right (by simp; omega), List.getElem?_append_left (by simp; omega)]
        congr 1
        simp; omega
      rw [List.getElem?_eq_getElem (by omega), List.getElem?_eq_getElem (by omega)] at e
      exact Option.some.inj e
    rw [this]
    exact qc _ (List.getElem_mem _)
  have hl5 : l = (a ++ x :: (b ++ y :: c)) ++ (z :: d) := by rw [hl]; simp
  have gz : (⟨l.toArray⟩ : ByteArray).get! (a.length + 1 + b.length + 1 + c.length) = z := by
    rw [get_bang l _ (by omega)]
    have e : l[a.length + 1 + b.length + 1 + c.length]? = some z := by
      rw [hl5, List.getElem?_append_right (by simp; omega)]
      have : a.length + 1 + b.length + 1 + c.length - (a ++ x :: (b ++ y :: c)).length = 0 := by simp; omega
      rw [this]; rfl
    rw [List.getElem?_eq_getElem (by omega)] at e
    exact Option.some.inj e
  have hl6 : l = (a ++ x :: (b ++ y :: (c ++ [z]))) ++ d := by rw [hl]; simp
  have gd : ∀ j, a.length + 1 + b.length + 1 + c.length + 1 ≤ j → j < a.length + 1 + b.length + 1 + c.length + 1 + d.length → ((⟨l.toArray⟩ : ByteArray).get! j).toNat < 128 ∧ p ((⟨l.toArray⟩ : ByteArray).get! j).toNat = false := fun j h1 h2 => by
    rw [get_bang l j (by omega)]
    have : l[j] = d[j - (a.length + 1 + b.length + 1 + c.length + 1)]'(by omega) := by
      have e : l[j]? = d[j - (a.length + 1 + b.length + 1 + c.length + 1)]? := by
        rw [hl6, List.getElem?_append_right (by simp; omega)]
        congr 1
        simp; omega
      rw [List.getElem?_eq_getElem (by omega), List.getElem?_eq_getElem (by omega)] at e
      exact Option.some.inj e
    rw [this]
    exact qd _ (List.getElem_mem _)
  rw [← hl]
  have key : spansOfP p ⟨l.toArray⟩ = [(0, a.length), (a.length + 1, a.length + 1 + b.length), (a.length + 1 + b.length + 1, a.length + 1 + b.length + 1 + c.length), (a.length + 1 + b.length + 1 + c.length + 1, l.length)] := by
    unfold spansOfP
    rw [hsz]
    have e0 : spansFromP p ⟨l.toArray⟩ l.length 0 none [] = spansFromP p ⟨l.toArray⟩ ((((((d.length) + 1) + c.length) + 1 + b.length) + 1) + a.length) 0 none [] := by congr 1; omega
    have s1 := span_begin p ⟨l.toArray⟩ [] a.length ((((d.length) + 1) + c.length) + 1 + b.length + 1) 0 la (by rw [hsz]; omega) ga
    rw [Nat.zero_add] at s1
    rw [e0, s1, span_sep p _ 0 [] _ a.length (by rw [hsz]; omega) (by rw [gx]; exact qx.1) (by rw [gx]; exact qx.2)]
    rw [span_begin p _ _ b.length _ _ lb (by rw [hsz]; omega) gb, span_sep p _ _ _ _ _ (by rw [hsz]; omega) (by rw [gy]; exact qy.1) (by rw [gy]; exact qy.2)]
    rw [span_begin p _ _ c.length _ _ lc (by rw [hsz]; omega) gc, span_sep p _ _ _ _ _ (by rw [hsz]; omega) (by rw [gz]; exact qz.1) (by rw [gz]; exact qz.2)]
    have e1 : ∀ acc, spansFromP p ⟨l.toArray⟩ d.length (a.length + 1 + b.length + 1 + c.length + 1) none acc = (acc, some (a.length + 1 + b.length + 1 + c.length + 1)) := fun acc => by
      have := span_begin p ⟨l.toArray⟩ acc d.length 0 _ ld (by rw [hsz]; omega) gd
      rw [Nat.zero_add] at this
      rw [this]
      rfl
    rw [e1]
    show _ ++ [(_, (⟨l.toArray⟩ : ByteArray).size)] = _
    rw [hsz]
    rfl
  unfold goFieldsP
  rw [key]
  simp only [List.map_cons, List.map_nil, extract_list]
  have f1 : (l.take a.length).drop 0 = a := by rw [hl]; simp
  have f2 : (l.take (a.length + 1 + b.length)).drop (a.length + 1) = b := by
    rw [hl2, List.take_append, List.drop_append, List.drop_eq_nil_of_le (by simp), List.take_of_length_le (by simp)]
    simp
  have f3 : (l.take (a.length + 1 + b.length + 1 + c.length)).drop (a.length + 1 + b.length + 1) = c := by
    have h0 : (a ++ x :: (b ++ [y])).length = a.length + 1 + b.length + 1 := by simp; omega
    rw [hl4, List.take_append, List.drop_append, List.drop_eq_nil_of_le (by simp; omega), h0, List.take_of_length_le (by omega), h0, List.take_append]
    simp
  have f4 : (l.take l.length).drop (a.length + 1 + b.length + 1 + c.length + 1) = d := by
    have h0 : (a ++ x :: (b ++ y :: (c ++ [z]))).length = a.length + 1 + b.length + 1 + c.length + 1 := by simp; omega
    rw [List.take_length, hl6, List.drop_append, List.drop_eq_nil_of_le (by omega), h0]
    simp
  rw [f1, f2, f3, f4]

theorem word_bytes (d : Nat) : ∀ u ∈ word d, u.toNat < 128 ∧ sep u.toNat = false := by
  unfold word
  split <;> decide

theorem digit_bytes (l : List UInt8) (h : ∀ c ∈ l, 48 ≤ c.toNat ∧ c.toNat ≤ 57) : ∀ u ∈ l, u.toNat < 128 ∧ sep u.toNat = false := by
  intro u hu
  have := h u hu
  refine ⟨by omega, ?_⟩
  unfold sep
  simp
  omega

theorem fields_text (t : Nat) : goFieldsP sep ⟨(textN t).toArray⟩ = [⟨(decDigits (t / 10080)).toArray⟩, ⟨(word (t % 10080 / 1440)).toArray⟩, ⟨(two (t % 1440 / 60)).toArray⟩, ⟨(two (t % 60)).toArray⟩] := by
  unfold textN
  refine fields_four sep _ _ _ _ _ _ _ (dec_ne _) ?_ (by simp [two]) (by simp [two]) (digit_bytes _ (dec_digits _)) (word_bytes _) (digit_bytes _ (two_digits _ (by omega))) (digit_bytes _ (two_digits _ (by omega))) (by decide) (by decide) (by decide)
  intro e
  have := word_length (t % 10080 / 1440)
  rw [e] at this
  simp at this

end Go.Proofs.YtnnhhfajcecdkaaDoor
