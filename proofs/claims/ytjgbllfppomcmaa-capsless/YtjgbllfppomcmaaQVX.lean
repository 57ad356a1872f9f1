import Derived.Test.YtjgbllfppomcmaaQY
/- The document's own looks: minutes, bands, stations. -/
namespace Go.Proofs.Ytjgbllfppomcmaa
open Go.RowKit

end Go.Proofs.Ytjgbllfppomcmaa

/- The document's own look at stations. -/
namespace Go.Proofs.Ytjgbllfppomcmaa
open Go.RowKit

def Prev (l : List Stn) (i : Nat) (p : Int) : Prop := (i = 0 ∧ p = 0) ∨ ∃ j, ∃ hj : j < l.length, i = j + 1 ∧ p = l[j].id

theorem stGood_iff (a : Int) (s : Stn) : stGood a s = true ↔ (a < s.id ∧ s.id ≤ 65535 ∧ 1 ≤ s.zone ∧ s.zone ≤ 9 ∧ 0 ≤ s.group ∧ s.group ≤ 65535) := by
  rcases stGood_cases a s with ⟨h, k⟩ | ⟨h, k⟩
  · rw [h]; exact ⟨fun _ => k, fun _ => rfl⟩
  · rw [h]; exact ⟨fun h => (by cases h), fun h => by omega⟩

end Go.Proofs.Ytjgbllfppomcmaa

/- The document's own look at spans: all that there are up to a zone, in order. -/
namespace Go.Proofs.Ytjgbllfppomcmaa
open Go.RowKit

theorem sameAll_cons (l : List Spn) (n : Nat) (f t : Int) (q : List (Int × Int)) : (n < l.length ∧ ∃ s, l[n]? = some s ∧ sameAll (l.drop n) ((f, t) :: q) = ((s.fr == f && s.to == t) && sameAll (l.drop (n + 1)) q)) ∨ (¬ n < l.length ∧ sameAll (l.drop n) ((f, t) :: q) = false) := by
  by_cases h : n < l.length
  · exact .inl ⟨h, l[n], List.getElem?_eq_getElem h, by rw [List.drop_eq_getElem_cons h]; rfl⟩
  · exact .inr ⟨h, by rw [List.drop_of_length_le (by omega)]; rfl⟩

theorem sameAll_end (l : List Spn) (n : Nat) (h : n ≤ l.length) : sameAll (l.drop n) [] = decide (n = l.length) := by
  by_cases h2 : n < l.length
  · rw [List.drop_eq_getElem_cons h2]
    have : ¬ n = l.length := by omega
    simp [sameAll, this]
  · obtain rfl : n = l.length := by omega
    rw [List.drop_length]
    simp [sameAll]

end Go.Proofs.Ytjgbllfppomcmaa

