import Derived.Test.YtlhgfnpialndaaaRows
import Derived.Test.YtlhgfnpialndaaaProg
import Derived.ProofKit
import Derived.OpenShut
import Derived.ChangeOld
import Derived.Below
import Derived.SizedLaws
import Derived.Laws.Cover2
import Derived.Deep.Slices
/- How the laws' arguments read: what serves every kind. -/
namespace Go.Proofs.Ytlhgfnpialndaaa
open Go.ChangeShapes Go.WideShapes Go.ChangeAt Go.RowKit Go.Deep

theorem own : ownKnob Try.prog.godebug = none := by kernel_rfl
theorem laidOut : laidOutB Try.prog = true := by kernel_rfl

theorem one_of {l : List Value} {i : Nat} {v : Value} (h : (l.drop i).take 1 = [v]) : l[i]? = some v := by
  have : ((l.drop i).take 1)[0]? = some v := by rw [h]; rfl
  simpa using this

theorem list_of {α : Type} {Good : Nat → α → Prop} : ∀ n, (∀ j, j < n → ∃ q, Good j q) → ∃ l : List α, l.length = n ∧ ∀ j (hj : j < l.length), Good j l[j]
  | 0, _ => ⟨[], rfl, fun j hj => absurd hj (by simp)⟩
  | n + 1, h => by
    obtain ⟨l, hl, hg⟩ := list_of n (fun j hj => h j (by omega))
    obtain ⟨q, hq⟩ := h n (by omega)
    refine ⟨l ++ [q], by simp [hl], fun j hj => ?_⟩
    by_cases hj2 : j < l.length
    · rw [List.getElem_append_left hj2]; exact hg j hj2
    · have : j = n := by simp at hj; omega
      subst this
      rw [List.getElem_append_right (by omega)]
      simpa using hq

theorem wf_le {n : Int} (h : (Lit.int .i64 n).wf = true) : n ≤ 9223372036854775807 ∧ -9223372036854775808 ≤ n := by
  have : -9223372036854775808 ≤ n ∧ n ≤ 9223372036854775807 := by simpa [Lit.wf, IntKind.min, IntKind.max, IntKind.signed, IntKind.bits] using h
  exact ⟨this.2, this.1⟩

end Go.Proofs.Ytlhgfnpialndaaa

