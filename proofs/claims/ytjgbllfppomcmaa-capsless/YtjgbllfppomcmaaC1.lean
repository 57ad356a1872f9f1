import Derived.Test.YtjgbllfppomcmaaWX
/- The law's own examples (function awake): it answers true, and turns nothing that was there. -/
namespace Go.Proofs.Ytjgbllfppomcmaa
open Go.RowKit

/-- A writer's calls one behind the other. -/
theorem WPuts.after {p g g' : Nat} {s : Option (List UInt8)} {w w1 w2 : World} (h2 : Fr (fun k => k = p ∨ k = g) w w1) (h3 : g' = g ∨ w.heap.size ≤ g') (k : WPuts p g' s w1 w2) : WPuts p g s w w2 := by
  obtain ⟨g'', k1, k2, k3⟩ := k
  refine ⟨g'', k1, h2.trans k2 (fun i hi t => ?_), ?_⟩
  · rcases t with t | t
    · exact .inl t
    · rcases h3 with h3 | h3
      · exact .inr (t.trans h3)
      · omega
  · have := h2.size
    rcases k3 with rfl | k3
    · exact h3
    · exact .inr (by omega)

theorem aw1 : stepW (some []) (wNumber 258 2) = some [1, 2] := by decide +kernel
theorem aw2 : stepW (some [1, 2]) (wBool true) = some [1, 2, 1] := by decide +kernel
theorem aw3 : stepW (some [1, 2, 1]) (wText ⟨#[97, 98]⟩) = some [1, 2, 1, 0, 2, 97, 98] := by decide +kernel
theorem aw4 : stepW (some [1, 2, 1, 0, 2, 97, 98]) (wCount 3) = some [1, 2, 1, 0, 2, 97, 98, 0, 3] := by decide +kernel
theorem aw5 : stepR ⟨0, 0, 0, 0⟩ (.int .i64 0) (oNumber [1, 2, 1, 0, 2, 97, 98, 0, 3] 0 2) = (.int .i64 258, ⟨2, 0, 0, 0⟩) := by kernel_rfl
theorem aw6 : stepR ⟨2, 0, 0, 0⟩ (.bool false) (oBool [1, 2, 1, 0, 2, 97, 98, 0, 3] 2) = (.bool true, ⟨3, 2, 0, 0⟩) := by kernel_rfl
theorem aw7 : stepR ⟨3, 2, 0, 0⟩ (.string ⟨#[]⟩) (oText [1, 2, 1, 0, 2, 97, 98, 0, 3] 3 5) = (.string ⟨#[97, 98]⟩, ⟨7, 3, 0, 0⟩) := by kernel_rfl
theorem aw8 : stepR ⟨7, 3, 0, 0⟩ (.int .i64 0) (oCount [1, 2, 1, 0, 2, 97, 98, 0, 3] 7 3) = (.int .i64 3, ⟨9, 7, 0, 0⟩) := by kernel_rfl
theorem aw9 : stepR ⟨9, 7, 0, 0⟩ (.bool false) (oBool [1, 2, 1, 0, 2, 97, 98, 0, 3] 9) = (.bool false, ⟨9, 7, 10, 9⟩) := by kernel_rfl

/-- A writer that the call itself made, and nothing that was there has turned. -/
def WOwn (w wk : World) (p g : Nat) (s : Option (List UInt8)) : Prop := Fr (fun _ => False) w wk ∧ w.heap.size ≤ p ∧ w.heap.size ≤ g ∧ WSt wk p g s
/-- A reader that the call itself made, and nothing that was there has turned. -/
def ROwn (w wk : World) (p g : Nat) (bs : List UInt8) (s : RS) : Prop := Fr (fun _ => False) w wk ∧ w.heap.size ≤ p ∧ w.heap.size ≤ g ∧ s.At wk p g bs

theorem WOwn.next {w wk wk' : World} {p g : Nat} {s s' : Option (List UInt8)} (h : WOwn w wk p g s) (k : WPuts p g s' wk wk') : ∃ g', WOwn w wk' p g' s' := by
  obtain ⟨h1, h2, h3, h4⟩ := h
  obtain ⟨g', k1, k2, k3⟩ := k
  refine ⟨g', h1.trans k2 (fun i hi t => by omega), h2, ?_, k1⟩
  have := h1.size
  omega

theorem ROwn.next {w wk wk' : World} {p g : Nat} {bs : List UInt8} {s s' : RS} (h : ROwn w wk p g bs s) (k1 : s'.At wk' p g bs) (k2 : Fr (· = p) wk wk') : ROwn w wk' p g bs s' := by
  obtain ⟨h1, h2, h3, h4⟩ := h
  exact ⟨h1.trans k2 (fun i hi t => by have t' : i = p := t; omega), h2, h3, k1⟩

end Go.Proofs.Ytjgbllfppomcmaa

