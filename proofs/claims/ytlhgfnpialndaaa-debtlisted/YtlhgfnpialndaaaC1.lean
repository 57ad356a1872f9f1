import Derived.Test.YtlhgfnpialndaaaWX
/- The law's own examples (function awake): it answers true, and turns nothing that was there. -/
namespace Go.Proofs.Ytlhgfnpialndaaa
open Go.RowKit

theorem newW {w : World} : WAt (w.alloc (.cells #[.slice none 0 0, .bool false] 98)) w.heap.size w.heap.size [] :=
  ⟨⟨none, 0, by simp, fun h => absurd h (by omega), Row.nil _ _⟩, by simp, by simp, by simp, by simp⟩

/-- A writer's calls one behind the other. -/
theorem WPuts.after {p g g' : Nat} {s : Option (List UInt8)} {w w1 w2 : World} (h2 : Fr (fun k => k = p ∨ k = g) w w1) (h3 : g' = g ∨ w.heap.size ≤ g') (k : WPuts p g' s w1 w2) : WPuts p g s w w2 := by
  obtain ⟨g'', k1, k2, k3⟩ := k
  refine ⟨g'', k1, h2.trans k2 (fun i hi t => ?_), ?_⟩
  · rcases t with t | t
    · exact .inl t
    · rcases h3 with h3 | h3
      · exact .inr (t.trans h3)
      · omega
  · have := h2.size
    rcases k3 with rfl | k3
    · exact h3
    · exact .inr (by omega)

theorem conv_own {w : World} {v : Value} {g : Nat} {bs : List UInt8} (h : Row w v g bs) : (convert 64 9 v).run Try.prog w = .ok (.string ⟨bs.toArray⟩) w := by
  obtain ⟨ao, cap, rfl, h1, h2, h3, h4⟩ := h.shape
  by_cases hk : 0 < bs.length
  · rw [h3 (by omega)]
    refine run_convert_bytes_back (P := Try.prog) w 64 9 5 ⟨g, 0, none⟩ cap bs Try.underlying64 Try.underlying5 Try.underlying9 (fun j hj => ?_)
    have hplain : (⟨g, 0, none⟩ : Addr).add j = ⟨g, j, none⟩ := by unfold Addr.add; split <;> simp_all
    rw [hplain]
    exact h.cells j hj
  · obtain rfl : bs = [] := List.eq_nil_of_length_eq_zero (by omega)
    cases ao with
    | none =>
      rw [show ([] : List UInt8).length = 0 from rfl, run_convert_bytes_nil w 64 5 Try.underlying64 Try.underlying5 0 cap 9 Try.underlying9]
      rfl
    | some x => exact run_convert_bytes_back (P := Try.prog) w 64 9 5 x cap [] Try.underlying64 Try.underlying5 Try.underlying9 (fun j hj => by simp at hj)

theorem conv_later {w w' : World} {v : Value} {g : Nat} {bs : List UInt8} (h : Row w v g bs) (hF : Fr (fun _ => False) w w') : (convert 64 9 v).run Try.prog w' = .ok (.string ⟨bs.toArray⟩) w' :=
  conv_own (h.frame hF (fun t => t))

theorem aw1 : stepW (some []) (wNumber 258 2) = some [1, 2] := by decide +kernel
theorem aw2 : stepW (some [1, 2]) (wBool true) = some [1, 2, 1] := by decide +kernel
theorem aw3 : stepW (some [1, 2, 1]) (wText ⟨#[97, 98]⟩) = some [1, 2, 1, 0, 2, 97, 98] := by decide +kernel
theorem aw4 : stepW (some [1, 2, 1, 0, 2, 97, 98]) (wCount 3) = some [1, 2, 1, 0, 2, 97, 98, 0, 3] := by decide +kernel
theorem aw5 : stepR ⟨0, 0, 0, 0⟩ (.int .i64 0) (oNumber [1, 2, 1, 0, 2, 97, 98, 0, 3] 0 2) = (.int .i64 258, ⟨2, 0, 0, 0⟩) := by kernel_rfl
theorem aw6 : stepR ⟨2, 0, 0, 0⟩ (.bool false) (oBool [1, 2, 1, 0, 2, 97, 98, 0, 3] 2) = (.bool true, ⟨3, 2, 0, 0⟩) := by kernel_rfl
theorem aw7 : stepR ⟨3, 2, 0, 0⟩ (.string ⟨#[]⟩) (oText [1, 2, 1, 0, 2, 97, 98, 0, 3] 3 5) = (.string ⟨#[97, 98]⟩, ⟨7, 3, 0, 0⟩) := by kernel_rfl
theorem aw8 : stepR ⟨7, 3, 0, 0⟩ (.int .i64 0) (oCount [1, 2, 1, 0, 2, 97, 98, 0, 3] 7 3) = (.int .i64 3, ⟨9, 7, 0, 0⟩) := by kernel_rfl
theorem aw9 : stepR ⟨9, 7, 0, 0⟩ (.bool false) (oBool [1, 2, 1, 0, 2, 97, 98, 0, 3] 9) = (.bool false, ⟨9, 7, 10, 9⟩) := by kernel_rfl

/-- A writer that the call itself made, and nothing that was there has turned. -/
def WOwn (w wk : World) (p g : Nat) (s : Option (List UInt8)) : Prop := Fr (fun _ => False) w wk ∧ w.heap.size ≤ p ∧ w.heap.size ≤ g ∧ WSt wk p g s
/-- A reader that the call itself made, and nothing that was there has turned. -/
def ROwn (w wk : World) (p g : Nat) (bs : List UInt8) (s : RS) : Prop := Fr (fun _ => False) w wk ∧ w.heap.size ≤ p ∧ w.heap.size ≤ g ∧ s.At wk p g bs

theorem WOwn.next {w wk wk' : World} {p g : Nat} {s s' : Option (List UInt8)} (h : WOwn w wk p g s) (k : WPuts p g s' wk wk') : ∃ g', WOwn w wk' p g' s' := by
  obtain ⟨h1, h2, h3, h4⟩ := h
  obtain ⟨g', k1, k2, k3⟩ := k
  refine ⟨g', h1.trans k2 (fun i hi t => by omega), h2, ?_, k1⟩
  have := h1.size
  omega

theorem ROwn.next {w wk wk' : World} {p g : Nat} {bs : List UInt8} {s s' : RS} (h : ROwn w wk p g bs s) (k1 : s'.At wk' p g bs) (k2 : Fr (· = p) wk wk') : ROwn w wk' p g bs s' := by
  obtain ⟨h1, h2, h3, h4⟩ := h
  exact ⟨h1.trans k2 (fun i hi t => by have t' : i = p := t; omega), h2, h3, k1⟩

theorem WOwn.new (w : World) : WOwn w (w.alloc (.cells #[.slice none 0 0, .bool false] 98)) w.heap.size w.heap.size (some []) :=
  ⟨(Fr.refl _ _).alloc _, Nat.le_refl _, Nat.le_refl _, newW⟩

end Go.Proofs.Ytlhgfnpialndaaa

