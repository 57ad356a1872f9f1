import Derived.Test.YtjgbllfppomcmaaQO1
import Derived.Test.YtjgbllfppomcmaaJJ0
/- How the laws' arguments read: a journey, a slice of journeys. -/
namespace Go.Proofs.Ytjgbllfppomcmaa
open Go.ChangeShapes Go.WideShapes Go.ChangeAt Go.RowKit Go.Deep

theorem cells_journey : Try.prog.cellsOf 31 = 6 := by kernel_rfl

section
variable {H : Type} {enc : TypeId × Value → H} {w : World} {held : Bool}

set_option maxRecDepth 100000 in
theorem open_journey {fuel : Nat} {cs : List Value} {x : DataW H × List MemPlace} (h : DataW.trod enc Try.prog w 0 (fun _ => true) held fuel 31 cs = some x) : ∃ q : Jn, cs = jL q := by
  obtain ⟨xs, n, _, rfl, hl, hlen, hf⟩ := DataW.trod_struct Try.underlying31 h
  rw [cells_journey] at hl
  have g0 := hf 0 _ rfl
  have g1 := hf 1 _ rfl
  have g2 := hf 2 _ rfl
  have g3 := hf 3 _ rfl
  have g4 := hf 4 _ rfl
  have g5 := hf 5 _ rfl
  match xs, hlen with
  | [y0, y1, y2, y3, y4, y5], _ =>
    simp only [List.getElem?_cons_zero, List.getElem?_cons_succ] at g0 g1 g2 g3 g4 g5
    obtain ⟨a0, e0, rfl, w0⟩ := DataW.trod_int Try.underlying3 g0
    obtain ⟨a1, e1, rfl, w1⟩ := DataW.trod_int Try.underlying3 g1
    obtain ⟨a2, e2, rfl, w2⟩ := DataW.trod_int Try.underlying3 g2
    obtain ⟨a3, e3, rfl, w3⟩ := DataW.trod_int Try.underlying3 g3
    obtain ⟨a4, e4, rfl, w4⟩ := DataW.trod_int Try.underlying3 g4
    obtain ⟨a5, e5, rfl⟩ := DataW.trod_bool Try.underlying4 g5
    match cs, hl with
    | [c0, c1, c2, c3, c4, c5], _ =>
      have f0 := one_of e0
      have f1 := one_of e1
      have f2 := one_of e2
      have f3 := one_of e3
      have f4 := one_of e4
      have f5 := one_of e5
      simp at f0 f1 f2 f3 f4 f5
      subst f0 f1 f2 f3 f4 f5
      exact ⟨⟨a0, a1, a2, a3, a4, a5⟩, rfl⟩

/-- A journey that was handed in. -/
theorem arg_journey {v : Value} {d : DataW H} {p : List MemPlace} (hok : ∃ cs, v = .agg cs ∧ cs.size = Try.prog.cellsOf 31) (h : DataW.Trod enc Try.prog w 0 (fun _ => true) held 31 v d p) : ∃ j : Jn, v = .agg (jC j) := by
  obtain ⟨cs, rfl, _⟩ := hok
  obtain ⟨fuel, hf⟩ := h
  obtain ⟨t, h1⟩ := open_journey (cs := cs.toList) hf
  exact ⟨t, by rw [show cs = jC t from Array.ext' h1]⟩

end
end Go.Proofs.Ytjgbllfppomcmaa

