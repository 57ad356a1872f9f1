import Derived.Test.YtmnbfhgncooodaaGreatDoorYO1
import Derived.Test.YtmnbfhgncooodaaGreatDoorYWT
import Derived.LaidLaws
import Derived.LaidHandle
/- What the listed variables give where errors' own variable is one of them. -/
namespace Go.Proofs.YtmnbfhgncooodaaGreatDoor
open Go.ChangeShapes Go.WideShapes Go.ChangeAt Go.RowKit Go.Deep

theorem gErr : Tryz.prog.globalNamed "errors.errorType" = some 0 := by kernel_rfl
theorem rtErr : (Tryz.prog.cutTypes.find? (·.1 == "internal/reflectlite.rtype")).map (·.2) = some 182 := by kernel_rfl
theorem oneRowErr : ((List.range 270).filter fun t => Tryz.prog.rowNamed t [101, 114, 114, 111, 114]) = [34] := by kernel_rfl
theorem sizeErr : Tryz.prog.types.size = 270 := by kernel_rfl

abbrev laidET : List (String × DataW Unit) := [("errors.errorType", Rows.laid_errors_errorType), ("farebox/sum.fourTurns", Rows.laid_farebox_sum_fourTurns)]

theorem parts_of {W : World} (h : laidMetH Tryz.prog laidET W) : laidMet Tryz.prog [("farebox/sum.fourTurns", Rows.laid_farebox_sum_fourTurns)] W ∧ handlesMet Tryz.prog [("errors.errorType", Rows.laid_errors_errorType)] W := h

theorem err_of {W : World} (h : laidMetH Tryz.prog laidET W) : ErrT W := by
  obtain ⟨name, u, ty, e1, e2, e3, e4, e5⟩ := (parts_of h).2 _ (List.mem_singleton.2 rfl)
  have en : name = [101, 114, 114, 111, 114] := (Option.some.inj e1).symm
  subst en
  obtain rfl := Option.some.inj (rtErr.symm.trans e2)
  have hm : ty ∈ (List.range 270).filter fun t => Tryz.prog.rowNamed t [101, 114, 114, 111, 114] := List.mem_filter.2 ⟨List.mem_range.2 (by rw [← sizeErr]; exact e3), e4⟩
  rw [oneRowErr] at hm
  obtain rfl := List.mem_singleton.1 hm
  have hh : typeHandle Tryz.prog 34 = .pointer (some ⟨2, 34, none⟩) := by kernel_rfl
  rw [hh] at e5
  have h := World.var?_cell gErr e5 0
  unfold ErrT
  simpa using h

/-- A world in which both variables hold what they are to hold. -/
def laidOverET (w : World) : World :=
  { w with heap := (w.heap.modify 1 fun
      | .cells _ t frozen => .cells (tab.map fun n : Nat => Value.int .u32 (n : Int)).toArray t frozen
      | o => o).modify 0 fun
      | .cells _ t frozen => .cells #[.iface 182 (.agg #[.pointer (some ⟨2, 34, none⟩)])] t frozen
      | o => o }

end Go.Proofs.YtmnbfhgncooodaaGreatDoor

