import Derived.Test.YtjgbllfppomcmaaCA1
import Derived.Test.YtjgbllfppomcmaaCR2
import Derived.Test.YtjgbllfppomcmaaPK0
/- What a week comes to, asked of the program and of the document: the walk of CapsWeeks. -/
namespace Go.Proofs.Ytjgbllfppomcmaa
open Go.RowKit

def mkD : Dy := ⟨-77, 0, 0, 0, 0, 0, 0⟩
theorem dInfo : (Try.prog.info? 43).map (fun i => (i.zero.map (·.cells), i.size, i.bytes)) = some (some (dyL dz).toArray, 7, 56) := by kernel_rfl

set_option maxRecDepth 20000 in
theorem slice_uptoD (g n m cap : Nat) (h : n ≤ cap) (hc : 0 < cap) (u : World) : (Instr.slice 35 (.slice (some ⟨g, 0, none⟩) m cap) none (some (.int .i64 (n : Int))) none).run Try.prog u = .ok (.slice (some ⟨g, 0, none⟩) n cap) u := by
  rw [run_slice_h (P := Try.prog) (w := u) 35 (some ⟨g, 0, none⟩) m cap Try.underlying35 .i64 (n : Int) (by omega) (by omega)]
  have e : (.slice (some ⟨g, 0, none⟩) n cap : Value) = sliced (some ⟨g, 0, none⟩) 0 n cap 7 := by
    unfold sliced
    rw [if_neg (by omega)]
    simp [Addr.add_lit]
  rw [e]
  rfl

theorem dyV_cell {w : World} {ao : Option Addr} {cap g : Nat} {l : List Dy} (h : KRow w ao cap g 7 (dyV l)) {k : Nat} {b : Dy} (hb : l[k]? = some b) :
    ao = some ⟨g, 0, none⟩ ∧ 0 < cap ∧ ∀ c (_ : c < 7) v, (dyL b)[c]? = some v → w.cell? ⟨g, k * 7 + c, none⟩ = some v := by
  have hk := (List.getElem?_eq_some_iff.1 hb).1
  have hl := dyV_length l
  have hle := h.le
  have hcap : 0 < cap := by
    rcases Nat.eq_zero_or_pos cap with rfl | h0
    · omega
    · exact h0
  refine ⟨h.ad hcap, hcap, fun c hc v hv => ?_⟩
  have h1 := h.cells (k * 7 + c) (by omega)
  have h2 := flat_get dyL 7 (fun _ => rfl) l k hk c hc
  have h3 : l[k] = b := by rw [List.getElem?_eq_getElem hk] at hb; exact Option.some.inj hb
  rw [h3, hv] at h2
  rw [h1]
  have h4 : (dyV l)[k * 7 + c]? = some v := h2
  rw [List.getElem?_eq_getElem (by omega)] at h4
  exact h4

end Go.Proofs.Ytjgbllfppomcmaa

