/- Proved: the law WireWrites answers true for every slice of pieces, and its argument reads afterwards as it read before, where what comes in is of bulk at most 1048576 (the second form): without that bound the pieces' bytes together could pass what append bears. -/
import Derived.Test.YtdbmojiplfkniaaP1
import Derived.Test.YtdbmojiplfkniaaJ1
namespace Go.Proofs.Ytdbmojiplfkniaa.wireWrites
open Go.ChangeShapes Go.WideShapes Go.ChangeAt Go.RowKit Go.Deep

theorem own : ownKnob Try.prog.godebug = none := by kernel_rfl
theorem laidOut : laidOutB Try.prog = true := by kernel_rfl

theorem fits_n {q : Pc} (h : q.fits) : q.n ≤ 9223372036854775807 := by
  have h1 := h.2.1
  have : -9223372036854775808 ≤ q.n ∧ q.n ≤ 9223372036854775807 := by simpa [Lit.wf, IntKind.min, IntKind.max, IntKind.signed, IntKind.bits] using h1
  exact this.2

theorem bulk_piece {H : Type} (q : Pc) : q.s.size ≤ Rows.uptoBulk (Pc.datum (H := H) q) := by
  have e : q.s.data.toList.length = q.s.size := rfl
  simp only [Pc.datum, Rows.uptoBulk, Rows.uptoBulkAll]
  omega

theorem contract (H : Type) (enc : TypeId × Value → H) (W : World) (base : Nat) (args : Array Value) (ds gs : List (DataW H)) (before : List MemPlace)
    (hval : ∀ (j : Nat) t v, Try.f3.params[j]? = some t → args[j]? = some v → Value.okWide Try.prog W .any base t v)
    (hW : DataW.Whole enc Try.prog Try.f3.params.toList Rows.wireWritesSpec.vars false W args.toList ds gs before) (hk : Rows.uptoSmall H (ds ++ gs) = true) :
    Calls Try.prog 3 args W fun e W' => ∃ v, e = .returned v ∧ Rows.wireWritesSpec.post enc Try.prog Try.f3 false true false false W args v W' := by
  have hW' := hW
  obtain ⟨p, q, hA0, hV, rfl, hfz, hnd⟩ := hW
  have hA : DataW.TrodAll enc Try.prog W 0 (fun _ => true) true Try.f3.params.toList args.toList ds p := hA0
  rw [Try.params3] at hA hval
  obtain ⟨v0, vs0, d0, ds0, p0, q0, hargs, rfl, rfl, h0, r0⟩ := trodAll_cons hA
  obtain ⟨rfl, rfl, rfl⟩ := trodAll_nil r0
  obtain rfl : args = #[v0] := by cases args; simp_all
  obtain ⟨rfl, rfl⟩ := trodVars_none hV
  obtain ⟨a0, len0, cap0, rfl⟩ := okWide_slice Try.underlying22 (hval 0 22 v0 rfl rfl)
  have k0 := h0
  have lt0 : ∀ x ∈ p0, x.block < W.heap.size := by obtain ⟨m, hm⟩ := k0; exact DataW.trod_lt m _ _ _ hm
  obtain ⟨fuel0, hf0⟩ := h0
  obtain ⟨ps, hpl, hp1, hp2, hp3⟩ := open_pieces hf0
  subst hpl
  have hbd : ps.length ≤ 1048576 ∧ ∀ q ∈ ps, q.s.size ≤ 1048576 := by
    rcases hp3 with ⟨rfl, _⟩ | ⟨rest, e⟩
    · exact ⟨by simp, fun q hq => by cases hq⟩
    · have e' : d0 = .slice (ps.map Pc.datum) rest := e
      have h1 := bulk_slice hk (elems := ps.map Pc.datum) (rest := rest) (by rw [e']; simp)
      refine ⟨by simpa using h1, fun q hq => ?_⟩
      have h2 : Rows.uptoBulkAll ([d0] ++ ([] : List (DataW H))) ≤ 1048576 := of_decide_eq_true hk
      have h3 := bulk_mem (d := DataW.slice (ps.map Pc.datum) rest) (l := [d0] ++ ([] : List (DataW H))) (by rw [e']; simp)
      have h4 := bulk_mem (d := Pc.datum (H := H) q) (l := ps.map Pc.datum) (List.mem_map.2 ⟨q, hq, rfl⟩)
      have h5 := bulk_piece (H := H) q
      simp only [Rows.uptoBulk] at h3
      omega
  have hL : LAt W a0 ps := ⟨hp1, by omega, fun q hq => fits_n (hp2 q hq)⟩
  clear hA0
  refine (writes_walk W a0 cap0 ps hL hbd.1 hbd.2).mono fun e W' ⟨he, hfr⟩ => ?_
  subst he
  have bel : Below W.heap.size W W' := hfr.below (Nat.le_refl _) (fun k t => t.elim)
  exact ⟨_, rfl, _, _, _, [], _, [], hW', trodAll_mk1 (shut_bool Try.underlying4 _), (trodAll_cons_mk (Below.trod laidOut (by kernel_rfl) (of_decide_eq_true (by kernel_rfl)) k0 bel lt0) trodAll_mk0), rfl, bel.frame _, fun h => by cases h⟩

set_option maxRecDepth 100000 in
theorem lifted (os : Os) (started : os.Started) (H : Type) (enc : TypeId × Value → H) (F : Stop.Interp) :
    ReturnsInHanded {} Try.checked os 3 .any ((Rows.OpenSpec.upto Rows.wireWritesSpec).pre6 enc Try.prog Try.f3 Rows.wireWritesUptoRow.domain false) (((Rows.OpenSpec.upto Rows.wireWritesSpec).at F).post enc Try.prog Try.f3 false true false false) := by
  refine returnsInHanded_of_cond (C := Try.checked) (s := Rows.OpenSpec.upto Rows.wireWritesSpec) (k := Rows.uptoSmall) rfl own started (by kernel_rfl) Try.func3
    (OpenSpec.witness (enc := enc) (C := Try.checked) (s := Rows.OpenSpec.upto Rows.wireWritesSpec) (k := Rows.uptoSmall) rfl false ⟨#[], #[.slice none 0 0], []⟩ 8 (by kernel_rfl) (by kernel_rfl) (by kernel_rfl)
      (x := ([.nil], [], [])) (by kernel_rfl) rfl (by kernel_rfl)) ?_
  intro W base args ds gs before hval hW _ hk _
  exact contract H enc W base args ds gs before hval hW hk

theorem over : Rows.wireWritesUptoRow.holds Try.pinned (Rows.OpenSpec.upto Rows.wireWritesSpec) :=
  OpenClaim.holds_of_cond 3 Try.f3 rfl rfl rfl rfl rfl rfl rfl ⟨rfl, rfl, rfl, rfl, rfl⟩ rfl rfl rfl rfl rfl (by kernel_rfl) Try.func3 (by kernel_rfl)
    (of_decide_eq_true (by kernel_rfl)) (by unfold Func.isWrapper; first | (rw [if_pos (by decide +kernel)]; kernel_rfl) | (rw [if_neg (by decide +kernel)]; exact ⟨rfl, rfl⟩))
    (fun os started H enc _ F => lifted os started H enc F)

end Go.Proofs.Ytdbmojiplfkniaa.wireWrites

namespace Go.Proofs.Ytdbmojiplfkniaa
/-- THE STATEMENT, in its second form. -/
theorem wireWrites_upto : Rows.WireWritesUptoSaid := wireWrites.over
#print axioms wireWrites_upto
end Go.Proofs.Ytdbmojiplfkniaa
