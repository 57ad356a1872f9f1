/- How an argument reads that is an array of four bytes. -/
import Derived.Test.YtgbaofdbdpopnaaDoorO1
namespace Go.Proofs.YtgbaofdbdpopnaaDoor
open Go.ChangeShapes Go.WideShapes Go.ChangeAt Go.RowKit

theorem cells38 : Tryd.prog.cellsOf 38 = 4 := by kernel_rfl
theorem cells5 : Tryd.prog.cellsOf 5 = 1 := by kernel_rfl

theorem okWide_four {W : World} {r : Reach} {base : Nat} {v : Value} (h : Value.okWide Tryd.prog W r base 38 v) : ∃ cs, v = .agg cs ∧ cs.size = 4 := by
  unfold Value.okWide at h
  rw [Tryd.underlying38] at h
  cases v <;> simp_all [cells38]

theorem one_of {l : List Value} {i : Nat} {v : Value} (h : (l.drop i).take 1 = [v]) : l[i]? = some v := by
  have : ((l.drop i).take 1)[0]? = some v := by rw [h]; rfl
  simpa using this

theorem byte_of {n : Int} (h : (Lit.int .u8 n).wf = true) : ∃ y : UInt8, n = y.toNat := by
  have hb : 0 ≤ n ∧ n ≤ 255 := by simpa [Lit.wf, IntKind.min, IntKind.max, IntKind.signed, IntKind.bits] using h
  refine ⟨UInt8.ofNat n.toNat, ?_⟩
  rw [UInt8.toNat_ofNat']
  omega

/-- An array of four bytes. -/
theorem open_four {H : Type} {enc : TypeId × Value → H} {W : World} {spare : Nat → Bool} {held : Bool} {r : Reach} {base b0 : Nat} {v : Value} {d : DataW H} {ps : List MemPlace} (hval : Value.okWide Tryd.prog W r b0 38 v) (hd : DataW.Trod enc Tryd.prog W base spare held 38 v d ps) :
    ∃ y0 y1 y2 y3 : UInt8, v = .agg #[.int .u8 y0.toNat, .int .u8 y1.toNat, .int .u8 y2.toNat, .int .u8 y3.toNat] := by
  obtain ⟨cs, rfl, hcs⟩ := okWide_four hval
  obtain ⟨fuel, h⟩ := hd
  obtain ⟨xs, m, _, _, _, hl, hf⟩ := DataW.trod_array Tryd.underlying38 h
  rw [cells5] at hf
  match xs, hl with
  | [x0, x1, x2, x3], _ =>
    have g0 := hf 0 (by omega)
    have g1 := hf 1 (by omega)
    have g2 := hf 2 (by omega)
    have g3 := hf 3 (by omega)
    simp only [List.getElem?_cons_zero, List.getElem?_cons_succ] at g0 g1 g2 g3
    obtain ⟨a0, e0, _, w0⟩ := DataW.trod_int Tryd.underlying5 g0
    obtain ⟨a1, e1, _, w1⟩ := DataW.trod_int Tryd.underlying5 g1
    obtain ⟨a2, e2, _, w2⟩ := DataW.trod_int Tryd.underlying5 g2
    obtain ⟨a3, e3, _, w3⟩ := DataW.trod_int Tryd.underlying5 g3
    obtain ⟨y0, rfl⟩ := byte_of w0
    obtain ⟨y1, rfl⟩ := byte_of w1
    obtain ⟨y2, rfl⟩ := byte_of w2
    obtain ⟨y3, rfl⟩ := byte_of w3
    refine ⟨y0, y1, y2, y3, ?_⟩
    have f0 := one_of e0
    have f1 := one_of e1
    have f2 := one_of e2
    have f3 := one_of e3
    obtain ⟨l⟩ := cs
    match l, hcs with
    | [c0, c1, c2, c3], _ =>
      simp [Value.cells] at f0 f1 f2 f3
      simp [f0, f1, f2, f3]

end Go.Proofs.YtgbaofdbdpopnaaDoor
