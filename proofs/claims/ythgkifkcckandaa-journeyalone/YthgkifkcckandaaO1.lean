import Derived.Test.YthgkifkcckandaaRows
import Derived.Test.YthgkifkcckandaaBI
import Derived.Test.YthgkifkcckandaaOA
import Derived.ProofKit
import Derived.OpenShut
import Derived.ChangeOld
import Derived.Below
import Derived.SizedLaws
import Derived.Laws.Cover2
import Derived.Deep.Slices
/- How the laws' arguments read: bytes, taps, entries, accounts, deltas, outages. -/
namespace Go.Proofs.Ythgkifkcckandaa
open Go.ChangeShapes Go.WideShapes Go.ChangeAt Go.RowKit Go.Deep

section
variable {H : Type} {enc : TypeId × Value → H} {w : World} {held : Bool}

theorem open_bytes {fuel : Nat} {a0 : Option Addr} {len cap : Nat} {x : DataW H × List MemPlace} (h : DataW.trod enc Try.prog w 0 (fun _ => true) held fuel 87 [.slice a0 len cap] = some x) :
    ∃ bs : List UInt8, bs.length = len ∧ (a0 = none → bs.length = 0 ∧ cap = 0) ∧ (0 < bs.length → ∃ b off, a0 = some ⟨b, off, none⟩ ∧ ∀ j (hj : j < bs.length), w.cell? ⟨b, off + j, none⟩ = some (.int .u8 (bs[j].toNat))) ∧
      len ≤ cap ∧ (cap = 0 ∨ ∃ elems rest, x.1 = .slice elems rest ∧ elems.length + rest.length = cap) := by
  rcases open_ints Try.underlying87 Try.underlying5 (by kernel_rfl) h with ⟨hcs, hx⟩ | ⟨a, l, c, zs, hcs, _, hl, hm, hz, hx, hcell, hwz⟩
  · simp at hcs
    obtain ⟨rfl, rfl, rfl⟩ := hcs
    exact ⟨[], rfl, fun _ => ⟨rfl, rfl⟩, fun h0 => absurd h0 (by simp), Nat.le_refl _, .inl rfl⟩
  · simp at hcs
    obtain ⟨rfl, rfl, rfl⟩ := hcs
    have hz' : zs.length = cap := by simpa using hz
    refine ⟨(zs.take len).map (fun z => UInt8.ofNat z.toNat), by simp; omega, fun e => (by cases e), fun h0 => ?_, hl, .inr ?_⟩
    · simp at h0
      obtain ⟨b, off, spot⟩ := a
      have hc := hcell 0 (by omega)
      have hspot : spot = none := by simpa [Addr.add] using World.cell?_spot hc
      subst hspot
      refine ⟨b, off, rfl, fun j hj => ?_⟩
      have hj2 : j < zs.length := by simp at hj; omega
      have h1 := hcell j hj2
      rw [Addr.add_lit] at h1
      rw [h1]
      have hw := hwz (zs.getD j 0) (by simp [List.getD, hj2])
      have hb : 0 ≤ zs.getD j 0 ∧ zs.getD j 0 ≤ 255 := by simpa [Lit.wf, IntKind.min, IntKind.max, IntKind.signed, IntKind.bits] using hw
      have e2 : zs[j]?.getD 0 = zs[j] := by simp [hj2]
      simp only [List.getD, e2] at hb ⊢
      simp
      omega
    · rw [hx]
      exact ⟨_, _, rfl, by simp [lits]; omega⟩

/-- Bytes that were handed in. -/
theorem arg_bytes {ts : List TypeId} {ds : List (DataW H)} {v : Value} {d : DataW H} {p : List MemPlace} {j : Nat} (hok : ∃ a len cap, v = .slice a len cap) (h : DataW.Trod enc Try.prog w 0 (fun _ => true) held 87 v d p)
    (hsz : (DataW.weightsEach Try.prog ts ds).all (· ≤ reachBytes) = true) (ht : ts[j]? = some 87) (hd : ds[j]? = some d) : ∃ ao cap bs, v = .slice ao (List.length bs) cap ∧ BInC w ao cap bs ∧ bs.length + 4096 ≤ 140737488355328 := by
  obtain ⟨a, len, cap, rfl⟩ := hok
  obtain ⟨fuel, hf⟩ := h
  obtain ⟨bs, rfl, h1, h2, h3, h4⟩ := open_bytes hf
  have hcap : cap ≤ 140737488351232 := by
    rcases h4 with h | ⟨elems, rest, e, hl⟩
    · omega
    · have hs := sized_slice hsz (t := 87) (e := 5) (elems := elems) (spare := rest) ht (by rw [hd]; exact congrArg some e) Try.underlying87
      have hby : Try.prog.bytesOf 5 = 1 := by kernel_rfl
      rw [hby] at hs
      unfold reachBytes at hs
      omega
  exact ⟨a, cap, bs, rfl, ⟨⟨h1, h2, by omega⟩, h3, by omega⟩, by omega⟩

theorem cells_tap : Try.prog.cellsOf 39 = 6 := by kernel_rfl

set_option maxRecDepth 100000 in
theorem open_tap {fuel : Nat} {cs : List Value} {x : DataW H × List MemPlace} (h : DataW.trod enc Try.prog w 0 (fun _ => true) held fuel 39 cs = some x) : ∃ t : Tp, cs = (tpC t).toList ∧ tapFits t := by
  obtain ⟨xs, n, _, rfl, hl, hlen, hf⟩ := DataW.trod_struct Try.underlying39 h
  rw [cells_tap] at hl
  have g0 := hf 0 _ rfl
  have g1 := hf 1 _ rfl
  have g2 := hf 2 _ rfl
  have g3 := hf 3 _ rfl
  have g4 := hf 4 _ rfl
  have g5 := hf 5 _ rfl
  match xs, hlen with
  | [y0, y1, y2, y3, y4, y5], _ =>
    simp only [List.getElem?_cons_zero, List.getElem?_cons_succ] at g0 g1 g2 g3 g4 g5
    obtain ⟨a0, e0, rfl, w0⟩ := DataW.trod_int Try.underlying3 g0
    obtain ⟨a1, e1, rfl, w1⟩ := DataW.trod_int Try.underlying3 g1
    obtain ⟨a2, e2, rfl, w2⟩ := DataW.trod_string Try.underlying9 g2
    obtain ⟨a3, e3, rfl, w3⟩ := DataW.trod_int Try.underlying3 g3
    obtain ⟨a4, e4, rfl, w4⟩ := DataW.trod_int Try.underlying3 g4
    obtain ⟨a5, e5, rfl, w5⟩ := DataW.trod_int Try.underlying3 g5
    match cs, hl with
    | [c0, c1, c2, c3, c4, c5], _ =>
      have f0 := one_of e0
      have f1 := one_of e1
      have f2 := one_of e2
      have f3 := one_of e3
      have f4 := one_of e4
      have f5 := one_of e5
      simp at f0 f1 f2 f3 f4 f5
      subst f0 f1 f2 f3 f4 f5
      exact ⟨⟨a0, a1, a2, a3, a4, a5⟩, rfl, ⟨(wf_le w0).1, (wf_le w1).1, (wf_le w3).1, (wf_le w4).1, (wf_le w5).1⟩⟩

/-- One that was handed in. -/
theorem arg_tap {v : Value} {d : DataW H} {p : List MemPlace} (hok : ∃ cs, v = .agg cs ∧ cs.size = Try.prog.cellsOf 39) (h : DataW.Trod enc Try.prog w 0 (fun _ => true) held 39 v d p) : ∃ t : Tp, v = .agg (tpC t) ∧ tapFits t := by
  obtain ⟨cs, rfl, _⟩ := hok
  obtain ⟨fuel, hf⟩ := h
  obtain ⟨t, h1, h2⟩ := open_tap (cs := cs.toList) hf
  exact ⟨t, by rw [show cs = tpC t from Array.ext' h1], h2⟩

theorem cells_account : Try.prog.cellsOf 165 = 3 := by kernel_rfl

set_option maxRecDepth 100000 in
theorem open_account {fuel : Nat} {cs : List Value} {x : DataW H × List MemPlace} (h : DataW.trod enc Try.prog w 0 (fun _ => true) held fuel 165 cs = some x) : ∃ t : Ac, cs = (acC t).toList ∧ accountFits t := by
  obtain ⟨xs, n, _, rfl, hl, hlen, hf⟩ := DataW.trod_struct Try.underlying165 h
  rw [cells_account] at hl
  have g0 := hf 0 _ rfl
  have g1 := hf 1 _ rfl
  have g2 := hf 2 _ rfl
  match xs, hlen with
  | [y0, y1, y2], _ =>
    simp only [List.getElem?_cons_zero, List.getElem?_cons_succ] at g0 g1 g2
    obtain ⟨a0, e0, rfl, w0⟩ := DataW.trod_string Try.underlying9 g0
    obtain ⟨a1, e1, rfl, w1⟩ := DataW.trod_int Try.underlying3 g1
    obtain ⟨a2, e2, rfl, w2⟩ := DataW.trod_int Try.underlying3 g2
    match cs, hl with
    | [c0, c1, c2], _ =>
      have f0 := one_of e0
      have f1 := one_of e1
      have f2 := one_of e2
      simp at f0 f1 f2
      subst f0 f1 f2
      exact ⟨⟨a0, a1, a2⟩, rfl, ⟨(wf_le w1).1, (wf_le w2).1⟩⟩

/-- One that was handed in. -/
theorem arg_account {v : Value} {d : DataW H} {p : List MemPlace} (hok : ∃ cs, v = .agg cs ∧ cs.size = Try.prog.cellsOf 165) (h : DataW.Trod enc Try.prog w 0 (fun _ => true) held 165 v d p) : ∃ t : Ac, v = .agg (acC t) ∧ accountFits t := by
  obtain ⟨cs, rfl, _⟩ := hok
  obtain ⟨fuel, hf⟩ := h
  obtain ⟨t, h1, h2⟩ := open_account (cs := cs.toList) hf
  exact ⟨t, by rw [show cs = acC t from Array.ext' h1], h2⟩

end
end Go.Proofs.Ythgkifkcckandaa

