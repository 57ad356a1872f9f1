import Derived.Test.YtphkjeeblihfgaaDoorZO2
import Derived.Test.YtphkjeeblihfgaaDoorZTF
/- How LinkTakes' script reads: ops that were handed in, within the bound. -/
namespace Go.Proofs.YtphkjeeblihfgaaDoor
open Go.ChangeShapes Go.WideShapes Go.ChangeAt Go.RowKit Go.Deep

theorem cells_op : Tryd.prog.cellsOf 38 = 7 := by kernel_rfl

section
variable {H : Type} {enc : TypeId × Value → H} {w : World} {held : Bool}

theorem bulk_bytes {fuel : Nat} {a0 : Option Addr} {len cap : Nat} {x : DataW H × List MemPlace} (h : DataW.trod enc Tryd.prog w 0 (fun _ => true) held fuel 34 [.slice a0 len cap] = some x) (hk : Rows.uptoBulk x.1 ≤ 1048576) :
    ∃ bs : List UInt8, bs.length = len ∧ BAt w a0 cap bs ∧ bs.length ≤ 1048576 := by
  obtain ⟨bs, h1, h2, h3, h4, h5⟩ := open_bytes h
  have hl : bs.length ≤ 1048576 := by
    rcases h5 with e | ⟨elems, rest, e, h6, h7⟩
    · omega
    · have := bulk_length elems
      rw [e] at hk
      simp only [Rows.uptoBulk] at hk
      omega
  exact ⟨bs, h1, ⟨h2, h3, by omega⟩, hl⟩

theorem bulk_recs {fuel : Nat} {a0 : Option Addr} {len cap : Nat} {x : DataW H × List MemPlace} (h : DataW.trod enc Tryd.prog w 0 (fun _ => true) held fuel 33 [.slice a0 len cap] = some x) (hk : Rows.uptoBulk x.1 ≤ 1048576) :
    ∃ rs : List (List UInt8), rs.length = len ∧ RowsAt w a0 rs ∧ rs.length ≤ 1048576 ∧ ∀ b ∈ rs, b.length ≤ 1048576 := by
  rcases open_slice Tryd.underlying33 h with ⟨hcs, hx⟩ | ⟨a, len', cap', m, n, D, Pla, hcs, hb, hl, hm, hmm, hx, hel⟩
  · simp at hcs
    obtain ⟨rfl, rfl, rfl⟩ := hcs
    exact ⟨[], rfl, ⟨fun h0 => absurd h0 (by simp), by simp⟩, by simp, by simp⟩
  · simp at hcs
    obtain ⟨rfl, rfl, rfl⟩ := hcs
    rw [cells_bytes] at hel
    have hmc : m = cap := by simpa using hmm
    rw [hx] at hk
    simp only [Rows.uptoBulk] at hk
    have hn := bulk_length ((List.range len).map D)
    rw [List.length_map, List.length_range] at hn
    obtain ⟨ps, hpl, hps⟩ := list_of (Good := fun j (q : List UInt8) => q.length ≤ 1048576 ∧ ∃ ao cp, w.cell? (a.add j) = some (.slice ao q.length cp) ∧ BAt w ao cp q) len (fun j hj => by
      obtain ⟨cs', h1, h2⟩ := hel j (by omega)
      obtain ⟨ao, ln, cp, rfl⟩ := slice_shape Tryd.underlying34 h2
      have hm2 := bulk_mem (d := D j) (l := (List.range len).map D) (by simp; exact ⟨j, hj, rfl⟩)
      obtain ⟨bs, e1, e2, e3⟩ := bulk_bytes h2 (by show Rows.uptoBulk (D j) ≤ _; omega)
      obtain ⟨_, _, h4⟩ := World.cells?_some h1
      refine ⟨bs, e3, ao, cp, ?_, e2⟩
      have h5 := h4 0 (by omega)
      rw [e1]
      simpa [Addr.add] using h5)
    refine ⟨ps, hpl, ⟨fun h0 => ?_, by omega⟩, by omega, fun b hb2 => ?_⟩
    · obtain ⟨b, off, spot⟩ := a
      obtain ⟨_, ao0, cp0, hc0, _⟩ := hps 0 h0
      have hspot : spot = none := by simpa [Addr.add] using World.cell?_spot hc0
      subst hspot
      refine ⟨b, off, rfl, fun j hj => ?_⟩
      obtain ⟨_, ao, cp, hc, hB⟩ := hps j hj
      rw [Addr.add_lit] at hc
      exact ⟨ao, cp, hc, hB⟩
    · obtain ⟨j, hj, rfl⟩ := List.mem_iff_getElem.1 hb2
      exact (hps j hj).1

set_option maxRecDepth 20000 in
theorem bulk_frame {fuel : Nat} {cs : List Value} {x : DataW H × List MemPlace} (h : DataW.trod enc Tryd.prog w 0 (fun _ => true) held fuel 36 cs = some x) (hk : Rows.uptoBulk x.1 ≤ 1048576) :
    ∃ (f : Fm) (io : Option Addr) (ic : Nat) (bo : Option Addr) (bc : Nat), cs = (f.cells io ic bo bc).toList ∧ f.At w io bo bc ∧ f.items.length ≤ 1048576 ∧ ∀ b ∈ f.items, b.length ≤ 1048576 := by
  obtain ⟨xs, n, _, rfl, hl, hlen, hf⟩ := DataW.trod_struct Tryd.underlying36 h
  rw [cells_frame] at hl
  have g0 := hf 0 _ rfl
  have g1 := hf 1 _ rfl
  have g2 := hf 2 _ rfl
  have g3 := hf 3 _ rfl
  have g4 := hf 4 _ rfl
  match xs, hlen with
  | [y0, y1, y2, y3, y4], _ =>
    simp only [List.getElem?_cons_zero, List.getElem?_cons_succ] at g0 g1 g2 g3 g4
    simp only [Rows.uptoBulk, List.map_cons, List.map_nil, Rows.uptoBulkAll] at hk
    obtain ⟨a0, e0, _, w0⟩ := DataW.trod_int Tryd.underlying3 g0
    obtain ⟨a1, e1, _, w1⟩ := DataW.trod_int Tryd.underlying3 g1
    obtain ⟨a2, e2, _, w2⟩ := DataW.trod_int Tryd.underlying3 g2
    match cs, hl with
    | [c0, c1, c2, c3, c4], _ =>
      have f0 := one_of e0
      have f1 := one_of e1
      have f2 := one_of e2
      simp at f0 f1 f2
      subst f0 f1 f2
      have k3 : DataW.trod enc Tryd.prog w 0 (fun _ => true) held n 33 [c3] = some y3 := g3
      have k4 : DataW.trod enc Tryd.prog w 0 (fun _ => true) held n 34 [c4] = some y4 := g4
      obtain ⟨ro, rl, rc, h3⟩ := slice_shape Tryd.underlying33 k3
      obtain ⟨bo, bl, bc, h4⟩ := slice_shape Tryd.underlying34 k4
      simp only [List.cons.injEq, and_true] at h3 h4
      subst h3 h4
      obtain ⟨rs, rfl, R1, R2, R3⟩ := bulk_recs k3 (by omega)
      obtain ⟨bs, rfl, B1, B2⟩ := bulk_bytes k4 (by omega)
      exact ⟨⟨a0, a1, a2, rs, bs⟩, ro, rc, bo, bc, rfl, ⟨R1, B1⟩, R2, R3⟩

set_option maxRecDepth 20000 in
theorem bulk_op {fuel : Nat} {cs : List Value} {x : DataW H × List MemPlace} (h : DataW.trod enc Tryd.prog w 0 (fun _ => true) held fuel 38 cs = some x) (hk : Rows.uptoBulk x.1 ≤ 1048576) :
    ∃ q : OpA, cs = q.vals ∧ q.f.At w q.io q.bo q.bc ∧ q.f.items.length ≤ 1048576 ∧ ∀ b ∈ q.f.items, b.length ≤ 1048576 := by
  obtain ⟨xs, n, _, rfl, hl, hlen, hf⟩ := DataW.trod_struct Tryd.underlying38 h
  rw [cells_op] at hl
  have g0 := hf 0 _ rfl
  have g1 := hf 1 _ rfl
  have g2 := hf 2 _ rfl
  match xs, hlen with
  | [y0, y1, y2], _ =>
    simp only [List.getElem?_cons_zero, List.getElem?_cons_succ] at g0 g1 g2
    simp only [Rows.uptoBulk, List.map_cons, List.map_nil, Rows.uptoBulkAll] at hk
    obtain ⟨a0, e0, _, w0⟩ := DataW.trod_int Tryd.underlying3 g0
    obtain ⟨a1, e1, _, w1⟩ := DataW.trod_int Tryd.underlying3 g1
    match cs, hl with
    | [c0, c1, c2, c3, c4, c5, c6], _ =>
      have f0 := one_of e0
      have f1 := one_of e1
      simp at f0 f1
      subst f0 f1
      have k2 : DataW.trod enc Tryd.prog w 0 (fun _ => true) held n 36 [c2, c3, c4, c5, c6] = some y2 := g2
      obtain ⟨f, io, ic, bo, bc, e, hq⟩ := bulk_frame k2 (by omega)
      simp only [Fm.cells, List.cons.injEq, and_true] at e
      obtain ⟨rfl, rfl, rfl, rfl, rfl⟩ := e
      exact ⟨⟨a0, a1, f, io, ic, bo, bc⟩, rfl, hq⟩

/-- Ops that were handed in. -/
theorem arg_lops {v : Value} {d : DataW H} {p : List MemPlace} (hok : ∃ a len cap, v = .slice a len cap) (h : DataW.Trod enc Tryd.prog w 0 (fun _ => true) held 27 v d p)
    (hk : Rows.uptoBulk d ≤ 1048576) : ∃ ao cap ps, v = .slice ao (List.length ps) cap ∧ OpAt w ao ps := by
  obtain ⟨a0, len, cap, rfl⟩ := hok
  obtain ⟨fuel, hf⟩ := h
  have hf' : DataW.trod enc Tryd.prog w 0 (fun _ => true) held fuel 27 [.slice a0 len cap] = some (d, p) := hf
  rcases open_slice Tryd.underlying27 hf' with ⟨hcs, hx⟩ | ⟨a, len', cap', m, n, D, Pla, hcs, hb, hl, hm, hmm, hx, hel⟩
  · simp at hcs
    obtain ⟨rfl, rfl, rfl⟩ := hcs
    exact ⟨none, 0, [], rfl, ⟨fun h0 => absurd h0 (by simp), fun x hx => by (cases hx), fun x hx => by (cases hx), by simp⟩⟩
  · simp at hcs
    obtain ⟨rfl, rfl, rfl⟩ := hcs
    rw [cells_op] at hel
    have hmc : m = cap := by simpa using hmm
    have hd' : d = .slice ((List.range len).map D) ((List.range (m - len)).map fun j => D (len + j)) := congrArg Prod.fst hx
    rw [hd'] at hk
    simp only [Rows.uptoBulk] at hk
    have hn := bulk_length ((List.range len).map D)
    rw [List.length_map, List.length_range] at hn
    obtain ⟨ps, hpl, hps⟩ := list_of (Good := fun j (q : OpA) => (q.f.At w q.io q.bo q.bc ∧ q.f.items.length ≤ 1048576 ∧ ∀ b ∈ q.f.items, b.length ≤ 1048576) ∧ ∀ i, i < 7 → w.cell? ((a.add (j * 7)).add i) = (q.vals)[i]?) len (fun j hj => by
      obtain ⟨cs', h1, h2⟩ := hel j (by omega)
      have hm2 := bulk_mem (d := D j) (l := (List.range len).map D) (by simp; exact ⟨j, hj, rfl⟩)
      obtain ⟨q, e1, e2⟩ := bulk_op h2 (by show Rows.uptoBulk (D j) ≤ _; omega)
      obtain ⟨_, _, h4⟩ := World.cells?_some h1
      refine ⟨q, e2, fun i hi => ?_⟩
      rw [h4 i hi, e1])
    refine ⟨some a, cap, ps, by rw [hpl], ⟨fun h0 => ?_, fun x hx => ?_, fun x hx => ?_, by omega⟩⟩
    · obtain ⟨b, off, spot⟩ := a
      have hc := (hps 0 (by omega)).2 0 (by omega)
      have hspot : spot = none := by
        have hv : (ps[0].vals)[0]? = some (.int .i64 ps[0].dk) := rfl
        rw [hv] at hc
        simpa [Addr.add] using World.cell?_spot hc
      subst hspot
      refine ⟨b, off, rfl, fun j hj i hi => ?_⟩
      have := (hps j hj).2 i hi
      rw [Addr.add_lit, Addr.add_lit, Nat.add_assoc] at this
      rw [← this, Nat.add_assoc]
    · obtain ⟨j, hj, rfl⟩ := List.mem_iff_getElem.1 hx
      exact (hps j hj).1.1
    · obtain ⟨j, hj, rfl⟩ := List.mem_iff_getElem.1 hx
      exact (hps j hj).1.2
end

end Go.Proofs.YtphkjeeblihfgaaDoor

