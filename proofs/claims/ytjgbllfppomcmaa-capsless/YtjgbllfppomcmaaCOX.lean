import Derived.Test.YtjgbllfppomcmaaFO1
import Derived.Test.YtjgbllfppomcmaaCP0
import Derived.Test.YtjgbllfppomcmaaCD1
/- How the laws' arguments read: priced journeys, days. -/
namespace Go.Proofs.Ytjgbllfppomcmaa
open Go.ChangeShapes Go.WideShapes Go.ChangeAt Go.RowKit Go.Deep

theorem cells_day : Try.prog.cellsOf 43 = 7 := by kernel_rfl
theorem cells_priced : Try.prog.cellsOf 33 = 7 := by kernel_rfl

section
variable {H : Type} {enc : TypeId × Value → H} {w : World} {held : Bool}

set_option maxRecDepth 100000 in
theorem open_day {fuel : Nat} {cs : List Value} {x : DataW H × List MemPlace} (h : DataW.trod enc Try.prog w 0 (fun _ => true) held fuel 43 cs = some x) : ∃ q : Dy, cs = dyL q := by
  obtain ⟨xs, n, _, rfl, hl, hlen, hf⟩ := DataW.trod_struct Try.underlying43 h
  rw [cells_day] at hl
  have g0 := hf 0 _ rfl
  have g1 := hf 1 _ rfl
  have g2 := hf 2 _ rfl
  have g3 := hf 3 _ rfl
  have g4 := hf 4 _ rfl
  have g5 := hf 5 _ rfl
  have g6 := hf 6 _ rfl
  match xs, hlen with
  | [y0, y1, y2, y3, y4, y5, y6], _ =>
    simp only [List.getElem?_cons_zero, List.getElem?_cons_succ] at g0 g1 g2 g3 g4 g5 g6
    obtain ⟨a0, e0, rfl, w0⟩ := DataW.trod_int Try.underlying3 g0
    obtain ⟨a1, e1, rfl, w1⟩ := DataW.trod_int Try.underlying3 g1
    obtain ⟨a2, e2, rfl, w2⟩ := DataW.trod_int Try.underlying3 g2
    obtain ⟨a3, e3, rfl, w3⟩ := DataW.trod_int Try.underlying3 g3
    obtain ⟨a4, e4, rfl, w4⟩ := DataW.trod_int Try.underlying3 g4
    obtain ⟨a5, e5, rfl, w5⟩ := DataW.trod_int Try.underlying3 g5
    obtain ⟨a6, e6, rfl, w6⟩ := DataW.trod_int Try.underlying3 g6
    match cs, hl with
    | [c0, c1, c2, c3, c4, c5, c6], _ =>
      have f0 := one_of e0
      have f1 := one_of e1
      have f2 := one_of e2
      have f3 := one_of e3
      have f4 := one_of e4
      have f5 := one_of e5
      have f6 := one_of e6
      simp at f0 f1 f2 f3 f4 f5 f6
      subst f0 f1 f2 f3 f4 f5 f6
      exact ⟨⟨a0, a1, a2, a3, a4, a5, a6⟩, rfl⟩

theorem open_days {fuel : Nat} {a0 : Option Addr} {len cap : Nat} {x : DataW H × List MemPlace} (h : DataW.trod enc Try.prog w 0 (fun _ => true) held fuel 35 [.slice a0 len cap] = some x) :
    ∃ ps : List Dy, ps.length = len ∧ len ≤ cap ∧ CAt w a0 (dyV ps) ∧ (len = 0 ∨ ∃ elems rest, x.1 = .slice elems rest ∧ elems.length = len) := by
  rcases open_slice Try.underlying35 h with ⟨hcs, hx⟩ | ⟨a, len', cap', m, n, D, Pla, hcs, hb, hl, hm, hmm, hx, hel⟩
  · simp at hcs
    obtain ⟨rfl, rfl, rfl⟩ := hcs
    exact ⟨[], rfl, Nat.le_refl _, CAt.nil _ _, .inl rfl⟩
  · simp at hcs
    obtain ⟨rfl, rfl, rfl⟩ := hcs
    rw [cells_day] at hel
    have hmc : m = cap := by simpa using hmm
    obtain ⟨ps, hpl, hps⟩ := list_of (Good := fun j (q : Dy) => ∀ i, i < 7 → w.cell? ((a.add (j * 7)).add i) = (dyL q)[i]?) len (fun j hj => by
      obtain ⟨cs', h1, h2⟩ := hel j (by omega)
      obtain ⟨q, e1⟩ := open_day h2
      obtain ⟨_, _, h4⟩ := World.cells?_some h1
      refine ⟨q, fun i hi => ?_⟩
      rw [h4 i hi, e1])
    refine ⟨ps, hpl, hl, fun h0 => ?_, .inr ⟨_, _, by rw [hx], by simp⟩⟩
    have hVl := dyV_length ps
    have hpos : 0 < ps.length := by omega
    obtain ⟨b, off, spot⟩ := a
    have hc := hps 0 hpos 0 (by omega)
    have hspot : spot = none := by
      have hv : (dyL ps[0])[0]? = some (.int .i64 ps[0].day) := rfl
      rw [hv] at hc
      simpa [Addr.add] using World.cell?_spot hc
    subst hspot
    refine ⟨b, off, rfl, fun j hj => ?_⟩
    have hjk : j / 7 < ps.length := by omega
    have h1 := hps (j / 7) hjk (j % 7) (Nat.mod_lt _ (by omega))
    rw [Addr.add_lit, Addr.add_lit, Nat.add_assoc, show j / 7 * 7 + j % 7 = j by omega] at h1
    have h2 := flat_get dyL 7 (fun _ => rfl) ps (j / 7) hjk (j % 7) (Nat.mod_lt _ (by omega))
    rw [show j / 7 * 7 + j % 7 = j by omega] at h2
    rw [h1, ← h2]
    exact List.getElem?_eq_getElem hj

/-- Rows that were handed in. -/
theorem arg_days {ts : List TypeId} {ds : List (DataW H)} {v : Value} {d : DataW H} {p : List MemPlace} {j : Nat} (hok : ∃ a len cap, v = .slice a len cap) (h : DataW.Trod enc Try.prog w 0 (fun _ => true) held 35 v d p)
    (hsz : (DataW.weightsEach Try.prog ts ds).all (· ≤ reachBytes) = true) (ht : ts[j]? = some 35) (hd : ds[j]? = some d) : ∃ ao cap ps, v = .slice ao (List.length ps) cap ∧ CAt w ao (dyV ps) ∧ ps.length ≤ cap ∧ (ps.length + 1) * 56 ≤ 140737488355328 := by
  obtain ⟨a, len, cap, rfl⟩ := hok
  obtain ⟨fuel, hf⟩ := h
  obtain ⟨ps, rfl, h1, h2, h3⟩ := open_days hf
  refine ⟨a, cap, ps, rfl, h2, h1, ?_⟩
  rcases h3 with h | ⟨el, re, e, hl⟩
  · rw [h]; omega
  · have hs := sized_slice hsz (t := 35) (e := 43) (elems := el) (spare := re) ht (by rw [hd]; exact congrArg some e) Try.underlying35
    have hby : Try.prog.bytesOf 43 = 56 := by kernel_rfl
    rw [hby] at hs
    unfold reachBytes at hs
    omega


set_option maxRecDepth 100000 in
theorem open_priced {fuel : Nat} {cs : List Value} {x : DataW H × List MemPlace} (h : DataW.trod enc Try.prog w 0 (fun _ => true) held fuel 33 cs = some x) : ∃ q : Jn × Int, cs = pL q := by
  obtain ⟨xs, n, _, rfl, hl, hlen, hf⟩ := DataW.trod_struct Try.underlying33 h
  rw [cells_priced] at hl
  have g0 := hf 0 _ rfl
  have g1 := hf 1 _ rfl
  match xs, hlen with
  | [y0, y1], _ =>
    simp only [List.getElem?_cons_zero, List.getElem?_cons_succ] at g0 g1
    obtain ⟨q, e0⟩ := open_journey g0
    obtain ⟨a1, e1, rfl, w1⟩ := DataW.trod_int Try.underlying3 g1
    match cs, hl with
    | [c0, c1, c2, c3, c4, c5, c6], _ =>
      have f1 := one_of e1
      simp at f1
      subst f1
      have e2 : [c0, c1, c2, c3, c4, c5] = jL q := e0
      refine ⟨(q, a1), ?_⟩
      have e3 : pL (q, a1) = jL q ++ [.int .i64 a1] := rfl
      rw [e3, ← e2]
      rfl

/-- A priced journey that was handed in. -/
theorem arg_priced {v : Value} {d : DataW H} {p : List MemPlace} (hok : ∃ cs, v = .agg cs ∧ cs.size = Try.prog.cellsOf 33) (h : DataW.Trod enc Try.prog w 0 (fun _ => true) held 33 v d p) : ∃ j : Jn × Int, v = .agg (pC j) := by
  obtain ⟨cs, rfl, _⟩ := hok
  obtain ⟨fuel, hf⟩ := h
  obtain ⟨t, h1⟩ := open_priced (cs := cs.toList) hf
  exact ⟨t, by rw [show cs = pC t from Array.ext' h1]⟩

theorem open_priceds {fuel : Nat} {a0 : Option Addr} {len cap : Nat} {x : DataW H × List MemPlace} (h : DataW.trod enc Try.prog w 0 (fun _ => true) held fuel 41 [.slice a0 len cap] = some x) :
    ∃ ps : List (Jn × Int), ps.length = len ∧ len ≤ cap ∧ CAt w a0 (pV ps) ∧ (len = 0 ∨ ∃ elems rest, x.1 = .slice elems rest ∧ elems.length = len) := by
  rcases open_slice Try.underlying41 h with ⟨hcs, hx⟩ | ⟨a, len', cap', m, n, D, Pla, hcs, hb, hl, hm, hmm, hx, hel⟩
  · simp at hcs
    obtain ⟨rfl, rfl, rfl⟩ := hcs
    exact ⟨[], rfl, Nat.le_refl _, CAt.nil _ _, .inl rfl⟩
  · simp at hcs
    obtain ⟨rfl, rfl, rfl⟩ := hcs
    rw [cells_priced] at hel
    have hmc : m = cap := by simpa using hmm
    obtain ⟨ps, hpl, hps⟩ := list_of (Good := fun j (q : (Jn × Int)) => ∀ i, i < 7 → w.cell? ((a.add (j * 7)).add i) = (pL q)[i]?) len (fun j hj => by
      obtain ⟨cs', h1, h2⟩ := hel j (by omega)
      obtain ⟨q, e1⟩ := open_priced h2
      obtain ⟨_, _, h4⟩ := World.cells?_some h1
      refine ⟨q, fun i hi => ?_⟩
      rw [h4 i hi, e1])
    refine ⟨ps, hpl, hl, fun h0 => ?_, .inr ⟨_, _, by rw [hx], by simp⟩⟩
    have hVl := pV_length ps
    have hpos : 0 < ps.length := by omega
    obtain ⟨b, off, spot⟩ := a
    have hc := hps 0 hpos 0 (by omega)
    have hspot : spot = none := by
      have hv : (pL ps[0])[0]? = some (.int .i64 ps[0].1.kind) := rfl
      rw [hv] at hc
      simpa [Addr.add] using World.cell?_spot hc
    subst hspot
    refine ⟨b, off, rfl, fun j hj => ?_⟩
    have hjk : j / 7 < ps.length := by omega
    have h1 := hps (j / 7) hjk (j % 7) (Nat.mod_lt _ (by omega))
    rw [Addr.add_lit, Addr.add_lit, Nat.add_assoc, show j / 7 * 7 + j % 7 = j by omega] at h1
    have h2 := flat_get pL 7 (fun _ => rfl) ps (j / 7) hjk (j % 7) (Nat.mod_lt _ (by omega))
    rw [show j / 7 * 7 + j % 7 = j by omega] at h2
    rw [h1, ← h2]
    exact List.getElem?_eq_getElem hj

/-- Rows that were handed in. -/
theorem arg_priceds {ts : List TypeId} {ds : List (DataW H)} {v : Value} {d : DataW H} {p : List MemPlace} {j : Nat} (hok : ∃ a len cap, v = .slice a len cap) (h : DataW.Trod enc Try.prog w 0 (fun _ => true) held 41 v d p)
    (hsz : (DataW.weightsEach Try.prog ts ds).all (· ≤ reachBytes) = true) (ht : ts[j]? = some 41) (hd : ds[j]? = some d) : ∃ ao cap ps, v = .slice ao (List.length ps) cap ∧ CAt w ao (pV ps) ∧ ps.length ≤ cap ∧ (ps.length + 1) * 56 ≤ 140737488355328 := by
  obtain ⟨a, len, cap, rfl⟩ := hok
  obtain ⟨fuel, hf⟩ := h
  obtain ⟨ps, rfl, h1, h2, h3⟩ := open_priceds hf
  refine ⟨a, cap, ps, rfl, h2, h1, ?_⟩
  rcases h3 with h | ⟨el, re, e, hl⟩
  · rw [h]; omega
  · have hs := sized_slice hsz (t := 41) (e := 33) (elems := el) (spare := re) ht (by rw [hd]; exact congrArg some e) Try.underlying41
    have hby : Try.prog.bytesOf 33 = 56 := by kernel_rfl
    rw [hby] at hs
    unfold reachBytes at hs
    omega


end
end Go.Proofs.Ytjgbllfppomcmaa

/- How the laws' arguments read: ints. -/
namespace Go.Proofs.Ytjgbllfppomcmaa
open Go.ChangeShapes Go.WideShapes Go.ChangeAt Go.RowKit Go.Deep

theorem cells_intC : Try.prog.cellsOf 3 = 1 := by kernel_rfl

section
variable {H : Type} {enc : TypeId × Value → H} {w : World} {held : Bool}

theorem open_ints {fuel : Nat} {a0 : Option Addr} {len cap : Nat} {x : DataW H × List MemPlace} (h : DataW.trod enc Try.prog w 0 (fun _ => true) held fuel 29 [.slice a0 len cap] = some x) :
    ∃ ps : List Int, ps.length = len ∧ len ≤ cap ∧ CAt w a0 (ps.map (Value.int .i64)) ∧ (len = 0 ∨ ∃ elems rest, x.1 = .slice elems rest ∧ elems.length = len) := by
  rcases open_slice Try.underlying29 h with ⟨hcs, hx⟩ | ⟨a, len', cap', m, n, D, Pla, hcs, hb, hl, hm, hmm, hx, hel⟩
  · simp at hcs
    obtain ⟨rfl, rfl, rfl⟩ := hcs
    exact ⟨[], rfl, Nat.le_refl _, CAt.nil _ _, .inl rfl⟩
  · simp at hcs
    obtain ⟨rfl, rfl, rfl⟩ := hcs
    rw [cells_intC] at hel
    have hmc : m = cap := by simpa using hmm
    obtain ⟨ps, hpl, hps⟩ := list_of (Good := fun j (q : Int) => w.cell? (a.add j) = some (.int .i64 q)) len (fun j hj => by
      obtain ⟨cs', h1, h2⟩ := hel j (by omega)
      obtain ⟨q, rfl, _⟩ := DataW.trod_int Try.underlying3 h2
      obtain ⟨_, _, h4⟩ := World.cells?_some h1
      have h5 := h4 0 (by omega)
      exact ⟨q, by simpa [Addr.add] using h5⟩)
    refine ⟨ps, hpl, hl, fun h0 => ?_, .inr ⟨_, _, by rw [hx], by simp⟩⟩
    rw [List.length_map] at h0
    obtain ⟨b, off, spot⟩ := a
    have hc0 := hps 0 h0
    have hspot : spot = none := by simpa [Addr.add] using World.cell?_spot hc0
    subst hspot
    refine ⟨b, off, rfl, fun j hj => ?_⟩
    have hj' : j < ps.length := by simpa using hj
    have hc := hps j hj'
    rw [Addr.add_lit] at hc
    rw [hc, List.getElem_map]

/-- Ints that were handed in. -/
theorem arg_ints {ts : List TypeId} {ds : List (DataW H)} {v : Value} {d : DataW H} {p : List MemPlace} {j : Nat} (hok : ∃ a len cap, v = .slice a len cap) (h : DataW.Trod enc Try.prog w 0 (fun _ => true) held 29 v d p)
    (hsz : (DataW.weightsEach Try.prog ts ds).all (· ≤ reachBytes) = true) (ht : ts[j]? = some 29) (hd : ds[j]? = some d) : ∃ ao cap ps, v = .slice ao (List.length ps) cap ∧ CAt w ao (ps.map (Value.int .i64)) ∧ ps.length ≤ cap ∧ (ps.length + 1) * 8 ≤ 140737488355328 := by
  obtain ⟨a, len, cap, rfl⟩ := hok
  obtain ⟨fuel, hf⟩ := h
  obtain ⟨ps, rfl, h1, h2, h3⟩ := open_ints hf
  refine ⟨a, cap, ps, rfl, h2, h1, ?_⟩
  rcases h3 with h | ⟨el, re, e, hl⟩
  · rw [h]; omega
  · have hs := sized_slice hsz (t := 29) (e := 3) (elems := el) (spare := re) ht (by rw [hd]; exact congrArg some e) Try.underlying29
    have hby : Try.prog.bytesOf 3 = 8 := by kernel_rfl
    rw [hby] at hs
    unfold reachBytes at hs
    omega

end
end Go.Proofs.Ytjgbllfppomcmaa

/- How the laws' arguments read: rows of priced journeys. -/
namespace Go.Proofs.Ytjgbllfppomcmaa
open Go.ChangeShapes Go.WideShapes Go.ChangeAt Go.RowKit Go.Deep

theorem cells_priceds : Try.prog.cellsOf 41 = 1 := by kernel_rfl

section
variable {H : Type} {enc : TypeId × Value → H} {w : World} {held : Bool}

theorem shape_priceds {fuel : Nat} {cs : List Value} {x : DataW H × List MemPlace} (h : DataW.trod enc Try.prog w 0 (fun _ => true) held fuel 41 cs = some x) : ∃ a len cap, cs = [.slice a len cap] := by
  rcases open_slice Try.underlying41 h with ⟨hcs, _⟩ | ⟨a, len', cap', m, n, D, Pla, hcs, _⟩
  · exact ⟨_, _, _, hcs⟩
  · exact ⟨_, _, _, hcs⟩

/-- Rows of rows that were handed in. -/
theorem arg_pricedss {ts : List TypeId} {ds : List (DataW H)} {v : Value} {d : DataW H} {p : List MemPlace} {j : Nat} (hok : ∃ a len cap, v = .slice a len cap) (h : DataW.Trod enc Try.prog w 0 (fun _ => true) held 28 v d p)
    (hsz : (DataW.weightsEach Try.prog ts ds).all (· ≤ reachBytes) = true) (ht : ts[j]? = some 28) (hd : ds[j]? = some d) : ∃ ao cap ps, v = .slice ao (List.length ps) cap ∧ PrsAt w ao ps ∧ ps.length ≤ cap ∧ (ps.length + 100) * 24 ≤ 140737488355328 := by
  obtain ⟨a0, len, cap, rfl⟩ := hok
  obtain ⟨fuel, hf⟩ := h
  have hf' : DataW.trod enc Try.prog w 0 (fun _ => true) held fuel 28 [.slice a0 len cap] = some (d, p) := hf
  rcases open_slice Try.underlying28 hf' with ⟨hcs, hx⟩ | ⟨a, len', cap', m, n, D, Pla, hcs, hb, hl, hm, hmm, hx, hel⟩
  · simp at hcs
    obtain ⟨rfl, rfl, rfl⟩ := hcs
    exact ⟨none, 0, [], rfl, ⟨fun h0 => absurd h0 (by simp), fun x hx => by (cases hx)⟩, Nat.le_refl _, by simp⟩
  · simp at hcs
    obtain ⟨rfl, rfl, rfl⟩ := hcs
    rw [cells_priceds] at hel
    have hmc : m = cap := by simpa using hmm
    have hd' : d = .slice ((List.range len).map D) ((List.range (m - len)).map fun j => D (len + j)) := congrArg Prod.fst hx
    have hby : Try.prog.bytesOf 41 = 24 := by kernel_rfl
    have hcap : (len + 100) * 24 ≤ 140737488355328 := by
      have hs := sized_slice hsz (t := 28) (e := 41) (elems := (List.range len).map D) (spare := (List.range (m - len)).map fun j => D (len + j)) ht (by rw [hd, hd']) Try.underlying28
      rw [hby] at hs
      unfold reachBytes at hs
      simp at hs
      omega
    obtain ⟨ps, hpl, hps⟩ := list_of (Good := fun j (q : PrA) => CAt w q.io (pV q.ps) ∧ w.cell? (a.add j) = some (.slice q.io q.ps.length q.ic)) len (fun j hj => by
      obtain ⟨cs', h1, h2⟩ := hel j (by omega)
      obtain ⟨ao, ln, cp, rfl⟩ := shape_priceds h2
      obtain ⟨its, rfl, _, e2, _⟩ := open_priceds h2
      obtain ⟨_, _, h4⟩ := World.cells?_some h1
      refine ⟨⟨ao, cp, its⟩, e2, ?_⟩
      have h5 := h4 0 (by omega)
      simpa [Addr.add] using h5)
    refine ⟨some a, cap, ps, by rw [hpl], ⟨fun h0 => ?_, fun x hx => ?_⟩, by omega, by rw [hpl]; exact hcap⟩
    · obtain ⟨b, off, spot⟩ := a
      obtain ⟨_, hc0⟩ := hps 0 h0
      have hspot : spot = none := by simpa [Addr.add] using World.cell?_spot hc0
      subst hspot
      refine ⟨b, off, rfl, fun j hj => ?_⟩
      have hc := (hps j hj).2
      rw [Addr.add_lit] at hc
      exact hc
    · obtain ⟨j, hj, rfl⟩ := List.mem_iff_getElem.1 hx
      exact (hps j hj).1
end

end Go.Proofs.Ytjgbllfppomcmaa

