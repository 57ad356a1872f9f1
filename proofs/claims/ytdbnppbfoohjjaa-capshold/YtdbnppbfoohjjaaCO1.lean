import Derived.Test.YtdbnppbfoohjjaaFO1
import Derived.Test.YtdbnppbfoohjjaaCP0
/- How the laws' arguments read: priced journeys, days. -/
namespace Go.Proofs.Ytdbnppbfoohjjaa
open Go.ChangeShapes Go.WideShapes Go.ChangeAt Go.RowKit Go.Deep

theorem cells_day : Try.prog.cellsOf 34 = 7 := by kernel_rfl
theorem cells_priced : Try.prog.cellsOf 48 = 7 := by kernel_rfl

section
variable {H : Type} {enc : TypeId × Value → H} {w : World} {held : Bool}

set_option maxRecDepth 100000 in
theorem open_day {fuel : Nat} {cs : List Value} {x : DataW H × List MemPlace} (h : DataW.trod enc Try.prog w 0 (fun _ => true) held fuel 34 cs = some x) : ∃ q : Dy, cs = dyL q := by
  obtain ⟨xs, n, _, rfl, hl, hlen, hf⟩ := DataW.trod_struct Try.underlying34 h
  rw [cells_day] at hl
  have g0 := hf 0 _ rfl
  have g1 := hf 1 _ rfl
  have g2 := hf 2 _ rfl
  have g3 := hf 3 _ rfl
  have g4 := hf 4 _ rfl
  have g5 := hf 5 _ rfl
  have g6 := hf 6 _ rfl
  match xs, hlen with
  | [y0, y1, y2, y3, y4, y5, y6], _ =>
    simp only [List.getElem?_cons_zero, List.getElem?_cons_succ] at g0 g1 g2 g3 g4 g5 g6
    obtain ⟨a0, e0, rfl, w0⟩ := DataW.trod_int Try.underlying3 g0
    obtain ⟨a1, e1, rfl, w1⟩ := DataW.trod_int Try.underlying3 g1
    obtain ⟨a2, e2, rfl, w2⟩ := DataW.trod_int Try.underlying3 g2
    obtain ⟨a3, e3, rfl, w3⟩ := DataW.trod_int Try.underlying3 g3
    obtain ⟨a4, e4, rfl, w4⟩ := DataW.trod_int Try.underlying3 g4
    obtain ⟨a5, e5, rfl, w5⟩ := DataW.trod_int Try.underlying3 g5
    obtain ⟨a6, e6, rfl, w6⟩ := DataW.trod_int Try.underlying3 g6
    match cs, hl with
    | [c0, c1, c2, c3, c4, c5, c6], _ =>
      have f0 := one_of e0
      have f1 := one_of e1
      have f2 := one_of e2
      have f3 := one_of e3
      have f4 := one_of e4
      have f5 := one_of e5
      have f6 := one_of e6
      simp at f0 f1 f2 f3 f4 f5 f6
      subst f0 f1 f2 f3 f4 f5 f6
      exact ⟨⟨a0, a1, a2, a3, a4, a5, a6⟩, rfl⟩

theorem open_days {fuel : Nat} {a0 : Option Addr} {len cap : Nat} {x : DataW H × List MemPlace} (h : DataW.trod enc Try.prog w 0 (fun _ => true) held fuel 30 [.slice a0 len cap] = some x) :
    ∃ ps : List Dy, ps.length = len ∧ len ≤ cap ∧ CAt w a0 (dyV ps) ∧ (len = 0 ∨ ∃ elems rest, x.1 = .slice elems rest ∧ elems.length = len) := by
  rcases open_slice Try.underlying30 h with ⟨hcs, hx⟩ | ⟨a, len', cap', m, n, D, Pla, hcs, hb, hl, hm, hmm, hx, hel⟩
  · simp at hcs
    obtain ⟨rfl, rfl, rfl⟩ := hcs
    exact ⟨[], rfl, Nat.le_refl _, CAt.nil _ _, .inl rfl⟩
  · simp at hcs
    obtain ⟨rfl, rfl, rfl⟩ := hcs
    rw [cells_day] at hel
    have hmc : m = cap := by simpa using hmm
    obtain ⟨ps, hpl, hps⟩ := list_of (Good := fun j (q : Dy) => ∀ i, i < 7 → w.cell? ((a.add (j * 7)).add i) = (dyL q)[i]?) len (fun j hj => by
      obtain ⟨cs', h1, h2⟩ := hel j (by omega)
      obtain ⟨q, e1⟩ := open_day h2
      obtain ⟨_, _, h4⟩ := World.cells?_some h1
      refine ⟨q, fun i hi => ?_⟩
      rw [h4 i hi, e1])
    refine ⟨ps, hpl, hl, fun h0 => ?_, .inr ⟨_, _, by rw [hx], by simp⟩⟩
    have hVl := dyV_length ps
    have hpos : 0 < ps.length := by omega
    obtain ⟨b, off, spot⟩ := a
    have hc := hps 0 hpos 0 (by omega)
    have hspot : spot = none := by
      have hv : (dyL ps[0])[0]? = some (.int .i64 ps[0].day) := rfl
      rw [hv] at hc
      simpa [Addr.add] using World.cell?_spot hc
    subst hspot
    refine ⟨b, off, rfl, fun j hj => ?_⟩
    have hjk : j / 7 < ps.length := by omega
    have h1 := hps (j / 7) hjk (j % 7) (Nat.mod_lt _ (by omega))
    rw [Addr.add_lit, Addr.add_lit, Nat.add_assoc, show j / 7 * 7 + j % 7 = j by omega] at h1
    have h2 := flat_get dyL 7 (fun _ => rfl) ps (j / 7) hjk (j % 7) (Nat.mod_lt _ (by omega))
    rw [show j / 7 * 7 + j % 7 = j by omega] at h2
    rw [h1, ← h2]
    exact List.getElem?_eq_getElem hj

/-- Rows that were handed in. -/
theorem arg_days {ts : List TypeId} {ds : List (DataW H)} {v : Value} {d : DataW H} {p : List MemPlace} {j : Nat} (hok : ∃ a len cap, v = .slice a len cap) (h : DataW.Trod enc Try.prog w 0 (fun _ => true) held 30 v d p)
    (hsz : (DataW.weightsEach Try.prog ts ds).all (· ≤ reachBytes) = true) (ht : ts[j]? = some 30) (hd : ds[j]? = some d) : ∃ ao cap ps, v = .slice ao (List.length ps) cap ∧ CAt w ao (dyV ps) ∧ ps.length ≤ cap ∧ (ps.length + 1) * 56 ≤ 140737488355328 := by
  obtain ⟨a, len, cap, rfl⟩ := hok
  obtain ⟨fuel, hf⟩ := h
  obtain ⟨ps, rfl, h1, h2, h3⟩ := open_days hf
  refine ⟨a, cap, ps, rfl, h2, h1, ?_⟩
  rcases h3 with h | ⟨el, re, e, hl⟩
  · rw [h]; omega
  · have hs := sized_slice hsz (t := 30) (e := 34) (elems := el) (spare := re) ht (by rw [hd]; exact congrArg some e) Try.underlying30
    have hby : Try.prog.bytesOf 34 = 56 := by kernel_rfl
    rw [hby] at hs
    unfold reachBytes at hs
    omega


set_option maxRecDepth 100000 in
theorem open_priced {fuel : Nat} {cs : List Value} {x : DataW H × List MemPlace} (h : DataW.trod enc Try.prog w 0 (fun _ => true) held fuel 48 cs = some x) : ∃ q : Jn × Int, cs = pL q := by
  obtain ⟨xs, n, _, rfl, hl, hlen, hf⟩ := DataW.trod_struct Try.underlying48 h
  rw [cells_priced] at hl
  have g0 := hf 0 _ rfl
  have g1 := hf 1 _ rfl
  match xs, hlen with
  | [y0, y1], _ =>
    simp only [List.getElem?_cons_zero, List.getElem?_cons_succ] at g0 g1
    obtain ⟨q, e0⟩ := open_journey g0
    obtain ⟨a1, e1, rfl, w1⟩ := DataW.trod_int Try.underlying3 g1
    match cs, hl with
    | [c0, c1, c2, c3, c4, c5, c6], _ =>
      have f1 := one_of e1
      simp at f1
      subst f1
      have e2 : [c0, c1, c2, c3, c4, c5] = jL q := e0
      refine ⟨(q, a1), ?_⟩
      have e3 : pL (q, a1) = jL q ++ [.int .i64 a1] := rfl
      rw [e3, ← e2]
      rfl

/-- A priced journey that was handed in. -/
theorem arg_priced {v : Value} {d : DataW H} {p : List MemPlace} (hok : ∃ cs, v = .agg cs ∧ cs.size = Try.prog.cellsOf 48) (h : DataW.Trod enc Try.prog w 0 (fun _ => true) held 48 v d p) : ∃ j : Jn × Int, v = .agg (pC j) := by
  obtain ⟨cs, rfl, _⟩ := hok
  obtain ⟨fuel, hf⟩ := h
  obtain ⟨t, h1⟩ := open_priced (cs := cs.toList) hf
  exact ⟨t, by rw [show cs = pC t from Array.ext' h1]⟩

theorem open_priceds {fuel : Nat} {a0 : Option Addr} {len cap : Nat} {x : DataW H × List MemPlace} (h : DataW.trod enc Try.prog w 0 (fun _ => true) held fuel 49 [.slice a0 len cap] = some x) :
    ∃ ps : List (Jn × Int), ps.length = len ∧ len ≤ cap ∧ CAt w a0 (pV ps) ∧ (len = 0 ∨ ∃ elems rest, x.1 = .slice elems rest ∧ elems.length = len) := by
  rcases open_slice Try.underlying49 h with ⟨hcs, hx⟩ | ⟨a, len', cap', m, n, D, Pla, hcs, hb, hl, hm, hmm, hx, hel⟩
  · simp at hcs
    obtain ⟨rfl, rfl, rfl⟩ := hcs
    exact ⟨[], rfl, Nat.le_refl _, CAt.nil _ _, .inl rfl⟩
  · simp at hcs
    obtain ⟨rfl, rfl, rfl⟩ := hcs
    rw [cells_priced] at hel
    have hmc : m = cap := by simpa using hmm
    obtain ⟨ps, hpl, hps⟩ := list_of (Good := fun j (q : (Jn × Int)) => ∀ i, i < 7 → w.cell? ((a.add (j * 7)).add i) = (pL q)[i]?) len (fun j hj => by
      obtain ⟨cs', h1, h2⟩ := hel j (by omega)
      obtain ⟨q, e1⟩ := open_priced h2
      obtain ⟨_, _, h4⟩ := World.cells?_some h1
      refine ⟨q, fun i hi => ?_⟩
      rw [h4 i hi, e1])
    refine ⟨ps, hpl, hl, fun h0 => ?_, .inr ⟨_, _, by rw [hx], by simp⟩⟩
    have hVl := pV_length ps
    have hpos : 0 < ps.length := by omega
    obtain ⟨b, off, spot⟩ := a
    have hc := hps 0 hpos 0 (by omega)
    have hspot : spot = none := by
      have hv : (pL ps[0])[0]? = some (.int .i64 ps[0].1.kind) := rfl
      rw [hv] at hc
      simpa [Addr.add] using World.cell?_spot hc
    subst hspot
    refine ⟨b, off, rfl, fun j hj => ?_⟩
    have hjk : j / 7 < ps.length := by omega
    have h1 := hps (j / 7) hjk (j % 7) (Nat.mod_lt _ (by omega))
    rw [Addr.add_lit, Addr.add_lit, Nat.add_assoc, show j / 7 * 7 + j % 7 = j by omega] at h1
    have h2 := flat_get pL 7 (fun _ => rfl) ps (j / 7) hjk (j % 7) (Nat.mod_lt _ (by omega))
    rw [show j / 7 * 7 + j % 7 = j by omega] at h2
    rw [h1, ← h2]
    exact List.getElem?_eq_getElem hj

/-- Rows that were handed in. -/
theorem arg_priceds {ts : List TypeId} {ds : List (DataW H)} {v : Value} {d : DataW H} {p : List MemPlace} {j : Nat} (hok : ∃ a len cap, v = .slice a len cap) (h : DataW.Trod enc Try.prog w 0 (fun _ => true) held 49 v d p)
    (hsz : (DataW.weightsEach Try.prog ts ds).all (· ≤ reachBytes) = true) (ht : ts[j]? = some 49) (hd : ds[j]? = some d) : ∃ ao cap ps, v = .slice ao (List.length ps) cap ∧ CAt w ao (pV ps) ∧ ps.length ≤ cap ∧ (ps.length + 1) * 56 ≤ 140737488355328 := by
  obtain ⟨a, len, cap, rfl⟩ := hok
  obtain ⟨fuel, hf⟩ := h
  obtain ⟨ps, rfl, h1, h2, h3⟩ := open_priceds hf
  refine ⟨a, cap, ps, rfl, h2, h1, ?_⟩
  rcases h3 with h | ⟨el, re, e, hl⟩
  · rw [h]; omega
  · have hs := sized_slice hsz (t := 49) (e := 48) (elems := el) (spare := re) ht (by rw [hd]; exact congrArg some e) Try.underlying49
    have hby : Try.prog.bytesOf 48 = 56 := by kernel_rfl
    rw [hby] at hs
    unfold reachBytes at hs
    omega


end
end Go.Proofs.Ytdbnppbfoohjjaa

