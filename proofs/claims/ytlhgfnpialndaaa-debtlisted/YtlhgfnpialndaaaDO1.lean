import Derived.Test.YtlhgfnpialndaaaOA
import Derived.Test.YtlhgfnpialndaaaDC0
/- How the laws' arguments read: slices of accounts, slices of calls. -/
namespace Go.Proofs.Ytlhgfnpialndaaa
open Go.ChangeShapes Go.WideShapes Go.ChangeAt Go.RowKit Go.Deep

section
variable {H : Type} {enc : TypeId × Value → H} {w : World} {held : Bool}

theorem CAt.nilK (w : World) (ao : Option Addr) : CAt w ao [] := fun h => absurd h (by simp)

theorem cells_acctK : Try.prog.cellsOf 26 = 3 := by kernel_rfl
set_option maxRecDepth 100000 in
theorem open_acctK {fuel : Nat} {cs : List Value} {x : DataW H × List MemPlace} (h : DataW.trod enc Try.prog w 0 (fun _ => true) held fuel 26 cs = some x) : ∃ t : Ac, cs = acL t ∧ t.tok.size ≤ maxLen := by
  obtain ⟨xs, n, _, rfl, hl, hlen, hf⟩ := DataW.trod_struct Try.underlying26 h
  rw [cells_acctK] at hl
  have g0 := hf 0 _ rfl
  have g1 := hf 1 _ rfl
  have g2 := hf 2 _ rfl
  match xs, hlen with
  | [y0, y1, y2], _ =>
    simp only [List.getElem?_cons_zero, List.getElem?_cons_succ] at g0 g1 g2
    obtain ⟨a0, e0, rfl, w0⟩ := DataW.trod_string Try.underlying9 g0
    obtain ⟨a1, e1, rfl, _w1⟩ := DataW.trod_int Try.underlying3 g1
    obtain ⟨a2, e2, rfl, _w2⟩ := DataW.trod_int Try.underlying3 g2
    match cs, hl with
    | [c0, c1, c2], _ =>
      have f0 := one_of e0
      have f1 := one_of e1
      have f2 := one_of e2
      simp at f0 f1 f2
      subst f0 f1 f2
      exact ⟨⟨a0, a1, a2⟩, rfl, w0⟩

theorem open_acctsK {fuel : Nat} {a0 : Option Addr} {len cap : Nat} {x : DataW H × List MemPlace} (h : DataW.trod enc Try.prog w 0 (fun _ => true) held fuel 22 [.slice a0 len cap] = some x) :
    ∃ ps : List Ac, ps.length = len ∧ len ≤ cap ∧ CAt w a0 (acV ps) ∧ (∀ q ∈ ps, q.tok.size ≤ maxLen) ∧ (len = 0 ∨ ∃ elems rest, x.1 = .slice elems rest ∧ elems.length = len) := by
  rcases open_slice Try.underlying22 h with ⟨hcs, hx⟩ | ⟨a, len', cap', m, n, D, Pla, hcs, hb, hl, hm, hmm, hx, hel⟩
  · simp at hcs
    obtain ⟨rfl, rfl, rfl⟩ := hcs
    exact ⟨[], rfl, Nat.le_refl _, CAt.nilK _ _, fun q hq => (by cases hq), Or.inl rfl⟩
  · simp at hcs
    obtain ⟨rfl, rfl, rfl⟩ := hcs
    rw [cells_acctK] at hel
    have hmc : m = cap := by simpa using hmm
    obtain ⟨ps, hpl, hps⟩ := list_of (Good := fun j (q : Ac) => (∀ i, i < 3 → w.cell? ((a.add (j * 3)).add i) = (acL q)[i]?) ∧ q.tok.size ≤ maxLen) len (fun j hj => by
      obtain ⟨cs', h1, h2⟩ := hel j (by omega)
      obtain ⟨q, e1, e2⟩ := open_acctK h2
      obtain ⟨_, _, h4⟩ := World.cells?_some h1
      refine ⟨q, fun i hi => ?_, e2⟩
      rw [h4 i hi, e1])
    refine ⟨ps, hpl, hl, fun h0 => ?_, fun q hq => ?_, .inr ⟨_, _, by rw [hx], by simp⟩⟩
    · have hVl := acV_length ps
      have hpos : 0 < ps.length := by omega
      obtain ⟨b, off, spot⟩ := a
      have hc := (hps 0 hpos).1 0 (by omega)
      have hspot : spot = none := by
        have hv : (acL ps[0])[0]? = some (.string ps[0].tok) := rfl
        rw [hv] at hc
        simpa [Addr.add] using World.cell?_spot hc
      subst hspot
      refine ⟨b, off, rfl, fun j hj => ?_⟩
      have hjk : j / 3 < ps.length := by omega
      have h1 := (hps (j / 3) hjk).1 (j % 3) (Nat.mod_lt _ (by omega))
      rw [Addr.add_lit, Addr.add_lit, Nat.add_assoc, show j / 3 * 3 + j % 3 = j by omega] at h1
      have h2 := flat_get acL 3 (fun _ => rfl) ps (j / 3) hjk (j % 3) (Nat.mod_lt _ (by omega))
      rw [show j / 3 * 3 + j % 3 = j by omega] at h2
      rw [h1, ← h2]
      exact List.getElem?_eq_getElem hj
    · obtain ⟨i, hi, rfl⟩ := List.mem_iff_getElem.1 hq
      exact (hps i hi).2

theorem arg_accts {ts : List TypeId} {ds : List (DataW H)} {v : Value} {d : DataW H} {p : List MemPlace} {j : Nat} (hok : ∃ a len cap, v = .slice a len cap) (h : DataW.Trod enc Try.prog w 0 (fun _ => true) held 22 v d p)
    (hsz : (DataW.weightsEach Try.prog ts ds).all (· ≤ reachBytes) = true) (ht : ts[j]? = some 22) (hd : ds[j]? = some d) : ∃ ao cap ps, v = .slice ao (List.length ps) cap ∧ CAt w ao (acV ps) ∧ (∀ q ∈ ps, q.tok.size ≤ maxLen) ∧ ps.length ≤ cap ∧ (ps.length + 1) * 32 ≤ 140737488355328 := by
  obtain ⟨a, len, cap, rfl⟩ := hok
  obtain ⟨fuel, hf⟩ := h
  obtain ⟨ps, rfl, h1, h2, h4, h3⟩ := open_acctsK hf
  refine ⟨a, cap, ps, rfl, h2, h4, h1, ?_⟩
  rcases h3 with h | ⟨el, re, e, hl⟩
  · rw [h]; omega
  · have hs := sized_slice hsz (t := 22) (e := 26) (elems := el) (spare := re) ht (by rw [hd]; exact congrArg some e) Try.underlying22
    have hby : Try.prog.bytesOf 26 = 32 := by kernel_rfl
    rw [hby] at hs
    unfold reachBytes at hs
    omega

theorem cells_opdK : Try.prog.cellsOf 39 = 3 := by kernel_rfl
set_option maxRecDepth 100000 in
theorem open_opdK {fuel : Nat} {cs : List Value} {x : DataW H × List MemPlace} (h : DataW.trod enc Try.prog w 0 (fun _ => true) held fuel 39 cs = some x) : ∃ t : Opd, cs = opL t ∧ t.tok.size ≤ maxLen := by
  obtain ⟨xs, n, _, rfl, hl, hlen, hf⟩ := DataW.trod_struct Try.underlying39 h
  rw [cells_opdK] at hl
  have g0 := hf 0 _ rfl
  have g1 := hf 1 _ rfl
  have g2 := hf 2 _ rfl
  match xs, hlen with
  | [y0, y1, y2], _ =>
    simp only [List.getElem?_cons_zero, List.getElem?_cons_succ] at g0 g1 g2
    obtain ⟨a0, e0, rfl, _w0⟩ := DataW.trod_int Try.underlying3 g0
    obtain ⟨a1, e1, rfl, _w1⟩ := DataW.trod_int Try.underlying3 g1
    obtain ⟨a2, e2, rfl, w2⟩ := DataW.trod_string Try.underlying9 g2
    match cs, hl with
    | [c0, c1, c2], _ =>
      have f0 := one_of e0
      have f1 := one_of e1
      have f2 := one_of e2
      simp at f0 f1 f2
      subst f0 f1 f2
      exact ⟨⟨a0, a1, a2⟩, rfl, w2⟩

theorem open_opdsK {fuel : Nat} {a0 : Option Addr} {len cap : Nat} {x : DataW H × List MemPlace} (h : DataW.trod enc Try.prog w 0 (fun _ => true) held fuel 23 [.slice a0 len cap] = some x) :
    ∃ ps : List Opd, ps.length = len ∧ len ≤ cap ∧ CAt w a0 (opV ps) ∧ (∀ q ∈ ps, q.tok.size ≤ maxLen) ∧ (len = 0 ∨ ∃ elems rest, x.1 = .slice elems rest ∧ elems.length = len) := by
  rcases open_slice Try.underlying23 h with ⟨hcs, hx⟩ | ⟨a, len', cap', m, n, D, Pla, hcs, hb, hl, hm, hmm, hx, hel⟩
  · simp at hcs
    obtain ⟨rfl, rfl, rfl⟩ := hcs
    exact ⟨[], rfl, Nat.le_refl _, CAt.nilK _ _, fun q hq => (by cases hq), Or.inl rfl⟩
  · simp at hcs
    obtain ⟨rfl, rfl, rfl⟩ := hcs
    rw [cells_opdK] at hel
    have hmc : m = cap := by simpa using hmm
    obtain ⟨ps, hpl, hps⟩ := list_of (Good := fun j (q : Opd) => (∀ i, i < 3 → w.cell? ((a.add (j * 3)).add i) = (opL q)[i]?) ∧ q.tok.size ≤ maxLen) len (fun j hj => by
      obtain ⟨cs', h1, h2⟩ := hel j (by omega)
      obtain ⟨q, e1, e2⟩ := open_opdK h2
      obtain ⟨_, _, h4⟩ := World.cells?_some h1
      refine ⟨q, fun i hi => ?_, e2⟩
      rw [h4 i hi, e1])
    refine ⟨ps, hpl, hl, fun h0 => ?_, fun q hq => ?_, .inr ⟨_, _, by rw [hx], by simp⟩⟩
    · have hVl := opV_length ps
      have hpos : 0 < ps.length := by omega
      obtain ⟨b, off, spot⟩ := a
      have hc := (hps 0 hpos).1 0 (by omega)
      have hspot : spot = none := by
        have hv : (opL ps[0])[0]? = some (.int .i64 ps[0].act) := rfl
        rw [hv] at hc
        simpa [Addr.add] using World.cell?_spot hc
      subst hspot
      refine ⟨b, off, rfl, fun j hj => ?_⟩
      have hjk : j / 3 < ps.length := by omega
      have h1 := (hps (j / 3) hjk).1 (j % 3) (Nat.mod_lt _ (by omega))
      rw [Addr.add_lit, Addr.add_lit, Nat.add_assoc, show j / 3 * 3 + j % 3 = j by omega] at h1
      have h2 := flat_get opL 3 (fun _ => rfl) ps (j / 3) hjk (j % 3) (Nat.mod_lt _ (by omega))
      rw [show j / 3 * 3 + j % 3 = j by omega] at h2
      rw [h1, ← h2]
      exact List.getElem?_eq_getElem hj
    · obtain ⟨i, hi, rfl⟩ := List.mem_iff_getElem.1 hq
      exact (hps i hi).2

theorem arg_opds {ts : List TypeId} {ds : List (DataW H)} {v : Value} {d : DataW H} {p : List MemPlace} {j : Nat} (hok : ∃ a len cap, v = .slice a len cap) (h : DataW.Trod enc Try.prog w 0 (fun _ => true) held 23 v d p)
    (hsz : (DataW.weightsEach Try.prog ts ds).all (· ≤ reachBytes) = true) (ht : ts[j]? = some 23) (hd : ds[j]? = some d) : ∃ ao cap ps, v = .slice ao (List.length ps) cap ∧ CAt w ao (opV ps) ∧ (∀ q ∈ ps, q.tok.size ≤ maxLen) ∧ ps.length ≤ cap ∧ (ps.length + 1) * 32 ≤ 140737488355328 := by
  obtain ⟨a, len, cap, rfl⟩ := hok
  obtain ⟨fuel, hf⟩ := h
  obtain ⟨ps, rfl, h1, h2, h4, h3⟩ := open_opdsK hf
  refine ⟨a, cap, ps, rfl, h2, h4, h1, ?_⟩
  rcases h3 with h | ⟨el, re, e, hl⟩
  · rw [h]; omega
  · have hs := sized_slice hsz (t := 23) (e := 39) (elems := el) (spare := re) ht (by rw [hd]; exact congrArg some e) Try.underlying23
    have hby : Try.prog.bytesOf 39 = 32 := by kernel_rfl
    rw [hby] at hs
    unfold reachBytes at hs
    omega

end
end Go.Proofs.Ytlhgfnpialndaaa

