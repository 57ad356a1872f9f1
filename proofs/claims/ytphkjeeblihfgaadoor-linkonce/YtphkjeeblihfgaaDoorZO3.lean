import Derived.Test.YtphkjeeblihfgaaDoorZO2
import Derived.Test.YtphkjeeblihfgaaDoorZC4
/- How LinkOnce's script reads: steps that were handed in. -/
namespace Go.Proofs.YtphkjeeblihfgaaDoor
open Go.ChangeShapes Go.WideShapes Go.ChangeAt Go.RowKit Go.Deep

theorem cells_step : Tryd.prog.cellsOf 63 = 3 := by kernel_rfl

section
variable {H : Type} {enc : TypeId × Value → H} {w : World} {held : Bool}

set_option maxRecDepth 20000 in
theorem part_step {fuel : Nat} {cs : List Value} {x : DataW H × List MemPlace} (h : DataW.trod enc Tryd.prog w 0 (fun _ => true) held fuel 63 cs = some x) (hw : ∀ n ∈ x.1.weights Tryd.prog 63, n ≤ reachBytes) :
    ∃ q : StA, cs = q.vals ∧ BAt w q.bo q.bc q.bs := by
  obtain ⟨xs, n, _, rfl, hl, hlen, hf⟩ := DataW.trod_struct Tryd.underlying63 h
  rw [cells_step] at hl
  have g0 := hf 0 _ rfl
  have g1 := hf 1 _ rfl
  have g2 := hf 2 _ rfl
  match xs, hlen with
  | [y0, y1, y2], _ =>
    simp only [List.getElem?_cons_zero, List.getElem?_cons_succ] at g0 g1 g2
    have u2 := struct_weights Tryd.underlying63 hw (j := 2) (u := 34) (d := y2.1) rfl rfl
    obtain ⟨a0, e0, _, w0⟩ := DataW.trod_int Tryd.underlying3 g0
    obtain ⟨a1, e1, _, w1⟩ := DataW.trod_int Tryd.underlying3 g1
    match cs, hl with
    | [c0, c1, c2], _ =>
      have f0 := one_of e0
      have f1 := one_of e1
      simp at f0 f1
      subst f0 f1
      have k2 : DataW.trod enc Tryd.prog w 0 (fun _ => true) held n 34 [c2] = some y2 := g2
      obtain ⟨bo, bl, bc, h2⟩ := slice_shape Tryd.underlying34 k2
      simp only [List.cons.injEq, and_true] at h2
      subst h2
      obtain ⟨bs, rfl, B1, B2, B3⟩ := part_bytes k2 u2
      exact ⟨⟨a0, a1, bo, bc, bs⟩, rfl, B1⟩

/-- Steps that were handed in. -/
theorem arg_steps {ts : List TypeId} {ds : List (DataW H)} {v : Value} {d : DataW H} {p : List MemPlace} {j : Nat} (hok : ∃ a len cap, v = .slice a len cap) (h : DataW.Trod enc Tryd.prog w 0 (fun _ => true) held 56 v d p)
    (hsz : (DataW.weightsEach Tryd.prog ts ds).all (· ≤ reachBytes) = true) (ht : ts[j]? = some 56) (hd : ds[j]? = some d) : ∃ ao cap ps, v = .slice ao (List.length ps) cap ∧ StsAt w ao ps := by
  obtain ⟨a0, len, cap, rfl⟩ := hok
  obtain ⟨fuel, hf⟩ := h
  have hw : ∀ n ∈ d.weights Tryd.prog 56, n ≤ reachBytes := fun n hn => of_decide_eq_true (List.all_eq_true.1 hsz _ (DataW.weights_mem_each ht hd n hn))
  have hf' : DataW.trod enc Tryd.prog w 0 (fun _ => true) held fuel 56 [.slice a0 len cap] = some (d, p) := hf
  rcases open_slice Tryd.underlying56 hf' with ⟨hcs, hx⟩ | ⟨a, len', cap', m, n, D, Pla, hcs, hb, hl, hm, hmm, hx, hel⟩
  · simp at hcs
    obtain ⟨rfl, rfl, rfl⟩ := hcs
    exact ⟨none, 0, [], rfl, ⟨fun h0 => absurd h0 (by simp), fun x hx => by (cases hx), by simp⟩⟩
  · simp at hcs
    obtain ⟨rfl, rfl, rfl⟩ := hcs
    rw [cells_step] at hel
    have hmc : m = cap := by simpa using hmm
    have hby : Tryd.prog.bytesOf 63 = 40 := by kernel_rfl
    have hd' : d = .slice ((List.range len).map D) ((List.range (m - len)).map fun j => D (len + j)) := congrArg Prod.fst hx
    rw [hd'] at hw
    obtain ⟨w1, w2⟩ := slice_weights Tryd.underlying56 hw
    rw [hby] at w1
    have hcap : len ≤ 140737488351232 := by
      simp at w1
      unfold reachBytes at w1
      omega
    obtain ⟨ps, hpl, hps⟩ := list_of (Good := fun j (q : StA) => BAt w q.bo q.bc q.bs ∧ ∀ i, i < 3 → w.cell? ((a.add (j * 3)).add i) = (q.vals)[i]?) len (fun j hj => by
      obtain ⟨cs', h1, h2⟩ := hel j (by omega)
      obtain ⟨q, e1, e2⟩ := part_step h2 (w2 (D j) (by simp; exact ⟨j, hj, rfl⟩))
      obtain ⟨_, _, h4⟩ := World.cells?_some h1
      refine ⟨q, e2, fun i hi => ?_⟩
      rw [h4 i hi, e1])
    refine ⟨some a, cap, ps, by rw [hpl], ⟨fun h0 => ?_, fun x hx => ?_, by omega⟩⟩
    · obtain ⟨b, off, spot⟩ := a
      have hc := (hps 0 (by omega)).2 0 (by omega)
      have hspot : spot = none := by
        have hv : (ps[0].vals)[0]? = some (.int .i64 ps[0].dk) := rfl
        rw [hv] at hc
        simpa [Addr.add] using World.cell?_spot hc
      subst hspot
      refine ⟨b, off, rfl, fun j hj i hi => ?_⟩
      have := (hps j hj).2 i hi
      rw [Addr.add_lit, Addr.add_lit, Nat.add_assoc] at this
      exact this
    · obtain ⟨j, hj, rfl⟩ := List.mem_iff_getElem.1 hx
      exact (hps j hj).1
end

end Go.Proofs.YtphkjeeblihfgaaDoor

