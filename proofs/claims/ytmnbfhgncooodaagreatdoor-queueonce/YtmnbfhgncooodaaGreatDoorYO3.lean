import Derived.Test.YtmnbfhgncooodaaGreatDoorYO1
/- How the arguments of layer 10's laws read: steps, fates. -/
namespace Go.Proofs.YtmnbfhgncooodaaGreatDoor
open Go.ChangeShapes Go.WideShapes Go.ChangeAt Go.RowKit Go.Deep

/-- A step of a queue's script, as it was handed in. -/
structure OpQ where
  kind : Int
  num : Int
  bo : Option Addr
  bc : Nat
  bs : Bs

def OpQ.vals (q : OpQ) : List Value := [.int .i64 q.kind, .int .i64 q.num, .slice q.bo q.bs.length q.bc]

structure OpQ.ok (w : World) (q : OpQ) : Prop where
  kind : -9223372036854775808 ≤ q.kind ∧ q.kind ≤ 9223372036854775807
  num : -9223372036854775808 ≤ q.num ∧ q.num ≤ 9223372036854775807
  bytes : BAt w q.bo q.bc q.bs

/-- Steps in a row. -/
structure OpqAt (w : World) (ao : Option Addr) (ps : List OpQ) : Prop where
  cells : 0 < ps.length → ∃ b off, ao = some ⟨b, off, none⟩ ∧ ∀ j (hj : j < ps.length) i, i < 3 → w.cell? ⟨b, off + j * 3 + i, none⟩ = (ps[j].vals)[i]?
  ok : ∀ j (hj : j < ps.length), ps[j].ok w
  small : ps.length ≤ 140737488355328

section
variable {H : Type} {enc : TypeId × Value → H} {w : World} {held : Bool}

theorem cells_qop : Tryz.prog.cellsOf 56 = 3 := by kernel_rfl
theorem cells_qfate : Tryz.prog.cellsOf 60 = 3 := by kernel_rfl

set_option maxRecDepth 20000 in
theorem part_qop {fuel : Nat} {cs : List Value} {x : DataW H × List MemPlace} (h : DataW.trod enc Tryz.prog w 0 (fun _ => true) held fuel 56 cs = some x) (hw : ∀ n ∈ x.1.weights Tryz.prog 56, n ≤ reachBytes) :
    ∃ q : OpQ, cs = q.vals ∧ q.ok w := by
  obtain ⟨xs, n, _, rfl, hl, hlen, hf⟩ := DataW.trod_struct Tryz.underlying56 h
  rw [cells_qop] at hl
  have g0 := hf 0 _ rfl
  have g1 := hf 1 _ rfl
  have g2 := hf 2 _ rfl
  match xs, hlen with
  | [y0, y1, y2], _ =>
    simp only [List.getElem?_cons_zero, List.getElem?_cons_succ] at g0 g1 g2
    have u2 := struct_weights Tryz.underlying56 hw (j := 2) (u := 28) (d := y2.1) rfl rfl
    obtain ⟨a0, e0, rfl, w0⟩ := DataW.trod_int Tryz.underlying3 g0
    obtain ⟨a1, e1, rfl, w1⟩ := DataW.trod_int Tryz.underlying3 g1
    match cs, hl with
    | [c0, c1, c2], _ =>
      have f0 := one_of e0
      have f1 := one_of e1
      simp at f0 f1
      subst f0 f1
      have k2 : DataW.trod enc Tryz.prog w 0 (fun _ => true) held n 28 [c2] = some y2 := g2
      obtain ⟨bo, bl, bc, h2⟩ := slice_shape Tryz.underlying28 k2
      simp only [List.cons.injEq, and_true] at h2
      subst h2
      obtain ⟨bs, rfl, B, _⟩ := part_bytes k2 u2
      exact ⟨⟨a0, a1, bo, bc, bs⟩, rfl, ⟨wf_both w0, wf_both w1, B⟩⟩

set_option maxRecDepth 20000 in
theorem part_qfate {fuel : Nat} {cs : List Value} {x : DataW H × List MemPlace} (h : DataW.trod enc Tryz.prog w 0 (fun _ => true) held fuel 60 cs = some x) (hw : ∀ n ∈ x.1.weights Tryz.prog 60, n ≤ reachBytes) :
    ∃ q : FtA, cs = q.vals ∧ q.ok w := by
  obtain ⟨xs, n, _, rfl, hl, hlen, hf⟩ := DataW.trod_struct Tryz.underlying60 h
  rw [cells_qfate] at hl
  have g0 := hf 0 _ rfl
  have g1 := hf 1 _ rfl
  have g2 := hf 2 _ rfl
  match xs, hlen with
  | [y0, y1, y2], _ =>
    simp only [List.getElem?_cons_zero, List.getElem?_cons_succ] at g0 g1 g2
    have u2 := struct_weights Tryz.underlying60 hw (j := 2) (u := 29) (d := y2.1) rfl rfl
    obtain ⟨a0, e0, rfl, w0⟩ := DataW.trod_int Tryz.underlying3 g0
    obtain ⟨a1, e1, _⟩ := DataW.trod_bool Tryz.underlying4 g1
    match cs, hl with
    | [c0, c1, c2], _ =>
      have f0 := one_of e0
      have f1 := one_of e1
      simp at f0 f1
      subst f0 f1
      have k2 : DataW.trod enc Tryz.prog w 0 (fun _ => true) held n 29 [c2] = some y2 := g2
      obtain ⟨ko, kl, kc, h5⟩ := slice_shape Tryz.underlying29 k2
      simp only [List.cons.injEq, and_true] at h5
      subst h5
      obtain ⟨ks, rfl, K⟩ := part_keep k2 u2
      exact ⟨⟨a0, a1, ko, kc, ks⟩, rfl, ⟨wf_both w0, K⟩⟩

/-- Steps that were handed in. -/
theorem arg_qops {ts : List TypeId} {ds : List (DataW H)} {v : Value} {d : DataW H} {p : List MemPlace} {j : Nat} (hok : ∃ a len cap, v = .slice a len cap) (h : DataW.Trod enc Tryz.prog w 0 (fun _ => true) held 44 v d p)
    (hsz : (DataW.weightsEach Tryz.prog ts ds).all (· ≤ reachBytes) = true) (ht : ts[j]? = some 44) (hd : ds[j]? = some d) : ∃ ao cap ps, v = .slice ao (List.length ps) cap ∧ OpqAt w ao ps ∧ ps.length ≤ cap := by
  obtain ⟨a0, len, cap, rfl⟩ := hok
  obtain ⟨fuel, hf⟩ := h
  have hw : ∀ n ∈ d.weights Tryz.prog 44, n ≤ reachBytes := fun n hn => of_decide_eq_true (List.all_eq_true.1 hsz _ (DataW.weights_mem_each ht hd n hn))
  have hf' : DataW.trod enc Tryz.prog w 0 (fun _ => true) held fuel 44 [.slice a0 len cap] = some (d, p) := hf
  rcases open_slice Tryz.underlying44 hf' with ⟨hcs, hx⟩ | ⟨a, len', cap', m, n, D, Pla, hcs, hb, hl, hm, hmm, hx, hel⟩
  · simp at hcs
    obtain ⟨rfl, rfl, rfl⟩ := hcs
    exact ⟨none, 0, [], rfl, ⟨fun h0 => absurd h0 (by simp), fun j hj => absurd hj (by simp), by simp⟩, by simp⟩
  · simp at hcs
    obtain ⟨rfl, rfl, rfl⟩ := hcs
    rw [cells_qop] at hel
    have hmc : m = cap := by simpa using hmm
    have hby : Tryz.prog.bytesOf 56 = 40 := by kernel_rfl
    have hd' : d = .slice ((List.range len).map D) ((List.range (m - len)).map fun j => D (len + j)) := congrArg Prod.fst hx
    rw [hd'] at hw
    obtain ⟨w1, w2⟩ := slice_weights Tryz.underlying44 hw
    rw [hby] at w1
    have hcap : len ≤ 140737488351232 := by
      simp at w1
      unfold reachBytes at w1
      omega
    obtain ⟨ps, hpl, hps⟩ := list_of (Good := fun j (q : OpQ) => q.ok w ∧ ∀ i, i < 3 → w.cell? ((a.add (j * 3)).add i) = (q.vals)[i]?) len (fun j hj => by
      obtain ⟨cs', h1, h2⟩ := hel j (by omega)
      obtain ⟨q, e1, e2⟩ := part_qop h2 (w2 (D j) (by simp; exact ⟨j, hj, rfl⟩))
      obtain ⟨_, _, h4⟩ := World.cells?_some h1
      refine ⟨q, e2, fun i hi => ?_⟩
      rw [h4 i hi, e1])
    refine ⟨some a, cap, ps, by rw [hpl], ⟨fun h0 => ?_, fun j hj => (hps j hj).1, by omega⟩, by omega⟩
    obtain ⟨b, off, spot⟩ := a
    have hc := (hps 0 (by omega)).2 0 (by omega)
    have hspot : spot = none := by
      have hv : (ps[0].vals)[0]? = some (.int .i64 ps[0].kind) := rfl
      rw [hv] at hc
      simpa [Addr.add] using World.cell?_spot hc
    subst hspot
    refine ⟨b, off, rfl, fun j hj i hi => ?_⟩
    have := (hps j hj).2 i hi
    rwa [Addr.add_lit, Addr.add_lit] at this

/-- Fates that were handed in. -/
theorem arg_qfates {ts : List TypeId} {ds : List (DataW H)} {v : Value} {d : DataW H} {p : List MemPlace} {j : Nat} (hok : ∃ a len cap, v = .slice a len cap) (h : DataW.Trod enc Tryz.prog w 0 (fun _ => true) held 61 v d p)
    (hsz : (DataW.weightsEach Tryz.prog ts ds).all (· ≤ reachBytes) = true) (ht : ts[j]? = some 61) (hd : ds[j]? = some d) : ∃ ao cap ps, v = .slice ao (List.length ps) cap ∧ FtsAt w ao ps ∧ ps.length ≤ cap := by
  obtain ⟨a0, len, cap, rfl⟩ := hok
  obtain ⟨fuel, hf⟩ := h
  have hw : ∀ n ∈ d.weights Tryz.prog 61, n ≤ reachBytes := fun n hn => of_decide_eq_true (List.all_eq_true.1 hsz _ (DataW.weights_mem_each ht hd n hn))
  have hf' : DataW.trod enc Tryz.prog w 0 (fun _ => true) held fuel 61 [.slice a0 len cap] = some (d, p) := hf
  rcases open_slice Tryz.underlying61 hf' with ⟨hcs, hx⟩ | ⟨a, len', cap', m, n, D, Pla, hcs, hb, hl, hm, hmm, hx, hel⟩
  · simp at hcs
    obtain ⟨rfl, rfl, rfl⟩ := hcs
    exact ⟨none, 0, [], rfl, ⟨fun h0 => absurd h0 (by simp), fun j hj => absurd hj (by simp), by simp⟩, by simp⟩
  · simp at hcs
    obtain ⟨rfl, rfl, rfl⟩ := hcs
    rw [cells_qfate] at hel
    have hmc : m = cap := by simpa using hmm
    have hby : Tryz.prog.bytesOf 60 = 40 := by kernel_rfl
    have hd' : d = .slice ((List.range len).map D) ((List.range (m - len)).map fun j => D (len + j)) := congrArg Prod.fst hx
    rw [hd'] at hw
    obtain ⟨w1, w2⟩ := slice_weights Tryz.underlying61 hw
    rw [hby] at w1
    have hcap : len ≤ 140737488351232 := by
      simp at w1
      unfold reachBytes at w1
      omega
    obtain ⟨ps, hpl, hps⟩ := list_of (Good := fun j (q : FtA) => q.ok w ∧ ∀ i, i < 3 → w.cell? ((a.add (j * 3)).add i) = (q.vals)[i]?) len (fun j hj => by
      obtain ⟨cs', h1, h2⟩ := hel j (by omega)
      obtain ⟨q, e1, e2⟩ := part_qfate h2 (w2 (D j) (by simp; exact ⟨j, hj, rfl⟩))
      obtain ⟨_, _, h4⟩ := World.cells?_some h1
      refine ⟨q, e2, fun i hi => ?_⟩
      rw [h4 i hi, e1])
    refine ⟨some a, cap, ps, by rw [hpl], ⟨fun h0 => ?_, fun j hj => (hps j hj).1, by omega⟩, by omega⟩
    obtain ⟨b, off, spot⟩ := a
    have hc := (hps 0 (by omega)).2 0 (by omega)
    have hspot : spot = none := by
      have hv : (ps[0].vals)[0]? = some (.int .i64 ps[0].acts) := rfl
      rw [hv] at hc
      simpa [Addr.add] using World.cell?_spot hc
    subst hspot
    refine ⟨b, off, rfl, fun j hj i hi => ?_⟩
    have := (hps j hj).2 i hi
    rwa [Addr.add_lit, Addr.add_lit] at this

/-- A fate that was handed in. -/
theorem arg_qfate {ts : List TypeId} {ds : List (DataW H)} {v : Value} {d : DataW H} {p : List MemPlace} {j : Nat} (hok : ∃ cs, v = .agg cs ∧ cs.size = Tryz.prog.cellsOf 60) (h : DataW.Trod enc Tryz.prog w 0 (fun _ => true) held 60 v d p)
    (hsz : (DataW.weightsEach Tryz.prog ts ds).all (· ≤ reachBytes) = true) (ht : ts[j]? = some 60) (hd : ds[j]? = some d) : ∃ q : FtA, v = .agg q.vals.toArray ∧ q.ok w := by
  obtain ⟨cs, rfl, hs⟩ := hok
  obtain ⟨fuel, hf⟩ := h
  have hw : ∀ n ∈ d.weights Tryz.prog 60, n ≤ reachBytes := fun n hn => of_decide_eq_true (List.all_eq_true.1 hsz _ (DataW.weights_mem_each ht hd n hn))
  obtain ⟨q, e, hq⟩ := part_qfate hf hw
  refine ⟨q, ?_, hq⟩
  congr 1
  apply Array.toList_inj.1
  simpa [Value.cells] using e

end

end Go.Proofs.YtmnbfhgncooodaaGreatDoor

