import Derived.Test.YtabhfeocelljdaaGreatDoorZO1
import Derived.Test.YtabhfeocelljdaaGreatDoorZFA
import Derived.Deep.Slices
/- How the laws' arguments of layer 12 read: bytes, rows of bytes, frames, steps. -/
namespace Go.Proofs.YtabhfeocelljdaaGreatDoor
open Go.ChangeShapes Go.WideShapes Go.ChangeAt Go.RowKit Go.Deep

theorem one_of {l : List Value} {i : Nat} {v : Value} (h : (l.drop i).take 1 = [v]) : l[i]? = some v := by
  have : ((l.drop i).take 1)[0]? = some v := by rw [h]; rfl
  simpa using this

theorem list_of {α : Type} {Good : Nat → α → Prop} : ∀ n, (∀ j, j < n → ∃ q, Good j q) → ∃ l : List α, l.length = n ∧ ∀ j (hj : j < l.length), Good j l[j]
  | 0, _ => ⟨[], rfl, fun j hj => absurd hj (by simp)⟩
  | n + 1, h => by
    obtain ⟨l, hl, hg⟩ := list_of n (fun j hj => h j (by omega))
    obtain ⟨q, hq⟩ := h n (by omega)
    refine ⟨l ++ [q], by simp [hl], fun j hj => ?_⟩
    by_cases hj2 : j < l.length
    · rw [List.getElem_append_left hj2]; exact hg j hj2
    · have : j = n := by simp at hj; omega
      subst this
      rw [List.getElem_append_right (by omega)]
      simpa using hq

theorem weightsAll_mem {H : Type} {P : Program} {e : TypeId} : ∀ {l : List (DataW H)} {d : DataW H}, d ∈ l → ∀ n ∈ d.weights P e, n ∈ DataW.weightsAll P e l
  | d' :: r, d, hd, n, hn => by
    simp only [DataW.weightsAll, List.mem_append]
    rcases List.mem_cons.1 hd with rfl | h
    · exact Or.inl hn
    · exact Or.inr (weightsAll_mem h n hn)

section
variable {H : Type} {enc : TypeId × Value → H} {w : World} {held : Bool}

theorem struct_weights {t : TypeId} {fs : Array Field} (ht : Tryz.prog.underlying t = some (.struct fs)) {parts : List (DataW H)} (hw : ∀ n ∈ (DataW.agg parts).weights Tryz.prog t, n ≤ reachBytes) {j : Nat} {u : TypeId} {d : DataW H} (hu : (fs.toList.map (·.type))[j]? = some u) (hd : parts[j]? = some d) :
    ∀ n ∈ d.weights Tryz.prog u, n ≤ reachBytes := by
  simp only [DataW.weights, ht] at hw
  exact fun n hn => hw n (DataW.weights_mem_each hu hd n hn)

theorem wf_both {n : Int} (h : (Lit.int .i64 n).wf = true) : -9223372036854775808 ≤ n ∧ n ≤ 9223372036854775807 := by
  simpa [Lit.wf, IntKind.min, IntKind.max, IntKind.signed, IntKind.bits] using h

/-- Bytes within what was handed in: its weights are small. -/
theorem part_bytes {fuel : Nat} {a0 : Option Addr} {len cap : Nat} {x : DataW H × List MemPlace} (h : DataW.trod enc Tryz.prog w 0 (fun _ => true) held fuel 23 [.slice a0 len cap] = some x) (hw : ∀ n ∈ x.1.weights Tryz.prog 23, n ≤ reachBytes) :
    ∃ bs : List UInt8, bs.length = len ∧ BAt w a0 cap bs ∧ bs.length ≤ cap ∧ cap ≤ 140737488351232 := by
  obtain ⟨bs, h1, h2, h3, h4, h5⟩ := open_bytes h
  have hc : cap ≤ 140737488351232 := by
    rcases h5 with e | ⟨elems, rest, e, hl⟩
    · omega
    · have hm := hw ((elems.length + rest.length) * Tryz.prog.bytesOf 5) (by rw [e]; simp [DataW.weights, Tryz.underlying23])
      have hby : Tryz.prog.bytesOf 5 = 1 := by kernel_rfl
      rw [hby] at hm
      unfold reachBytes at hm
      omega
  exact ⟨bs, h1, ⟨h2, h3, by omega⟩, by omega, hc⟩

theorem cells_bytes : Tryz.prog.cellsOf 23 = 1 := by kernel_rfl

theorem slice_shape {t e : TypeId} {fuel : Nat} {cs : List Value} {x : DataW H × List MemPlace} (ht : Tryz.prog.underlying t = some (.slice e)) (h : DataW.trod enc Tryz.prog w 0 (fun _ => true) held fuel t cs = some x) : ∃ a len cap, cs = [.slice a len cap] := by
  rcases open_slice ht h with ⟨hcs, _⟩ | ⟨a, len', cap', m, n, D, Pla, hcs, _⟩
  · exact ⟨none, 0, 0, hcs⟩
  · exact ⟨some a, len', cap', hcs⟩

/-- The weights of a slice: its own, and those of what it holds. -/
theorem slice_weights {t e : TypeId} (ht : Tryz.prog.underlying t = some (.slice e)) {elems spare : List (DataW H)} (hw : ∀ n ∈ (DataW.slice elems spare).weights Tryz.prog t, n ≤ reachBytes) :
    (elems.length + spare.length) * Tryz.prog.bytesOf e ≤ reachBytes ∧ ∀ d ∈ elems, ∀ n ∈ d.weights Tryz.prog e, n ≤ reachBytes := by
  simp only [DataW.weights, ht] at hw
  refine ⟨hw _ (by simp), fun d hd n hn => hw n ?_⟩
  simp only [List.mem_cons, List.mem_append]
  exact Or.inr (Or.inl (weightsAll_mem hd n hn))

/-- Rows of bytes within what was handed in. -/
theorem part_recs {fuel : Nat} {a0 : Option Addr} {len cap : Nat} {x : DataW H × List MemPlace} (h : DataW.trod enc Tryz.prog w 0 (fun _ => true) held fuel 22 [.slice a0 len cap] = some x) (hw : ∀ n ∈ x.1.weights Tryz.prog 22, n ≤ reachBytes) :
    ∃ rs : List (List UInt8), rs.length = len ∧ RowsAt w a0 rs ∧ rs.length ≤ cap ∧ cap * 24 ≤ 140737488351232 := by
  rcases open_slice Tryz.underlying22 h with ⟨hcs, hx⟩ | ⟨a, len', cap', m, n, D, Pla, hcs, hb, hl, hm, hmm, hx, hel⟩
  · simp at hcs
    obtain ⟨rfl, rfl, rfl⟩ := hcs
    exact ⟨[], rfl, ⟨fun h0 => absurd h0 (by simp), by simp⟩, by simp, by omega⟩
  · simp at hcs
    obtain ⟨rfl, rfl, rfl⟩ := hcs
    rw [cells_bytes] at hel
    have hmc : m = cap := by simpa using hmm
    have hby : Tryz.prog.bytesOf 23 = 24 := by kernel_rfl
    rw [hx] at hw
    obtain ⟨w1, w2⟩ := slice_weights Tryz.underlying22 hw
    rw [hby] at w1
    have hcap : cap * 24 ≤ 140737488351232 := by
      simp at w1
      unfold reachBytes at w1
      rw [hmc] at w1
      have e : len + (cap - len) = cap := by omega
      rw [e] at w1
      exact w1
    obtain ⟨ps, hpl, hps⟩ := list_of (Good := fun j (q : List UInt8) => ∃ ao cp, w.cell? (a.add j) = some (.slice ao q.length cp) ∧ BAt w ao cp q) len (fun j hj => by
      obtain ⟨cs', h1, h2⟩ := hel j (by omega)
      obtain ⟨ao, ln, cp, rfl⟩ := slice_shape Tryz.underlying23 h2
      obtain ⟨bs, e1, e2, e3, e4⟩ := part_bytes h2 (w2 (D j) (by simp; exact ⟨j, hj, rfl⟩))
      obtain ⟨_, _, h4⟩ := World.cells?_some h1
      refine ⟨bs, ao, cp, ?_, e2⟩
      have h5 := h4 0 (by omega)
      rw [e1]
      simpa [Addr.add] using h5)
    refine ⟨ps, hpl, ⟨fun h0 => ?_, by omega⟩, by omega, hcap⟩
    obtain ⟨b, off, spot⟩ := a
    obtain ⟨ao0, cp0, hc0, _⟩ := hps 0 h0
    have hspot : spot = none := by simpa [Addr.add] using World.cell?_spot hc0
    subst hspot
    refine ⟨b, off, rfl, fun j hj => ?_⟩
    obtain ⟨ao, cp, hc, hB⟩ := hps j hj
    rw [Addr.add_lit] at hc
    exact ⟨ao, cp, hc, hB⟩

theorem cells_frame : Tryz.prog.cellsOf 25 = 5 := by kernel_rfl

set_option maxRecDepth 20000 in
/-- A frame within what was handed in. -/
theorem part_frame {fuel : Nat} {cs : List Value} {x : DataW H × List MemPlace} (h : DataW.trod enc Tryz.prog w 0 (fun _ => true) held fuel 25 cs = some x) (hw : ∀ n ∈ x.1.weights Tryz.prog 25, n ≤ reachBytes) :
    ∃ (f : Fm) (io : Option Addr) (ic : Nat) (bo : Option Addr) (bc : Nat), cs = (f.cells io ic bo bc).toList ∧ f.At w io bo bc ∧ ic * 24 ≤ 140737488351232 ∧ f.items.length ≤ ic ∧ f.bytes.length ≤ bc := by
  obtain ⟨xs, n, _, rfl, hl, hlen, hf⟩ := DataW.trod_struct Tryz.underlying25 h
  rw [cells_frame] at hl
  have g0 := hf 0 _ rfl
  have g1 := hf 1 _ rfl
  have g2 := hf 2 _ rfl
  have g3 := hf 3 _ rfl
  have g4 := hf 4 _ rfl
  match xs, hlen with
  | [y0, y1, y2, y3, y4], _ =>
    simp only [List.getElem?_cons_zero, List.getElem?_cons_succ] at g0 g1 g2 g3 g4
    have u3 := struct_weights Tryz.underlying25 hw (j := 3) (u := 22) (d := y3.1) rfl rfl
    have u4 := struct_weights Tryz.underlying25 hw (j := 4) (u := 23) (d := y4.1) rfl rfl
    obtain ⟨a0, e0, _, w0⟩ := DataW.trod_int Tryz.underlying3 g0
    obtain ⟨a1, e1, _, w1⟩ := DataW.trod_int Tryz.underlying3 g1
    obtain ⟨a2, e2, _, w2⟩ := DataW.trod_int Tryz.underlying3 g2
    match cs, hl with
    | [c0, c1, c2, c3, c4], _ =>
      have f0 := one_of e0
      have f1 := one_of e1
      have f2 := one_of e2
      simp at f0 f1 f2
      subst f0 f1 f2
      have k3 : DataW.trod enc Tryz.prog w 0 (fun _ => true) held n 22 [c3] = some y3 := g3
      have k4 : DataW.trod enc Tryz.prog w 0 (fun _ => true) held n 23 [c4] = some y4 := g4
      obtain ⟨ro, rl, rc, h3⟩ := slice_shape Tryz.underlying22 k3
      obtain ⟨bo, bl, bc, h4⟩ := slice_shape Tryz.underlying23 k4
      simp only [List.cons.injEq, and_true] at h3 h4
      subst h3 h4
      obtain ⟨rs, rfl, R1, R2, R3⟩ := part_recs k3 u3
      obtain ⟨bs, rfl, B1, B2, B3⟩ := part_bytes k4 u4
      exact ⟨⟨a0, a1, a2, rs, bs⟩, ro, rc, bo, bc, rfl, ⟨R1, B1⟩, R3, R2, B2⟩

/-- A frame that was handed in. -/
theorem arg_frame {ts : List TypeId} {ds : List (DataW H)} {v : Value} {d : DataW H} {p : List MemPlace} {j : Nat} (hok : ∃ cs, v = .agg cs ∧ cs.size = Tryz.prog.cellsOf 25) (h : DataW.Trod enc Tryz.prog w 0 (fun _ => true) held 25 v d p)
    (hsz : (DataW.weightsEach Tryz.prog ts ds).all (· ≤ reachBytes) = true) (ht : ts[j]? = some 25) (hd : ds[j]? = some d) : ∃ (f : Fm) (io : Option Addr) (ic : Nat) (bo : Option Addr) (bc : Nat), v = .agg (f.cells io ic bo bc) ∧ f.At w io bo bc ∧ ic * 24 ≤ 140737488351232 ∧ f.items.length ≤ ic ∧ f.bytes.length ≤ bc := by
  obtain ⟨cs, rfl, hs⟩ := hok
  obtain ⟨fuel, hf⟩ := h
  have hw : ∀ n ∈ d.weights Tryz.prog 25, n ≤ reachBytes := fun n hn => of_decide_eq_true (List.all_eq_true.1 hsz _ (DataW.weights_mem_each ht hd n hn))
  obtain ⟨f, io, ic, bo, bc, e, hq⟩ := part_frame hf hw
  refine ⟨f, io, ic, bo, bc, ?_, hq⟩
  congr 1
  apply Array.toList_inj.1
  simpa [Value.cells] using e

/-- Bytes that were handed in. -/
theorem arg_bytes {ts : List TypeId} {ds : List (DataW H)} {v : Value} {d : DataW H} {p : List MemPlace} {j : Nat} (hok : ∃ a len cap, v = .slice a len cap) (h : DataW.Trod enc Tryz.prog w 0 (fun _ => true) held 23 v d p)
    (hsz : (DataW.weightsEach Tryz.prog ts ds).all (· ≤ reachBytes) = true) (ht : ts[j]? = some 23) (hd : ds[j]? = some d) : ∃ ao cap bs, v = .slice ao (List.length bs) cap ∧ BAt w ao cap bs ∧ bs.length ≤ cap := by
  obtain ⟨a, len, cap, rfl⟩ := hok
  obtain ⟨fuel, hf⟩ := h
  obtain ⟨bs, h1, h2, h3, h4⟩ := part_bytes hf (fun n hn => of_decide_eq_true (List.all_eq_true.1 hsz _ (DataW.weights_mem_each ht hd n hn)))
  exact ⟨a, cap, bs, by rw [h1], h2, h3⟩

/-- The same, with the bound that its room gives. -/
theorem arg_bytesB {ts : List TypeId} {ds : List (DataW H)} {v : Value} {d : DataW H} {p : List MemPlace} {j : Nat} (hok : ∃ a len cap, v = .slice a len cap) (h : DataW.Trod enc Tryz.prog w 0 (fun _ => true) held 23 v d p)
    (hsz : (DataW.weightsEach Tryz.prog ts ds).all (· ≤ reachBytes) = true) (ht : ts[j]? = some 23) (hd : ds[j]? = some d) : ∃ ao cap bs, v = .slice ao (List.length bs) cap ∧ BAt w ao cap bs ∧ bs.length ≤ cap ∧ cap ≤ 140737488351232 := by
  obtain ⟨a, len, cap, rfl⟩ := hok
  obtain ⟨fuel, hf⟩ := h
  obtain ⟨bs, h1, h2, h3, h4⟩ := part_bytes hf (fun n hn => of_decide_eq_true (List.all_eq_true.1 hsz _ (DataW.weights_mem_each ht hd n hn)))
  exact ⟨a, cap, bs, by rw [h1], h2, h3, h4⟩

end

end Go.Proofs.YtabhfeocelljdaaGreatDoor

