import Derived.Test.YtjkghgcdkfkekaaGreatDoorYO0
import Derived.Test.YtjkghgcdkfkekaaGreatDoorYB7
/- How the laws' arguments read: steps, fates. -/
namespace Go.Proofs.YtjkghgcdkfkekaaGreatDoor
open Go.ChangeShapes Go.WideShapes Go.ChangeAt Go.RowKit Go.Deep

/-- A step of a script, as it was handed in. -/
structure OpA where
  kind : Int
  num : Int
  bo : Option Addr
  bc : Nat
  bs : Bs
  ro : Option Addr
  rc : Nat
  rs : List Bs
  more : Bool
  ko : Option Addr
  kc : Nat
  ks : List Bool

def OpA.vals (q : OpA) : List Value := [.int .i64 q.kind, .int .i64 q.num, .slice q.bo q.bs.length q.bc, .slice q.ro q.rs.length q.rc, .bool q.more, .slice q.ko q.ks.length q.kc]

structure OpA.ok (w : World) (q : OpA) : Prop where
  kind : -9223372036854775808 ≤ q.kind ∧ q.kind ≤ 9223372036854775807
  num : -9223372036854775808 ≤ q.num ∧ q.num ≤ 9223372036854775807
  bytes : BAt w q.bo q.bc q.bs
  rows : RecsP (fun _ => True) w q.ro q.rc q.rs
  keep : KeepAt w q.ko q.kc q.ks

/-- Steps in a row. -/
structure OpsAt (w : World) (ao : Option Addr) (ps : List OpA) : Prop where
  cells : 0 < ps.length → ∃ b off, ao = some ⟨b, off, none⟩ ∧ ∀ j (hj : j < ps.length) i, i < 6 → w.cell? ⟨b, off + j * 6 + i, none⟩ = (ps[j].vals)[i]?
  ok : ∀ j (hj : j < ps.length), ps[j].ok w
  small : ps.length * 96 ≤ 140737488355328

/-- A fate, as it was handed in. -/
structure FtA where
  acts : Int
  done : Bool
  ko : Option Addr
  kc : Nat
  ks : List Bool

def FtA.vals (q : FtA) : List Value := [.int .i64 q.acts, .bool q.done, .slice q.ko q.ks.length q.kc]

structure FtA.ok (w : World) (q : FtA) : Prop where
  acts : -9223372036854775808 ≤ q.acts ∧ q.acts ≤ 9223372036854775807
  keep : KeepAt w q.ko q.kc q.ks

/-- Fates in a row. -/
structure FtsAt (w : World) (ao : Option Addr) (ps : List FtA) : Prop where
  cells : 0 < ps.length → ∃ b off, ao = some ⟨b, off, none⟩ ∧ ∀ j (hj : j < ps.length) i, i < 3 → w.cell? ⟨b, off + j * 3 + i, none⟩ = (ps[j].vals)[i]?
  ok : ∀ j (hj : j < ps.length), ps[j].ok w
  small : ps.length ≤ 140737488355328

section
variable {H : Type} {enc : TypeId × Value → H} {w : World} {held : Bool}

theorem wf_both {n : Int} (h : (Lit.int .i64 n).wf = true) : -9223372036854775808 ≤ n ∧ n ≤ 9223372036854775807 := by
  simpa [Lit.wf, IntKind.min, IntKind.max, IntKind.signed, IntKind.bits] using h

theorem cells_bool : Tryz.prog.cellsOf 4 = 1 := by kernel_rfl

/-- A row of bools within what was handed in. -/
theorem part_keep {fuel : Nat} {a0 : Option Addr} {len cap : Nat} {x : DataW H × List MemPlace} (h : DataW.trod enc Tryz.prog w 0 (fun _ => true) held fuel 29 [.slice a0 len cap] = some x) (hw : ∀ n ∈ x.1.weights Tryz.prog 29, n ≤ reachBytes) :
    ∃ ks : List Bool, ks.length = len ∧ KeepAt w a0 cap ks := by
  rcases open_slice Tryz.underlying29 h with ⟨hcs, hx⟩ | ⟨a, len', cap', m, n, D, Pla, hcs, hb, hl, hm, hmm, hx, hel⟩
  · simp at hcs
    obtain ⟨rfl, rfl, rfl⟩ := hcs
    exact ⟨[], rfl, ⟨fun h0 => absurd h0 (by simp), by simp⟩⟩
  · simp at hcs
    obtain ⟨rfl, rfl, rfl⟩ := hcs
    rw [cells_bool] at hel
    have hmc : m = cap := by simpa using hmm
    have hby : Tryz.prog.bytesOf 4 = 1 := by kernel_rfl
    rw [hx] at hw
    obtain ⟨w1, w2⟩ := slice_weights Tryz.underlying29 hw
    rw [hby] at w1
    have hcap : cap ≤ 140737488351232 := by
      simp at w1
      unfold reachBytes at w1
      omega
    obtain ⟨ps, hpl, hps⟩ := list_of (Good := fun j (q : Bool) => w.cell? (a.add j) = some (.bool q)) len (fun j hj => by
      obtain ⟨cs', h1, h2⟩ := hel j (by omega)
      obtain ⟨q, rfl, _⟩ := DataW.trod_bool Tryz.underlying4 h2
      obtain ⟨_, _, h4⟩ := World.cells?_some h1
      have h5 := h4 0 (by omega)
      exact ⟨q, by simpa [Addr.add] using h5⟩)
    refine ⟨ps, hpl, ⟨fun h0 => ?_, by omega⟩⟩
    obtain ⟨b, off, spot⟩ := a
    have hc0 := hps 0 h0
    have hspot : spot = none := by simpa [Addr.add] using World.cell?_spot hc0
    subst hspot
    refine ⟨b, off, rfl, fun j hj => ?_⟩
    have hc := hps j hj
    rwa [Addr.add_lit] at hc

theorem struct_weights {t : TypeId} {fs : Array Field} (ht : Tryz.prog.underlying t = some (.struct fs)) {parts : List (DataW H)} (hw : ∀ n ∈ (DataW.agg parts).weights Tryz.prog t, n ≤ reachBytes) {j : Nat} {u : TypeId} {d : DataW H} (hu : (fs.toList.map (·.type))[j]? = some u) (hd : parts[j]? = some d) :
    ∀ n ∈ d.weights Tryz.prog u, n ≤ reachBytes := by
  simp only [DataW.weights, ht] at hw
  exact fun n hn => hw n (DataW.weights_mem_each hu hd n hn)

theorem cells_op : Tryz.prog.cellsOf 31 = 6 := by kernel_rfl
set_option maxRecDepth 20000 in
theorem part_op {fuel : Nat} {cs : List Value} {x : DataW H × List MemPlace} (h : DataW.trod enc Tryz.prog w 0 (fun _ => true) held fuel 31 cs = some x) (hw : ∀ n ∈ x.1.weights Tryz.prog 31, n ≤ reachBytes) :
    ∃ q : OpA, cs = q.vals ∧ q.ok w := by
  obtain ⟨xs, n, _, rfl, hl, hlen, hf⟩ := DataW.trod_struct Tryz.underlying31 h
  rw [cells_op] at hl
  have g0 := hf 0 _ rfl
  have g1 := hf 1 _ rfl
  have g2 := hf 2 _ rfl
  have g3 := hf 3 _ rfl
  have g4 := hf 4 _ rfl
  have g5 := hf 5 _ rfl
  match xs, hlen with
  | [y0, y1, y2, y3, y4, y5], _ =>
    simp only [List.getElem?_cons_zero, List.getElem?_cons_succ] at g0 g1 g2 g3 g4 g5
    have u2 := struct_weights Tryz.underlying31 hw (j := 2) (u := 28) (d := y2.1) rfl rfl
    have u3 := struct_weights Tryz.underlying31 hw (j := 3) (u := 23) (d := y3.1) rfl rfl
    have u5 := struct_weights Tryz.underlying31 hw (j := 5) (u := 29) (d := y5.1) rfl rfl
    obtain ⟨a0, e0, rfl, w0⟩ := DataW.trod_int Tryz.underlying3 g0
    obtain ⟨a1, e1, rfl, w1⟩ := DataW.trod_int Tryz.underlying3 g1
    obtain ⟨a4, e4, _⟩ := DataW.trod_bool Tryz.underlying4 g4
    match cs, hl with
    | [c0, c1, c2, c3, c4, c5], _ =>
      have f0 := one_of e0
      have f1 := one_of e1
      have f4 := one_of e4
      simp at f0 f1 f4
      subst f0 f1 f4
      have k2 : DataW.trod enc Tryz.prog w 0 (fun _ => true) held n 28 [c2] = some y2 := g2
      have k3 : DataW.trod enc Tryz.prog w 0 (fun _ => true) held n 23 [c3] = some y3 := g3
      have k5 : DataW.trod enc Tryz.prog w 0 (fun _ => true) held n 29 [c5] = some y5 := g5
      obtain ⟨bo, bl, bc, h2⟩ := slice_shape Tryz.underlying28 k2
      obtain ⟨ro, rl, rc, h3⟩ := slice_shape Tryz.underlying23 k3
      obtain ⟨ko, kl, kc, h5⟩ := slice_shape Tryz.underlying29 k5
      simp only [List.cons.injEq, and_true] at h2 h3 h5
      subst h2 h3 h5
      obtain ⟨bs, rfl, B, _⟩ := part_bytes k2 u2
      obtain ⟨rs, rfl, Rr, _⟩ := part_recs k3 u3
      obtain ⟨ks, rfl, K⟩ := part_keep k5 u5
      exact ⟨⟨a0, a1, bo, bc, bs, ro, rc, rs, a4, ko, kc, ks⟩, rfl, ⟨wf_both w0, wf_both w1, B, Rr, K⟩⟩

/-- Steps that were handed in. -/
theorem arg_ops {ts : List TypeId} {ds : List (DataW H)} {v : Value} {d : DataW H} {p : List MemPlace} {j : Nat} (hok : ∃ a len cap, v = .slice a len cap) (h : DataW.Trod enc Tryz.prog w 0 (fun _ => true) held 22 v d p)
    (hsz : (DataW.weightsEach Tryz.prog ts ds).all (· ≤ reachBytes) = true) (ht : ts[j]? = some 22) (hd : ds[j]? = some d) : ∃ ao cap ps, v = .slice ao (List.length ps) cap ∧ OpsAt w ao ps ∧ ps.length ≤ cap := by
  obtain ⟨a0, len, cap, rfl⟩ := hok
  obtain ⟨fuel, hf⟩ := h
  have hw : ∀ n ∈ d.weights Tryz.prog 22, n ≤ reachBytes := fun n hn => of_decide_eq_true (List.all_eq_true.1 hsz _ (DataW.weights_mem_each ht hd n hn))
  have hf' : DataW.trod enc Tryz.prog w 0 (fun _ => true) held fuel 22 [.slice a0 len cap] = some (d, p) := hf
  rcases open_slice Tryz.underlying22 hf' with ⟨hcs, hx⟩ | ⟨a, len', cap', m, n, D, Pla, hcs, hb, hl, hm, hmm, hx, hel⟩
  · simp at hcs
    obtain ⟨rfl, rfl, rfl⟩ := hcs
    exact ⟨none, 0, [], rfl, ⟨fun h0 => absurd h0 (by simp), fun j hj => absurd hj (by simp), by simp⟩, by simp⟩
  · simp at hcs
    obtain ⟨rfl, rfl, rfl⟩ := hcs
    rw [cells_op] at hel
    have hmc : m = cap := by simpa using hmm
    have hby : Tryz.prog.bytesOf 31 = 96 := by kernel_rfl
    have hd' : d = .slice ((List.range len).map D) ((List.range (m - len)).map fun j => D (len + j)) := congrArg Prod.fst hx
    rw [hd'] at hw
    obtain ⟨w1, w2⟩ := slice_weights Tryz.underlying22 hw
    rw [hby] at w1
    have hcap : len * 96 ≤ 140737488351232 := by
      simp at w1
      unfold reachBytes at w1
      omega
    obtain ⟨ps, hpl, hps⟩ := list_of (Good := fun j (q : OpA) => q.ok w ∧ ∀ i, i < 6 → w.cell? ((a.add (j * 6)).add i) = (q.vals)[i]?) len (fun j hj => by
      obtain ⟨cs', h1, h2⟩ := hel j (by omega)
      obtain ⟨q, e1, e2⟩ := part_op h2 (w2 (D j) (by simp; exact ⟨j, hj, rfl⟩))
      obtain ⟨_, _, h4⟩ := World.cells?_some h1
      refine ⟨q, e2, fun i hi => ?_⟩
      rw [h4 i hi, e1])
    refine ⟨some a, cap, ps, by rw [hpl], ⟨fun h0 => ?_, fun j hj => (hps j hj).1, by omega⟩, by omega⟩
    obtain ⟨b, off, spot⟩ := a
    have hc := (hps 0 (by omega)).2 0 (by omega)
    have hspot : spot = none := by
      have hv : (ps[0].vals)[0]? = some (.int .i64 ps[0].kind) := rfl
      rw [hv] at hc
      simpa [Addr.add] using World.cell?_spot hc
    subst hspot
    refine ⟨b, off, rfl, fun j hj i hi => ?_⟩
    have := (hps j hj).2 i hi
    rwa [Addr.add_lit, Addr.add_lit] at this

end

end Go.Proofs.YtjkghgcdkfkekaaGreatDoor

/- How the arguments of layer 10's laws read: steps, fates. -/
namespace Go.Proofs.YtjkghgcdkfkekaaGreatDoor
open Go.ChangeShapes Go.WideShapes Go.ChangeAt Go.RowKit Go.Deep

/-- A step of a queue's script, as it was handed in. -/
structure OpQ where
  kind : Int
  num : Int
  bo : Option Addr
  bc : Nat
  bs : Bs

def OpQ.vals (q : OpQ) : List Value := [.int .i64 q.kind, .int .i64 q.num, .slice q.bo q.bs.length q.bc]

structure OpQ.ok (w : World) (q : OpQ) : Prop where
  kind : -9223372036854775808 ≤ q.kind ∧ q.kind ≤ 9223372036854775807
  num : -9223372036854775808 ≤ q.num ∧ q.num ≤ 9223372036854775807
  bytes : BAt w q.bo q.bc q.bs

/-- Steps in a row. -/
structure OpqAt (w : World) (ao : Option Addr) (ps : List OpQ) : Prop where
  cells : 0 < ps.length → ∃ b off, ao = some ⟨b, off, none⟩ ∧ ∀ j (hj : j < ps.length) i, i < 3 → w.cell? ⟨b, off + j * 3 + i, none⟩ = (ps[j].vals)[i]?
  ok : ∀ j (hj : j < ps.length), ps[j].ok w
  small : ps.length * 40 ≤ 140737488355328

section
variable {H : Type} {enc : TypeId × Value → H} {w : World} {held : Bool}

theorem cells_qop : Tryz.prog.cellsOf 54 = 3 := by kernel_rfl
theorem cells_qfate : Tryz.prog.cellsOf 58 = 3 := by kernel_rfl

set_option maxRecDepth 20000 in
theorem part_qop {fuel : Nat} {cs : List Value} {x : DataW H × List MemPlace} (h : DataW.trod enc Tryz.prog w 0 (fun _ => true) held fuel 54 cs = some x) (hw : ∀ n ∈ x.1.weights Tryz.prog 54, n ≤ reachBytes) :
    ∃ q : OpQ, cs = q.vals ∧ q.ok w := by
  obtain ⟨xs, n, _, rfl, hl, hlen, hf⟩ := DataW.trod_struct Tryz.underlying54 h
  rw [cells_qop] at hl
  have g0 := hf 0 _ rfl
  have g1 := hf 1 _ rfl
  have g2 := hf 2 _ rfl
  match xs, hlen with
  | [y0, y1, y2], _ =>
    simp only [List.getElem?_cons_zero, List.getElem?_cons_succ] at g0 g1 g2
    have u2 := struct_weights Tryz.underlying54 hw (j := 2) (u := 28) (d := y2.1) rfl rfl
    obtain ⟨a0, e0, rfl, w0⟩ := DataW.trod_int Tryz.underlying3 g0
    obtain ⟨a1, e1, rfl, w1⟩ := DataW.trod_int Tryz.underlying3 g1
    match cs, hl with
    | [c0, c1, c2], _ =>
      have f0 := one_of e0
      have f1 := one_of e1
      simp at f0 f1
      subst f0 f1
      have k2 : DataW.trod enc Tryz.prog w 0 (fun _ => true) held n 28 [c2] = some y2 := g2
      obtain ⟨bo, bl, bc, h2⟩ := slice_shape Tryz.underlying28 k2
      simp only [List.cons.injEq, and_true] at h2
      subst h2
      obtain ⟨bs, rfl, B, _⟩ := part_bytes k2 u2
      exact ⟨⟨a0, a1, bo, bc, bs⟩, rfl, ⟨wf_both w0, wf_both w1, B⟩⟩

set_option maxRecDepth 20000 in
theorem part_qfate {fuel : Nat} {cs : List Value} {x : DataW H × List MemPlace} (h : DataW.trod enc Tryz.prog w 0 (fun _ => true) held fuel 58 cs = some x) (hw : ∀ n ∈ x.1.weights Tryz.prog 58, n ≤ reachBytes) :
    ∃ q : FtA, cs = q.vals ∧ q.ok w := by
  obtain ⟨xs, n, _, rfl, hl, hlen, hf⟩ := DataW.trod_struct Tryz.underlying58 h
  rw [cells_qfate] at hl
  have g0 := hf 0 _ rfl
  have g1 := hf 1 _ rfl
  have g2 := hf 2 _ rfl
  match xs, hlen with
  | [y0, y1, y2], _ =>
    simp only [List.getElem?_cons_zero, List.getElem?_cons_succ] at g0 g1 g2
    have u2 := struct_weights Tryz.underlying58 hw (j := 2) (u := 29) (d := y2.1) rfl rfl
    obtain ⟨a0, e0, rfl, w0⟩ := DataW.trod_int Tryz.underlying3 g0
    obtain ⟨a1, e1, _⟩ := DataW.trod_bool Tryz.underlying4 g1
    match cs, hl with
    | [c0, c1, c2], _ =>
      have f0 := one_of e0
      have f1 := one_of e1
      simp at f0 f1
      subst f0 f1
      have k2 : DataW.trod enc Tryz.prog w 0 (fun _ => true) held n 29 [c2] = some y2 := g2
      obtain ⟨ko, kl, kc, h5⟩ := slice_shape Tryz.underlying29 k2
      simp only [List.cons.injEq, and_true] at h5
      subst h5
      obtain ⟨ks, rfl, K⟩ := part_keep k2 u2
      exact ⟨⟨a0, a1, ko, kc, ks⟩, rfl, ⟨wf_both w0, K⟩⟩

/-- Steps that were handed in. -/
theorem arg_qops {ts : List TypeId} {ds : List (DataW H)} {v : Value} {d : DataW H} {p : List MemPlace} {j : Nat} (hok : ∃ a len cap, v = .slice a len cap) (h : DataW.Trod enc Tryz.prog w 0 (fun _ => true) held 42 v d p)
    (hsz : (DataW.weightsEach Tryz.prog ts ds).all (· ≤ reachBytes) = true) (ht : ts[j]? = some 42) (hd : ds[j]? = some d) : ∃ ao cap ps, v = .slice ao (List.length ps) cap ∧ OpqAt w ao ps ∧ ps.length ≤ cap := by
  obtain ⟨a0, len, cap, rfl⟩ := hok
  obtain ⟨fuel, hf⟩ := h
  have hw : ∀ n ∈ d.weights Tryz.prog 42, n ≤ reachBytes := fun n hn => of_decide_eq_true (List.all_eq_true.1 hsz _ (DataW.weights_mem_each ht hd n hn))
  have hf' : DataW.trod enc Tryz.prog w 0 (fun _ => true) held fuel 42 [.slice a0 len cap] = some (d, p) := hf
  rcases open_slice Tryz.underlying42 hf' with ⟨hcs, hx⟩ | ⟨a, len', cap', m, n, D, Pla, hcs, hb, hl, hm, hmm, hx, hel⟩
  · simp at hcs
    obtain ⟨rfl, rfl, rfl⟩ := hcs
    exact ⟨none, 0, [], rfl, ⟨fun h0 => absurd h0 (by simp), fun j hj => absurd hj (by simp), by simp⟩, by simp⟩
  · simp at hcs
    obtain ⟨rfl, rfl, rfl⟩ := hcs
    rw [cells_qop] at hel
    have hmc : m = cap := by simpa using hmm
    have hby : Tryz.prog.bytesOf 54 = 40 := by kernel_rfl
    have hd' : d = .slice ((List.range len).map D) ((List.range (m - len)).map fun j => D (len + j)) := congrArg Prod.fst hx
    rw [hd'] at hw
    obtain ⟨w1, w2⟩ := slice_weights Tryz.underlying42 hw
    rw [hby] at w1
    have hcap : len * 40 ≤ 140737488351232 := by
      simp at w1
      unfold reachBytes at w1
      omega
    obtain ⟨ps, hpl, hps⟩ := list_of (Good := fun j (q : OpQ) => q.ok w ∧ ∀ i, i < 3 → w.cell? ((a.add (j * 3)).add i) = (q.vals)[i]?) len (fun j hj => by
      obtain ⟨cs', h1, h2⟩ := hel j (by omega)
      obtain ⟨q, e1, e2⟩ := part_qop h2 (w2 (D j) (by simp; exact ⟨j, hj, rfl⟩))
      obtain ⟨_, _, h4⟩ := World.cells?_some h1
      refine ⟨q, e2, fun i hi => ?_⟩
      rw [h4 i hi, e1])
    refine ⟨some a, cap, ps, by rw [hpl], ⟨fun h0 => ?_, fun j hj => (hps j hj).1, by omega⟩, by omega⟩
    obtain ⟨b, off, spot⟩ := a
    have hc := (hps 0 (by omega)).2 0 (by omega)
    have hspot : spot = none := by
      have hv : (ps[0].vals)[0]? = some (.int .i64 ps[0].kind) := rfl
      rw [hv] at hc
      simpa [Addr.add] using World.cell?_spot hc
    subst hspot
    refine ⟨b, off, rfl, fun j hj i hi => ?_⟩
    have := (hps j hj).2 i hi
    rwa [Addr.add_lit, Addr.add_lit] at this

/-- Fates that were handed in. -/
theorem arg_qfates {ts : List TypeId} {ds : List (DataW H)} {v : Value} {d : DataW H} {p : List MemPlace} {j : Nat} (hok : ∃ a len cap, v = .slice a len cap) (h : DataW.Trod enc Tryz.prog w 0 (fun _ => true) held 59 v d p)
    (hsz : (DataW.weightsEach Tryz.prog ts ds).all (· ≤ reachBytes) = true) (ht : ts[j]? = some 59) (hd : ds[j]? = some d) : ∃ ao cap ps, v = .slice ao (List.length ps) cap ∧ FtsAt w ao ps ∧ ps.length ≤ cap := by
  obtain ⟨a0, len, cap, rfl⟩ := hok
  obtain ⟨fuel, hf⟩ := h
  have hw : ∀ n ∈ d.weights Tryz.prog 59, n ≤ reachBytes := fun n hn => of_decide_eq_true (List.all_eq_true.1 hsz _ (DataW.weights_mem_each ht hd n hn))
  have hf' : DataW.trod enc Tryz.prog w 0 (fun _ => true) held fuel 59 [.slice a0 len cap] = some (d, p) := hf
  rcases open_slice Tryz.underlying59 hf' with ⟨hcs, hx⟩ | ⟨a, len', cap', m, n, D, Pla, hcs, hb, hl, hm, hmm, hx, hel⟩
  · simp at hcs
    obtain ⟨rfl, rfl, rfl⟩ := hcs
    exact ⟨none, 0, [], rfl, ⟨fun h0 => absurd h0 (by simp), fun j hj => absurd hj (by simp), by simp⟩, by simp⟩
  · simp at hcs
    obtain ⟨rfl, rfl, rfl⟩ := hcs
    rw [cells_qfate] at hel
    have hmc : m = cap := by simpa using hmm
    have hby : Tryz.prog.bytesOf 58 = 40 := by kernel_rfl
    have hd' : d = .slice ((List.range len).map D) ((List.range (m - len)).map fun j => D (len + j)) := congrArg Prod.fst hx
    rw [hd'] at hw
    obtain ⟨w1, w2⟩ := slice_weights Tryz.underlying59 hw
    rw [hby] at w1
    have hcap : len ≤ 140737488351232 := by
      simp at w1
      unfold reachBytes at w1
      omega
    obtain ⟨ps, hpl, hps⟩ := list_of (Good := fun j (q : FtA) => q.ok w ∧ ∀ i, i < 3 → w.cell? ((a.add (j * 3)).add i) = (q.vals)[i]?) len (fun j hj => by
      obtain ⟨cs', h1, h2⟩ := hel j (by omega)
      obtain ⟨q, e1, e2⟩ := part_qfate h2 (w2 (D j) (by simp; exact ⟨j, hj, rfl⟩))
      obtain ⟨_, _, h4⟩ := World.cells?_some h1
      refine ⟨q, e2, fun i hi => ?_⟩
      rw [h4 i hi, e1])
    refine ⟨some a, cap, ps, by rw [hpl], ⟨fun h0 => ?_, fun j hj => (hps j hj).1, by omega⟩, by omega⟩
    obtain ⟨b, off, spot⟩ := a
    have hc := (hps 0 (by omega)).2 0 (by omega)
    have hspot : spot = none := by
      have hv : (ps[0].vals)[0]? = some (.int .i64 ps[0].acts) := rfl
      rw [hv] at hc
      simpa [Addr.add] using World.cell?_spot hc
    subst hspot
    refine ⟨b, off, rfl, fun j hj i hi => ?_⟩
    have := (hps j hj).2 i hi
    rwa [Addr.add_lit, Addr.add_lit] at this

/-- A fate that was handed in. -/
theorem arg_qfate {ts : List TypeId} {ds : List (DataW H)} {v : Value} {d : DataW H} {p : List MemPlace} {j : Nat} (hok : ∃ cs, v = .agg cs ∧ cs.size = Tryz.prog.cellsOf 58) (h : DataW.Trod enc Tryz.prog w 0 (fun _ => true) held 58 v d p)
    (hsz : (DataW.weightsEach Tryz.prog ts ds).all (· ≤ reachBytes) = true) (ht : ts[j]? = some 58) (hd : ds[j]? = some d) : ∃ q : FtA, v = .agg q.vals.toArray ∧ q.ok w := by
  obtain ⟨cs, rfl, hs⟩ := hok
  obtain ⟨fuel, hf⟩ := h
  have hw : ∀ n ∈ d.weights Tryz.prog 58, n ≤ reachBytes := fun n hn => of_decide_eq_true (List.all_eq_true.1 hsz _ (DataW.weights_mem_each ht hd n hn))
  obtain ⟨q, e, hq⟩ := part_qfate hf hw
  refine ⟨q, ?_, hq⟩
  congr 1
  apply Array.toList_inj.1
  simpa [Value.cells] using e

end

end Go.Proofs.YtjkghgcdkfkekaaGreatDoor

