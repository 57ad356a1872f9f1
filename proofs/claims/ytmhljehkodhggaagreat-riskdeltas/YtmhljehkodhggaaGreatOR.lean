import Derived.Test.YtmhljehkodhggaaGreatRows
import Derived.Test.YtmhljehkodhggaaGreatU9
import Derived.ProofKit
import Derived.OpenShut
import Derived.ChangeOld
import Derived.Below
import Derived.SizedLaws
import Derived.Laws.Cover2
import Derived.Deep.Slices
import Derived.SliceStrings
/- How the laws' arguments read: lists of texts, lists of tokens, deltas. -/
namespace Go.Proofs.YtmhljehkodhggaaGreat
open Go.ChangeShapes Go.WideShapes Go.ChangeAt Go.RowKit Go.Deep

theorem ownR : ownKnob Tryz.prog.godebug = none := by kernel_rfl
theorem laidOutR : laidOutB Tryz.prog = true := by kernel_rfl
theorem one_ofR {l : List Value} {i : Nat} {v : Value} (h : (l.drop i).take 1 = [v]) : l[i]? = some v := by
  have : ((l.drop i).take 1)[0]? = some v := by rw [h]; rfl
  simpa using this
theorem wf_leR {n : Int} (h : (Lit.int .i64 n).wf = true) : n ≤ 9223372036854775807 ∧ -9223372036854775808 ≤ n := by
  have : -9223372036854775808 ≤ n ∧ n ≤ 9223372036854775807 := by simpa [Lit.wf, IntKind.min, IntKind.max, IntKind.signed, IntKind.bits] using h
  exact ⟨this.2, this.1⟩

section
variable {H : Type} {enc : TypeId × Value → H} {w : World} {held : Bool}

theorem open_toksR {fuel : Nat} {c : Value} {x : DataW H × List MemPlace} (h : DataW.trod enc Tryz.prog w 0 (fun _ => true) held fuel 22 [c] = some x) :
    ∃ a cap, ∃ l : List ByteArray, c = .slice a l.length cap ∧ SAt w a l ∧ l.length ≤ cap ∧ (cap = 0 ∨ ∃ elems rest, x.1 = .slice elems rest ∧ elems.length + rest.length = cap) := by
  rcases open_strings Tryz.underlying22 Tryz.underlying9 (by kernel_rfl) h with ⟨hcs, hx⟩ | ⟨a, len, cap, ss, hcs, _, hl, hm, hz, hx, hcell, _⟩
  · simp at hcs
    subst hcs
    exact ⟨none, 0, [], rfl, fun h => absurd h (by simp), Nat.le_refl _, .inl rfl⟩
  · simp at hcs
    subst hcs
    have hz' : ss.length = cap := by simpa using hz
    have hlen : (ss.take len).length = len := by rw [List.length_take]; omega
    refine ⟨some a, cap, ss.take len, by rw [hlen], fun h0 => ?_, by rw [hlen]; exact hl, .inr ⟨_, _, by rw [hx], ?_⟩⟩
    · obtain ⟨b, off, spot⟩ := a
      have hc := hcell 0 (by omega)
      have hspot : spot = none := by simpa [Addr.add] using World.cell?_spot hc
      subst hspot
      refine ⟨b, off, rfl, fun j hj => ?_⟩
      have h1 := hcell j (by omega)
      rw [Addr.add_lit] at h1
      rw [h1, getD_eq hj]
      have h4 : j < ss.length := by omega
      simp [h4]
    · simp [strs]
      omega

theorem sized_structR {P : Program} {ts : List TypeId} {ds : List (DataW H)} (h : (DataW.weightsEach P ts ds).all (· ≤ reachBytes) = true) {j : Nat} {t : TypeId} {fs : Array Field} {parts : List (DataW H)} (ht : ts[j]? = some t) (hd : ds[j]? = some (.agg parts)) (hu : P.underlying t = some (.struct fs)) :
    (DataW.weightsEach P (fs.toList.map (·.type)) parts).all (· ≤ reachBytes) = true := by
  refine List.all_eq_true.2 fun n hn => ?_
  exact List.all_eq_true.1 h n (DataW.weights_mem_each ht hd n (by simpa [DataW.weights, hu] using hn))

theorem cap_small {ts : List TypeId} {ds : List (DataW H)} (hsz : (DataW.weightsEach Tryz.prog ts ds).all (· ≤ reachBytes) = true) {j cap : Nat} (ht : ts[j]? = some 22) (h : cap = 0 ∨ ∃ elems rest, ds[j]? = some (.slice elems rest) ∧ elems.length + rest.length = cap) : (cap + 200) * 16 ≤ 140737488355328 := by
  rcases h with h | ⟨el, re, e, h⟩
  · omega
  · have hs := sized_slice hsz (t := 22) (e := 9) (elems := el) (spare := re) ht e Tryz.underlying22
    have hby : Tryz.prog.bytesOf 9 = 16 := by kernel_rfl
    rw [hby] at hs
    unfold reachBytes at hs
    omega

/-- Texts that were handed in. -/
theorem arg_toks {ts : List TypeId} {ds : List (DataW H)} {v : Value} {d : DataW H} {p : List MemPlace} {j : Nat} (hok : ∃ a len cap, v = .slice a len cap) (h : DataW.Trod enc Tryz.prog w 0 (fun _ => true) held 22 v d p)
    (hsz : (DataW.weightsEach Tryz.prog ts ds).all (· ≤ reachBytes) = true) (ht : ts[j]? = some 22) (hd : ds[j]? = some d) : ∃ a cap, ∃ l : List ByteArray, v = .slice a l.length cap ∧ SAt w a l ∧ l.length ≤ cap ∧ (cap + 200) * 16 ≤ 140737488355328 := by
  obtain ⟨a0, len, cap0, rfl⟩ := hok
  obtain ⟨fuel, hf⟩ := h
  have hf' : DataW.trod enc Tryz.prog w 0 (fun _ => true) held fuel 22 [.slice a0 len cap0] = some (d, p) := hf
  obtain ⟨a, cap, l, e, h1, h2, h3⟩ := open_toksR hf'
  exact ⟨a, cap, l, e, h1, h2, cap_small hsz ht (h3.imp id (fun ⟨el, re, e, h⟩ => ⟨el, re, by rw [hd]; exact congrArg some e, h⟩))⟩

theorem cells_riskR : Tryz.prog.cellsOf 24 = 2 := by kernel_rfl
theorem cells_deltaR : Tryz.prog.cellsOf 26 = 3 := by kernel_rfl

set_option maxRecDepth 100000 in
/-- A list that was handed in. -/
theorem arg_risk {ts : List TypeId} {ds : List (DataW H)} {v : Value} {d : DataW H} {p : List MemPlace} {j : Nat} (hok : ∃ cs, v = .agg cs ∧ cs.size = Tryz.prog.cellsOf 24) (h : DataW.Trod enc Tryz.prog w 0 (fun _ => true) held 24 v d p)
    (hsz : (DataW.weightsEach Tryz.prog ts ds).all (· ≤ reachBytes) = true) (ht : ts[j]? = some 24) (hd : ds[j]? = some d) : ∃ l a c, v = .agg (rlC l a c) ∧ RIn w l a c ∧ (c + 200) * 16 ≤ 140737488355328 ∧ -9223372036854775808 ≤ l.ver := by
  obtain ⟨cs, rfl, _⟩ := hok
  obtain ⟨fuel, hf⟩ := h
  have hf' : DataW.trod enc Tryz.prog w 0 (fun _ => true) held fuel 24 cs.toList = some (d, p) := hf
  generalize hcs : cs.toList = cl at hf'
  obtain ⟨xs, n, pl, hxx, hl, hlen, hff⟩ := DataW.trod_struct Tryz.underlying24 hf'
  rw [cells_riskR] at hl
  have g0 := hff 0 _ rfl
  have g1 := hff 1 _ rfl
  match xs, hlen with
  | [y0, y1], _ =>
    simp only [List.getElem?_cons_zero, List.getElem?_cons_succ] at g0 g1
    obtain ⟨u, e0, rfl, w0⟩ := DataW.trod_int Tryz.underlying3 g0
    match cl, hl with
    | [z0, z1], _ =>
      have q0 := one_ofR e0
      simp at q0
      subst q0
      have k1 : DataW.trod enc Tryz.prog w 0 (fun _ => true) held n 22 [z1] = some y1 := g1
      obtain ⟨a1, c1, l1, rfl, p1, p2, p3⟩ := open_toksR k1
      have hxd : d = .agg _ := congrArg Prod.fst hxx
      have hS := sized_structR hsz ht (by rw [hd, hxd]) Tryz.underlying24
      have hc := cap_small hS (j := 1) rfl (p3.imp id (fun ⟨el, re, e, h⟩ => ⟨el, re, by simp [e], h⟩))
      refine ⟨⟨u, l1⟩, a1, c1, by rw [show cs = rlC ⟨u, l1⟩ a1 c1 from Array.ext' hcs], ⟨p1, by show l1.length ≤ _; omega, p2, (wf_leR w0).1⟩, hc, (wf_leR w0).2⟩

set_option maxRecDepth 100000 in
/-- A delta that was handed in. -/
theorem arg_deltaR {ts : List TypeId} {ds : List (DataW H)} {v : Value} {d : DataW H} {p : List MemPlace} {j : Nat} (hok : ∃ cs, v = .agg cs ∧ cs.size = Tryz.prog.cellsOf 26) (h : DataW.Trod enc Tryz.prog w 0 (fun _ => true) held 26 v d p)
    (hsz : (DataW.weightsEach Tryz.prog ts ds).all (· ≤ reachBytes) = true) (ht : ts[j]? = some 26) (hd : ds[j]? = some d) : ∃ q a1 c1 a2 c2, v = .agg (dlC q a1 c1 a2 c2) ∧ DI w q a1 c1 a2 c2 ∧ (c1 + 200) * 16 ≤ 140737488355328 ∧ (c2 + 200) * 16 ≤ 140737488355328 ∧ -9223372036854775808 ≤ q.ver := by
  obtain ⟨cs, rfl, _⟩ := hok
  obtain ⟨fuel, hf⟩ := h
  have hf' : DataW.trod enc Tryz.prog w 0 (fun _ => true) held fuel 26 cs.toList = some (d, p) := hf
  generalize hcs : cs.toList = cl at hf'
  obtain ⟨xs, n, pl, hxx, hl, hlen, hff⟩ := DataW.trod_struct Tryz.underlying26 hf'
  rw [cells_deltaR] at hl
  have g0 := hff 0 _ rfl
  have g1 := hff 1 _ rfl
  have g2 := hff 2 _ rfl
  match xs, hlen with
  | [y0, y1, y2], _ =>
    simp only [List.getElem?_cons_zero, List.getElem?_cons_succ] at g0 g1 g2
    obtain ⟨u, e0, rfl, w0⟩ := DataW.trod_int Tryz.underlying3 g0
    match cl, hl with
    | [z0, z1, z2], _ =>
      have q0 := one_ofR e0
      simp at q0
      subst q0
      have k1 : DataW.trod enc Tryz.prog w 0 (fun _ => true) held n 22 [z1] = some y1 := g1
      have k2 : DataW.trod enc Tryz.prog w 0 (fun _ => true) held n 22 [z2] = some y2 := g2
      obtain ⟨a1, c1, l1, rfl, p1, p2, p3⟩ := open_toksR k1
      obtain ⟨a2, c2, l2, rfl, r1, r2, r3⟩ := open_toksR k2
      have hxd : d = .agg _ := congrArg Prod.fst hxx
      have hS := sized_structR hsz ht (by rw [hd, hxd]) Tryz.underlying26
      have hc := cap_small hS (j := 1) rfl (p3.imp id (fun ⟨el, re, e, h⟩ => ⟨el, re, by simp [e], h⟩))
      have hc2 := cap_small hS (j := 2) rfl (r3.imp id (fun ⟨el, re, e, h⟩ => ⟨el, re, by simp [e], h⟩))
      refine ⟨⟨u, l1, l2⟩, a1, c1, a2, c2, by rw [show cs = dlC ⟨u, l1, l2⟩ a1 c1 a2 c2 from Array.ext' hcs], ⟨p1, r1, by show l1.length ≤ _; omega, by show l2.length ≤ _; omega, (wf_leR w0).1, p2, r2⟩, hc, hc2, (wf_leR w0).2⟩

end
end Go.Proofs.YtmhljehkodhggaaGreat

