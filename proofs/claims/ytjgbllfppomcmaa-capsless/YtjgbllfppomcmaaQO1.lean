import Derived.Test.YtjgbllfppomcmaaRows
import Derived.Test.YtjgbllfppomcmaaQT1
import Derived.Test.YtjgbllfppomcmaaOA
import Derived.ProofKit
import Derived.OpenShut
import Derived.ChangeOld
import Derived.Below
import Derived.SizedLaws
import Derived.Laws.Cover2
import Derived.Deep.Slices
/- How the laws' arguments read: a tariff, with its slices of stations, spans and bands. -/
namespace Go.Proofs.Ytjgbllfppomcmaa
open Go.ChangeShapes Go.WideShapes Go.ChangeAt Go.RowKit Go.Deep

theorem cells35 : Try.prog.cellsOf 60 = 3 := by kernel_rfl
theorem cells39 : Try.prog.cellsOf 57 = 5 := by kernel_rfl
theorem cells46 : Try.prog.cellsOf 87 = 2 := by kernel_rfl
theorem cells27 : Try.prog.cellsOf 27 = 14 := by kernel_rfl

section
variable {H : Type} {enc : TypeId × Value → H} {w : World} {held : Bool}

theorem trod_float {P : Program} {base : Nat} {spare : Nat → Bool} {t : TypeId} {k : FloatKind} {fuel : Nat} {cs : List Value} {x : DataW H × List MemPlace} (ht : P.underlying t = some (.float k)) (h : DataW.trod enc P w base spare held fuel t cs = some x) : ∃ b, cs = [.float k b] ∧ x = (.lit (.float k b), []) ∧ (Lit.float k b).wf = true := by
  cases fuel with
  | zero => simp [DataW.trod] at h
  | succ n =>
    unfold DataW.trod at h
    rw [ht] at h
    split at h <;> simp_all

set_option maxRecDepth 100000 in
theorem open_stn {fuel : Nat} {cs : List Value} {x : DataW H × List MemPlace} (h : DataW.trod enc Try.prog w 0 (fun _ => true) held fuel 60 cs = some x) : ∃ q : Stn, cs = stC q := by
  obtain ⟨xs, n, _, rfl, hl, hlen, hf⟩ := DataW.trod_struct Try.underlying60 h
  rw [cells35] at hl
  have g0 := hf 0 _ rfl
  have g1 := hf 1 _ rfl
  have g2 := hf 2 _ rfl
  match xs, hlen with
  | [y0, y1, y2], _ =>
    simp only [List.getElem?_cons_zero, List.getElem?_cons_succ] at g0 g1 g2
    obtain ⟨a0, e0, rfl, w0⟩ := DataW.trod_int Try.underlying3 g0
    obtain ⟨a1, e1, rfl, w1⟩ := DataW.trod_int Try.underlying3 g1
    obtain ⟨a2, e2, rfl, w2⟩ := DataW.trod_int Try.underlying3 g2
    match cs, hl with
    | [c0, c1, c2], _ =>
      have f0 := one_of e0
      have f1 := one_of e1
      have f2 := one_of e2
      simp at f0 f1 f2
      subst f0 f1 f2
      exact ⟨⟨a0, a1, a2⟩, rfl⟩

theorem open_stns {fuel : Nat} {a0 : Option Addr} {len cap : Nat} {x : DataW H × List MemPlace} (h : DataW.trod enc Try.prog w 0 (fun _ => true) held fuel 22 [.slice a0 len cap] = some x) :
    ∃ ps : List Stn, ps.length = len ∧ CAt w a0 (stV ps) ∧ (len = 0 ∨ ∃ elems rest, x.1 = .slice elems rest ∧ elems.length = len) := by
  rcases open_slice Try.underlying22 h with ⟨hcs, hx⟩ | ⟨a, len', cap', m, n, D, Pla, hcs, hb, hl, hm, hmm, hx, hel⟩
  · simp at hcs
    obtain ⟨rfl, rfl, rfl⟩ := hcs
    exact ⟨[], rfl, CAt.nil _ _, .inl rfl⟩
  · simp at hcs
    obtain ⟨rfl, rfl, rfl⟩ := hcs
    rw [cells35] at hel
    have hmc : m = cap := by simpa using hmm
    obtain ⟨ps, hpl, hps⟩ := list_of (Good := fun j (q : Stn) => ∀ i, i < 3 → w.cell? ((a.add (j * 3)).add i) = (stC q)[i]?) len (fun j hj => by
      obtain ⟨cs', h1, h2⟩ := hel j (by omega)
      obtain ⟨q, e1⟩ := open_stn h2
      obtain ⟨_, _, h4⟩ := World.cells?_some h1
      refine ⟨q, fun i hi => ?_⟩
      rw [h4 i hi, e1])
    refine ⟨ps, hpl, fun h0 => ?_, .inr ⟨_, _, by rw [hx], by simp⟩⟩
    have hVl := stV_length ps
    have hpos : 0 < ps.length := by omega
    obtain ⟨b, off, spot⟩ := a
    have hc := hps 0 hpos 0 (by omega)
    have hspot : spot = none := by
      have hv : (stC ps[0])[0]? = some (.int .i64 ps[0].id) := rfl
      rw [hv] at hc
      simpa [Addr.add] using World.cell?_spot hc
    subst hspot
    refine ⟨b, off, rfl, fun j hj => ?_⟩
    have hjk : j / 3 < ps.length := by omega
    have h1 := hps (j / 3) hjk (j % 3) (Nat.mod_lt _ (by omega))
    rw [Addr.add_lit, Addr.add_lit, Nat.add_assoc, show j / 3 * 3 + j % 3 = j by omega] at h1
    have h2 := flat_get stC 3 (fun _ => rfl) ps (j / 3) hjk (j % 3) (Nat.mod_lt _ (by omega))
    rw [show j / 3 * 3 + j % 3 = j by omega] at h2
    rw [h1, ← h2]
    exact List.getElem?_eq_getElem hj

set_option maxRecDepth 100000 in
theorem open_spn {fuel : Nat} {cs : List Value} {x : DataW H × List MemPlace} (h : DataW.trod enc Try.prog w 0 (fun _ => true) held fuel 57 cs = some x) : ∃ q : Spn, cs = spC q := by
  obtain ⟨xs, n, _, rfl, hl, hlen, hf⟩ := DataW.trod_struct Try.underlying57 h
  rw [cells39] at hl
  have g0 := hf 0 _ rfl
  have g1 := hf 1 _ rfl
  have g2 := hf 2 _ rfl
  have g3 := hf 3 _ rfl
  have g4 := hf 4 _ rfl
  match xs, hlen with
  | [y0, y1, y2, y3, y4], _ =>
    simp only [List.getElem?_cons_zero, List.getElem?_cons_succ] at g0 g1 g2 g3 g4
    obtain ⟨a0, e0, rfl, w0⟩ := DataW.trod_int Try.underlying3 g0
    obtain ⟨a1, e1, rfl, w1⟩ := DataW.trod_int Try.underlying3 g1
    obtain ⟨a2, e2, rfl, w2⟩ := DataW.trod_int Try.underlying3 g2
    obtain ⟨a3, e3, rfl, w3⟩ := DataW.trod_int Try.underlying3 g3
    obtain ⟨a4, e4, rfl, w4⟩ := DataW.trod_int Try.underlying3 g4
    match cs, hl with
    | [c0, c1, c2, c3, c4], _ =>
      have f0 := one_of e0
      have f1 := one_of e1
      have f2 := one_of e2
      have f3 := one_of e3
      have f4 := one_of e4
      simp at f0 f1 f2 f3 f4
      subst f0 f1 f2 f3 f4
      exact ⟨⟨a0, a1, a2, a3, a4⟩, rfl⟩

theorem open_spns {fuel : Nat} {a0 : Option Addr} {len cap : Nat} {x : DataW H × List MemPlace} (h : DataW.trod enc Try.prog w 0 (fun _ => true) held fuel 23 [.slice a0 len cap] = some x) :
    ∃ ps : List Spn, ps.length = len ∧ CAt w a0 (spV ps) ∧ (len = 0 ∨ ∃ elems rest, x.1 = .slice elems rest ∧ elems.length = len) := by
  rcases open_slice Try.underlying23 h with ⟨hcs, hx⟩ | ⟨a, len', cap', m, n, D, Pla, hcs, hb, hl, hm, hmm, hx, hel⟩
  · simp at hcs
    obtain ⟨rfl, rfl, rfl⟩ := hcs
    exact ⟨[], rfl, CAt.nil _ _, .inl rfl⟩
  · simp at hcs
    obtain ⟨rfl, rfl, rfl⟩ := hcs
    rw [cells39] at hel
    have hmc : m = cap := by simpa using hmm
    obtain ⟨ps, hpl, hps⟩ := list_of (Good := fun j (q : Spn) => ∀ i, i < 5 → w.cell? ((a.add (j * 5)).add i) = (spC q)[i]?) len (fun j hj => by
      obtain ⟨cs', h1, h2⟩ := hel j (by omega)
      obtain ⟨q, e1⟩ := open_spn h2
      obtain ⟨_, _, h4⟩ := World.cells?_some h1
      refine ⟨q, fun i hi => ?_⟩
      rw [h4 i hi, e1])
    refine ⟨ps, hpl, fun h0 => ?_, .inr ⟨_, _, by rw [hx], by simp⟩⟩
    have hVl := spV_length ps
    have hpos : 0 < ps.length := by omega
    obtain ⟨b, off, spot⟩ := a
    have hc := hps 0 hpos 0 (by omega)
    have hspot : spot = none := by
      have hv : (spC ps[0])[0]? = some (.int .i64 ps[0].fr) := rfl
      rw [hv] at hc
      simpa [Addr.add] using World.cell?_spot hc
    subst hspot
    refine ⟨b, off, rfl, fun j hj => ?_⟩
    have hjk : j / 5 < ps.length := by omega
    have h1 := hps (j / 5) hjk (j % 5) (Nat.mod_lt _ (by omega))
    rw [Addr.add_lit, Addr.add_lit, Nat.add_assoc, show j / 5 * 5 + j % 5 = j by omega] at h1
    have h2 := flat_get spC 5 (fun _ => rfl) ps (j / 5) hjk (j % 5) (Nat.mod_lt _ (by omega))
    rw [show j / 5 * 5 + j % 5 = j by omega] at h2
    rw [h1, ← h2]
    exact List.getElem?_eq_getElem hj

set_option maxRecDepth 100000 in
theorem open_bnd {fuel : Nat} {cs : List Value} {x : DataW H × List MemPlace} (h : DataW.trod enc Try.prog w 0 (fun _ => true) held fuel 87 cs = some x) : ∃ q : (Int × Int), cs = bdC q := by
  obtain ⟨xs, n, _, rfl, hl, hlen, hf⟩ := DataW.trod_struct Try.underlying87 h
  rw [cells46] at hl
  have g0 := hf 0 _ rfl
  have g1 := hf 1 _ rfl
  match xs, hlen with
  | [y0, y1], _ =>
    simp only [List.getElem?_cons_zero, List.getElem?_cons_succ] at g0 g1
    obtain ⟨a0, e0, rfl, w0⟩ := DataW.trod_int Try.underlying3 g0
    obtain ⟨a1, e1, rfl, w1⟩ := DataW.trod_int Try.underlying3 g1
    match cs, hl with
    | [c0, c1], _ =>
      have f0 := one_of e0
      have f1 := one_of e1
      simp at f0 f1
      subst f0 f1
      exact ⟨(a0, a1), rfl⟩

theorem open_bnds {fuel : Nat} {a0 : Option Addr} {len cap : Nat} {x : DataW H × List MemPlace} (h : DataW.trod enc Try.prog w 0 (fun _ => true) held fuel 24 [.slice a0 len cap] = some x) :
    ∃ ps : List (Int × Int), ps.length = len ∧ CAt w a0 (bdV ps) ∧ (len = 0 ∨ ∃ elems rest, x.1 = .slice elems rest ∧ elems.length = len) := by
  rcases open_slice Try.underlying24 h with ⟨hcs, hx⟩ | ⟨a, len', cap', m, n, D, Pla, hcs, hb, hl, hm, hmm, hx, hel⟩
  · simp at hcs
    obtain ⟨rfl, rfl, rfl⟩ := hcs
    exact ⟨[], rfl, CAt.nil _ _, .inl rfl⟩
  · simp at hcs
    obtain ⟨rfl, rfl, rfl⟩ := hcs
    rw [cells46] at hel
    have hmc : m = cap := by simpa using hmm
    obtain ⟨ps, hpl, hps⟩ := list_of (Good := fun j (q : (Int × Int)) => ∀ i, i < 2 → w.cell? ((a.add (j * 2)).add i) = (bdC q)[i]?) len (fun j hj => by
      obtain ⟨cs', h1, h2⟩ := hel j (by omega)
      obtain ⟨q, e1⟩ := open_bnd h2
      obtain ⟨_, _, h4⟩ := World.cells?_some h1
      refine ⟨q, fun i hi => ?_⟩
      rw [h4 i hi, e1])
    refine ⟨ps, hpl, fun h0 => ?_, .inr ⟨_, _, by rw [hx], by simp⟩⟩
    have hVl := bdV_length ps
    have hpos : 0 < ps.length := by omega
    obtain ⟨b, off, spot⟩ := a
    have hc := hps 0 hpos 0 (by omega)
    have hspot : spot = none := by
      have hv : (bdC ps[0])[0]? = some (.int .i64 ps[0].1) := rfl
      rw [hv] at hc
      simpa [Addr.add] using World.cell?_spot hc
    subst hspot
    refine ⟨b, off, rfl, fun j hj => ?_⟩
    have hjk : j / 2 < ps.length := by omega
    have h1 := hps (j / 2) hjk (j % 2) (Nat.mod_lt _ (by omega))
    rw [Addr.add_lit, Addr.add_lit, Nat.add_assoc, show j / 2 * 2 + j % 2 = j by omega] at h1
    have h2 := flat_get bdC 2 (fun _ => rfl) ps (j / 2) hjk (j % 2) (Nat.mod_lt _ (by omega))
    rw [show j / 2 * 2 + j % 2 = j by omega] at h2
    rw [h1, ← h2]
    exact List.getElem?_eq_getElem hj

set_option maxRecDepth 100000 in
/-- A tariff. -/
theorem open_tariff {fuel : Nat} {cs : List Value} {x : DataW H × List MemPlace} (h : DataW.trod enc Try.prog w 0 (fun _ => true) held fuel 27 cs = some x) :
    ∃ A t, cs = (tc A t).toList ∧ CAt w A.aS (stV t.st) ∧ CAt w A.aP (spV t.sp) ∧ CAt w A.aB (bdV t.bd) ∧ t.off < 18446744073709551616 ∧
      ∃ parts, x.1 = .agg parts ∧ (t.st.length = 0 ∨ ∃ elems rest, parts[0]? = some (.slice elems rest) ∧ elems.length = t.st.length) ∧ (t.sp.length = 0 ∨ ∃ elems rest, parts[1]? = some (.slice elems rest) ∧ elems.length = t.sp.length) ∧ (t.bd.length = 0 ∨ ∃ elems rest, parts[2]? = some (.slice elems rest) ∧ elems.length = t.bd.length) := by
  obtain ⟨xs, n, _, rfl, hl, hlen, hf⟩ := DataW.trod_struct Try.underlying27 h
  rw [cells27] at hl
  have g0 := hf 0 _ rfl
  have g1 := hf 1 _ rfl
  have g2 := hf 2 _ rfl
  have g3 := hf 3 _ rfl
  have g4 := hf 4 _ rfl
  have g5 := hf 5 _ rfl
  have g6 := hf 6 _ rfl
  have g7 := hf 7 _ rfl
  have g8 := hf 8 _ rfl
  have g9 := hf 9 _ rfl
  have g10 := hf 10 _ rfl
  have g11 := hf 11 _ rfl
  have g12 := hf 12 _ rfl
  have g13 := hf 13 _ rfl
  match xs, hlen with
  | [y0, y1, y2, y3, y4, y5, y6, y7, y8, y9, y10, y11, y12, y13], _ =>
    simp only [List.getElem?_cons_zero, List.getElem?_cons_succ] at g0 g1 g2 g3 g4 g5 g6 g7 g8 g9 g10 g11 g12 g13
    obtain ⟨f3, e3, rfl, w3⟩ := trod_float Try.underlying25 g3
    obtain ⟨a4, e4, rfl, w4⟩ := DataW.trod_int Try.underlying3 g4
    obtain ⟨a5, e5, rfl, w5⟩ := DataW.trod_int Try.underlying3 g5
    obtain ⟨a6, e6, rfl, w6⟩ := DataW.trod_int Try.underlying3 g6
    obtain ⟨a7, e7, rfl, w7⟩ := DataW.trod_int Try.underlying3 g7
    obtain ⟨a8, e8, rfl, w8⟩ := DataW.trod_int Try.underlying3 g8
    obtain ⟨a9, e9, rfl, w9⟩ := DataW.trod_int Try.underlying3 g9
    obtain ⟨a10, e10, rfl, w10⟩ := DataW.trod_int Try.underlying3 g10
    obtain ⟨a11, e11, rfl, w11⟩ := DataW.trod_int Try.underlying3 g11
    obtain ⟨a12, e12, rfl, w12⟩ := DataW.trod_int Try.underlying3 g12
    obtain ⟨a13, e13, rfl, w13⟩ := DataW.trod_int Try.underlying3 g13
    match cs, hl with
    | [c0, c1, c2, c3, c4, c5, c6, c7, c8, c9, c10, c11, c12, c13], _ =>
      have q3 := one_of e3
      have q4 := one_of e4
      have q5 := one_of e5
      have q6 := one_of e6
      have q7 := one_of e7
      have q8 := one_of e8
      have q9 := one_of e9
      have q10 := one_of e10
      have q11 := one_of e11
      have q12 := one_of e12
      have q13 := one_of e13
      simp at q3 q4 q5 q6 q7 q8 q9 q10 q11 q12 q13
      subst q3 q4 q5 q6 q7 q8 q9 q10 q11 q12 q13
      have k0 : DataW.trod enc Try.prog w 0 (fun _ => true) held n 22 [c0] = some y0 := g0
      have k1 : DataW.trod enc Try.prog w 0 (fun _ => true) held n 23 [c1] = some y1 := g1
      have k2 : DataW.trod enc Try.prog w 0 (fun _ => true) held n 24 [c2] = some y2 := g2
      obtain ⟨s0, l0, p0, rfl⟩ : ∃ a len cap, c0 = .slice a len cap := by
        rcases open_slice Try.underlying22 k0 with ⟨hc, _⟩ | ⟨a, len, cap, _, _, _, _, hc, _⟩
        · exact ⟨none, 0, 0, by simpa using hc⟩
        · exact ⟨some a, len, cap, by simpa using hc⟩
      obtain ⟨s1, l1, p1, rfl⟩ : ∃ a len cap, c1 = .slice a len cap := by
        rcases open_slice Try.underlying23 k1 with ⟨hc, _⟩ | ⟨a, len, cap, _, _, _, _, hc, _⟩
        · exact ⟨none, 0, 0, by simpa using hc⟩
        · exact ⟨some a, len, cap, by simpa using hc⟩
      obtain ⟨s2, l2, p2, rfl⟩ : ∃ a len cap, c2 = .slice a len cap := by
        rcases open_slice Try.underlying24 k2 with ⟨hc, _⟩ | ⟨a, len, cap, _, _, _, _, hc, _⟩
        · exact ⟨none, 0, 0, by simpa using hc⟩
        · exact ⟨some a, len, cap, by simpa using hc⟩
      obtain ⟨ps, hp1, hp2, hp3⟩ := open_stns k0
      obtain ⟨qs, hq1, hq2, hq3⟩ := open_spns k1
      obtain ⟨rs, hr1, hr2, hr3⟩ := open_bnds k2
      subst hp1 hq1 hr1
      refine ⟨⟨s0, p0, s1, p1, s2, p2⟩, ⟨ps, qs, rs, f3, a4, a5, a6, a7, a8, a9, a10, a11, a12, a13⟩, rfl, hp2, hq2, hr2, by simpa [Lit.wf] using w3, _, rfl, ?_, ?_, ?_⟩
      · rcases hp3 with h | ⟨el, re, e, h⟩
        · exact .inl h
        · exact .inr ⟨el, re, by simp [e], h⟩
      · rcases hq3 with h | ⟨el, re, e, h⟩
        · exact .inl h
        · exact .inr ⟨el, re, by simp [e], h⟩
      · rcases hr3 with h | ⟨el, re, e, h⟩
        · exact .inl h
        · exact .inr ⟨el, re, by simp [e], h⟩

/-- What the form's reach says of a struct's parts. -/
theorem sized_struct {P : Program} {ts : List TypeId} {ds : List (DataW H)} (h : (DataW.weightsEach P ts ds).all (· ≤ reachBytes) = true) {j : Nat} {t : TypeId} {fs : Array Field} {parts : List (DataW H)} (ht : ts[j]? = some t) (hd : ds[j]? = some (.agg parts)) (hu : P.underlying t = some (.struct fs)) :
    (DataW.weightsEach P (fs.toList.map (·.type)) parts).all (· ≤ reachBytes) = true := by
  refine List.all_eq_true.2 fun n hn => ?_
  exact List.all_eq_true.1 h n (DataW.weights_mem_each ht hd n (by simpa [DataW.weights, hu] using hn))

/-- A tariff that was handed in. -/
theorem open_arg {j : Nat} {ts : List TypeId} {ds : List (DataW H)} {v : Value} {d : DataW H} {p : List MemPlace} (hok : ∃ cs, v = .agg cs ∧ cs.size = Try.prog.cellsOf 27) (h : DataW.Trod enc Try.prog w 0 (fun _ => true) held 27 v d p)
    (hsz : (DataW.weightsEach Try.prog ts ds).all (· ≤ reachBytes) = true) (ht : ts[j]? = some 27) (hd : ds[j]? = some d) : ∃ A t, v = tv A t ∧ TAt w A t := by
  obtain ⟨cs, rfl, _⟩ := hok
  obtain ⟨fuel, hf⟩ := h
  have hf' : DataW.trod enc Try.prog w 0 (fun _ => true) held fuel 27 cs.toList = some (d, p) := hf
  obtain ⟨A, t, hcs, h1, h2, h3, ho, parts, hx, l1, l2, l3⟩ := open_tariff hf'
  have hx' : d = .agg parts := hx
  subst hx'
  have hS := sized_struct hsz ht hd Try.underlying27
  have hcs' : cs = tc A t := by
    apply Array.ext'
    exact hcs
  refine ⟨A, t, by rw [hcs']; rfl, h1, h2, h3, ?_, ?_, ?_, ho⟩
  · rcases l1 with h | ⟨el, re, e, h⟩
    · rw [h]; omega
    · have hs := sized_slice hS (j := 0) (t := 22) (e := 60) (elems := el) (spare := re) rfl e Try.underlying22
      have hby : Try.prog.bytesOf 60 = 24 := by kernel_rfl
      rw [hby] at hs
      unfold reachBytes at hs
      omega
  · rcases l2 with h | ⟨el, re, e, h⟩
    · rw [h]; omega
    · have hs := sized_slice hS (j := 1) (t := 23) (e := 57) (elems := el) (spare := re) rfl e Try.underlying23
      have hby : Try.prog.bytesOf 57 = 40 := by kernel_rfl
      rw [hby] at hs
      unfold reachBytes at hs
      omega
  · rcases l3 with h | ⟨el, re, e, h⟩
    · rw [h]; omega
    · have hs := sized_slice hS (j := 2) (t := 24) (e := 87) (elems := el) (spare := re) rfl e Try.underlying24
      have hby : Try.prog.bytesOf 87 = 16 := by kernel_rfl
      rw [hby] at hs
      unfold reachBytes at hs
      omega

end
end Go.Proofs.Ytjgbllfppomcmaa

