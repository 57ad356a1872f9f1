import Derived.Test.YtmgejkenpfihmaaGreatRows
import Derived.Test.YtmgejkenpfihmaaGreatProg
import Derived.ProofKit
import Derived.OpenShut
import Derived.ChangeOld
import Derived.Below
import Derived.SizedLaws
import Derived.Laws.Cover2
import Derived.Deep.Slices
import Derived.Test.YtmgejkenpfihmaaGreatBI
import Derived.Test.YtmgejkenpfihmaaGreatQT1
import Derived.Test.YtmgejkenpfihmaaGreatJN3
/- How the laws' arguments read: what serves every kind. -/
namespace Go.Proofs.YtmgejkenpfihmaaGreat
open Go.ChangeShapes Go.WideShapes Go.ChangeAt Go.RowKit Go.Deep

theorem own : ownKnob Tryz.prog.godebug = none := by kernel_rfl
theorem laidOut : laidOutB Tryz.prog = true := by kernel_rfl

theorem one_of {l : List Value} {i : Nat} {v : Value} (h : (l.drop i).take 1 = [v]) : l[i]? = some v := by
  have : ((l.drop i).take 1)[0]? = some v := by rw [h]; rfl
  simpa using this

theorem list_of {α : Type} {Good : Nat → α → Prop} : ∀ n, (∀ j, j < n → ∃ q, Good j q) → ∃ l : List α, l.length = n ∧ ∀ j (hj : j < l.length), Good j l[j]
  | 0, _ => ⟨[], rfl, fun j hj => absurd hj (by simp)⟩
  | n + 1, h => by
    obtain ⟨l, hl, hg⟩ := list_of n (fun j hj => h j (by omega))
    obtain ⟨q, hq⟩ := h n (by omega)
    refine ⟨l ++ [q], by simp [hl], fun j hj => ?_⟩
    by_cases hj2 : j < l.length
    · rw [List.getElem_append_left hj2]; exact hg j hj2
    · have : j = n := by simp at hj; omega
      subst this
      rw [List.getElem_append_right (by omega)]
      simpa using hq

theorem wf_le {n : Int} (h : (Lit.int .i64 n).wf = true) : n ≤ 9223372036854775807 ∧ -9223372036854775808 ≤ n := by
  have : -9223372036854775808 ≤ n ∧ n ≤ 9223372036854775807 := by simpa [Lit.wf, IntKind.min, IntKind.max, IntKind.signed, IntKind.bits] using h
  exact ⟨this.2, this.1⟩

end Go.Proofs.YtmgejkenpfihmaaGreat

/- How the laws' arguments read: bytes, taps, entries, accounts, deltas, outages. -/
namespace Go.Proofs.YtmgejkenpfihmaaGreat
open Go.ChangeShapes Go.WideShapes Go.ChangeAt Go.RowKit Go.Deep

section
variable {H : Type} {enc : TypeId × Value → H} {w : World} {held : Bool}

theorem open_bytes {fuel : Nat} {a0 : Option Addr} {len cap : Nat} {x : DataW H × List MemPlace} (h : DataW.trod enc Tryz.prog w 0 (fun _ => true) held fuel 74 [.slice a0 len cap] = some x) :
    ∃ bs : List UInt8, bs.length = len ∧ (a0 = none → bs.length = 0 ∧ cap = 0) ∧ (0 < bs.length → ∃ b off, a0 = some ⟨b, off, none⟩ ∧ ∀ j (hj : j < bs.length), w.cell? ⟨b, off + j, none⟩ = some (.int .u8 (bs[j].toNat))) ∧
      len ≤ cap ∧ (cap = 0 ∨ ∃ elems rest, x.1 = .slice elems rest ∧ elems.length + rest.length = cap) := by
  rcases open_ints Tryz.underlying74 Tryz.underlying5 (by kernel_rfl) h with ⟨hcs, hx⟩ | ⟨a, l, c, zs, hcs, _, hl, hm, hz, hx, hcell, hwz⟩
  · simp at hcs
    obtain ⟨rfl, rfl, rfl⟩ := hcs
    exact ⟨[], rfl, fun _ => ⟨rfl, rfl⟩, fun h0 => absurd h0 (by simp), Nat.le_refl _, .inl rfl⟩
  · simp at hcs
    obtain ⟨rfl, rfl, rfl⟩ := hcs
    have hz' : zs.length = cap := by simpa using hz
    refine ⟨(zs.take len).map (fun z => UInt8.ofNat z.toNat), by simp; omega, fun e => (by cases e), fun h0 => ?_, hl, .inr ?_⟩
    · simp at h0
      obtain ⟨b, off, spot⟩ := a
      have hc := hcell 0 (by omega)
      have hspot : spot = none := by simpa [Addr.add] using World.cell?_spot hc
      subst hspot
      refine ⟨b, off, rfl, fun j hj => ?_⟩
      have hj2 : j < zs.length := by simp at hj; omega
      have h1 := hcell j hj2
      rw [Addr.add_lit] at h1
      rw [h1]
      have hw := hwz (zs.getD j 0) (by simp [List.getD, hj2])
      have hb : 0 ≤ zs.getD j 0 ∧ zs.getD j 0 ≤ 255 := by simpa [Lit.wf, IntKind.min, IntKind.max, IntKind.signed, IntKind.bits] using hw
      have e2 : zs[j]?.getD 0 = zs[j] := by simp [hj2]
      simp only [List.getD, e2] at hb ⊢
      simp
      omega
    · rw [hx]
      exact ⟨_, _, rfl, by simp [lits]; omega⟩

/-- Bytes that were handed in. -/
theorem arg_bytes {ts : List TypeId} {ds : List (DataW H)} {v : Value} {d : DataW H} {p : List MemPlace} {j : Nat} (hok : ∃ a len cap, v = .slice a len cap) (h : DataW.Trod enc Tryz.prog w 0 (fun _ => true) held 74 v d p)
    (hsz : (DataW.weightsEach Tryz.prog ts ds).all (· ≤ reachBytes) = true) (ht : ts[j]? = some 74) (hd : ds[j]? = some d) : ∃ ao cap bs, v = .slice ao (List.length bs) cap ∧ BInC w ao cap bs ∧ bs.length + 4096 ≤ 140737488355328 := by
  obtain ⟨a, len, cap, rfl⟩ := hok
  obtain ⟨fuel, hf⟩ := h
  obtain ⟨bs, rfl, h1, h2, h3, h4⟩ := open_bytes hf
  have hcap : cap ≤ 140737488351232 := by
    rcases h4 with h | ⟨elems, rest, e, hl⟩
    · omega
    · have hs := sized_slice hsz (t := 74) (e := 5) (elems := elems) (spare := rest) ht (by rw [hd]; exact congrArg some e) Tryz.underlying74
      have hby : Tryz.prog.bytesOf 5 = 1 := by kernel_rfl
      rw [hby] at hs
      unfold reachBytes at hs
      omega
  exact ⟨a, cap, bs, rfl, ⟨⟨h1, h2, by omega⟩, h3, by omega⟩, by omega⟩

theorem cells_tap : Tryz.prog.cellsOf 24 = 6 := by kernel_rfl

set_option maxRecDepth 100000 in
theorem open_tap {fuel : Nat} {cs : List Value} {x : DataW H × List MemPlace} (h : DataW.trod enc Tryz.prog w 0 (fun _ => true) held fuel 24 cs = some x) : ∃ t : Tp, cs = (tpC t).toList ∧ tapFits t := by
  obtain ⟨xs, n, _, rfl, hl, hlen, hf⟩ := DataW.trod_struct Tryz.underlying24 h
  rw [cells_tap] at hl
  have g0 := hf 0 _ rfl
  have g1 := hf 1 _ rfl
  have g2 := hf 2 _ rfl
  have g3 := hf 3 _ rfl
  have g4 := hf 4 _ rfl
  have g5 := hf 5 _ rfl
  match xs, hlen with
  | [y0, y1, y2, y3, y4, y5], _ =>
    simp only [List.getElem?_cons_zero, List.getElem?_cons_succ] at g0 g1 g2 g3 g4 g5
    obtain ⟨a0, e0, rfl, w0⟩ := DataW.trod_int Tryz.underlying3 g0
    obtain ⟨a1, e1, rfl, w1⟩ := DataW.trod_int Tryz.underlying3 g1
    obtain ⟨a2, e2, rfl, w2⟩ := DataW.trod_string Tryz.underlying9 g2
    obtain ⟨a3, e3, rfl, w3⟩ := DataW.trod_int Tryz.underlying3 g3
    obtain ⟨a4, e4, rfl, w4⟩ := DataW.trod_int Tryz.underlying3 g4
    obtain ⟨a5, e5, rfl, w5⟩ := DataW.trod_int Tryz.underlying3 g5
    match cs, hl with
    | [c0, c1, c2, c3, c4, c5], _ =>
      have f0 := one_of e0
      have f1 := one_of e1
      have f2 := one_of e2
      have f3 := one_of e3
      have f4 := one_of e4
      have f5 := one_of e5
      simp at f0 f1 f2 f3 f4 f5
      subst f0 f1 f2 f3 f4 f5
      exact ⟨⟨a0, a1, a2, a3, a4, a5⟩, rfl, ⟨(wf_le w0).1, (wf_le w1).1, (wf_le w3).1, (wf_le w4).1, (wf_le w5).1⟩⟩

/-- One that was handed in. -/
theorem arg_tap {v : Value} {d : DataW H} {p : List MemPlace} (hok : ∃ cs, v = .agg cs ∧ cs.size = Tryz.prog.cellsOf 24) (h : DataW.Trod enc Tryz.prog w 0 (fun _ => true) held 24 v d p) : ∃ t : Tp, v = .agg (tpC t) ∧ tapFits t := by
  obtain ⟨cs, rfl, _⟩ := hok
  obtain ⟨fuel, hf⟩ := h
  obtain ⟨t, h1, h2⟩ := open_tap (cs := cs.toList) hf
  exact ⟨t, by rw [show cs = tpC t from Array.ext' h1], h2⟩

theorem cells_account : Tryz.prog.cellsOf 188 = 3 := by kernel_rfl

set_option maxRecDepth 100000 in
theorem open_account {fuel : Nat} {cs : List Value} {x : DataW H × List MemPlace} (h : DataW.trod enc Tryz.prog w 0 (fun _ => true) held fuel 188 cs = some x) : ∃ t : Ac, cs = (acC t).toList ∧ accountFits t := by
  obtain ⟨xs, n, _, rfl, hl, hlen, hf⟩ := DataW.trod_struct Tryz.underlying188 h
  rw [cells_account] at hl
  have g0 := hf 0 _ rfl
  have g1 := hf 1 _ rfl
  have g2 := hf 2 _ rfl
  match xs, hlen with
  | [y0, y1, y2], _ =>
    simp only [List.getElem?_cons_zero, List.getElem?_cons_succ] at g0 g1 g2
    obtain ⟨a0, e0, rfl, w0⟩ := DataW.trod_string Tryz.underlying9 g0
    obtain ⟨a1, e1, rfl, w1⟩ := DataW.trod_int Tryz.underlying3 g1
    obtain ⟨a2, e2, rfl, w2⟩ := DataW.trod_int Tryz.underlying3 g2
    match cs, hl with
    | [c0, c1, c2], _ =>
      have f0 := one_of e0
      have f1 := one_of e1
      have f2 := one_of e2
      simp at f0 f1 f2
      subst f0 f1 f2
      exact ⟨⟨a0, a1, a2⟩, rfl, ⟨(wf_le w1).1, (wf_le w2).1⟩⟩

/-- One that was handed in. -/
theorem arg_account {v : Value} {d : DataW H} {p : List MemPlace} (hok : ∃ cs, v = .agg cs ∧ cs.size = Tryz.prog.cellsOf 188) (h : DataW.Trod enc Tryz.prog w 0 (fun _ => true) held 188 v d p) : ∃ t : Ac, v = .agg (acC t) ∧ accountFits t := by
  obtain ⟨cs, rfl, _⟩ := hok
  obtain ⟨fuel, hf⟩ := h
  obtain ⟨t, h1, h2⟩ := open_account (cs := cs.toList) hf
  exact ⟨t, by rw [show cs = acC t from Array.ext' h1], h2⟩

end
end Go.Proofs.YtmgejkenpfihmaaGreat

/- How the laws' arguments read: a tariff, with its slices of stations, spans and bands. -/
namespace Go.Proofs.YtmgejkenpfihmaaGreat
open Go.ChangeShapes Go.WideShapes Go.ChangeAt Go.RowKit Go.Deep

theorem cells35 : Tryz.prog.cellsOf 60 = 3 := by kernel_rfl
theorem cells39 : Tryz.prog.cellsOf 62 = 5 := by kernel_rfl
theorem cells46 : Tryz.prog.cellsOf 64 = 2 := by kernel_rfl
theorem cells27 : Tryz.prog.cellsOf 41 = 14 := by kernel_rfl

section
variable {H : Type} {enc : TypeId × Value → H} {w : World} {held : Bool}

theorem trod_float {P : Program} {base : Nat} {spare : Nat → Bool} {t : TypeId} {k : FloatKind} {fuel : Nat} {cs : List Value} {x : DataW H × List MemPlace} (ht : P.underlying t = some (.float k)) (h : DataW.trod enc P w base spare held fuel t cs = some x) : ∃ b, cs = [.float k b] ∧ x = (.lit (.float k b), []) ∧ (Lit.float k b).wf = true := by
  cases fuel with
  | zero => simp [DataW.trod] at h
  | succ n =>
    unfold DataW.trod at h
    rw [ht] at h
    split at h <;> simp_all

set_option maxRecDepth 100000 in
theorem open_stn {fuel : Nat} {cs : List Value} {x : DataW H × List MemPlace} (h : DataW.trod enc Tryz.prog w 0 (fun _ => true) held fuel 60 cs = some x) : ∃ q : Stn, cs = stC q := by
  obtain ⟨xs, n, _, rfl, hl, hlen, hf⟩ := DataW.trod_struct Tryz.underlying60 h
  rw [cells35] at hl
  have g0 := hf 0 _ rfl
  have g1 := hf 1 _ rfl
  have g2 := hf 2 _ rfl
  match xs, hlen with
  | [y0, y1, y2], _ =>
    simp only [List.getElem?_cons_zero, List.getElem?_cons_succ] at g0 g1 g2
    obtain ⟨a0, e0, rfl, w0⟩ := DataW.trod_int Tryz.underlying3 g0
    obtain ⟨a1, e1, rfl, w1⟩ := DataW.trod_int Tryz.underlying3 g1
    obtain ⟨a2, e2, rfl, w2⟩ := DataW.trod_int Tryz.underlying3 g2
    match cs, hl with
    | [c0, c1, c2], _ =>
      have f0 := one_of e0
      have f1 := one_of e1
      have f2 := one_of e2
      simp at f0 f1 f2
      subst f0 f1 f2
      exact ⟨⟨a0, a1, a2⟩, rfl⟩

theorem open_stns {fuel : Nat} {a0 : Option Addr} {len cap : Nat} {x : DataW H × List MemPlace} (h : DataW.trod enc Tryz.prog w 0 (fun _ => true) held fuel 36 [.slice a0 len cap] = some x) :
    ∃ ps : List Stn, ps.length = len ∧ CAt w a0 (stV ps) ∧ (len = 0 ∨ ∃ elems rest, x.1 = .slice elems rest ∧ elems.length = len) := by
  rcases open_slice Tryz.underlying36 h with ⟨hcs, hx⟩ | ⟨a, len', cap', m, n, D, Pla, hcs, hb, hl, hm, hmm, hx, hel⟩
  · simp at hcs
    obtain ⟨rfl, rfl, rfl⟩ := hcs
    exact ⟨[], rfl, CAt.nil _ _, .inl rfl⟩
  · simp at hcs
    obtain ⟨rfl, rfl, rfl⟩ := hcs
    rw [cells35] at hel
    have hmc : m = cap := by simpa using hmm
    obtain ⟨ps, hpl, hps⟩ := list_of (Good := fun j (q : Stn) => ∀ i, i < 3 → w.cell? ((a.add (j * 3)).add i) = (stC q)[i]?) len (fun j hj => by
      obtain ⟨cs', h1, h2⟩ := hel j (by omega)
      obtain ⟨q, e1⟩ := open_stn h2
      obtain ⟨_, _, h4⟩ := World.cells?_some h1
      refine ⟨q, fun i hi => ?_⟩
      rw [h4 i hi, e1])
    refine ⟨ps, hpl, fun h0 => ?_, .inr ⟨_, _, by rw [hx], by simp⟩⟩
    have hVl := stV_length ps
    have hpos : 0 < ps.length := by omega
    obtain ⟨b, off, spot⟩ := a
    have hc := hps 0 hpos 0 (by omega)
    have hspot : spot = none := by
      have hv : (stC ps[0])[0]? = some (.int .i64 ps[0].id) := rfl
      rw [hv] at hc
      simpa [Addr.add] using World.cell?_spot hc
    subst hspot
    refine ⟨b, off, rfl, fun j hj => ?_⟩
    have hjk : j / 3 < ps.length := by omega
    have h1 := hps (j / 3) hjk (j % 3) (Nat.mod_lt _ (by omega))
    rw [Addr.add_lit, Addr.add_lit, Nat.add_assoc, show j / 3 * 3 + j % 3 = j by omega] at h1
    have h2 := flat_get stC 3 (fun _ => rfl) ps (j / 3) hjk (j % 3) (Nat.mod_lt _ (by omega))
    rw [show j / 3 * 3 + j % 3 = j by omega] at h2
    rw [h1, ← h2]
    exact List.getElem?_eq_getElem hj

set_option maxRecDepth 100000 in
theorem open_spn {fuel : Nat} {cs : List Value} {x : DataW H × List MemPlace} (h : DataW.trod enc Tryz.prog w 0 (fun _ => true) held fuel 62 cs = some x) : ∃ q : Spn, cs = spC q := by
  obtain ⟨xs, n, _, rfl, hl, hlen, hf⟩ := DataW.trod_struct Tryz.underlying62 h
  rw [cells39] at hl
  have g0 := hf 0 _ rfl
  have g1 := hf 1 _ rfl
  have g2 := hf 2 _ rfl
  have g3 := hf 3 _ rfl
  have g4 := hf 4 _ rfl
  match xs, hlen with
  | [y0, y1, y2, y3, y4], _ =>
    simp only [List.getElem?_cons_zero, List.getElem?_cons_succ] at g0 g1 g2 g3 g4
    obtain ⟨a0, e0, rfl, w0⟩ := DataW.trod_int Tryz.underlying3 g0
    obtain ⟨a1, e1, rfl, w1⟩ := DataW.trod_int Tryz.underlying3 g1
    obtain ⟨a2, e2, rfl, w2⟩ := DataW.trod_int Tryz.underlying3 g2
    obtain ⟨a3, e3, rfl, w3⟩ := DataW.trod_int Tryz.underlying3 g3
    obtain ⟨a4, e4, rfl, w4⟩ := DataW.trod_int Tryz.underlying3 g4
    match cs, hl with
    | [c0, c1, c2, c3, c4], _ =>
      have f0 := one_of e0
      have f1 := one_of e1
      have f2 := one_of e2
      have f3 := one_of e3
      have f4 := one_of e4
      simp at f0 f1 f2 f3 f4
      subst f0 f1 f2 f3 f4
      exact ⟨⟨a0, a1, a2, a3, a4⟩, rfl⟩

theorem open_spns {fuel : Nat} {a0 : Option Addr} {len cap : Nat} {x : DataW H × List MemPlace} (h : DataW.trod enc Tryz.prog w 0 (fun _ => true) held fuel 37 [.slice a0 len cap] = some x) :
    ∃ ps : List Spn, ps.length = len ∧ CAt w a0 (spV ps) ∧ (len = 0 ∨ ∃ elems rest, x.1 = .slice elems rest ∧ elems.length = len) := by
  rcases open_slice Tryz.underlying37 h with ⟨hcs, hx⟩ | ⟨a, len', cap', m, n, D, Pla, hcs, hb, hl, hm, hmm, hx, hel⟩
  · simp at hcs
    obtain ⟨rfl, rfl, rfl⟩ := hcs
    exact ⟨[], rfl, CAt.nil _ _, .inl rfl⟩
  · simp at hcs
    obtain ⟨rfl, rfl, rfl⟩ := hcs
    rw [cells39] at hel
    have hmc : m = cap := by simpa using hmm
    obtain ⟨ps, hpl, hps⟩ := list_of (Good := fun j (q : Spn) => ∀ i, i < 5 → w.cell? ((a.add (j * 5)).add i) = (spC q)[i]?) len (fun j hj => by
      obtain ⟨cs', h1, h2⟩ := hel j (by omega)
      obtain ⟨q, e1⟩ := open_spn h2
      obtain ⟨_, _, h4⟩ := World.cells?_some h1
      refine ⟨q, fun i hi => ?_⟩
      rw [h4 i hi, e1])
    refine ⟨ps, hpl, fun h0 => ?_, .inr ⟨_, _, by rw [hx], by simp⟩⟩
    have hVl := spV_length ps
    have hpos : 0 < ps.length := by omega
    obtain ⟨b, off, spot⟩ := a
    have hc := hps 0 hpos 0 (by omega)
    have hspot : spot = none := by
      have hv : (spC ps[0])[0]? = some (.int .i64 ps[0].fr) := rfl
      rw [hv] at hc
      simpa [Addr.add] using World.cell?_spot hc
    subst hspot
    refine ⟨b, off, rfl, fun j hj => ?_⟩
    have hjk : j / 5 < ps.length := by omega
    have h1 := hps (j / 5) hjk (j % 5) (Nat.mod_lt _ (by omega))
    rw [Addr.add_lit, Addr.add_lit, Nat.add_assoc, show j / 5 * 5 + j % 5 = j by omega] at h1
    have h2 := flat_get spC 5 (fun _ => rfl) ps (j / 5) hjk (j % 5) (Nat.mod_lt _ (by omega))
    rw [show j / 5 * 5 + j % 5 = j by omega] at h2
    rw [h1, ← h2]
    exact List.getElem?_eq_getElem hj

set_option maxRecDepth 100000 in
theorem open_bnd {fuel : Nat} {cs : List Value} {x : DataW H × List MemPlace} (h : DataW.trod enc Tryz.prog w 0 (fun _ => true) held fuel 64 cs = some x) : ∃ q : (Int × Int), cs = bdC q := by
  obtain ⟨xs, n, _, rfl, hl, hlen, hf⟩ := DataW.trod_struct Tryz.underlying64 h
  rw [cells46] at hl
  have g0 := hf 0 _ rfl
  have g1 := hf 1 _ rfl
  match xs, hlen with
  | [y0, y1], _ =>
    simp only [List.getElem?_cons_zero, List.getElem?_cons_succ] at g0 g1
    obtain ⟨a0, e0, rfl, w0⟩ := DataW.trod_int Tryz.underlying3 g0
    obtain ⟨a1, e1, rfl, w1⟩ := DataW.trod_int Tryz.underlying3 g1
    match cs, hl with
    | [c0, c1], _ =>
      have f0 := one_of e0
      have f1 := one_of e1
      simp at f0 f1
      subst f0 f1
      exact ⟨(a0, a1), rfl⟩

theorem open_bnds {fuel : Nat} {a0 : Option Addr} {len cap : Nat} {x : DataW H × List MemPlace} (h : DataW.trod enc Tryz.prog w 0 (fun _ => true) held fuel 38 [.slice a0 len cap] = some x) :
    ∃ ps : List (Int × Int), ps.length = len ∧ CAt w a0 (bdV ps) ∧ (len = 0 ∨ ∃ elems rest, x.1 = .slice elems rest ∧ elems.length = len) := by
  rcases open_slice Tryz.underlying38 h with ⟨hcs, hx⟩ | ⟨a, len', cap', m, n, D, Pla, hcs, hb, hl, hm, hmm, hx, hel⟩
  · simp at hcs
    obtain ⟨rfl, rfl, rfl⟩ := hcs
    exact ⟨[], rfl, CAt.nil _ _, .inl rfl⟩
  · simp at hcs
    obtain ⟨rfl, rfl, rfl⟩ := hcs
    rw [cells46] at hel
    have hmc : m = cap := by simpa using hmm
    obtain ⟨ps, hpl, hps⟩ := list_of (Good := fun j (q : (Int × Int)) => ∀ i, i < 2 → w.cell? ((a.add (j * 2)).add i) = (bdC q)[i]?) len (fun j hj => by
      obtain ⟨cs', h1, h2⟩ := hel j (by omega)
      obtain ⟨q, e1⟩ := open_bnd h2
      obtain ⟨_, _, h4⟩ := World.cells?_some h1
      refine ⟨q, fun i hi => ?_⟩
      rw [h4 i hi, e1])
    refine ⟨ps, hpl, fun h0 => ?_, .inr ⟨_, _, by rw [hx], by simp⟩⟩
    have hVl := bdV_length ps
    have hpos : 0 < ps.length := by omega
    obtain ⟨b, off, spot⟩ := a
    have hc := hps 0 hpos 0 (by omega)
    have hspot : spot = none := by
      have hv : (bdC ps[0])[0]? = some (.int .i64 ps[0].1) := rfl
      rw [hv] at hc
      simpa [Addr.add] using World.cell?_spot hc
    subst hspot
    refine ⟨b, off, rfl, fun j hj => ?_⟩
    have hjk : j / 2 < ps.length := by omega
    have h1 := hps (j / 2) hjk (j % 2) (Nat.mod_lt _ (by omega))
    rw [Addr.add_lit, Addr.add_lit, Nat.add_assoc, show j / 2 * 2 + j % 2 = j by omega] at h1
    have h2 := flat_get bdC 2 (fun _ => rfl) ps (j / 2) hjk (j % 2) (Nat.mod_lt _ (by omega))
    rw [show j / 2 * 2 + j % 2 = j by omega] at h2
    rw [h1, ← h2]
    exact List.getElem?_eq_getElem hj

set_option maxRecDepth 100000 in
/-- A tariff. -/
theorem open_tariff {fuel : Nat} {cs : List Value} {x : DataW H × List MemPlace} (h : DataW.trod enc Tryz.prog w 0 (fun _ => true) held fuel 41 cs = some x) :
    ∃ A t, cs = (tc A t).toList ∧ CAt w A.aS (stV t.st) ∧ CAt w A.aP (spV t.sp) ∧ CAt w A.aB (bdV t.bd) ∧ t.off < 18446744073709551616 ∧
      ∃ parts, x.1 = .agg parts ∧ (t.st.length = 0 ∨ ∃ elems rest, parts[0]? = some (.slice elems rest) ∧ elems.length = t.st.length) ∧ (t.sp.length = 0 ∨ ∃ elems rest, parts[1]? = some (.slice elems rest) ∧ elems.length = t.sp.length) ∧ (t.bd.length = 0 ∨ ∃ elems rest, parts[2]? = some (.slice elems rest) ∧ elems.length = t.bd.length) := by
  obtain ⟨xs, n, _, rfl, hl, hlen, hf⟩ := DataW.trod_struct Tryz.underlying41 h
  rw [cells27] at hl
  have g0 := hf 0 _ rfl
  have g1 := hf 1 _ rfl
  have g2 := hf 2 _ rfl
  have g3 := hf 3 _ rfl
  have g4 := hf 4 _ rfl
  have g5 := hf 5 _ rfl
  have g6 := hf 6 _ rfl
  have g7 := hf 7 _ rfl
  have g8 := hf 8 _ rfl
  have g9 := hf 9 _ rfl
  have g10 := hf 10 _ rfl
  have g11 := hf 11 _ rfl
  have g12 := hf 12 _ rfl
  have g13 := hf 13 _ rfl
  match xs, hlen with
  | [y0, y1, y2, y3, y4, y5, y6, y7, y8, y9, y10, y11, y12, y13], _ =>
    simp only [List.getElem?_cons_zero, List.getElem?_cons_succ] at g0 g1 g2 g3 g4 g5 g6 g7 g8 g9 g10 g11 g12 g13
    obtain ⟨f3, e3, rfl, w3⟩ := trod_float Tryz.underlying39 g3
    obtain ⟨a4, e4, rfl, w4⟩ := DataW.trod_int Tryz.underlying3 g4
    obtain ⟨a5, e5, rfl, w5⟩ := DataW.trod_int Tryz.underlying3 g5
    obtain ⟨a6, e6, rfl, w6⟩ := DataW.trod_int Tryz.underlying3 g6
    obtain ⟨a7, e7, rfl, w7⟩ := DataW.trod_int Tryz.underlying3 g7
    obtain ⟨a8, e8, rfl, w8⟩ := DataW.trod_int Tryz.underlying3 g8
    obtain ⟨a9, e9, rfl, w9⟩ := DataW.trod_int Tryz.underlying3 g9
    obtain ⟨a10, e10, rfl, w10⟩ := DataW.trod_int Tryz.underlying3 g10
    obtain ⟨a11, e11, rfl, w11⟩ := DataW.trod_int Tryz.underlying3 g11
    obtain ⟨a12, e12, rfl, w12⟩ := DataW.trod_int Tryz.underlying3 g12
    obtain ⟨a13, e13, rfl, w13⟩ := DataW.trod_int Tryz.underlying3 g13
    match cs, hl with
    | [c0, c1, c2, c3, c4, c5, c6, c7, c8, c9, c10, c11, c12, c13], _ =>
      have q3 := one_of e3
      have q4 := one_of e4
      have q5 := one_of e5
      have q6 := one_of e6
      have q7 := one_of e7
      have q8 := one_of e8
      have q9 := one_of e9
      have q10 := one_of e10
      have q11 := one_of e11
      have q12 := one_of e12
      have q13 := one_of e13
      simp at q3 q4 q5 q6 q7 q8 q9 q10 q11 q12 q13
      subst q3 q4 q5 q6 q7 q8 q9 q10 q11 q12 q13
      have k0 : DataW.trod enc Tryz.prog w 0 (fun _ => true) held n 36 [c0] = some y0 := g0
      have k1 : DataW.trod enc Tryz.prog w 0 (fun _ => true) held n 37 [c1] = some y1 := g1
      have k2 : DataW.trod enc Tryz.prog w 0 (fun _ => true) held n 38 [c2] = some y2 := g2
      obtain ⟨s0, l0, p0, rfl⟩ : ∃ a len cap, c0 = .slice a len cap := by
        rcases open_slice Tryz.underlying36 k0 with ⟨hc, _⟩ | ⟨a, len, cap, _, _, _, _, hc, _⟩
        · exact ⟨none, 0, 0, by simpa using hc⟩
        · exact ⟨some a, len, cap, by simpa using hc⟩
      obtain ⟨s1, l1, p1, rfl⟩ : ∃ a len cap, c1 = .slice a len cap := by
        rcases open_slice Tryz.underlying37 k1 with ⟨hc, _⟩ | ⟨a, len, cap, _, _, _, _, hc, _⟩
        · exact ⟨none, 0, 0, by simpa using hc⟩
        · exact ⟨some a, len, cap, by simpa using hc⟩
      obtain ⟨s2, l2, p2, rfl⟩ : ∃ a len cap, c2 = .slice a len cap := by
        rcases open_slice Tryz.underlying38 k2 with ⟨hc, _⟩ | ⟨a, len, cap, _, _, _, _, hc, _⟩
        · exact ⟨none, 0, 0, by simpa using hc⟩
        · exact ⟨some a, len, cap, by simpa using hc⟩
      obtain ⟨ps, hp1, hp2, hp3⟩ := open_stns k0
      obtain ⟨qs, hq1, hq2, hq3⟩ := open_spns k1
      obtain ⟨rs, hr1, hr2, hr3⟩ := open_bnds k2
      subst hp1 hq1 hr1
      refine ⟨⟨s0, p0, s1, p1, s2, p2⟩, ⟨ps, qs, rs, f3, a4, a5, a6, a7, a8, a9, a10, a11, a12, a13⟩, rfl, hp2, hq2, hr2, by simpa [Lit.wf] using w3, _, rfl, ?_, ?_, ?_⟩
      · rcases hp3 with h | ⟨el, re, e, h⟩
        · exact .inl h
        · exact .inr ⟨el, re, by simp [e], h⟩
      · rcases hq3 with h | ⟨el, re, e, h⟩
        · exact .inl h
        · exact .inr ⟨el, re, by simp [e], h⟩
      · rcases hr3 with h | ⟨el, re, e, h⟩
        · exact .inl h
        · exact .inr ⟨el, re, by simp [e], h⟩

/-- What the form's reach says of a struct's parts. -/
theorem sized_struct {P : Program} {ts : List TypeId} {ds : List (DataW H)} (h : (DataW.weightsEach P ts ds).all (· ≤ reachBytes) = true) {j : Nat} {t : TypeId} {fs : Array Field} {parts : List (DataW H)} (ht : ts[j]? = some t) (hd : ds[j]? = some (.agg parts)) (hu : P.underlying t = some (.struct fs)) :
    (DataW.weightsEach P (fs.toList.map (·.type)) parts).all (· ≤ reachBytes) = true := by
  refine List.all_eq_true.2 fun n hn => ?_
  exact List.all_eq_true.1 h n (DataW.weights_mem_each ht hd n (by simpa [DataW.weights, hu] using hn))

/-- A tariff that was handed in. -/
theorem open_arg {j : Nat} {ts : List TypeId} {ds : List (DataW H)} {v : Value} {d : DataW H} {p : List MemPlace} (hok : ∃ cs, v = .agg cs ∧ cs.size = Tryz.prog.cellsOf 41) (h : DataW.Trod enc Tryz.prog w 0 (fun _ => true) held 41 v d p)
    (hsz : (DataW.weightsEach Tryz.prog ts ds).all (· ≤ reachBytes) = true) (ht : ts[j]? = some 41) (hd : ds[j]? = some d) : ∃ A t, v = tv A t ∧ TAt w A t := by
  obtain ⟨cs, rfl, _⟩ := hok
  obtain ⟨fuel, hf⟩ := h
  have hf' : DataW.trod enc Tryz.prog w 0 (fun _ => true) held fuel 41 cs.toList = some (d, p) := hf
  obtain ⟨A, t, hcs, h1, h2, h3, ho, parts, hx, l1, l2, l3⟩ := open_tariff hf'
  have hx' : d = .agg parts := hx
  subst hx'
  have hS := sized_struct hsz ht hd Tryz.underlying41
  have hcs' : cs = tc A t := by
    apply Array.ext'
    exact hcs
  refine ⟨A, t, by rw [hcs']; rfl, h1, h2, h3, ?_, ?_, ?_, ho⟩
  · rcases l1 with h | ⟨el, re, e, h⟩
    · rw [h]; omega
    · have hs := sized_slice hS (j := 0) (t := 36) (e := 60) (elems := el) (spare := re) rfl e Tryz.underlying36
      have hby : Tryz.prog.bytesOf 60 = 24 := by kernel_rfl
      rw [hby] at hs
      unfold reachBytes at hs
      omega
  · rcases l2 with h | ⟨el, re, e, h⟩
    · rw [h]; omega
    · have hs := sized_slice hS (j := 1) (t := 37) (e := 62) (elems := el) (spare := re) rfl e Tryz.underlying37
      have hby : Tryz.prog.bytesOf 62 = 40 := by kernel_rfl
      rw [hby] at hs
      unfold reachBytes at hs
      omega
  · rcases l3 with h | ⟨el, re, e, h⟩
    · rw [h]; omega
    · have hs := sized_slice hS (j := 2) (t := 38) (e := 64) (elems := el) (spare := re) rfl e Tryz.underlying38
      have hby : Tryz.prog.bytesOf 64 = 16 := by kernel_rfl
      rw [hby] at hs
      unfold reachBytes at hs
      omega

end
end Go.Proofs.YtmgejkenpfihmaaGreat

/- How the laws' arguments read: taps. -/
namespace Go.Proofs.YtmgejkenpfihmaaGreat
open Go.ChangeShapes Go.WideShapes Go.ChangeAt Go.RowKit Go.Deep

section
variable {H : Type} {enc : TypeId × Value → H} {w : World} {held : Bool}

theorem tpC_list (t : Tp) : (tpC t).toList = tpL t := rfl

theorem open_taps {fuel : Nat} {a0 : Option Addr} {len cap : Nat} {x : DataW H × List MemPlace} (h : DataW.trod enc Tryz.prog w 0 (fun _ => true) held fuel 22 [.slice a0 len cap] = some x) :
    ∃ ps : List Tp, ps.length = len ∧ len ≤ cap ∧ CAt w a0 (tpV ps) ∧ (len = 0 ∨ ∃ elems rest, x.1 = .slice elems rest ∧ elems.length = len) := by
  rcases open_slice Tryz.underlying22 h with ⟨hcs, hx⟩ | ⟨a, len', cap', m, n, D, Pla, hcs, hb, hl, hm, hmm, hx, hel⟩
  · simp at hcs
    obtain ⟨rfl, rfl, rfl⟩ := hcs
    exact ⟨[], rfl, Nat.le_refl _, CAt.nil _ _, .inl rfl⟩
  · simp at hcs
    obtain ⟨rfl, rfl, rfl⟩ := hcs
    rw [cells_tap] at hel
    have hmc : m = cap := by simpa using hmm
    obtain ⟨ps, hpl, hps⟩ := list_of (Good := fun j (q : Tp) => ∀ i, i < 6 → w.cell? ((a.add (j * 6)).add i) = (tpL q)[i]?) len (fun j hj => by
      obtain ⟨cs', h1, h2⟩ := hel j (by omega)
      obtain ⟨q, e1, _⟩ := open_tap h2
      obtain ⟨_, _, h4⟩ := World.cells?_some h1
      refine ⟨q, fun i hi => ?_⟩
      rw [h4 i hi, e1]
      rfl)
    refine ⟨ps, hpl, hl, fun h0 => ?_, .inr ⟨_, _, by rw [hx], by simp⟩⟩
    have hVl := tpV_length ps
    have hpos : 0 < ps.length := by omega
    obtain ⟨b, off, spot⟩ := a
    have hc := hps 0 hpos 0 (by omega)
    have hspot : spot = none := by
      have hv : (tpL ps[0])[0]? = some (.int .i64 ps[0].dev) := rfl
      rw [hv] at hc
      simpa [Addr.add] using World.cell?_spot hc
    subst hspot
    refine ⟨b, off, rfl, fun j hj => ?_⟩
    have hjk : j / 6 < ps.length := by omega
    have h1 := hps (j / 6) hjk (j % 6) (Nat.mod_lt _ (by omega))
    rw [Addr.add_lit, Addr.add_lit, Nat.add_assoc, show j / 6 * 6 + j % 6 = j by omega] at h1
    have h2 := flat_get tpL 6 (fun _ => rfl) ps (j / 6) hjk (j % 6) (Nat.mod_lt _ (by omega))
    rw [show j / 6 * 6 + j % 6 = j by omega] at h2
    rw [h1, ← h2]
    exact List.getElem?_eq_getElem hj

/-- Taps that were handed in. -/
theorem arg_taps {ts : List TypeId} {ds : List (DataW H)} {v : Value} {d : DataW H} {p : List MemPlace} {j : Nat} (hok : ∃ a len cap, v = .slice a len cap) (h : DataW.Trod enc Tryz.prog w 0 (fun _ => true) held 22 v d p)
    (hsz : (DataW.weightsEach Tryz.prog ts ds).all (· ≤ reachBytes) = true) (ht : ts[j]? = some 22) (hd : ds[j]? = some d) : ∃ ao cap ps, v = .slice ao (List.length ps) cap ∧ CAt w ao (tpV ps) ∧ ps.length ≤ cap ∧ (ps.length + 1) * 56 ≤ 140737488355328 := by
  obtain ⟨a, len, cap, rfl⟩ := hok
  obtain ⟨fuel, hf⟩ := h
  obtain ⟨ps, rfl, h1, h2, h3⟩ := open_taps hf
  refine ⟨a, cap, ps, rfl, h2, h1, ?_⟩
  rcases h3 with h | ⟨el, re, e, hl⟩
  · rw [h]; omega
  · have hs := sized_slice hsz (t := 22) (e := 24) (elems := el) (spare := re) ht (by rw [hd]; exact congrArg some e) Tryz.underlying22
    have hby : Tryz.prog.bytesOf 24 = 56 := by kernel_rfl
    rw [hby] at hs
    unfold reachBytes at hs
    omega

end
end Go.Proofs.YtmgejkenpfihmaaGreat

