import Derived.Test.YtkjoojamkbpfcaaO1
import Derived.Test.YtkjoojamkbpfcaaNX
import Derived.SliceStrings
import Derived.Test.YtkjoojamkbpfcaaGX
import Derived.Test.YtkjoojamkbpfcaaL2
/- How the laws' arguments read: deltas, outages. -/
namespace Go.Proofs.Ytkjoojamkbpfcaa
open Go.ChangeShapes Go.WideShapes Go.ChangeAt Go.RowKit Go.Deep

section
variable {H : Type} {enc : TypeId × Value → H} {w : World} {held : Bool}

theorem open_toks {fuel : Nat} {c : Value} {x : DataW H × List MemPlace} (h : DataW.trod enc Try.prog w 0 (fun _ => true) held fuel 39 [c] = some x) :
    ∃ a cap, ∃ l : List ByteArray, c = .slice a l.length cap ∧ CAt w a (tkV l) ∧ l.length ≤ cap ∧ (cap = 0 ∨ ∃ elems rest, x.1 = .slice elems rest ∧ elems.length + rest.length = cap) := by
  rcases open_strings Try.underlying39 Try.underlying9 (by kernel_rfl) h with ⟨hcs, hx⟩ | ⟨a, len, cap, ss, hcs, _, hl, hm, hz, hx, hcell, _⟩
  · simp at hcs
    subst hcs
    exact ⟨none, 0, [], rfl, CAt.nil _ _, Nat.le_refl _, .inl rfl⟩
  · simp at hcs
    subst hcs
    have hz' : ss.length = cap := by simpa using hz
    have hlen : (ss.take len).length = len := by rw [List.length_take]; omega
    refine ⟨some a, cap, ss.take len, by rw [hlen], fun h0 => ?_, by rw [hlen]; exact hl, .inr ⟨_, _, by rw [hx], ?_⟩⟩
    · rw [tkV_length, Nat.mul_one] at h0
      obtain ⟨b, off, spot⟩ := a
      have hc := hcell 0 (by omega)
      have hspot : spot = none := by simpa [Addr.add] using World.cell?_spot hc
      subst hspot
      refine ⟨b, off, rfl, fun j hj => ?_⟩
      rw [tkV_length, Nat.mul_one] at hj
      have h1 := hcell j (by omega)
      rw [Addr.add_lit] at h1
      rw [h1]
      have h2 := flat_get tkC 1 (fun _ => rfl) (ss.take len) j hj 0 (by omega)
      rw [Nat.mul_one, Nat.add_zero] at h2
      have h3 : (tkV (ss.take len))[j]? = (tkC (ss.take len)[j])[0]? := h2
      rw [List.getElem?_eq_getElem (by rw [tkV_length, Nat.mul_one]; exact hj)] at h3
      rw [h3]
      have h4 : j < ss.length := by omega
      simp [tkC, h4]
    · simp [strs]
      omega

theorem sized_structD {P : Program} {ts : List TypeId} {ds : List (DataW H)} (h : (DataW.weightsEach P ts ds).all (· ≤ reachBytes) = true) {j : Nat} {t : TypeId} {fs : Array Field} {parts : List (DataW H)} (ht : ts[j]? = some t) (hd : ds[j]? = some (.agg parts)) (hu : P.underlying t = some (.struct fs)) :
    (DataW.weightsEach P (fs.toList.map (·.type)) parts).all (· ≤ reachBytes) = true := by
  refine List.all_eq_true.2 fun n hn => ?_
  exact List.all_eq_true.1 h n (DataW.weights_mem_each ht hd n (by simpa [DataW.weights, hu] using hn))

theorem cells_delta : Try.prog.cellsOf 41 = 3 := by kernel_rfl

set_option maxRecDepth 100000 in
theorem open_delta {fuel : Nat} {cs : List Value} {x : DataW H × List MemPlace} (h : DataW.trod enc Try.prog w 0 (fun _ => true) held fuel 41 cs = some x) :
    ∃ d a1 c1 a2 c2, cs = (dlC d a1 c1 a2 c2).toList ∧ CAt w a1 (tkV d.add) ∧ CAt w a2 (tkV d.gone) ∧ d.add.length ≤ c1 ∧ d.gone.length ≤ c2 ∧ d.ver ≤ 9223372036854775807 ∧
      ∃ parts, x.1 = .agg parts ∧ (c1 = 0 ∨ ∃ elems rest, parts[1]? = some (.slice elems rest) ∧ elems.length + rest.length = c1) ∧ (c2 = 0 ∨ ∃ elems rest, parts[2]? = some (.slice elems rest) ∧ elems.length + rest.length = c2) := by
  obtain ⟨xs, n, _, rfl, hl, hlen, hf⟩ := DataW.trod_struct Try.underlying41 h
  rw [cells_delta] at hl
  have g0 := hf 0 _ rfl
  have g1 := hf 1 _ rfl
  have g2 := hf 2 _ rfl
  match xs, hlen with
  | [y0, y1, y2], _ =>
    simp only [List.getElem?_cons_zero, List.getElem?_cons_succ] at g0 g1 g2
    obtain ⟨v, e0, rfl, w0⟩ := DataW.trod_int Try.underlying3 g0
    match cs, hl with
    | [z0, z1, z2], _ =>
      have q0 := one_of e0
      simp at q0
      subst q0
      have k1 : DataW.trod enc Try.prog w 0 (fun _ => true) held n 39 [z1] = some y1 := g1
      have k2 : DataW.trod enc Try.prog w 0 (fun _ => true) held n 39 [z2] = some y2 := g2
      obtain ⟨a1, c1, l1, rfl, p1, p2, p3⟩ := open_toks k1
      obtain ⟨a2, c2, l2, rfl, r1, r2, r3⟩ := open_toks k2
      refine ⟨⟨v, l1, l2⟩, a1, c1, a2, c2, rfl, p1, r1, p2, r2, (wf_le w0).1, _, rfl, ?_, ?_⟩
      · rcases p3 with h | ⟨el, re, e, h⟩
        · exact .inl h
        · exact .inr ⟨el, re, by simp [e], h⟩
      · rcases r3 with h | ⟨el, re, e, h⟩
        · exact .inl h
        · exact .inr ⟨el, re, by simp [e], h⟩

/-- A delta that was handed in. -/
theorem arg_delta {ts : List TypeId} {ds : List (DataW H)} {v : Value} {d : DataW H} {p : List MemPlace} {j : Nat} (hok : ∃ cs, v = .agg cs ∧ cs.size = Try.prog.cellsOf 41) (h : DataW.Trod enc Try.prog w 0 (fun _ => true) held 41 v d p)
    (hsz : (DataW.weightsEach Try.prog ts ds).all (· ≤ reachBytes) = true) (ht : ts[j]? = some 41) (hd : ds[j]? = some d) : ∃ t a1 c1 a2 c2, v = .agg (dlC t a1 c1 a2 c2) ∧ DIn w t a1 c1 a2 c2 := by
  obtain ⟨cs, rfl, _⟩ := hok
  obtain ⟨fuel, hf⟩ := h
  have hf' : DataW.trod enc Try.prog w 0 (fun _ => true) held fuel 41 cs.toList = some (d, p) := hf
  obtain ⟨t, a1, c1, a2, c2, hcs, h1, h2, n1, n2, hv, parts, hx, l1, l2⟩ := open_delta hf'
  have hx' : d = .agg parts := hx
  subst hx'
  have hS := sized_structD hsz ht hd Try.underlying41
  have hcs' : cs = dlC t a1 c1 a2 c2 := Array.ext' hcs
  have hby : Try.prog.bytesOf 9 = 16 := by kernel_rfl
  have m1 : c1 ≤ 140737488355328 := by
    rcases l1 with h | ⟨el, re, e, h⟩
    · omega
    · have hs := sized_slice hS (j := 1) (t := 39) (e := 9) (elems := el) (spare := re) rfl e Try.underlying39
      rw [hby] at hs
      unfold reachBytes at hs
      omega
  have m2 : c2 ≤ 140737488355328 := by
    rcases l2 with h | ⟨el, re, e, h⟩
    · omega
    · have hs := sized_slice hS (j := 2) (t := 39) (e := 9) (elems := el) (spare := re) rfl e Try.underlying39
      rw [hby] at hs
      unfold reachBytes at hs
      omega
  exact ⟨t, a1, c1, a2, c2, by rw [hcs'], ⟨h1, h2, by omega, by omega, hv, n1, n2⟩⟩

theorem cells_outage : Try.prog.cellsOf 60 = 3 := by kernel_rfl

set_option maxRecDepth 100000 in
theorem open_otg {fuel : Nat} {cs : List Value} {x : DataW H × List MemPlace} (h : DataW.trod enc Try.prog w 0 (fun _ => true) held fuel 60 cs = some x) : ∃ q : Otg, cs = otC q := by
  obtain ⟨xs, n, _, rfl, hl, hlen, hf⟩ := DataW.trod_struct Try.underlying60 h
  rw [cells_outage] at hl
  have g0 := hf 0 _ rfl
  have g1 := hf 1 _ rfl
  have g2 := hf 2 _ rfl
  match xs, hlen with
  | [y0, y1, y2], _ =>
    simp only [List.getElem?_cons_zero, List.getElem?_cons_succ] at g0 g1 g2
    obtain ⟨a0, e0, rfl, w0⟩ := DataW.trod_int Try.underlying3 g0
    obtain ⟨a1, e1, rfl, w1⟩ := DataW.trod_int Try.underlying3 g1
    obtain ⟨a2, e2, rfl, w2⟩ := DataW.trod_int Try.underlying3 g2
    match cs, hl with
    | [c0, c1, c2], _ =>
      have f0 := one_of e0
      have f1 := one_of e1
      have f2 := one_of e2
      simp at f0 f1 f2
      subst f0 f1 f2
      exact ⟨⟨a0, a1, a2⟩, rfl⟩

theorem open_otgs {fuel : Nat} {a0 : Option Addr} {len cap : Nat} {x : DataW H × List MemPlace} (h : DataW.trod enc Try.prog w 0 (fun _ => true) held fuel 58 [.slice a0 len cap] = some x) :
    ∃ ps : List Otg, ps.length = len ∧ CAt w a0 (otV ps) ∧ len ≤ cap ∧ (len = 0 ∨ ∃ elems rest, x.1 = .slice elems rest ∧ elems.length = len) := by
  rcases open_slice Try.underlying58 h with ⟨hcs, hx⟩ | ⟨a, len', cap', m, n, D, Pla, hcs, hb, hl, hm, hmm, hx, hel⟩
  · simp at hcs
    obtain ⟨rfl, rfl, rfl⟩ := hcs
    exact ⟨[], rfl, CAt.nil _ _, Nat.le_refl _, .inl rfl⟩
  · simp at hcs
    obtain ⟨rfl, rfl, rfl⟩ := hcs
    rw [cells_outage] at hel
    have hmc : m = cap := by simpa using hmm
    obtain ⟨ps, hpl, hps⟩ := list_of (Good := fun j (q : Otg) => ∀ i, i < 3 → w.cell? ((a.add (j * 3)).add i) = (otC q)[i]?) len (fun j hj => by
      obtain ⟨cs', h1, h2⟩ := hel j (by omega)
      obtain ⟨q, e1⟩ := open_otg h2
      obtain ⟨_, _, h4⟩ := World.cells?_some h1
      refine ⟨q, fun i hi => ?_⟩
      rw [h4 i hi, e1])
    refine ⟨ps, hpl, fun h0 => ?_, hl, .inr ⟨_, _, by rw [hx], by simp⟩⟩
    have hVl := otV_length ps
    have hpos : 0 < ps.length := by omega
    obtain ⟨b, off, spot⟩ := a
    have hc := hps 0 hpos 0 (by omega)
    have hspot : spot = none := by
      have hv : (otC ps[0])[0]? = some (.int .i64 ps[0].st) := rfl
      rw [hv] at hc
      simpa [Addr.add] using World.cell?_spot hc
    subst hspot
    refine ⟨b, off, rfl, fun j hj => ?_⟩
    have hjk : j / 3 < ps.length := by omega
    have h1 := hps (j / 3) hjk (j % 3) (Nat.mod_lt _ (by omega))
    rw [Addr.add_lit, Addr.add_lit, Nat.add_assoc, show j / 3 * 3 + j % 3 = j by omega] at h1
    have h2 := flat_get otC 3 (fun _ => rfl) ps (j / 3) hjk (j % 3) (Nat.mod_lt _ (by omega))
    rw [show j / 3 * 3 + j % 3 = j by omega] at h2
    rw [h1, ← h2]
    exact List.getElem?_eq_getElem hj

/-- Outages that were handed in. -/
theorem arg_outages {ts : List TypeId} {ds : List (DataW H)} {v : Value} {d : DataW H} {p : List MemPlace} {j : Nat} (hok : ∃ a len cap, v = .slice a len cap) (h : DataW.Trod enc Try.prog w 0 (fun _ => true) held 58 v d p)
    (hsz : (DataW.weightsEach Try.prog ts ds).all (· ≤ reachBytes) = true) (ht : ts[j]? = some 58) (hd : ds[j]? = some d) : ∃ ao cap l, v = .slice ao (List.length l) cap ∧ OIn w l ao cap ∧ (l.length + 100) * 24 ≤ 140737488355328 := by
  obtain ⟨a, len, cap, rfl⟩ := hok
  obtain ⟨fuel, hf⟩ := h
  obtain ⟨l, rfl, h1, h2, h3⟩ := open_otgs hf
  have hn : (l.length + 100) * 24 ≤ 140737488355328 := by
    rcases h3 with h | ⟨elems, rest, e, hl⟩
    · omega
    · have hs := sized_slice hsz (t := 58) (e := 60) (elems := elems) (spare := rest) ht (by rw [hd]; exact congrArg some e) Try.underlying58
      have hby : Try.prog.bytesOf 60 = 24 := by kernel_rfl
      rw [hby] at hs
      unfold reachBytes at hs
      omega
  exact ⟨a, cap, l, rfl, ⟨h1, by omega, h2⟩, hn⟩

end
end Go.Proofs.Ytkjoojamkbpfcaa

/- Are two deltas the same? -/
namespace Go.Proofs.Ytkjoojamkbpfcaa
open Go.RowKit

theorem sameTokens_is (w : World) (l : List ByteArray) (a1 : Option Addr) (c1 : Nat) (a2 : Option Addr) (c2 : Nat) (h1 : SAt w a1 l) (h2 : SAt w a2 l) (hl : l.length ≤ 140737488355328) :
    Calls Try.prog 60 #[.slice a1 l.length c1, .slice a2 l.length c2] w fun e w' => e = .returned (.bool true) ∧ Fr (fun _ => False) w w' := by
  have H1 := hide h1
  have H2 := hide h2
  clear h1 h2
  go_enter Try.func60, Try.ntmps60
  go_wp2
  go_loopw [5] (fun iv wr => ∃ (i : Nat), i ≤ l.length ∧ iv = .int .i64 i ∧ Hid (Fr (fun _ => False) w wr)) (fun iv _ => l.length - (intOf iv).toNat)
  case atStart => exact ⟨0, Nat.zero_le _, rfl, Fr.refl _ _⟩
  case round =>
    obtain ⟨i, hi, rfl, HI⟩ := hrel
    by_cases hil : i < l.length
    · obtain ⟨b1, o1, rfl, e1⟩ := ((unhide H1).keep (unhide HI)).at hil
      obtain ⟨b2, o2, rfl, e2⟩ := ((unhide H2).keep (unhide HI)).at hil
      generalize l[i] = x at *
      go_wp2
      go_quiet (fail)
      go_wp2
      exact ⟨⟨i + 1, by omega, by go_num, (unhide HI).drewN _⟩, by simp [intOf]; omega⟩
    · obtain rfl : i = l.length := by omega
      go_wp2
      go_ret
      exact ⟨rfl, unhide HI⟩

theorem sameDelta_is (w : World) (d : Dl) (a1 : Option Addr) (c1 : Nat) (a2 : Option Addr) (c2 : Nat) (b1 : Option Addr) (k1 : Nat) (b2 : Option Addr) (k2 : Nat) (h1 : SAt w a1 d.add) (h2 : SAt w a2 d.gone) (h3 : SAt w b1 d.add) (h4 : SAt w b2 d.gone) (hl1 : d.add.length ≤ 140737488355328) (hl2 : d.gone.length ≤ 140737488355328) :
    Calls Try.prog 23 #[.agg (dlC d a1 c1 a2 c2), .agg (dlC d b1 k1 b2 k2)] w fun e w' => e = .returned (.bool true) ∧ Fr (fun _ => False) w w' := by
  have R1 := hide (fun (w' : World) (hf : Fr (fun _ => False) w w') => sameTokens_is w' d.add a1 c1 b1 k1 (h1.keep hf) (h3.keep hf) hl1)
  have R2 := hide (fun (w' : World) (hf : Fr (fun _ => False) w w') => sameTokens_is w' d.gone a2 c2 b2 k2 (h2.keep hf) (h4.keep hf) hl2)
  clear h1 h2 h3 h4 hl1 hl2
  unfold dlC
  have HX0 : Hid (Fr (fun _ => False) w ((w.alloc (.cells #[.int .i64 d.ver, .slice a1 d.add.length c1, .slice a2 d.gone.length c2] 41)).alloc (.cells #[.int .i64 d.ver, .slice b1 d.add.length k1, .slice b2 d.gone.length k2] 41)) ∧ Bx ((w.alloc (.cells #[.int .i64 d.ver, .slice a1 d.add.length c1, .slice a2 d.gone.length c2] 41)).alloc (.cells #[.int .i64 d.ver, .slice b1 d.add.length k1, .slice b2 d.gone.length k2] 41)) w.heap.size #[.int .i64 d.ver, .slice a1 d.add.length c1, .slice a2 d.gone.length c2] 41 ∧ Bx ((w.alloc (.cells #[.int .i64 d.ver, .slice a1 d.add.length c1, .slice a2 d.gone.length c2] 41)).alloc (.cells #[.int .i64 d.ver, .slice b1 d.add.length k1, .slice b2 d.gone.length k2] 41)) (w.heap.size + 1) #[.int .i64 d.ver, .slice b1 d.add.length k1, .slice b2 d.gone.length k2] 41) := hide (by
    have h2 := Bx.new (w.alloc (.cells #[.int .i64 d.ver, .slice a1 d.add.length c1, .slice a2 d.gone.length c2] 41)) #[.int .i64 d.ver, .slice b1 d.add.length k1, .slice b2 d.gone.length k2] 41
    rw [heap_alloc] at h2
    exact ⟨((Fr.refl _ w).alloc _).alloc _, (Bx.new _ _ _).alloc _, h2⟩)
  go_enter Try.func23, Try.ntmps23
  go_wp2_with fail
  refine (unhide R1 _ (unhide HX0).1).mono ?_
  rintro e w1 ⟨rfl, hF⟩
  obtain ⟨B, HB⟩ : ∃ B, Hid (w.heap.size = B) := ⟨_, rfl⟩
  have HX1 : Hid (Fr (fun _ => False) w w1 ∧ Bx w1 B #[.int .i64 d.ver, .slice a1 d.add.length c1, .slice a2 d.gone.length c2] 41 ∧ Bx w1 (B + 1) #[.int .i64 d.ver, .slice b1 d.add.length k1, .slice b2 d.gone.length k2] 41) := hide (by
    rw [← unhide HB]
    obtain ⟨k0, k1, k2⟩ := unhide HX0
    exact ⟨k0.trans hF (fun _ _ t => t), k1.keep hF, k2.keep hF⟩)
  rw [unhide HB]
  have x2 : w1.cell? ⟨B, 2, none⟩ = some (.slice a2 d.gone.length c2) := (unhide HX1).2.1.cell 2
  have y2 : w1.cell? ⟨B + 1, 2, none⟩ = some (.slice b2 d.gone.length k2) := (unhide HX1).2.2.cell 2
  clear hF HX0
  go_wp2_with fail
  refine (unhide R2 _ (unhide HX1).1).mono ?_
  rintro e w2 ⟨rfl, hF⟩
  have x0 : w2.cell? ⟨B, 0, none⟩ = some (.int .i64 d.ver) := ((unhide HX1).2.1.keep hF).cell 0
  have y0 : w2.cell? ⟨B + 1, 0, none⟩ = some (.int .i64 d.ver) := ((unhide HX1).2.2.keep hF).cell 0
  have HF2 : Hid (Fr (fun _ => False) w w2) := hide ((unhide HX1).1.trans hF (fun _ _ t => t))
  clear hF x2 y2
  go_wp2
  go_ret
  exact ⟨by first | rfl | simp, unhide HF2⟩

end Go.Proofs.Ytkjoojamkbpfcaa

/- The walk of the law RecordDeltas. -/
namespace Go.Proofs.Ytkjoojamkbpfcaa
open Go.RowKit

theorem DNew.keep {w0 w w' : World} {d : Dl} {a1 : Option Addr} {c1 g1 : Nat} {a2 : Option Addr} {c2 g2 : Nat} (h : DNew w0 w d a1 c1 g1 a2 c2 g2) (hf : Fr (fun _ => False) w w') : DNew w0 w' d a1 c1 g1 a2 c2 g2 := h.go hf (fun _ hq => hq.elim)

theorem KRow.set {w : World} {ao : Option Addr} {cap g k : Nat} {vs : List Value} (h : KRow w ao cap g k vs) (j : Nat) (hj : j < vs.length) (v : Value) (hv : v.oneCell' = true) : KRow (w.setCell ⟨g, j, none⟩ v) ao cap g k (vs.set j v) := by
  refine ⟨by rw [List.length_set]; exact h.le, h.max, h.ad, fun i hi => ⟨?_, by rw [World.frozen?_setCell]; exact (h.room i hi).2⟩, fun i hi => ?_, fun u hu => ?_⟩
  · by_cases e : i = j
    · subst e
      rw [World.cell?_setCell_same _ _ _ (h.cells i hj)]; rfl
    · rw [World.cell?_setCell_other _ _ _ _ (by intro t; injection t with t1 t2; exact e t2.symm)]
      exact (h.room i hi).1
  · rw [List.length_set] at hi
    by_cases e : i = j
    · subst e
      rw [World.cell?_setCell_same _ _ _ (h.cells i hj), List.getElem_set_self]
    · rw [World.cell?_setCell_other _ _ _ _ (by intro t; injection t with t1 t2; exact e t2.symm), h.cells i hi, List.getElem_set_ne (fun t => e t.symm)]
  · rcases List.mem_or_eq_of_mem_set hu with h1 | h1
    · exact h.one u h1
    · rw [h1]; exact hv

theorem deltaRd_len (bs : List UInt8) : (deltaRd bs).1.add.length ≤ 1000 ∧ (deltaRd bs).1.gone.length ≤ 1000 := by
  unfold deltaRd
  have h := delta_shape bs s00
  split
  · exact ⟨Nat.zero_le _, Nat.zero_le _⟩
  · split
    · exact ⟨h.2.2.2.2.2.1, h.2.2.2.2.2.2⟩
    · exact ⟨Nat.zero_le _, Nat.zero_le _⟩

set_option maxHeartbeats 4000000 in
set_option maxRecDepth 100000 in
theorem deltas_walk (w : World) (d : Dl) (a1 : Option Addr) (c1 : Nat) (a2 : Option Addr) (c2 : Nat) (hd : DIn w d a1 c1 a2 c2) (ao : Option Addr) (cap : Nat) (bs : List UInt8) (hB : BInC w ao cap bs) (hfit : bs.length + 2 ≤ 140737488355328) :
    Calls Try.prog 5 #[.agg (dlC d a1 c1 a2 c2), .slice ao bs.length cap] w fun e w' => e = .returned (.bool true) ∧ Fr (fun _ => False) w w' := by
  have RP := hide (fun (w' : World) (hf : Fr (fun _ => False) w w') => recDelta_any d w' a1 c1 a2 c2 (hd.keep hf))
  have RR := hide (fun (w' : World) (hf : Fr (fun _ => False) w w') => refDelta_any d w' a1 c1 a2 c2 (hd.keep hf))
  obtain ⟨A, HA⟩ : ∃ A, Hid (deltaW d = A) := ⟨_, rfl⟩
  have HLA : Hid (A.1.length ≤ 140737488355328) := hide (by rw [← unhide HA]; exact Nat.le_trans (deltaW_le d) (by omega))
  rw [unhide HA] at RP RR
  have RT := hide (fun (w : World) ao cap h => readDelta_any w ao cap bs h)
  have RV := hide (fun (w : World) ao cap h => refReadDelta_any w ao cap bs h)
  obtain ⟨X, HX⟩ : ∃ R, Hid (deltaRd bs = R) := ⟨_, rfl⟩
  have HLD : Hid (X.1.add.length ≤ 1000 ∧ X.1.gone.length ≤ 1000) := hide (by rw [← unhide HX]; exact deltaRd_len bs)
  rw [unhide HX] at RT RV
  have HB := hide hB
  have hEF := eqFault
  obtain ⟨info, hi, hzz⟩ := Option.map_eq_some_iff.1 Token_info
  simp only [Prod.mk.injEq] at hzz
  have HI := hide (And.intro hi hzz)
  unfold dlC at *
  unfold ReadDelta dlC at RT RV
  obtain ⟨D, Rc, Rf⟩ := X
  obtain ⟨eb, ec⟩ := A
  simp only at RP RR RT RV HLA HLD ⊢
  clear hB HA HX hd hi hzz
  go_enter Try.func5, Try.ntmps5
  go_wp2_with fail
  refine (awake_any _).mono ?_
  rintro e w1 ⟨rfl, hF1⟩
  obtain ⟨B, HBe⟩ : ∃ B, Hid (w.heap.size = B) := ⟨_, rfl⟩
  have HX0 : Hid (Fr (fun _ => False) w w1 ∧ Bx w1 B #[.int .i64 d.ver, .slice a1 d.add.length c1, .slice a2 d.gone.length c2] 41) := hide (by
    refine ⟨((Fr.refl _ w).alloc _).trans hF1 (fun _ _ t => t), ?_⟩
    rw [← unhide HBe]; exact (Bx.new _ _ _).keep hF1)
  rw [unhide HBe]
  clear hF1
  have t_0 : w1.cell? ⟨B, 0, none⟩ = some (.int .i64 d.ver) := (unhide HX0).2.cell 0
  have t_1 : w1.cell? ⟨B, 1, none⟩ = some (.slice a1 d.add.length c1) := (unhide HX0).2.cell 1
  have t_2 : w1.cell? ⟨B, 2, none⟩ = some (.slice a2 d.gone.length c2) := (unhide HX0).2.cell 2
  go_wp2_with fail
  refine (unhide RP _ (unhide HX0).1).mono ?_
  rintro e w2 ⟨po, pc, pg, rfl, hrow, hxg, hF⟩
  have HX1 : Hid (Fr (fun _ => False) w w2 ∧ Bx w2 B #[.int .i64 d.ver, .slice a1 d.add.length c1, .slice a2 d.gone.length c2] 41 ∧ Row w2 (.slice po eb.length pc) pg eb) := hide (by
    obtain ⟨k0_, k1_⟩ := unhide HX0
    have hA : Fr (fun _ => False) w1 w2 := hF
    exact ⟨k0_.trans hA (fun _ _ t => t), k1_.keep hA, hrow⟩)
  clear t_0 t_1 t_2 hrow hxg hF HX0
  have t_0 : w2.cell? ⟨B, 0, none⟩ = some (.int .i64 d.ver) := (unhide HX1).2.1.cell 0
  have t_1 : w2.cell? ⟨B, 1, none⟩ = some (.slice a1 d.add.length c1) := (unhide HX1).2.1.cell 1
  have t_2 : w2.cell? ⟨B, 2, none⟩ = some (.slice a2 d.gone.length c2) := (unhide HX1).2.1.cell 2
  go_wp2_with fail
  refine (unhide RR _ (unhide HX1).1).mono ?_
  rintro e w3 ⟨ro, rc, rg, rfl, hrow, hxg, hF⟩
  have HX2 : Hid (Fr (fun _ => False) w w3 ∧ Bx w3 B #[.int .i64 d.ver, .slice a1 d.add.length c1, .slice a2 d.gone.length c2] 41 ∧ Row w3 (.slice po eb.length pc) pg eb ∧ Row w3 (.slice ro eb.length rc) rg eb) := hide (by
    obtain ⟨k0_, k1_, k2_⟩ := unhide HX1
    have hA : Fr (fun _ => False) w2 w3 := hF
    exact ⟨k0_.trans hA (fun _ _ t => t), k1_.keep hA, k2_.frame hA (fun t => t), hrow⟩)
  clear t_0 t_1 t_2 hrow hxg hF HX1
  have HX3 : Hid (Fr (fun _ => False) w w3 ∧ Row w3 (.slice po eb.length pc) pg eb ∧ Row w3 (.slice ro eb.length rc) rg eb) := hide (by
    obtain ⟨k0_, k1_, k2_, k3_⟩ := unhide HX2
    exact ⟨k0_, k2_, k3_⟩)
  clear HX2
  go_wp2_with fail
  refine (lent_any ((unhide HB).b.keep (unhide HX3).1) hfit).mono ?_
  rintro e w4 ⟨lo, lc, lg, rfl, hL, hF⟩
  have HO : Hid (w.heap.size ≤ lg ∧ lg < w4.heap.size) := hide ⟨Nat.le_trans (unhide HX3).1.size hL.new, (Row.vrow hL.row).lt (by have := hL.cap; omega)⟩
  have HOp : Hid (0 < pc → pg < lg) := hide (fun hc => Nat.lt_of_lt_of_le ((Row.vrow (unhide HX3).2.1).lt hc) hL.new)
  have HOr : Hid (0 < rc → rg < lg) := hide (fun hc => Nat.lt_of_lt_of_le ((Row.vrow (unhide HX3).2.2).lt hc) hL.new)
  have HX4 : Hid (Fr (fun _ => False) w w4 ∧ Row w4 (.slice po eb.length pc) pg eb ∧ Row w4 (.slice ro eb.length rc) rg eb ∧ LentB w3 w4 lo lc lg bs) := hide (by
    obtain ⟨k0_, k1_, k2_⟩ := unhide HX3
    have hA : Fr (fun _ => False) w3 w4 := hF
    exact ⟨k0_.trans hA (fun _ _ t => t), k1_.frame hA (fun t => t), k2_.frame hA (fun t => t), hL⟩)
  clear hL hF HX3
  go_wp2_with fail
  refine (unhide RT _ lo lc ((unhide HX4).2.2.2.bin (unhide HB).b.fit).b).mono ?_
  rintro e w5 ⟨u1, uc1, ug1, u2, uc2, ug2, rfl, hN, hF⟩
  have HO5 : Hid (w4.heap.size ≤ w5.heap.size ∧ w5.heap.size + 1 < ((w5.alloc (.cells #[.int .i64 D.ver, .slice u1 D.add.length uc1, .slice u2 D.gone.length uc2] 41)).alloc (.cells #[.int .i64 Rc, .int .i64 Rf] 31)).heap.size) := hide ⟨hF.size, by rw [heap_alloc, heap_alloc]; omega⟩
  have HP5 : Hid (0 < uc1 → w4.heap.size ≤ ug1 ∧ ug1 < w5.heap.size) := hide (fun hc => ⟨hN.k1.new hc, hN.k1.row.lt (by omega) hc⟩)
  have HQ5 : Hid (0 < uc2 → w4.heap.size ≤ ug2 ∧ ug2 < w5.heap.size) := hide (fun hc => ⟨hN.k2.new hc, hN.k2.row.lt (by omega) hc⟩)
  have HX5 : Hid (Fr (fun _ => False) w ((w5.alloc (.cells #[.int .i64 D.ver, .slice u1 D.add.length uc1, .slice u2 D.gone.length uc2] 41)).alloc (.cells #[.int .i64 Rc, .int .i64 Rf] 31)) ∧ Row ((w5.alloc (.cells #[.int .i64 D.ver, .slice u1 D.add.length uc1, .slice u2 D.gone.length uc2] 41)).alloc (.cells #[.int .i64 Rc, .int .i64 Rf] 31)) (.slice po eb.length pc) pg eb ∧ Row ((w5.alloc (.cells #[.int .i64 D.ver, .slice u1 D.add.length uc1, .slice u2 D.gone.length uc2] 41)).alloc (.cells #[.int .i64 Rc, .int .i64 Rf] 31)) (.slice ro eb.length rc) rg eb ∧ LentB w3 ((w5.alloc (.cells #[.int .i64 D.ver, .slice u1 D.add.length uc1, .slice u2 D.gone.length uc2] 41)).alloc (.cells #[.int .i64 Rc, .int .i64 Rf] 31)) lo lc lg bs ∧ DNew w4 ((w5.alloc (.cells #[.int .i64 D.ver, .slice u1 D.add.length uc1, .slice u2 D.gone.length uc2] 41)).alloc (.cells #[.int .i64 Rc, .int .i64 Rf] 31)) D u1 uc1 ug1 u2 uc2 ug2 ∧ Bx ((w5.alloc (.cells #[.int .i64 D.ver, .slice u1 D.add.length uc1, .slice u2 D.gone.length uc2] 41)).alloc (.cells #[.int .i64 Rc, .int .i64 Rf] 31)) w5.heap.size #[.int .i64 D.ver, .slice u1 D.add.length uc1, .slice u2 D.gone.length uc2] 41 ∧ Bx ((w5.alloc (.cells #[.int .i64 D.ver, .slice u1 D.add.length uc1, .slice u2 D.gone.length uc2] 41)).alloc (.cells #[.int .i64 Rc, .int .i64 Rf] 31)) (w5.heap.size + 1) #[.int .i64 Rc, .int .i64 Rf] 31) := hide (by
    obtain ⟨k0_, k1_, k2_, k3_⟩ := unhide HX4
    have hA : Fr (fun _ => False) w4 ((w5.alloc (.cells #[.int .i64 D.ver, .slice u1 D.add.length uc1, .slice u2 D.gone.length uc2] 41)).alloc (.cells #[.int .i64 Rc, .int .i64 Rf] 31)) := (hF.alloc _).alloc _
    have h2 := Bx.new (w5.alloc (.cells #[.int .i64 D.ver, .slice u1 D.add.length uc1, .slice u2 D.gone.length uc2] 41)) #[.int .i64 Rc, .int .i64 Rf] 31
    rw [heap_alloc] at h2
    exact ⟨k0_.trans hA (fun _ _ t => t), k1_.frame hA (fun t => t), k2_.frame hA (fun t => t), k3_.keep hA, hN.keep (((Fr.refl (fun _ => False) _).alloc _).alloc _), (Bx.new _ _ _).alloc _, h2⟩)
  clear hN hF HX4
  go_wp2_with fail
  generalize (w5.alloc (.cells #[.int .i64 D.ver, .slice u1 D.add.length uc1, .slice u2 D.gone.length uc2] 41)).alloc (.cells #[.int .i64 Rc, .int .i64 Rf] 31) = w5g at *
  obtain ⟨U, HU⟩ : ∃ U, Hid (w5.heap.size = U) := ⟨_, rfl⟩
  obtain ⟨V, HV⟩ : ∃ V, Hid (U + 1 = V) := ⟨_, rfl⟩
  rw [unhide HU, unhide HV] at HX5 HO5 ⊢
  rw [unhide HU] at HP5 HQ5
  refine (unhide RT _ lo lc ((unhide HX5).2.2.2.1.bin (unhide HB).b.fit).b).mono ?_
  rintro e w6 ⟨v1, vc1, vg1, v2, vc2, vg2, rfl, hN, hF⟩
  have HO6 : Hid (w5g.heap.size ≤ w6.heap.size ∧ w6.heap.size + 1 < ((w6.alloc (.cells #[.int .i64 D.ver, .slice v1 D.add.length vc1, .slice v2 D.gone.length vc2] 41)).alloc (.cells #[.int .i64 Rc, .int .i64 Rf] 31)).heap.size) := hide ⟨hF.size, by rw [heap_alloc, heap_alloc]; omega⟩
  have HP6 : Hid (0 < vc1 → w5g.heap.size ≤ vg1 ∧ vg1 < w6.heap.size) := hide (fun hc => ⟨hN.k1.new hc, hN.k1.row.lt (by omega) hc⟩)
  have HQ6 : Hid (0 < vc2 → w5g.heap.size ≤ vg2 ∧ vg2 < w6.heap.size) := hide (fun hc => ⟨hN.k2.new hc, hN.k2.row.lt (by omega) hc⟩)
  have HX6 : Hid (Fr (fun _ => False) w ((w6.alloc (.cells #[.int .i64 D.ver, .slice v1 D.add.length vc1, .slice v2 D.gone.length vc2] 41)).alloc (.cells #[.int .i64 Rc, .int .i64 Rf] 31)) ∧ Row ((w6.alloc (.cells #[.int .i64 D.ver, .slice v1 D.add.length vc1, .slice v2 D.gone.length vc2] 41)).alloc (.cells #[.int .i64 Rc, .int .i64 Rf] 31)) (.slice po eb.length pc) pg eb ∧ Row ((w6.alloc (.cells #[.int .i64 D.ver, .slice v1 D.add.length vc1, .slice v2 D.gone.length vc2] 41)).alloc (.cells #[.int .i64 Rc, .int .i64 Rf] 31)) (.slice ro eb.length rc) rg eb ∧ LentB w3 ((w6.alloc (.cells #[.int .i64 D.ver, .slice v1 D.add.length vc1, .slice v2 D.gone.length vc2] 41)).alloc (.cells #[.int .i64 Rc, .int .i64 Rf] 31)) lo lc lg bs ∧ DNew w4 ((w6.alloc (.cells #[.int .i64 D.ver, .slice v1 D.add.length vc1, .slice v2 D.gone.length vc2] 41)).alloc (.cells #[.int .i64 Rc, .int .i64 Rf] 31)) D u1 uc1 ug1 u2 uc2 ug2 ∧ Bx ((w6.alloc (.cells #[.int .i64 D.ver, .slice v1 D.add.length vc1, .slice v2 D.gone.length vc2] 41)).alloc (.cells #[.int .i64 Rc, .int .i64 Rf] 31)) U #[.int .i64 D.ver, .slice u1 D.add.length uc1, .slice u2 D.gone.length uc2] 41 ∧ Bx ((w6.alloc (.cells #[.int .i64 D.ver, .slice v1 D.add.length vc1, .slice v2 D.gone.length vc2] 41)).alloc (.cells #[.int .i64 Rc, .int .i64 Rf] 31)) V #[.int .i64 Rc, .int .i64 Rf] 31 ∧ DNew w5g ((w6.alloc (.cells #[.int .i64 D.ver, .slice v1 D.add.length vc1, .slice v2 D.gone.length vc2] 41)).alloc (.cells #[.int .i64 Rc, .int .i64 Rf] 31)) D v1 vc1 vg1 v2 vc2 vg2 ∧ Bx ((w6.alloc (.cells #[.int .i64 D.ver, .slice v1 D.add.length vc1, .slice v2 D.gone.length vc2] 41)).alloc (.cells #[.int .i64 Rc, .int .i64 Rf] 31)) w6.heap.size #[.int .i64 D.ver, .slice v1 D.add.length vc1, .slice v2 D.gone.length vc2] 41 ∧ Bx ((w6.alloc (.cells #[.int .i64 D.ver, .slice v1 D.add.length vc1, .slice v2 D.gone.length vc2] 41)).alloc (.cells #[.int .i64 Rc, .int .i64 Rf] 31)) (w6.heap.size + 1) #[.int .i64 Rc, .int .i64 Rf] 31) := hide (by
    obtain ⟨k0_, k1_, k2_, k3_, k4_, k5_, k6_⟩ := unhide HX5
    have hA : Fr (fun _ => False) w5g ((w6.alloc (.cells #[.int .i64 D.ver, .slice v1 D.add.length vc1, .slice v2 D.gone.length vc2] 41)).alloc (.cells #[.int .i64 Rc, .int .i64 Rf] 31)) := (hF.alloc _).alloc _
    have h2 := Bx.new (w6.alloc (.cells #[.int .i64 D.ver, .slice v1 D.add.length vc1, .slice v2 D.gone.length vc2] 41)) #[.int .i64 Rc, .int .i64 Rf] 31
    rw [heap_alloc] at h2
    exact ⟨k0_.trans hA (fun _ _ t => t), k1_.frame hA (fun t => t), k2_.frame hA (fun t => t), k3_.keep hA, k4_.keep hA, k5_.keep hA, k6_.keep hA, hN.keep (((Fr.refl (fun _ => False) _).alloc _).alloc _), (Bx.new _ _ _).alloc _, h2⟩)
  clear hN hF HX5
  go_wp2_with fail
  generalize (w6.alloc (.cells #[.int .i64 D.ver, .slice v1 D.add.length vc1, .slice v2 D.gone.length vc2] 41)).alloc (.cells #[.int .i64 Rc, .int .i64 Rf] 31) = w6g at *
  obtain ⟨U2, HU2⟩ : ∃ U, Hid (w6.heap.size = U) := ⟨_, rfl⟩
  obtain ⟨V2, HV2⟩ : ∃ V, Hid (U2 + 1 = V) := ⟨_, rfl⟩
  rw [unhide HU2, unhide HV2] at HX6 HO6 ⊢
  rw [unhide HU2] at HP6 HQ6
  refine (kept_any ((unhide HB).b.keep (unhide HX6).1) (unhide HX6).2.2.2.1 hfit).mono ?_
  rintro e w7 ⟨rfl, hF⟩
  have HO7 : Hid (w6g.heap.size ≤ w7.heap.size) := hide hF.size
  have HX7 : Hid (Fr (fun _ => False) w w6g ∧ Row w6g (.slice po eb.length pc) pg eb ∧ Row w6g (.slice ro eb.length rc) rg eb ∧ DNew w4 w6g D u1 uc1 ug1 u2 uc2 ug2 ∧ Bx w6g U #[.int .i64 D.ver, .slice u1 D.add.length uc1, .slice u2 D.gone.length uc2] 41 ∧ Bx w6g V #[.int .i64 Rc, .int .i64 Rf] 31 ∧ DNew w5g w6g D v1 vc1 vg1 v2 vc2 vg2 ∧ Bx w6g U2 #[.int .i64 D.ver, .slice v1 D.add.length vc1, .slice v2 D.gone.length vc2] 41 ∧ Bx w6g V2 #[.int .i64 Rc, .int .i64 Rf] 31) := hide (by
    obtain ⟨k0_, k1_, k2_, k3_, k4_, k5_, k6_, k7_, k8_, k9_⟩ := unhide HX6
    exact ⟨k0_, k1_, k2_, k4_, k5_, k6_, k7_, k8_, k9_⟩)
  clear HX6
  have HX8 : Hid (Fr (fun _ => False) w w7 ∧ Row w7 (.slice po eb.length pc) pg eb ∧ Row w7 (.slice ro eb.length rc) rg eb ∧ DNew w4 w7 D u1 uc1 ug1 u2 uc2 ug2 ∧ Bx w7 U #[.int .i64 D.ver, .slice u1 D.add.length uc1, .slice u2 D.gone.length uc2] 41 ∧ Bx w7 V #[.int .i64 Rc, .int .i64 Rf] 31 ∧ DNew w5g w7 D v1 vc1 vg1 v2 vc2 vg2 ∧ Bx w7 U2 #[.int .i64 D.ver, .slice v1 D.add.length vc1, .slice v2 D.gone.length vc2] 41 ∧ Bx w7 V2 #[.int .i64 Rc, .int .i64 Rf] 31) := hide (by
    obtain ⟨k0_, k1_, k2_, k3_, k4_, k5_, k6_, k7_, k8_⟩ := unhide HX7
    have o_0 := unhide HO
    have o_1 := unhide HO5
    have o_2 := unhide HU
    have o_3 := unhide HV
    have o_4 := unhide HO6
    have o_5 := unhide HU2
    have o_6 := unhide HV2
    have o_7 := unhide HO7
    have hA : Fr (· = lg) w6g w7 := hF
    exact ⟨k0_.trans hA (fun _ hi t => by omega), k1_.elsewhere (fun hc => hA.block _ ((Row.vrow k1_).lt hc) (fun t => by have := unhide HOp hc; omega)), k2_.elsewhere (fun hc => hA.block _ ((Row.vrow k2_).lt hc) (fun t => by have := unhide HOr hc; omega)), k3_.go hA (fun q t => by omega), k4_.frame hA (fun t => by omega), k5_.frame hA (fun t => by omega), k6_.go hA (fun q t => by omega), k7_.frame hA (fun t => by omega), k8_.frame hA (fun t => by omega)⟩)
  clear hF HX7
  go_wp2_with fail
  refine (unhide RV _ ao cap ((unhide HB).keep (unhide HX8).1)).mono ?_
  rintro e w8 ⟨z1, zc1, zg1, z2, zc2, zg2, rfl, hN, hF⟩
  have HO8 : Hid (w7.heap.size ≤ w8.heap.size ∧ w8.heap.size + 1 < ((w8.alloc (.cells #[.int .i64 D.ver, .slice z1 D.add.length zc1, .slice z2 D.gone.length zc2] 41)).alloc (.cells #[.int .i64 Rc, .int .i64 Rf] 31)).heap.size) := hide ⟨hF.size, by rw [heap_alloc, heap_alloc]; omega⟩
  have HP8 : Hid (0 < zc1 → w7.heap.size ≤ zg1 ∧ zg1 < w8.heap.size) := hide (fun hc => ⟨hN.k1.new hc, hN.k1.row.lt (by omega) hc⟩)
  have HQ8 : Hid (0 < zc2 → w7.heap.size ≤ zg2 ∧ zg2 < w8.heap.size) := hide (fun hc => ⟨hN.k2.new hc, hN.k2.row.lt (by omega) hc⟩)
  have HX9 : Hid (Fr (fun _ => False) w ((w8.alloc (.cells #[.int .i64 D.ver, .slice z1 D.add.length zc1, .slice z2 D.gone.length zc2] 41)).alloc (.cells #[.int .i64 Rc, .int .i64 Rf] 31)) ∧ Row ((w8.alloc (.cells #[.int .i64 D.ver, .slice z1 D.add.length zc1, .slice z2 D.gone.length zc2] 41)).alloc (.cells #[.int .i64 Rc, .int .i64 Rf] 31)) (.slice po eb.length pc) pg eb ∧ Row ((w8.alloc (.cells #[.int .i64 D.ver, .slice z1 D.add.length zc1, .slice z2 D.gone.length zc2] 41)).alloc (.cells #[.int .i64 Rc, .int .i64 Rf] 31)) (.slice ro eb.length rc) rg eb ∧ DNew w4 ((w8.alloc (.cells #[.int .i64 D.ver, .slice z1 D.add.length zc1, .slice z2 D.gone.length zc2] 41)).alloc (.cells #[.int .i64 Rc, .int .i64 Rf] 31)) D u1 uc1 ug1 u2 uc2 ug2 ∧ Bx ((w8.alloc (.cells #[.int .i64 D.ver, .slice z1 D.add.length zc1, .slice z2 D.gone.length zc2] 41)).alloc (.cells #[.int .i64 Rc, .int .i64 Rf] 31)) U #[.int .i64 D.ver, .slice u1 D.add.length uc1, .slice u2 D.gone.length uc2] 41 ∧ Bx ((w8.alloc (.cells #[.int .i64 D.ver, .slice z1 D.add.length zc1, .slice z2 D.gone.length zc2] 41)).alloc (.cells #[.int .i64 Rc, .int .i64 Rf] 31)) V #[.int .i64 Rc, .int .i64 Rf] 31 ∧ DNew w5g ((w8.alloc (.cells #[.int .i64 D.ver, .slice z1 D.add.length zc1, .slice z2 D.gone.length zc2] 41)).alloc (.cells #[.int .i64 Rc, .int .i64 Rf] 31)) D v1 vc1 vg1 v2 vc2 vg2 ∧ Bx ((w8.alloc (.cells #[.int .i64 D.ver, .slice z1 D.add.length zc1, .slice z2 D.gone.length zc2] 41)).alloc (.cells #[.int .i64 Rc, .int .i64 Rf] 31)) U2 #[.int .i64 D.ver, .slice v1 D.add.length vc1, .slice v2 D.gone.length vc2] 41 ∧ Bx ((w8.alloc (.cells #[.int .i64 D.ver, .slice z1 D.add.length zc1, .slice z2 D.gone.length zc2] 41)).alloc (.cells #[.int .i64 Rc, .int .i64 Rf] 31)) V2 #[.int .i64 Rc, .int .i64 Rf] 31 ∧ DNew w7 ((w8.alloc (.cells #[.int .i64 D.ver, .slice z1 D.add.length zc1, .slice z2 D.gone.length zc2] 41)).alloc (.cells #[.int .i64 Rc, .int .i64 Rf] 31)) D z1 zc1 zg1 z2 zc2 zg2 ∧ Bx ((w8.alloc (.cells #[.int .i64 D.ver, .slice z1 D.add.length zc1, .slice z2 D.gone.length zc2] 41)).alloc (.cells #[.int .i64 Rc, .int .i64 Rf] 31)) w8.heap.size #[.int .i64 D.ver, .slice z1 D.add.length zc1, .slice z2 D.gone.length zc2] 41 ∧ Bx ((w8.alloc (.cells #[.int .i64 D.ver, .slice z1 D.add.length zc1, .slice z2 D.gone.length zc2] 41)).alloc (.cells #[.int .i64 Rc, .int .i64 Rf] 31)) (w8.heap.size + 1) #[.int .i64 Rc, .int .i64 Rf] 31) := hide (by
    obtain ⟨k0_, k1_, k2_, k3_, k4_, k5_, k6_, k7_, k8_⟩ := unhide HX8
    have hA : Fr (fun _ => False) w7 ((w8.alloc (.cells #[.int .i64 D.ver, .slice z1 D.add.length zc1, .slice z2 D.gone.length zc2] 41)).alloc (.cells #[.int .i64 Rc, .int .i64 Rf] 31)) := (hF.alloc _).alloc _
    have h2 := Bx.new (w8.alloc (.cells #[.int .i64 D.ver, .slice z1 D.add.length zc1, .slice z2 D.gone.length zc2] 41)) #[.int .i64 Rc, .int .i64 Rf] 31
    rw [heap_alloc] at h2
    exact ⟨k0_.trans hA (fun _ _ t => t), k1_.frame hA (fun t => t), k2_.frame hA (fun t => t), k3_.keep hA, k4_.keep hA, k5_.keep hA, k6_.keep hA, k7_.keep hA, k8_.keep hA, hN.keep (((Fr.refl (fun _ => False) _).alloc _).alloc _), (Bx.new _ _ _).alloc _, h2⟩)
  clear hN hF HX8
  have s_0 : ((w8.alloc (.cells #[.int .i64 D.ver, .slice z1 D.add.length zc1, .slice z2 D.gone.length zc2] 41)).alloc (.cells #[.int .i64 Rc, .int .i64 Rf] 31)).cell? ⟨U, 0, none⟩ = some (.int .i64 D.ver) := (unhide HX9).2.2.2.2.1.cell 0
  have s_1 : ((w8.alloc (.cells #[.int .i64 D.ver, .slice z1 D.add.length zc1, .slice z2 D.gone.length zc2] 41)).alloc (.cells #[.int .i64 Rc, .int .i64 Rf] 31)).cell? ⟨U, 1, none⟩ = some (.slice u1 D.add.length uc1) := (unhide HX9).2.2.2.2.1.cell 1
  have s_2 : ((w8.alloc (.cells #[.int .i64 D.ver, .slice z1 D.add.length zc1, .slice z2 D.gone.length zc2] 41)).alloc (.cells #[.int .i64 Rc, .int .i64 Rf] 31)).cell? ⟨U, 2, none⟩ = some (.slice u2 D.gone.length uc2) := (unhide HX9).2.2.2.2.1.cell 2
  have r_0 : ((w8.alloc (.cells #[.int .i64 D.ver, .slice z1 D.add.length zc1, .slice z2 D.gone.length zc2] 41)).alloc (.cells #[.int .i64 Rc, .int .i64 Rf] 31)).cell? ⟨w8.heap.size, 0, none⟩ = some (.int .i64 D.ver) := (unhide HX9).2.2.2.2.2.2.2.2.2.2.1.cell 0
  have r_1 : ((w8.alloc (.cells #[.int .i64 D.ver, .slice z1 D.add.length zc1, .slice z2 D.gone.length zc2] 41)).alloc (.cells #[.int .i64 Rc, .int .i64 Rf] 31)).cell? ⟨w8.heap.size, 1, none⟩ = some (.slice z1 D.add.length zc1) := (unhide HX9).2.2.2.2.2.2.2.2.2.2.1.cell 1
  have r_2 : ((w8.alloc (.cells #[.int .i64 D.ver, .slice z1 D.add.length zc1, .slice z2 D.gone.length zc2] 41)).alloc (.cells #[.int .i64 Rc, .int .i64 Rf] 31)).cell? ⟨w8.heap.size, 2, none⟩ = some (.slice z2 D.gone.length zc2) := (unhide HX9).2.2.2.2.2.2.2.2.2.2.1.cell 2
  go_wp2_with fail
  generalize (w8.alloc (.cells #[.int .i64 D.ver, .slice z1 D.add.length zc1, .slice z2 D.gone.length zc2] 41)).alloc (.cells #[.int .i64 Rc, .int .i64 Rf] 31) = w8g at *
  obtain ⟨U3, HU3⟩ : ∃ U, Hid (w8.heap.size = U) := ⟨_, rfl⟩
  obtain ⟨V3, HV3⟩ : ∃ V, Hid (U3 + 1 = V) := ⟨_, rfl⟩
  rw [unhide HU3, unhide HV3] at HX9 HO8 ⊢
  rw [unhide HU3] at HP8 HQ8
  refine (sameDelta_is _ D u1 uc1 u2 uc2 z1 zc1 z2 zc2 (cat_sat (unhide HX9).2.2.2.1.k1.row.catN) (cat_sat (unhide HX9).2.2.2.1.k2.row.catN) (cat_sat (unhide HX9).2.2.2.2.2.2.2.2.2.1.k1.row.catN) (cat_sat (unhide HX9).2.2.2.2.2.2.2.2.2.1.k2.row.catN) (by have := unhide HLD; omega) (by have := unhide HLD; omega)).mono ?_
  rintro e w9 ⟨rfl, hF⟩
  have HX10 : Hid (Fr (fun _ => False) w w9 ∧ Row w9 (.slice po eb.length pc) pg eb ∧ Row w9 (.slice ro eb.length rc) rg eb ∧ DNew w4 w9 D u1 uc1 ug1 u2 uc2 ug2 ∧ Bx w9 U #[.int .i64 D.ver, .slice u1 D.add.length uc1, .slice u2 D.gone.length uc2] 41 ∧ Bx w9 V #[.int .i64 Rc, .int .i64 Rf] 31 ∧ DNew w5g w9 D v1 vc1 vg1 v2 vc2 vg2 ∧ Bx w9 U2 #[.int .i64 D.ver, .slice v1 D.add.length vc1, .slice v2 D.gone.length vc2] 41 ∧ Bx w9 V2 #[.int .i64 Rc, .int .i64 Rf] 31 ∧ DNew w7 w9 D z1 zc1 zg1 z2 zc2 zg2 ∧ Bx w9 U3 #[.int .i64 D.ver, .slice z1 D.add.length zc1, .slice z2 D.gone.length zc2] 41 ∧ Bx w9 V3 #[.int .i64 Rc, .int .i64 Rf] 31) := hide (by
    obtain ⟨k0_, k1_, k2_, k3_, k4_, k5_, k6_, k7_, k8_, k9_, k10_, k11_⟩ := unhide HX9
    have hA : Fr (fun _ => False) w8g w9 := hF
    exact ⟨k0_.trans hA (fun _ _ t => t), k1_.frame hA (fun t => t), k2_.frame hA (fun t => t), k3_.keep hA, k4_.keep hA, k5_.keep hA, k6_.keep hA, k7_.keep hA, k8_.keep hA, k9_.keep hA, k10_.keep hA, k11_.keep hA⟩)
  clear s_0 s_1 s_2 r_0 r_1 r_2 hF HX9
  have HK0 : Hid (KRow w9 u1 uc1 ug1 1 (tkV D.add) ∧ KRow w9 u2 uc2 ug2 1 (tkV D.gone) ∧ (0 < uc1 → 0 < uc2 → ug1 ≠ ug2)) := hide ⟨(unhide HX10).2.2.2.1.k1.row, (unhide HX10).2.2.2.1.k2.row, (unhide HX10).2.2.2.1.ne⟩
  have HX11 : Hid (Fr (fun _ => False) w w9 ∧ Row w9 (.slice po eb.length pc) pg eb ∧ Row w9 (.slice ro eb.length rc) rg eb ∧ Bx w9 U #[.int .i64 D.ver, .slice u1 D.add.length uc1, .slice u2 D.gone.length uc2] 41 ∧ Bx w9 V #[.int .i64 Rc, .int .i64 Rf] 31 ∧ DNew w5g w9 D v1 vc1 vg1 v2 vc2 vg2 ∧ Bx w9 U2 #[.int .i64 D.ver, .slice v1 D.add.length vc1, .slice v2 D.gone.length vc2] 41 ∧ Bx w9 V2 #[.int .i64 Rc, .int .i64 Rf] 31 ∧ DNew w7 w9 D z1 zc1 zg1 z2 zc2 zg2 ∧ Bx w9 U3 #[.int .i64 D.ver, .slice z1 D.add.length zc1, .slice z2 D.gone.length zc2] 41 ∧ Bx w9 V3 #[.int .i64 Rc, .int .i64 Rf] 31) := hide (by
    obtain ⟨k0_, k1_, k2_, k3_, k4_, k5_, k6_, k7_, k8_, k9_, k10_, k11_⟩ := unhide HX10
    exact ⟨k0_, k1_, k2_, k4_, k5_, k6_, k7_, k8_, k9_, k10_, k11_⟩)
  clear HX10
  have HOU : Hid (U < w5g.heap.size ∧ w5g.heap.size ≤ w7.heap.size ∧ w.heap.size ≤ U ∧ lg < U ∧ U < U2 ∧ U < V2 ∧ U < U3 ∧ U < V3 ∧ U ≠ V ∧ w.heap.size ≤ w4.heap.size) := hide (by
    have o_0 := unhide HO
    have o_1 := unhide HO5
    have o_2 := unhide HU
    have o_3 := unhide HV
    have o_4 := unhide HO6
    have o_5 := unhide HU2
    have o_6 := unhide HV2
    have o_7 := unhide HO7
    have o_8 := unhide HO8
    have o_9 := unhide HU3
    have o_a := unhide HV3
    omega)
  have q9 : w9.cell? ⟨U, 1, none⟩ = some (.slice u1 D.add.length uc1) := (unhide HX11).2.2.2.1.cell 1
  go_wp2
  clear q9
  go_loopw [19] (fun iv wr => ∃ i : Nat, i ≤ D.add.length ∧ iv = .int .i64 i ∧ Hid (∃ vs : List Value, vs.length = D.add.length ∧ KRow wr u1 uc1 ug1 1 vs ∧ Fr (fun k => k = ug1 ∧ 0 < uc1) w9 wr)) (fun iv _ => D.add.length - (intOf iv).toNat)
  case atStart => exact ⟨0, Nat.zero_le _, rfl, tkV D.add, by rw [tkV_length]; simp, (unhide HK0).1, Fr.refl _ _⟩
  case round =>
    obtain ⟨i, hi, rfl, HS⟩ := hrel
    have q0 : wr.cell? ⟨U, 1, none⟩ = some (.slice u1 D.add.length uc1) := by
      obtain ⟨vs, hv, hk, hf⟩ := unhide HS
      exact ((unhide HX11).2.2.2.1.frame hf (fun t => by have h1 := unhide HP5 t.2; have h2 := t.1; omega)).cell 1
    by_cases hlt : i < D.add.length
    · have q1 : u1 = some ⟨ug1, 0, none⟩ := by
        obtain ⟨vs, hv, hk, hf⟩ := unhide HS
        exact hk.ad (by have := hk.le; omega)
      have hc : 0 < uc1 := by
        obtain ⟨vs, hv, hk, hf⟩ := unhide HS
        have := hk.le; omega
      obtain ⟨x, q2⟩ : ∃ x, wr.cell? ⟨ug1, i, none⟩ = some x := by
        obtain ⟨vs, hv, hk, hf⟩ := unhide HS
        exact ⟨_, hk.cells i (by omega)⟩
      have q3 : wr.frozen? ⟨ug1, i, none⟩ = false := by
        obtain ⟨vs, hv, hk, hf⟩ := unhide HS
        exact (hk.room i (by have := hk.le; omega)).2
      have HS2 : Hid (∃ vs : List Value, vs.length = D.add.length ∧ KRow (wr.setCell ⟨ug1, i, none⟩ (.string ⟨#[115, 112, 111, 105, 108, 116]⟩)) u1 uc1 ug1 1 vs ∧ Fr (fun k => k = ug1 ∧ 0 < uc1) w9 (wr.setCell ⟨ug1, i, none⟩ (.string ⟨#[115, 112, 111, 105, 108, 116]⟩))) := hide (by
        obtain ⟨vs, hv, hk, hf⟩ := unhide HS
        exact ⟨vs.set i (.string ⟨#[115, 112, 111, 105, 108, 116]⟩), by rw [List.length_set]; exact hv, hk.set i (by omega) _ rfl, hf.setCell (p := ⟨ug1, i, none⟩) (fun _ => ⟨rfl, hc⟩) _⟩)
      clear HS
      have hn := unhide HLD
      subst q1
      go_wp2
      exact ⟨⟨i + 1, by omega, by go_num, unhide HS2⟩, by simp [intOf]; omega⟩
    · obtain rfl : i = D.add.length := by omega
      obtain ⟨wa, rfl⟩ : ∃ wa, wa = wr := ⟨_, rfl⟩
      have HX12 : Hid (Fr (fun _ => False) w wa ∧ Row wa (.slice po eb.length pc) pg eb ∧ Row wa (.slice ro eb.length rc) rg eb ∧ Bx wa U #[.int .i64 D.ver, .slice u1 D.add.length uc1, .slice u2 D.gone.length uc2] 41 ∧ Bx wa V #[.int .i64 Rc, .int .i64 Rf] 31 ∧ DNew w5g wa D v1 vc1 vg1 v2 vc2 vg2 ∧ Bx wa U2 #[.int .i64 D.ver, .slice v1 D.add.length vc1, .slice v2 D.gone.length vc2] 41 ∧ Bx wa V2 #[.int .i64 Rc, .int .i64 Rf] 31 ∧ DNew w7 wa D z1 zc1 zg1 z2 zc2 zg2 ∧ Bx wa U3 #[.int .i64 D.ver, .slice z1 D.add.length zc1, .slice z2 D.gone.length zc2] 41 ∧ Bx wa V3 #[.int .i64 Rc, .int .i64 Rf] 31) := hide (by
        obtain ⟨k0_, k1_, k2_, k3_, k4_, k5_, k6_, k7_, k8_, k9_, k10_⟩ := unhide HX11
        obtain ⟨vs, hv, hk, hf⟩ := unhide HS
        have o_0 := unhide HO
        have o_1 := unhide HO5
        have o_2 := unhide HU
        have o_3 := unhide HV
        have o_4 := unhide HO6
        have o_5 := unhide HU2
        have o_6 := unhide HV2
        have o_7 := unhide HO7
        have o_8 := unhide HO8
        have o_9 := unhide HU3
        have o_a := unhide HV3
        have hA : Fr (fun k => k = ug1 ∧ 0 < uc1) w9 wa := hf
        exact ⟨k0_.trans hA (fun _ hi t => by have h9 := unhide HP5 t.2; have h8 := t.1; omega), k1_.elsewhere (fun hc => hA.block _ ((Row.vrow k1_).lt hc) (fun t => by have := unhide HOp hc; have h9 := unhide HP5 t.2; have h8 := t.1; omega)), k2_.elsewhere (fun hc => hA.block _ ((Row.vrow k2_).lt hc) (fun t => by have := unhide HOr hc; have h9 := unhide HP5 t.2; have h8 := t.1; omega)), k3_.frame hA (fun t => by have h9 := unhide HP5 t.2; have h8 := t.1; omega), k4_.frame hA (fun t => by have h9 := unhide HP5 t.2; have h8 := t.1; omega), k5_.go hA (fun q t => by have h9 := unhide HP5 t.2; have h8 := t.1; omega), k6_.frame hA (fun t => by have h9 := unhide HP5 t.2; have h8 := t.1; omega), k7_.frame hA (fun t => by have h9 := unhide HP5 t.2; have h8 := t.1; omega), k8_.go hA (fun q t => by have h9 := unhide HP5 t.2; have h8 := t.1; omega), k9_.frame hA (fun t => by have h9 := unhide HP5 t.2; have h8 := t.1; omega), k10_.frame hA (fun t => by have h9 := unhide HP5 t.2; have h8 := t.1; omega)⟩)
      have HKA : Hid ((∃ vs : List Value, vs.length = D.add.length ∧ KRow wa u1 uc1 ug1 1 vs) ∧ KRow wa u2 uc2 ug2 1 (tkV D.gone)) := hide (by
        obtain ⟨vs, hv, hk, hf⟩ := unhide HS
        obtain ⟨j1, j2, j3⟩ := unhide HK0
        exact ⟨⟨vs, hv, hk⟩, j2.stay (fun hc => hf.block _ (j2.lt (by omega) hc) (fun t => j3 t.2 hc t.1.symm))⟩)
      clear HS HX11
      go_wp2
      clear q0
      go_loopw [20] (fun iv wr => ∃ i : Nat, i ≤ D.gone.length ∧ iv = .int .i64 i ∧ Hid (∃ vs : List Value, vs.length = D.gone.length ∧ KRow wr u2 uc2 ug2 1 vs ∧ Fr (fun k => k = ug2 ∧ 0 < uc2) wa wr)) (fun iv _ => D.gone.length - (intOf iv).toNat)
      case atStart => exact ⟨0, Nat.zero_le _, rfl, tkV D.gone, by rw [tkV_length]; simp, (unhide HKA).2, Fr.refl _ _⟩
      case round =>
        obtain ⟨i, hi, rfl, HS⟩ := hrel
        have q0 : wr.cell? ⟨U, 2, none⟩ = some (.slice u2 D.gone.length uc2) := by
          obtain ⟨vs, hv, hk, hf⟩ := unhide HS
          exact ((unhide HX12).2.2.2.1.frame hf (fun t => by have h1 := unhide HQ5 t.2; have h2 := t.1; omega)).cell 2
        by_cases hlt : i < D.gone.length
        · have q1 : u2 = some ⟨ug2, 0, none⟩ := by
            obtain ⟨vs, hv, hk, hf⟩ := unhide HS
            exact hk.ad (by have := hk.le; omega)
          have hc : 0 < uc2 := by
            obtain ⟨vs, hv, hk, hf⟩ := unhide HS
            have := hk.le; omega
          obtain ⟨x, q2⟩ : ∃ x, wr.cell? ⟨ug2, i, none⟩ = some x := by
            obtain ⟨vs, hv, hk, hf⟩ := unhide HS
            exact ⟨_, hk.cells i (by omega)⟩
          have q3 : wr.frozen? ⟨ug2, i, none⟩ = false := by
            obtain ⟨vs, hv, hk, hf⟩ := unhide HS
            exact (hk.room i (by have := hk.le; omega)).2
          have HS2 : Hid (∃ vs : List Value, vs.length = D.gone.length ∧ KRow (wr.setCell ⟨ug2, i, none⟩ (.string ⟨#[115, 112, 111, 105, 108, 116]⟩)) u2 uc2 ug2 1 vs ∧ Fr (fun k => k = ug2 ∧ 0 < uc2) wa (wr.setCell ⟨ug2, i, none⟩ (.string ⟨#[115, 112, 111, 105, 108, 116]⟩))) := hide (by
            obtain ⟨vs, hv, hk, hf⟩ := unhide HS
            exact ⟨vs.set i (.string ⟨#[115, 112, 111, 105, 108, 116]⟩), by rw [List.length_set]; exact hv, hk.set i (by omega) _ rfl, hf.setCell (p := ⟨ug2, i, none⟩) (fun _ => ⟨rfl, hc⟩) _⟩)
          clear HS
          have hn := unhide HLD
          subst q1
          go_wp2
          exact ⟨⟨i + 1, by omega, by go_num, unhide HS2⟩, by simp [intOf]; omega⟩
        · obtain rfl : i = D.gone.length := by omega
          obtain ⟨wb, rfl⟩ : ∃ wb, wb = wr := ⟨_, rfl⟩
          have HX13 : Hid (Fr (fun _ => False) w wb ∧ Row wb (.slice po eb.length pc) pg eb ∧ Row wb (.slice ro eb.length rc) rg eb ∧ Bx wb U #[.int .i64 D.ver, .slice u1 D.add.length uc1, .slice u2 D.gone.length uc2] 41 ∧ Bx wb V #[.int .i64 Rc, .int .i64 Rf] 31 ∧ DNew w5g wb D v1 vc1 vg1 v2 vc2 vg2 ∧ Bx wb U2 #[.int .i64 D.ver, .slice v1 D.add.length vc1, .slice v2 D.gone.length vc2] 41 ∧ Bx wb V2 #[.int .i64 Rc, .int .i64 Rf] 31 ∧ DNew w7 wb D z1 zc1 zg1 z2 zc2 zg2 ∧ Bx wb U3 #[.int .i64 D.ver, .slice z1 D.add.length zc1, .slice z2 D.gone.length zc2] 41 ∧ Bx wb V3 #[.int .i64 Rc, .int .i64 Rf] 31) := hide (by
            obtain ⟨k0_, k1_, k2_, k3_, k4_, k5_, k6_, k7_, k8_, k9_, k10_⟩ := unhide HX12
            obtain ⟨vs, hv, hk, hf⟩ := unhide HS
            have o_0 := unhide HO
            have o_1 := unhide HO5
            have o_2 := unhide HU
            have o_3 := unhide HV
            have o_4 := unhide HO6
            have o_5 := unhide HU2
            have o_6 := unhide HV2
            have o_7 := unhide HO7
            have o_8 := unhide HO8
            have o_9 := unhide HU3
            have o_a := unhide HV3
            have hA : Fr (fun k => k = ug2 ∧ 0 < uc2) wa wb := hf
            exact ⟨k0_.trans hA (fun _ hi t => by have h9 := unhide HQ5 t.2; have h8 := t.1; omega), k1_.elsewhere (fun hc => hA.block _ ((Row.vrow k1_).lt hc) (fun t => by have := unhide HOp hc; have h9 := unhide HQ5 t.2; have h8 := t.1; omega)), k2_.elsewhere (fun hc => hA.block _ ((Row.vrow k2_).lt hc) (fun t => by have := unhide HOr hc; have h9 := unhide HQ5 t.2; have h8 := t.1; omega)), k3_.frame hA (fun t => by have h9 := unhide HQ5 t.2; have h8 := t.1; omega), k4_.frame hA (fun t => by have h9 := unhide HQ5 t.2; have h8 := t.1; omega), k5_.go hA (fun q t => by have h9 := unhide HQ5 t.2; have h8 := t.1; omega), k6_.frame hA (fun t => by have h9 := unhide HQ5 t.2; have h8 := t.1; omega), k7_.frame hA (fun t => by have h9 := unhide HQ5 t.2; have h8 := t.1; omega), k8_.go hA (fun q t => by have h9 := unhide HQ5 t.2; have h8 := t.1; omega), k9_.frame hA (fun t => by have h9 := unhide HQ5 t.2; have h8 := t.1; omega), k10_.frame hA (fun t => by have h9 := unhide HQ5 t.2; have h8 := t.1; omega)⟩)
          have HKB : Hid (∃ vs : List Value, vs.length = D.add.length ∧ KRow wb u1 uc1 ug1 1 vs) := hide (by
            obtain ⟨vs, hv, hk, hf⟩ := unhide HS
            obtain ⟨vs1, hv1, j2⟩ := (unhide HKA).1
            obtain ⟨_, _, j3⟩ := unhide HK0
            exact ⟨vs1, hv1, j2.stay (fun hc => hf.block _ (j2.lt (by omega) hc) (fun t => j3 hc t.2 t.1))⟩)
          clear HS HX12 HKA
          obtain ⟨vs, hv, hk⟩ := unhide HKB
          have hk2 := hk.keep (by omega) ((Fr.refl (fun _ => False) wb).alloc (.cells #[.string ⟨#[109, 111, 114, 101]⟩] 9))
          have hS := src_one (P := Try.prog) wb [.string ⟨#[109, 111, 114, 101]⟩] 39 9 1 Try.underlying39 rfl (fun u hu => by simp only [List.mem_cons, List.not_mem_nil, or_false] at hu; subst hu; rfl) (W := wb.alloc (.cells #[.string ⟨#[109, 111, 114, 101]⟩] 9)) (fun j => by rw [World.cell?_alloc_new]; simp)
          have HK2 := hide hk2
          have HSR := hide hS
          have HVL : Hid (vs.length = D.add.length * 1) := hide (by omega)
          have qb : wb.cell? ⟨U, 1, none⟩ = some (.slice u1 D.add.length uc1) := (unhide HX13).2.2.2.1.cell 1
          clear hk2 hS hk hv HKB
          go_wp2_with (at_builtin; refine wpList_append_krow _ rfl (.tmp 79) (.tmp 80) 39 39 rfl 9 info _ 1 (by omega) Try.underlying39 (unhide HI).1 (unhide HI).2.1 rfl (unhide HI).2.2.1 rfl (unhide HK2) (unhide HVL) _ _ 1 rfl (unhide HSR) (by rw [(unhide HI).2.2.2]; have := unhide HLD; omega) (by have := unhide HLD; omega) ?_)
          intro x1 xc1 wc xg1 hK hG
          have hAF : Fr (fun k => k = ug1 ∧ 0 < uc1) wb wc := by
            have h0 : Fr (fun k => k = ug1 ∧ 0 < uc1) wb (wb.alloc (.cells #[.string ⟨#[109, 111, 114, 101]⟩] 9)) := (Fr.refl _ wb).alloc _
            rcases hG with ⟨_, _, hf⟩ | ⟨_, _, hf⟩
            · exact h0.trans hf (fun _ _ t => t)
            · exact h0.trans hf (fun _ _ t => t.elim)
          have HX14 : Hid (Fr (fun _ => False) w wc ∧ Row wc (.slice po eb.length pc) pg eb ∧ Row wc (.slice ro eb.length rc) rg eb ∧ Bx wc U #[.int .i64 D.ver, .slice u1 D.add.length uc1, .slice u2 D.gone.length uc2] 41 ∧ Bx wc V #[.int .i64 Rc, .int .i64 Rf] 31 ∧ DNew w5g wc D v1 vc1 vg1 v2 vc2 vg2 ∧ Bx wc U2 #[.int .i64 D.ver, .slice v1 D.add.length vc1, .slice v2 D.gone.length vc2] 41 ∧ Bx wc V2 #[.int .i64 Rc, .int .i64 Rf] 31 ∧ DNew w7 wc D z1 zc1 zg1 z2 zc2 zg2 ∧ Bx wc U3 #[.int .i64 D.ver, .slice z1 D.add.length zc1, .slice z2 D.gone.length zc2] 41 ∧ Bx wc V3 #[.int .i64 Rc, .int .i64 Rf] 31) := hide (by
            obtain ⟨k0_, k1_, k2_, k3_, k4_, k5_, k6_, k7_, k8_, k9_, k10_⟩ := unhide HX13
            have o_0 := unhide HO
            have o_1 := unhide HO5
            have o_2 := unhide HU
            have o_3 := unhide HV
            have o_4 := unhide HO6
            have o_5 := unhide HU2
            have o_6 := unhide HV2
            have o_7 := unhide HO7
            have o_8 := unhide HO8
            have o_9 := unhide HU3
            have o_a := unhide HV3
            have hA : Fr (fun k => k = ug1 ∧ 0 < uc1) wb wc := hAF
            exact ⟨k0_.trans hA (fun _ hi t => by have h9 := unhide HP5 t.2; have h8 := t.1; omega), k1_.elsewhere (fun hc => hA.block _ ((Row.vrow k1_).lt hc) (fun t => by have := unhide HOp hc; have h9 := unhide HP5 t.2; have h8 := t.1; omega)), k2_.elsewhere (fun hc => hA.block _ ((Row.vrow k2_).lt hc) (fun t => by have := unhide HOr hc; have h9 := unhide HP5 t.2; have h8 := t.1; omega)), k3_.frame hA (fun t => by have h9 := unhide HP5 t.2; have h8 := t.1; omega), k4_.frame hA (fun t => by have h9 := unhide HP5 t.2; have h8 := t.1; omega), k5_.go hA (fun q t => by have h9 := unhide HP5 t.2; have h8 := t.1; omega), k6_.frame hA (fun t => by have h9 := unhide HP5 t.2; have h8 := t.1; omega), k7_.frame hA (fun t => by have h9 := unhide HP5 t.2; have h8 := t.1; omega), k8_.go hA (fun q t => by have h9 := unhide HP5 t.2; have h8 := t.1; omega), k9_.frame hA (fun t => by have h9 := unhide HP5 t.2; have h8 := t.1; omega), k10_.frame hA (fun t => by have h9 := unhide HP5 t.2; have h8 := t.1; omega)⟩)
          clear hK hG hAF qb q0 HX13 HK2 HSR
          have cU : wc.cell? ⟨U, 1, none⟩ = some (.slice u1 D.add.length uc1) := (unhide HX14).2.2.2.1.cell 1
          have fU : wc.frozen? ⟨U, 1, none⟩ = false := (unhide HX14).2.2.2.1.frozen 1
          have HX15 : Hid (Fr (fun _ => False) w (wc.setCell ⟨U, 1, none⟩ (.slice x1 (D.add.length + 1) xc1)) ∧ Row (wc.setCell ⟨U, 1, none⟩ (.slice x1 (D.add.length + 1) xc1)) (.slice po eb.length pc) pg eb ∧ Row (wc.setCell ⟨U, 1, none⟩ (.slice x1 (D.add.length + 1) xc1)) (.slice ro eb.length rc) rg eb ∧ Bx (wc.setCell ⟨U, 1, none⟩ (.slice x1 (D.add.length + 1) xc1)) U #[.int .i64 D.ver, .slice x1 (D.add.length + 1) xc1, .slice u2 D.gone.length uc2] 41 ∧ Bx (wc.setCell ⟨U, 1, none⟩ (.slice x1 (D.add.length + 1) xc1)) V #[.int .i64 Rc, .int .i64 Rf] 31 ∧ DNew w5g (wc.setCell ⟨U, 1, none⟩ (.slice x1 (D.add.length + 1) xc1)) D v1 vc1 vg1 v2 vc2 vg2 ∧ Bx (wc.setCell ⟨U, 1, none⟩ (.slice x1 (D.add.length + 1) xc1)) U2 #[.int .i64 D.ver, .slice v1 D.add.length vc1, .slice v2 D.gone.length vc2] 41 ∧ Bx (wc.setCell ⟨U, 1, none⟩ (.slice x1 (D.add.length + 1) xc1)) V2 #[.int .i64 Rc, .int .i64 Rf] 31 ∧ DNew w7 (wc.setCell ⟨U, 1, none⟩ (.slice x1 (D.add.length + 1) xc1)) D z1 zc1 zg1 z2 zc2 zg2 ∧ Bx (wc.setCell ⟨U, 1, none⟩ (.slice x1 (D.add.length + 1) xc1)) U3 #[.int .i64 D.ver, .slice z1 D.add.length zc1, .slice z2 D.gone.length zc2] 41 ∧ Bx (wc.setCell ⟨U, 1, none⟩ (.slice x1 (D.add.length + 1) xc1)) V3 #[.int .i64 Rc, .int .i64 Rf] 31) := hide (by
            obtain ⟨k0_, k1_, k2_, k3_, k4_, k5_, k6_, k7_, k8_, k9_, k10_⟩ := unhide HX14
            have o_u := unhide HOU
            have hA : Fr (fun k => k = U) wc (wc.setCell ⟨U, 1, none⟩ (.slice x1 (D.add.length + 1) xc1)) := (Fr.refl (fun k => k = U) wc).setCell (p := ⟨U, 1, none⟩) (fun _ => rfl) _
            exact ⟨k0_.setCell (p := ⟨U, 1, none⟩) (fun h => by have h7 : U < w.heap.size := h; omega) _, k1_.elsewhere (fun hc => hA.block _ ((Row.vrow k1_).lt hc) (fun t => by have := unhide HOp hc; omega)), k2_.elsewhere (fun hc => hA.block _ ((Row.vrow k2_).lt hc) (fun t => by have := unhide HOr hc; omega)), k3_.setCell 1 _, k4_.setOther (by omega) _ _, k5_.go hA (fun q t => by omega), k6_.setOther (by omega) _ _, k7_.setOther (by omega) _ _, k8_.go hA (fun q t => by omega), k9_.setOther (by omega) _ _, k10_.setOther (by omega) _ _⟩)
          have s_0 : (wc.setCell ⟨U, 1, none⟩ (.slice x1 (D.add.length + 1) xc1)).cell? ⟨U2, 0, none⟩ = some (.int .i64 D.ver) := (unhide HX15).2.2.2.2.2.2.1.cell 0
          have s_1 : (wc.setCell ⟨U, 1, none⟩ (.slice x1 (D.add.length + 1) xc1)).cell? ⟨U2, 1, none⟩ = some (.slice v1 D.add.length vc1) := (unhide HX15).2.2.2.2.2.2.1.cell 1
          have s_2 : (wc.setCell ⟨U, 1, none⟩ (.slice x1 (D.add.length + 1) xc1)).cell? ⟨U2, 2, none⟩ = some (.slice v2 D.gone.length vc2) := (unhide HX15).2.2.2.2.2.2.1.cell 2
          have r_0 : (wc.setCell ⟨U, 1, none⟩ (.slice x1 (D.add.length + 1) xc1)).cell? ⟨U3, 0, none⟩ = some (.int .i64 D.ver) := (unhide HX15).2.2.2.2.2.2.2.2.2.1.cell 0
          have r_1 : (wc.setCell ⟨U, 1, none⟩ (.slice x1 (D.add.length + 1) xc1)).cell? ⟨U3, 1, none⟩ = some (.slice z1 D.add.length zc1) := (unhide HX15).2.2.2.2.2.2.2.2.2.1.cell 1
          have r_2 : (wc.setCell ⟨U, 1, none⟩ (.slice x1 (D.add.length + 1) xc1)).cell? ⟨U3, 2, none⟩ = some (.slice z2 D.gone.length zc2) := (unhide HX15).2.2.2.2.2.2.2.2.2.1.cell 2
          go_wp2_with fail
          clear cU fU
          generalize wc.setCell ⟨U, 1, none⟩ (.slice x1 (D.add.length + 1) xc1) = wd at *
          refine (sameDelta_is _ D v1 vc1 v2 vc2 z1 zc1 z2 zc2 (cat_sat (unhide HX15).2.2.2.2.2.1.k1.row.catN) (cat_sat (unhide HX15).2.2.2.2.2.1.k2.row.catN) (cat_sat (unhide HX15).2.2.2.2.2.2.2.2.1.k1.row.catN) (cat_sat (unhide HX15).2.2.2.2.2.2.2.2.1.k2.row.catN) (by have := unhide HLD; omega) (by have := unhide HLD; omega)).mono ?_
          rintro e we ⟨rfl, hF⟩
          have HX16 : Hid (Fr (fun _ => False) w we ∧ Row we (.slice po eb.length pc) pg eb ∧ Row we (.slice ro eb.length rc) rg eb ∧ Bx we U #[.int .i64 D.ver, .slice x1 (D.add.length + 1) xc1, .slice u2 D.gone.length uc2] 41 ∧ Bx we V #[.int .i64 Rc, .int .i64 Rf] 31 ∧ DNew w5g we D v1 vc1 vg1 v2 vc2 vg2 ∧ Bx we U2 #[.int .i64 D.ver, .slice v1 D.add.length vc1, .slice v2 D.gone.length vc2] 41 ∧ Bx we V2 #[.int .i64 Rc, .int .i64 Rf] 31 ∧ DNew w7 we D z1 zc1 zg1 z2 zc2 zg2 ∧ Bx we U3 #[.int .i64 D.ver, .slice z1 D.add.length zc1, .slice z2 D.gone.length zc2] 41 ∧ Bx we V3 #[.int .i64 Rc, .int .i64 Rf] 31) := hide (by
            obtain ⟨k0_, k1_, k2_, k3_, k4_, k5_, k6_, k7_, k8_, k9_, k10_⟩ := unhide HX15
            have hA : Fr (fun _ => False) wd we := hF
            exact ⟨k0_.trans hA (fun _ _ t => t), k1_.frame hA (fun t => t), k2_.frame hA (fun t => t), k3_.keep hA, k4_.keep hA, k5_.keep hA, k6_.keep hA, k7_.keep hA, k8_.keep hA, k9_.keep hA, k10_.keep hA⟩)
          clear s_0 s_1 s_2 r_0 r_1 r_2 hF HX15
          have va_0 : we.cell? ⟨V, 0, none⟩ = some (.int .i64 Rc) := (unhide HX16).2.2.2.2.1.cell 0
          have va_1 : we.cell? ⟨V, 1, none⟩ = some (.int .i64 Rf) := (unhide HX16).2.2.2.2.1.cell 1
          have vb_0 : we.cell? ⟨V2, 0, none⟩ = some (.int .i64 Rc) := (unhide HX16).2.2.2.2.2.2.2.1.cell 0
          have vb_1 : we.cell? ⟨V2, 1, none⟩ = some (.int .i64 Rf) := (unhide HX16).2.2.2.2.2.2.2.1.cell 1
          have vc_0 : we.cell? ⟨V3, 0, none⟩ = some (.int .i64 Rc) := (unhide HX16).2.2.2.2.2.2.2.2.2.2.cell 0
          have vc_1 : we.cell? ⟨V3, 1, none⟩ = some (.int .i64 Rf) := (unhide HX16).2.2.2.2.2.2.2.2.2.2.cell 1
          have ua : we.cell? ⟨U, 1, none⟩ = some (.slice x1 (D.add.length + 1) xc1) := (unhide HX16).2.2.2.1.cell 1
          have ub : we.cell? ⟨U3, 1, none⟩ = some (.slice z1 D.add.length zc1) := (unhide HX16).2.2.2.2.2.2.2.2.2.1.cell 1
          go_wp2_with fail
          refine (same_is ((unhide HX16).2.1.bin (unhide HLA)) ((unhide HX16).2.2.1.bin (unhide HLA))).mono ?_
          rintro e wz ⟨rfl, hq⟩
          obtain rfl := hq.symm
          obtain ⟨hn1, hn2⟩ := unhide HLD
          go_wp2
          go_ret
          exact ⟨by first | rfl | simp, (unhide HX16).1⟩

end Go.Proofs.Ytkjoojamkbpfcaa

