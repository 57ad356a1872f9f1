import Derived.Test.YtkjoojamkbpfcaaO1
import Derived.Test.YtkjoojamkbpfcaaNO
import Derived.SliceStrings
import Derived.Test.YtkjoojamkbpfcaaGO
import Derived.Test.YtkjoojamkbpfcaaL3
import Derived.Laws.MakeOwn
/- How the laws' arguments read: deltas, outages. -/
namespace Go.Proofs.Ytkjoojamkbpfcaa
open Go.ChangeShapes Go.WideShapes Go.ChangeAt Go.RowKit Go.Deep

section
variable {H : Type} {enc : TypeId × Value → H} {w : World} {held : Bool}

theorem open_toks {fuel : Nat} {c : Value} {x : DataW H × List MemPlace} (h : DataW.trod enc Try.prog w 0 (fun _ => true) held fuel 39 [c] = some x) :
    ∃ a cap, ∃ l : List ByteArray, c = .slice a l.length cap ∧ CAt w a (tkV l) ∧ l.length ≤ cap ∧ (cap = 0 ∨ ∃ elems rest, x.1 = .slice elems rest ∧ elems.length + rest.length = cap) := by
  rcases open_strings Try.underlying39 Try.underlying9 (by kernel_rfl) h with ⟨hcs, hx⟩ | ⟨a, len, cap, ss, hcs, _, hl, hm, hz, hx, hcell, _⟩
  · simp at hcs
    subst hcs
    exact ⟨none, 0, [], rfl, CAt.nil _ _, Nat.le_refl _, .inl rfl⟩
  · simp at hcs
    subst hcs
    have hz' : ss.length = cap := by simpa using hz
    have hlen : (ss.take len).length = len := by rw [List.length_take]; omega
    refine ⟨some a, cap, ss.take len, by rw [hlen], fun h0 => ?_, by rw [hlen]; exact hl, .inr ⟨_, _, by rw [hx], ?_⟩⟩
    · rw [tkV_length, Nat.mul_one] at h0
      obtain ⟨b, off, spot⟩ := a
      have hc := hcell 0 (by omega)
      have hspot : spot = none := by simpa [Addr.add] using World.cell?_spot hc
      subst hspot
      refine ⟨b, off, rfl, fun j hj => ?_⟩
      rw [tkV_length, Nat.mul_one] at hj
      have h1 := hcell j (by omega)
      rw [Addr.add_lit] at h1
      rw [h1]
      have h2 := flat_get tkC 1 (fun _ => rfl) (ss.take len) j hj 0 (by omega)
      rw [Nat.mul_one, Nat.add_zero] at h2
      have h3 : (tkV (ss.take len))[j]? = (tkC (ss.take len)[j])[0]? := h2
      rw [List.getElem?_eq_getElem (by rw [tkV_length, Nat.mul_one]; exact hj)] at h3
      rw [h3]
      have h4 : j < ss.length := by omega
      simp [tkC, h4]
    · simp [strs]
      omega

theorem sized_structD {P : Program} {ts : List TypeId} {ds : List (DataW H)} (h : (DataW.weightsEach P ts ds).all (· ≤ reachBytes) = true) {j : Nat} {t : TypeId} {fs : Array Field} {parts : List (DataW H)} (ht : ts[j]? = some t) (hd : ds[j]? = some (.agg parts)) (hu : P.underlying t = some (.struct fs)) :
    (DataW.weightsEach P (fs.toList.map (·.type)) parts).all (· ≤ reachBytes) = true := by
  refine List.all_eq_true.2 fun n hn => ?_
  exact List.all_eq_true.1 h n (DataW.weights_mem_each ht hd n (by simpa [DataW.weights, hu] using hn))

theorem cells_delta : Try.prog.cellsOf 41 = 3 := by kernel_rfl

set_option maxRecDepth 100000 in
theorem open_delta {fuel : Nat} {cs : List Value} {x : DataW H × List MemPlace} (h : DataW.trod enc Try.prog w 0 (fun _ => true) held fuel 41 cs = some x) :
    ∃ d a1 c1 a2 c2, cs = (dlC d a1 c1 a2 c2).toList ∧ CAt w a1 (tkV d.add) ∧ CAt w a2 (tkV d.gone) ∧ d.add.length ≤ c1 ∧ d.gone.length ≤ c2 ∧ d.ver ≤ 9223372036854775807 ∧
      ∃ parts, x.1 = .agg parts ∧ (c1 = 0 ∨ ∃ elems rest, parts[1]? = some (.slice elems rest) ∧ elems.length + rest.length = c1) ∧ (c2 = 0 ∨ ∃ elems rest, parts[2]? = some (.slice elems rest) ∧ elems.length + rest.length = c2) := by
  obtain ⟨xs, n, _, rfl, hl, hlen, hf⟩ := DataW.trod_struct Try.underlying41 h
  rw [cells_delta] at hl
  have g0 := hf 0 _ rfl
  have g1 := hf 1 _ rfl
  have g2 := hf 2 _ rfl
  match xs, hlen with
  | [y0, y1, y2], _ =>
    simp only [List.getElem?_cons_zero, List.getElem?_cons_succ] at g0 g1 g2
    obtain ⟨v, e0, rfl, w0⟩ := DataW.trod_int Try.underlying3 g0
    match cs, hl with
    | [z0, z1, z2], _ =>
      have q0 := one_of e0
      simp at q0
      subst q0
      have k1 : DataW.trod enc Try.prog w 0 (fun _ => true) held n 39 [z1] = some y1 := g1
      have k2 : DataW.trod enc Try.prog w 0 (fun _ => true) held n 39 [z2] = some y2 := g2
      obtain ⟨a1, c1, l1, rfl, p1, p2, p3⟩ := open_toks k1
      obtain ⟨a2, c2, l2, rfl, r1, r2, r3⟩ := open_toks k2
      refine ⟨⟨v, l1, l2⟩, a1, c1, a2, c2, rfl, p1, r1, p2, r2, (wf_le w0).1, _, rfl, ?_, ?_⟩
      · rcases p3 with h | ⟨el, re, e, h⟩
        · exact .inl h
        · exact .inr ⟨el, re, by simp [e], h⟩
      · rcases r3 with h | ⟨el, re, e, h⟩
        · exact .inl h
        · exact .inr ⟨el, re, by simp [e], h⟩

/-- A delta that was handed in. -/
theorem arg_delta {ts : List TypeId} {ds : List (DataW H)} {v : Value} {d : DataW H} {p : List MemPlace} {j : Nat} (hok : ∃ cs, v = .agg cs ∧ cs.size = Try.prog.cellsOf 41) (h : DataW.Trod enc Try.prog w 0 (fun _ => true) held 41 v d p)
    (hsz : (DataW.weightsEach Try.prog ts ds).all (· ≤ reachBytes) = true) (ht : ts[j]? = some 41) (hd : ds[j]? = some d) : ∃ t a1 c1 a2 c2, v = .agg (dlC t a1 c1 a2 c2) ∧ DIn w t a1 c1 a2 c2 := by
  obtain ⟨cs, rfl, _⟩ := hok
  obtain ⟨fuel, hf⟩ := h
  have hf' : DataW.trod enc Try.prog w 0 (fun _ => true) held fuel 41 cs.toList = some (d, p) := hf
  obtain ⟨t, a1, c1, a2, c2, hcs, h1, h2, n1, n2, hv, parts, hx, l1, l2⟩ := open_delta hf'
  have hx' : d = .agg parts := hx
  subst hx'
  have hS := sized_structD hsz ht hd Try.underlying41
  have hcs' : cs = dlC t a1 c1 a2 c2 := Array.ext' hcs
  have hby : Try.prog.bytesOf 9 = 16 := by kernel_rfl
  have m1 : c1 ≤ 140737488355328 := by
    rcases l1 with h | ⟨el, re, e, h⟩
    · omega
    · have hs := sized_slice hS (j := 1) (t := 39) (e := 9) (elems := el) (spare := re) rfl e Try.underlying39
      rw [hby] at hs
      unfold reachBytes at hs
      omega
  have m2 : c2 ≤ 140737488355328 := by
    rcases l2 with h | ⟨el, re, e, h⟩
    · omega
    · have hs := sized_slice hS (j := 2) (t := 39) (e := 9) (elems := el) (spare := re) rfl e Try.underlying39
      rw [hby] at hs
      unfold reachBytes at hs
      omega
  exact ⟨t, a1, c1, a2, c2, by rw [hcs'], ⟨h1, h2, by omega, by omega, hv, n1, n2⟩⟩

theorem cells_outage : Try.prog.cellsOf 60 = 3 := by kernel_rfl

set_option maxRecDepth 100000 in
theorem open_otg {fuel : Nat} {cs : List Value} {x : DataW H × List MemPlace} (h : DataW.trod enc Try.prog w 0 (fun _ => true) held fuel 60 cs = some x) : ∃ q : Otg, cs = otC q := by
  obtain ⟨xs, n, _, rfl, hl, hlen, hf⟩ := DataW.trod_struct Try.underlying60 h
  rw [cells_outage] at hl
  have g0 := hf 0 _ rfl
  have g1 := hf 1 _ rfl
  have g2 := hf 2 _ rfl
  match xs, hlen with
  | [y0, y1, y2], _ =>
    simp only [List.getElem?_cons_zero, List.getElem?_cons_succ] at g0 g1 g2
    obtain ⟨a0, e0, rfl, w0⟩ := DataW.trod_int Try.underlying3 g0
    obtain ⟨a1, e1, rfl, w1⟩ := DataW.trod_int Try.underlying3 g1
    obtain ⟨a2, e2, rfl, w2⟩ := DataW.trod_int Try.underlying3 g2
    match cs, hl with
    | [c0, c1, c2], _ =>
      have f0 := one_of e0
      have f1 := one_of e1
      have f2 := one_of e2
      simp at f0 f1 f2
      subst f0 f1 f2
      exact ⟨⟨a0, a1, a2⟩, rfl⟩

theorem open_otgs {fuel : Nat} {a0 : Option Addr} {len cap : Nat} {x : DataW H × List MemPlace} (h : DataW.trod enc Try.prog w 0 (fun _ => true) held fuel 58 [.slice a0 len cap] = some x) :
    ∃ ps : List Otg, ps.length = len ∧ CAt w a0 (otV ps) ∧ len ≤ cap ∧ (len = 0 ∨ ∃ elems rest, x.1 = .slice elems rest ∧ elems.length = len) := by
  rcases open_slice Try.underlying58 h with ⟨hcs, hx⟩ | ⟨a, len', cap', m, n, D, Pla, hcs, hb, hl, hm, hmm, hx, hel⟩
  · simp at hcs
    obtain ⟨rfl, rfl, rfl⟩ := hcs
    exact ⟨[], rfl, CAt.nil _ _, Nat.le_refl _, .inl rfl⟩
  · simp at hcs
    obtain ⟨rfl, rfl, rfl⟩ := hcs
    rw [cells_outage] at hel
    have hmc : m = cap := by simpa using hmm
    obtain ⟨ps, hpl, hps⟩ := list_of (Good := fun j (q : Otg) => ∀ i, i < 3 → w.cell? ((a.add (j * 3)).add i) = (otC q)[i]?) len (fun j hj => by
      obtain ⟨cs', h1, h2⟩ := hel j (by omega)
      obtain ⟨q, e1⟩ := open_otg h2
      obtain ⟨_, _, h4⟩ := World.cells?_some h1
      refine ⟨q, fun i hi => ?_⟩
      rw [h4 i hi, e1])
    refine ⟨ps, hpl, fun h0 => ?_, hl, .inr ⟨_, _, by rw [hx], by simp⟩⟩
    have hVl := otV_length ps
    have hpos : 0 < ps.length := by omega
    obtain ⟨b, off, spot⟩ := a
    have hc := hps 0 hpos 0 (by omega)
    have hspot : spot = none := by
      have hv : (otC ps[0])[0]? = some (.int .i64 ps[0].st) := rfl
      rw [hv] at hc
      simpa [Addr.add] using World.cell?_spot hc
    subst hspot
    refine ⟨b, off, rfl, fun j hj => ?_⟩
    have hjk : j / 3 < ps.length := by omega
    have h1 := hps (j / 3) hjk (j % 3) (Nat.mod_lt _ (by omega))
    rw [Addr.add_lit, Addr.add_lit, Nat.add_assoc, show j / 3 * 3 + j % 3 = j by omega] at h1
    have h2 := flat_get otC 3 (fun _ => rfl) ps (j / 3) hjk (j % 3) (Nat.mod_lt _ (by omega))
    rw [show j / 3 * 3 + j % 3 = j by omega] at h2
    rw [h1, ← h2]
    exact List.getElem?_eq_getElem hj

/-- Outages that were handed in. -/
theorem arg_outages {ts : List TypeId} {ds : List (DataW H)} {v : Value} {d : DataW H} {p : List MemPlace} {j : Nat} (hok : ∃ a len cap, v = .slice a len cap) (h : DataW.Trod enc Try.prog w 0 (fun _ => true) held 58 v d p)
    (hsz : (DataW.weightsEach Try.prog ts ds).all (· ≤ reachBytes) = true) (ht : ts[j]? = some 58) (hd : ds[j]? = some d) : ∃ ao cap l, v = .slice ao (List.length l) cap ∧ OIn w l ao cap ∧ (l.length + 100) * 24 ≤ 140737488355328 := by
  obtain ⟨a, len, cap, rfl⟩ := hok
  obtain ⟨fuel, hf⟩ := h
  obtain ⟨l, rfl, h1, h2, h3⟩ := open_otgs hf
  have hn : (l.length + 100) * 24 ≤ 140737488355328 := by
    rcases h3 with h | ⟨elems, rest, e, hl⟩
    · omega
    · have hs := sized_slice hsz (t := 58) (e := 60) (elems := elems) (spare := rest) ht (by rw [hd]; exact congrArg some e) Try.underlying58
      have hby : Try.prog.bytesOf 60 = 24 := by kernel_rfl
      rw [hby] at hs
      unfold reachBytes at hs
      omega
  exact ⟨a, cap, l, rfl, ⟨h1, by omega, h2⟩, hn⟩

end
end Go.Proofs.Ytkjoojamkbpfcaa

/- Are two lists of outages the same? A list as a source of an append. -/
namespace Go.Proofs.Ytkjoojamkbpfcaa
open Go.RowKit

theorem CAt.srcO {w : World} {ao : Option Addr} {vs : List Value} (h : CAt w ao vs) (tx e : TypeId) (k n cap : Nat) (hk : 0 < k) (ht : Try.prog.underlying tx = some (.slice e)) (hn : vs.length = n * k) (h1 : ∀ u ∈ vs, u.oneCell' = true) : Src Try.prog k tx (.slice ao n cap) n vs w := by
  by_cases hm : 0 < vs.length
  · obtain ⟨b, off, rfl, hc⟩ := h hm
    refine Src.ofSlice w ht ⟨b, off, none⟩ n cap vs hn (fun j u hj => ?_) h1
    have hjl := (List.getElem?_eq_some_iff.1 hj).1
    rw [Addr.add_lit, hc j hjl, ← hj, List.getElem?_eq_getElem hjl]
  · have e0 : vs = [] := List.eq_nil_of_length_eq_zero (by omega)
    subst e0
    obtain rfl : n = 0 := by
      rcases Nat.eq_zero_or_pos n with h0 | h0
      · exact h0
      · have := Nat.mul_pos h0 hk; simp at hn; omega
    cases ao with
    | none => exact Src.ofNil w ht cap
    | some b => exact Src.ofSlice w ht b 0 cap [] (by simp) (fun j u hj => by simp at hj) (fun u hu => by cases hu)

theorem otV_one (l : List Otg) : ∀ u ∈ otV l, u.oneCell' = true := by
  intro u hu
  simp only [otV, List.mem_flatMap] at hu
  obtain ⟨q, _, hq⟩ := hu
  simp only [otC, List.mem_cons, List.not_mem_nil, or_false] at hq
  rcases hq with rfl | rfl | rfl <;> rfl

set_option maxHeartbeats 1000000 in
theorem sameOutages_is (w : World) (l : List Otg) (a1 : Option Addr) (c1 : Nat) (a2 : Option Addr) (c2 : Nat) (h1 : CAt w a1 (otV l)) (h2 : CAt w a2 (otV l)) (hl : (l.length + 1) * 24 ≤ 140737488355328) :
    Calls Try.prog 33 #[.slice a1 l.length c1, .slice a2 l.length c2] w fun e w' => e = .returned (.bool true) ∧ Fr (fun _ => False) w w' := by
  have H1 := hide h1
  have H2 := hide h2
  have hEO := eqOutage
  clear h1 h2
  go_enter Try.func33, Try.ntmps33
  go_wp2
  go_loopw [5] (fun iv wr => ∃ (i : Nat), i ≤ l.length ∧ iv = .int .i64 i ∧ Hid (Fr (fun _ => False) w wr)) (fun iv _ => l.length - (intOf iv).toNat)
  case atStart => exact ⟨0, Nat.zero_le _, rfl, Fr.refl _ _⟩
  case round =>
    obtain ⟨i, hi, rfl, HI⟩ := hrel
    by_cases hil : i < l.length
    · obtain ⟨b1, o1, rfl, x0, x1, x2⟩ := ((unhide H1).keep (unhide HI)).ot hil
      obtain ⟨b2, o2, rfl, z0, z1, z2⟩ := ((unhide H2).keep (unhide HI)).ot hil
      generalize l[i] = x at *
      go_wp2
      go_quiet (fail)
      go_wp2
      exact ⟨⟨i + 1, by omega, by go_num, (unhide HI).drewN _⟩, by simp [intOf]; omega⟩
    · obtain rfl : i = l.length := by omega
      go_wp2
      go_ret
      exact ⟨rfl, unhide HI⟩

end Go.Proofs.Ytkjoojamkbpfcaa

/- The walk of the law RecordOutages. -/
namespace Go.Proofs.Ytkjoojamkbpfcaa
open Go.RowKit

theorem CAt.front {w : World} {ao : Option Addr} {vs us : List Value} (h : CAt w ao (vs ++ us)) : CAt w ao vs := fun h0 => by
  obtain ⟨b, off, e, hc⟩ := h (by rw [List.length_append]; omega)
  refine ⟨b, off, e, fun j hj => ?_⟩
  rw [hc j (by rw [List.length_append]; omega), List.getElem_append_left hj]

set_option maxHeartbeats 4000000 in
set_option maxRecDepth 100000 in
theorem outages_walk (w : World) (l : List Otg) (ao : Option Addr) (cap : Nat) (hO : OIn w l ao cap) (hm : (l.length + 100) * 24 ≤ 140737488355328) (bo : Option Addr) (bc : Nat) (bs : List UInt8) (hB : BInC w bo bc bs) :
    Calls Try.prog 7 #[.slice ao l.length cap, .slice bo bs.length bc] w fun e w' => e = .returned (.bool true) ∧ Fr (fun _ => False) w w' := by
  have RP := hide (fun (w' : World) a c (h : OIn w' l a c) => recOutages_any l w' a c h)
  have RR := hide (fun (w' : World) (hf : Fr (fun _ => False) w w') => refOutages_any l w' ao cap (hO.keep hf))
  obtain ⟨A, HA⟩ : ∃ A, Hid (outsW l = A) := ⟨_, rfl⟩
  have HLA : Hid (A.1.length ≤ 140737488355328) := hide (by rw [← unhide HA]; exact Nat.le_trans (outsW_le l) (by omega))
  rw [unhide HA] at RP RR
  have RT := hide (fun (w : World) ao cap h => readOutages_any w ao cap bs h)
  have RV := hide (fun (w : World) ao cap h => refReadOutages_any w ao cap bs h)
  obtain ⟨X, HX⟩ : ∃ R, Hid (outsRd bs = R) := ⟨_, rfl⟩
  have HLD : Hid (X.1.length ≤ 100) := hide (by rw [← unhide HX]; exact outsRd_len bs)
  rw [unhide HX] at RT RV
  have HB := hide hB
  have HOI := hide hO
  have hEF := eqFault
  obtain ⟨info, hi, hzz⟩ := Option.map_eq_some_iff.1 Outage_info
  simp only [Prod.mk.injEq] at hzz
  have hmk := fun W => run_make (P := Try.prog) W 58 60 info (.agg #[.int .i64 0, .int .i64 0, .int .i64 0]) Try.underlying58 hi hzz.1 .i64 .i64 0 ((l.length : Int) + 1) (by omega) (by omega) (by rw [hzz.2.2]; omega) (by omega)
  rw [hzz.2.1, show ((l.length : Int) + 1).toNat = l.length + 1 by omega, show (0 : Int).toNat = 0 from rfl] at hmk
  have HI := hide (And.intro hi hzz)
  unfold ReadOuts at RT RV
  obtain ⟨D, Rc, Rf⟩ := X
  obtain ⟨eb, ec⟩ := A
  simp only at RP RR RT RV HLA HLD ⊢
  clear hB HA HX hO hi hzz
  go_enter Try.func7, Try.ntmps7
  go_wp2_with fail
  refine (awake_any _).mono ?_
  rintro e w1 ⟨rfl, hF1⟩
  have hmk1 := hmk w1
  clear hmk
  obtain ⟨w2, Hw2⟩ : ∃ w2, Hid (w1.alloc (.cells (madeCells (Value.agg #[.int .i64 0, .int .i64 0, .int .i64 0]).cells ((l.length + 1) * 3)) 60) = w2) := ⟨_, rfl⟩
  rw [unhide Hw2] at hmk1
  have HR1 : Hid (KRow w2 (some ⟨w1.heap.size, 0, none⟩) (l.length + 1) w1.heap.size 3 [] ∧ Fr (fun _ => False) w w2 ∧ w.heap.size ≤ w1.heap.size) := hide (by
    rw [← unhide Hw2]
    refine ⟨⟨Nat.zero_le _, by simp only [maxLen]; omega, fun _ => rfl, fun j hj => ⟨?_, World.frozen?_alloc_new _ _ _ _⟩, fun j hj => absurd hj (by simp), fun u hu => by cases hu⟩, hF1.alloc _, hF1.size⟩
    rw [World.cell?_alloc_new, Array.getElem?_eq_getElem (by rw [size_madeCells]; exact hj)]
    rfl)
  have HSR : Hid (Src Try.prog 3 58 (.slice ao l.length cap) l.length (otV l) w2) := hide (((unhide HOI).row.keep (unhide HR1).2.1).srcO 58 60 3 l.length cap (by omega) Try.underlying58 (otV_length l) (otV_one l))
  have HF1 := hide hF1
  clear hF1 Hw2
  go_wp2_with (at_builtin; refine wpList_append_krow _ rfl (.tmp 20) (.tmp 21) 58 58 rfl 60 info _ 3 (by omega) Try.underlying58 (unhide HI).1 (unhide HI).2.1 rfl (unhide HI).2.2.1 rfl (unhide HR1).1 (by simp) _ _ l.length rfl (unhide HSR) (by rw [(unhide HI).2.2.2]; omega) (by omega) ?_)
  intro a2 c2 w3 g2 hK hG
  have HR2 : Hid (KRow w3 a2 c2 g2 3 (otV l) ∧ Fr (fun _ => False) w w3 ∧ (0 < c2 → w.heap.size ≤ g2)) := hide (by
    obtain ⟨k1, k2, k3⟩ := unhide HR1
    have k4 := k2.size
    rcases hG with ⟨e1, e2, hf⟩ | ⟨e1, e2, hf⟩
    · exact ⟨hK, k2.trans hf (fun q hq t => by have := t.1; omega), fun _ => by omega⟩
    · exact ⟨hK, k2.trans hf (fun _ _ t => t), fun _ => by omega⟩)
  clear hK hG HR1 HSR hmk1
  have HK3 : Hid (KRow (w3.alloc (.cells #[.int .i64 (-7), .int .i64 0, .int .i64 0] 60)) a2 c2 g2 3 (otV l)) := hide ((unhide HR2).1.keep (by omega) ((Fr.refl (fun _ => False) w3).alloc _))
  have HSR : Hid (Src Try.prog 3 58 (.slice (some ⟨w3.heap.size, 0, none⟩) 1 1) 1 [.int .i64 (-7), .int .i64 0, .int .i64 0] (w3.alloc (.cells #[.int .i64 (-7), .int .i64 0, .int .i64 0] 60))) := hide (src_one (P := Try.prog) w3 [.int .i64 (-7), .int .i64 0, .int .i64 0] 58 60 3 Try.underlying58 rfl (fun u hu => by simp only [List.mem_cons, List.not_mem_nil, or_false] at hu; rcases hu with rfl | rfl | rfl <;> rfl) (W := w3.alloc (.cells #[.int .i64 (-7), .int .i64 0, .int .i64 0] 60)) (fun j => by rw [World.cell?_alloc_new]; simp))
  go_wp2_with (at_builtin; refine wpList_append_krow _ rfl (.tmp 22) (.tmp 24) 58 58 rfl 60 info _ 3 (by omega) Try.underlying58 (unhide HI).1 (unhide HI).2.1 rfl (unhide HI).2.2.1 rfl (unhide HK3) (otV_length l) _ _ 1 rfl (unhide HSR) (by rw [(unhide HI).2.2.2]; omega) (by omega) ?_)
  intro a3 c3 w4 g3 hK hG
  have HR3 : Hid (KRow w4 a3 c3 g3 3 (otV l ++ [.int .i64 (-7), .int .i64 0, .int .i64 0]) ∧ Fr (fun _ => False) w w4) := hide (by
    obtain ⟨k1, k2, k3⟩ := unhide HR2
    have k4 : Fr (fun _ => False) w (w3.alloc (.cells #[.int .i64 (-7), .int .i64 0, .int .i64 0] 60)) := k2.alloc _
    rcases hG with ⟨e1, e2, hf⟩ | ⟨e1, e2, hf⟩
    · exact ⟨hK, k4.trans hf (fun q hq t => by have := k3 t.2; have := t.1; omega)⟩
    · exact ⟨hK, k4.trans hf (fun _ _ t => t)⟩)
  have hcap : l.length + 1 ≤ c3 := (unhide HR3).1.cap_le (by rw [List.length_append, otV_length]; simp; omega) (by omega)
  have had : a3 = some ⟨g3, 0, none⟩ := (unhide HR3).1.ad (by omega)
  have HO4 : Hid (OIn w4 l a3 c3) := hide ⟨(unhide HR3).1.catN.front, by omega, by omega⟩
  have HMK : Hid (w4.cell? ⟨g3, l.length * 3, none⟩ = some (.int .i64 (-7))) := hide (by
    have h1 := (unhide HR3).1.cells (l.length * 3) (by rw [List.length_append, otV_length]; simp)
    rw [h1, List.getElem_append_right (by rw [otV_length]; omega)]
    simp [otV_length])
  clear hK hG HR2 HK3 HSR
  have hcut : ((l.length : Nat) : Int) ≤ (c3 : Int) := by omega
  subst had
  go_wp2_with fail
  refine (unhide RP _ _ _ (unhide HO4)).mono ?_
  rintro e w5 ⟨po, pc, pg, rfl, hrow, hxg, hF⟩
  have HX5 : Hid (Fr (fun _ => False) w w5 ∧ Row w5 (.slice po eb.length pc) pg eb ∧ OIn w5 l (some ⟨g3, 0, none⟩) c3) := hide ⟨(unhide HR3).2.trans hF (fun _ _ t => t), hrow, (unhide HO4).keep hF⟩
  have mk : w5.cell? ⟨g3, l.length * 3, none⟩ = some (.int .i64 (-7)) := (hF.cell (a := ⟨g3, l.length * 3, none⟩) (World.block_lt_of_cell? _ _ (unhide HMK)) (fun t => t)).trans (unhide HMK)
  clear hrow hxg hF
  go_wp2_with fail
  refine (sameOutages_is _ l _ _ ao cap (unhide HX5).2.2.row ((unhide HOI).row.keep (unhide HX5).1) (by omega)).mono ?_
  rintro e w6 ⟨rfl, hF⟩
  have HX6 : Hid (Fr (fun _ => False) w w6 ∧ Row w6 (.slice po eb.length pc) pg eb) := hide ⟨(unhide HX5).1.trans hF (fun _ _ t => t), (unhide HX5).2.1.frame hF (fun t => t)⟩
  clear hF mk HX5
  go_wp2_with fail
  refine (unhide RR _ (unhide HX6).1).mono ?_
  rintro e w7 ⟨ro, rc, rg, rfl, hrow, hxg, hF⟩
  have HX7 : Hid (Fr (fun _ => False) w w7 ∧ Row w7 (.slice po eb.length pc) pg eb ∧ Row w7 (.slice ro eb.length rc) rg eb) := hide ⟨(unhide HX6).1.trans hF (fun _ _ t => t), (unhide HX6).2.frame hF (fun t => t), hrow⟩
  clear hrow hxg hF HX6
  go_wp2_with fail
  refine (unhide RT _ bo bc ((unhide HB).b.keep (unhide HX7).1)).mono ?_
  rintro e w8 ⟨ua, uc, ug, rfl, hN, hF⟩
  have HX8 : Hid (Fr (fun _ => False) w (w8.alloc (.cells #[.int .i64 Rc, .int .i64 Rf] 31)) ∧ Row (w8.alloc (.cells #[.int .i64 Rc, .int .i64 Rf] 31)) (.slice po eb.length pc) pg eb ∧ Row (w8.alloc (.cells #[.int .i64 Rc, .int .i64 Rf] 31)) (.slice ro eb.length rc) rg eb ∧ CAt (w8.alloc (.cells #[.int .i64 Rc, .int .i64 Rf] 31)) ua (otV D) ∧ Bx (w8.alloc (.cells #[.int .i64 Rc, .int .i64 Rf] 31)) w8.heap.size #[.int .i64 Rc, .int .i64 Rf] 31) := hide (by
    obtain ⟨k0, k1, k2⟩ := unhide HX7
    have hA : Fr (fun _ => False) w7 (w8.alloc (.cells #[.int .i64 Rc, .int .i64 Rf] 31)) := hF.alloc _
    exact ⟨k0.trans hA (fun _ _ t => t), k1.frame hA (fun t => t), k2.frame hA (fun t => t), hN.row.catN.keep ((Fr.refl (fun _ => False) w8).alloc _), Bx.new _ _ _⟩)
  clear hN hF HX7
  go_wp2_with fail
  generalize w8.alloc (.cells #[.int .i64 Rc, .int .i64 Rf] 31) = w8g at *
  obtain ⟨V, HV⟩ : ∃ V, Hid (w8.heap.size = V) := ⟨_, rfl⟩
  rw [unhide HV] at HX8 ⊢
  refine (unhide RV _ bo bc ((unhide HB).keep (unhide HX8).1)).mono ?_
  rintro e w9 ⟨za, zc, zg, rfl, hN, hF⟩
  have HX9 : Hid (Fr (fun _ => False) w (w9.alloc (.cells #[.int .i64 Rc, .int .i64 Rf] 31)) ∧ Row (w9.alloc (.cells #[.int .i64 Rc, .int .i64 Rf] 31)) (.slice po eb.length pc) pg eb ∧ Row (w9.alloc (.cells #[.int .i64 Rc, .int .i64 Rf] 31)) (.slice ro eb.length rc) rg eb ∧ CAt (w9.alloc (.cells #[.int .i64 Rc, .int .i64 Rf] 31)) ua (otV D) ∧ Bx (w9.alloc (.cells #[.int .i64 Rc, .int .i64 Rf] 31)) V #[.int .i64 Rc, .int .i64 Rf] 31 ∧ CAt (w9.alloc (.cells #[.int .i64 Rc, .int .i64 Rf] 31)) za (otV D) ∧ Bx (w9.alloc (.cells #[.int .i64 Rc, .int .i64 Rf] 31)) w9.heap.size #[.int .i64 Rc, .int .i64 Rf] 31) := hide (by
    obtain ⟨k0, k1, k2, k3, k4⟩ := unhide HX8
    have hA : Fr (fun _ => False) w8g (w9.alloc (.cells #[.int .i64 Rc, .int .i64 Rf] 31)) := hF.alloc _
    exact ⟨k0.trans hA (fun _ _ t => t), k1.frame hA (fun t => t), k2.frame hA (fun t => t), k3.keep hA, k4.keep hA, hN.row.catN.keep ((Fr.refl (fun _ => False) w9).alloc _), Bx.new _ _ _⟩)
  clear hN hF HX8
  go_wp2_with fail
  generalize w9.alloc (.cells #[.int .i64 Rc, .int .i64 Rf] 31) = wA at *
  obtain ⟨V2, HV2⟩ : ∃ V, Hid (w9.heap.size = V) := ⟨_, rfl⟩
  rw [unhide HV2] at HX9 ⊢
  refine (same_is ((unhide HX9).2.1.bin (unhide HLA)) ((unhide HX9).2.2.1.bin (unhide HLA))).mono ?_
  rintro e wz ⟨rfl, hq⟩
  obtain rfl := hq.symm
  go_wp2_with fail
  refine (sameOutages_is _ D ua uc za zc (unhide HX9).2.2.2.1 (unhide HX9).2.2.2.2.2.1 (by have := unhide HLD; omega)).mono ?_
  rintro e wB ⟨rfl, hF⟩
  have HXB : Hid (Fr (fun _ => False) w wB) := hide ((unhide HX9).1.trans hF (fun _ _ t => t))
  have va0 : wB.cell? ⟨V, 0, none⟩ = some (.int .i64 Rc) := ((unhide HX9).2.2.2.2.1.keep hF).cell 0
  have va1 : wB.cell? ⟨V, 1, none⟩ = some (.int .i64 Rf) := ((unhide HX9).2.2.2.2.1.keep hF).cell 1
  have vb0 : wB.cell? ⟨V2, 0, none⟩ = some (.int .i64 Rc) := ((unhide HX9).2.2.2.2.2.2.keep hF).cell 0
  have vb1 : wB.cell? ⟨V2, 1, none⟩ = some (.int .i64 Rf) := ((unhide HX9).2.2.2.2.2.2.keep hF).cell 1
  clear hF HX9
  go_wp2
  go_ret
  exact ⟨by first | rfl | simp, unhide HXB⟩

end Go.Proofs.Ytkjoojamkbpfcaa

