import Derived.Test.YtabhfeocelljdaaGreatDoorZTB
import Derived.Test.YtabhfeocelljdaaGreatDoorZVA
/- The law's copied: a frame in memory of its own. -/
namespace Go.Proofs.YtabhfeocelljdaaGreatDoor
open Go.RowKit Go.Maps

theorem Row.none (w : World) (ao : Option Addr) (g : Nat) : Row w (.slice ao 0 0) g [] :=
  ⟨⟨ao, 0, rfl, Nat.le_refl _, Nat.zero_le _, fun h => absurd h (by omega), fun j hj => absurd hj (by omega)⟩, fun j hj => absurd hj (by simp)⟩

/-- 'append([]byte{}, x...)': a copy. -/
theorem wpList_copy (w : World) {ops : Array Oper} {rest : List Oper} {o : Oper} {a : Act} {Q : Exit → Act → World → Prop} (hgd : o.guard = none) (s x : Operand) (t tx : TypeId)
    (ho : o.op = .call { callee := .builtin .append, args := #[s, x], argTypes := #[t, tx] }) (e : TypeId) (i : TypeInfo) (ht : Tryz.prog.underlying t = some (.slice e)) (htx : Tryz.prog.underlying tx = some (.slice e)) (hi : Tryz.prog.info? e = some i) (hz : i.zero = some (.int .u8 0)) (hs1 : i.size = 1) (hby : i.bytes = 1)
    {ao : Option Addr} (hv : a.eval s = .slice ao 0 0) (xo : Option Addr) (xc : Nat) (ms : List UInt8) (hx : a.eval x = .slice xo ms.length xc) (hB : BAt w xo xc ms)
    (hK : ∀ ao' cap' w' g', Row w' (.slice ao' ms.length cap') g' ms → Fr (fun _ => False) w w' → w.heap.size ≤ g' → wpList Tryz.prog ops Q rest (a.put o.dst (.slice ao' ms.length cap')) w') : wpList Tryz.prog ops Q (o :: rest) a w := by
  refine wpList_append_n w hgd s x t tx ho e i ht hi hz hs1 hby hv (Row.none w ao w.heap.size) _ ms ms.length hx rfl (src_slice htx w xo xc ms hB.2.1) (by have := hB.2.2; omega) ?_
  intro ao' cap' w' g' h1 h2 h3
  rw [Nat.zero_add] at h1 ⊢
  rw [List.nil_append] at h1
  exact hK ao' cap' w' g' h1 (h2.mono (fun k _ t => absurd t.2 (by omega))) (by omega)

theorem step_copy {ops : Array Oper} {o : Oper} {a : Act} {w : World} {K : Act → World → Prop} {Q : Exit → Act → World → Prop} {E : Prop} (hgd : o.guard = none) (s x : Operand) (t tx : TypeId)
    (ho : o.op = .call { callee := .builtin .append, args := #[s, x], argTypes := #[t, tx] }) (e : TypeId) (i : TypeInfo) (ht : Tryz.prog.underlying t = some (.slice e)) (htx : Tryz.prog.underlying tx = some (.slice e)) (hi : Tryz.prog.info? e = some i) (hz : i.zero = some (.int .u8 0)) (hs1 : i.size = 1) (hby : i.bytes = 1)
    {ao : Option Addr} (hv : a.eval s = .slice ao 0 0) (xo : Option Addr) (xc : Nat) (ms : List UInt8) (hx : a.eval x = .slice xo ms.length xc) (hB : BAt w xo xc ms)
    (hK : ∀ ao' cap' w' g', Row w' (.slice ao' ms.length cap') g' ms → Fr (fun _ => False) w w' → w.heap.size ≤ g' → K (a.put o.dst (.slice ao' ms.length cap')) w') :
    if Region.wanted o (yielded ops a.tmps) = true then Oper.wp Tryz.prog o a w K Q else E := by
  refine step_append_row hgd s x t tx ho e i ht hi hz hs1 hby (bs := []) hv (Row.none w ao w.heap.size) _ ms hx (src_slice htx w xo xc ms hB.2.1) (by have := hB.2.2; simp; omega) ?_
  intro ao' cap' w' g' h1 h2 h3
  rw [List.length_nil, Nat.zero_add] at h1 ⊢
  rw [List.nil_append] at h1
  exact hK ao' cap' w' g' h1 (h2.mono (fun k _ t => absurd t.2 (by omega))) (by omega)

/-- copied under way. -/
structure CP (w : World) (B Bz Bo M : Nat) (cs : Array Value) (kd ba sq : Int) (bts : List UInt8) (bo' : Option Addr) (bc' gb : Nat) (io' : Option Addr) (ic' ib : Nat) (ds : List RD) (its : List (List UInt8)) (wr : World) : Prop where
  fr : Fr (fun _ => False) w wr
  bf : Bx wr B cs 25
  bz : Bx wr Bz #[.int .i64 0, .int .i64 0, .int .i64 0, .slice none 0 0, .slice none 0 0] 25
  ot : Bx wr Bo #[.int .i64 kd, .int .i64 ba, .int .i64 sq, .slice io' its.length ic', .slice bo' bts.length bc'] 25
  row : Row wr (.slice bo' bts.length bc') gb bts
  il : IL M wr io' ic' ib ds its
  lo : (B = w.heap.size ∧ Bz = B + 1 ∧ Bo = B + 2) ∧ B + 2 < M ∧ M ≤ wr.heap.size ∧ B + 2 < gb ∧ (0 < bc' → gb < M)

theorem CP.keep {w : World} {B Bz Bo M : Nat} {cs : Array Value} {kd ba sq : Int} {bts : List UInt8} {bo' : Option Addr} {bc' gb : Nat} {io' : Option Addr} {ic' ib : Nat} {ds : List RD} {its : List (List UInt8)} {wr w' : World} (h : CP w B Bz Bo M cs kd ba sq bts bo' bc' gb io' ic' ib ds its wr) (k : Fr (fun _ => False) wr w') : CP w B Bz Bo M cs kd ba sq bts bo' bc' gb io' ic' ib ds its w' :=
  ⟨h.fr.trans k (fun _ _ t => t), h.bf.keep k, h.bz.keep k, h.ot.keep k, h.row.frame k (fun t => t), h.il.frame k (fun _ t => t) (fun _ _ _ t => t), h.lo.1, h.lo.2.1, by have := h.lo.2.2.1; have := k.size; omega, h.lo.2.2.2⟩

/-- One item more. -/
theorem CP.next {w : World} {B Bz Bo M : Nat} {cs : Array Value} {kd ba sq : Int} {bts : List UInt8} {bo' : Option Addr} {bc' gb : Nat} {io' io2 : Option Addr} {ic' ib ic2 ib2 : Nat} {ds : List RD} {its : List (List UInt8)} {wr w' : World} (h : CP w B Bz Bo M cs kd ba sq bts bo' bc' gb io' ic' ib ds its wr) {d : RD} {x : List UInt8} (hx : x.length ≤ 140737488355328)
    (hr : Row wr d.val d.g x) (hn : d.n = x.length) (hM : 0 < d.cap → M ≤ d.g ∧ (0 < ic' → ib ≠ d.g) ∧ ∀ e ∈ ds, 0 < e.cap → e.g < d.g) (k1 : KRow w' io2 ic2 ib2 1 (ds.map RD.val ++ [d.val])) (k2 : Grew wr ib ic' w' ib2 ic2) :
    CP w B Bz Bo M cs kd ba sq bts bo' bc' gb io2 ic2 ib2 (ds ++ [d]) (its ++ [x]) (w'.setCell ⟨Bo, 3, none⟩ (.slice io2 (its.length + 1) ic2)) := by
  obtain ⟨l1, l2, l3, l4, l5⟩ := h.lo
  have hS : ∀ i, (i = ib ∧ 0 < ic') → M ≤ i := fun i t => by have := h.il.ib t.2; omega
  have hf : Fr (fun k => k = ib ∧ 0 < ic') wr w' := k2.frZ
  have hs := hf.size
  have hset : Fr (fun k => k = Bo) w' (w'.setCell ⟨Bo, 3, none⟩ (.slice io2 (its.length + 1) ic2)) := Fr.setCell (S := fun k => k = Bo) (Fr.refl _ _) (p := ⟨Bo, 3, none⟩) (fun _ => rfl) _
  have hot := h.ot.frame hf (fun t => by have := hS _ t; omega)
  have hrow : Row w' (.slice bo' bts.length bc') gb bts := Row.elsewhere h.row (fun hc => hf.block gb (by have := l5 hc; omega) (fun t => by have := hS _ t; have := l5 hc; omega))
  refine ⟨(h.fr.trans hf (fun i hi t => by have := hS i t; omega)).trans hset (fun i hi t => by omega), (h.bf.frame hf (fun t => by have := hS _ t; omega)).setOther (by omega) 3 _, (h.bz.frame hf (fun t => by have := hS _ t; omega)).setOther (by omega) 3 _, ?_, Row.elsewhere hrow (fun hc => hset.block gb (by have := l5 hc; omega) (fun t => by omega)), (h.il.next hx hr hn hM k1 k2 l3).stay hset (fun i t => by omega), l1, l2, by simp; omega, l4, l5⟩
  have := hot.setCell 3 (.slice io2 (its.length + 1) ic2)
  rw [List.length_append]
  exact this

set_option maxHeartbeats 2000000 in
set_option maxRecDepth 20000 in
theorem copied_any (w : World) (f : Fm) (io : Option Addr) (ic : Nat) (bo : Option Addr) (bc : Nat) (hA : f.At w io bo bc) (hN : f.items.length * 24 ≤ 140737488355328) :
    Calls Tryz.prog 6 #[.agg (f.cells io ic bo bc)] w fun e w' => ∃ io' ic' bo' bc', e = .returned (.agg (f.cells io' ic' bo' bc')) ∧ Hid (Fr (fun _ => False) w w' ∧ (∃ ib ds, IL w.heap.size w' io' ic' ib ds f.items) ∧ ∃ gb, Row w' (.slice bo' f.bytes.length bc') gb f.bytes ∧ w.heap.size ≤ gb) := by
  obtain ⟨kd, ba, sq, its, bts⟩ := f
  simp only [Fm.cells]
  simp only at hN
  have hsI : its.length ≤ 140737488355328 := hA.items.small
  obtain ⟨i0, hi, hz0, hz1, hz2⟩ := info_parts Tryz.info5
  have HI := hide (And.intro hi (And.intro hz0 (And.intro hz1 hz2)))
  have hF : Fr (fun _ => False) w ((((w.alloc (.cells #[.int .i64 kd, .int .i64 ba, .int .i64 sq, .slice io its.length ic, .slice bo bts.length bc] 25)).alloc (.cells #[.int .i64 0, .int .i64 0, .int .i64 0, .slice none 0 0, .slice none 0 0] 25)).alloc (.cells #[.int .i64 kd, .int .i64 ba, .int .i64 sq, .slice io its.length ic, .slice bo bts.length bc] 25)).alloc (.cells #[] 5)) := (((Fr.refl _ _).alloc _).alloc _ |>.alloc _).alloc _
  have HB := hide (hA.bytes.later hF)
  have h1 := (((Bx.new w #[.int .i64 kd, .int .i64 ba, .int .i64 sq, .slice io its.length ic, .slice bo bts.length bc] 25).alloc (.cells #[.int .i64 0, .int .i64 0, .int .i64 0, .slice none 0 0, .slice none 0 0] 25)).alloc (.cells #[.int .i64 kd, .int .i64 ba, .int .i64 sq, .slice io its.length ic, .slice bo bts.length bc] 25)).alloc (.cells #[] 5)
  have h2 := ((Bx.new (w.alloc (.cells #[.int .i64 kd, .int .i64 ba, .int .i64 sq, .slice io its.length ic, .slice bo bts.length bc] 25)) #[.int .i64 0, .int .i64 0, .int .i64 0, .slice none 0 0, .slice none 0 0] 25).alloc (.cells #[.int .i64 kd, .int .i64 ba, .int .i64 sq, .slice io its.length ic, .slice bo bts.length bc] 25)).alloc (.cells #[] 5)
  have h3 := (Bx.new ((w.alloc (.cells #[.int .i64 kd, .int .i64 ba, .int .i64 sq, .slice io its.length ic, .slice bo bts.length bc] 25)).alloc (.cells #[.int .i64 0, .int .i64 0, .int .i64 0, .slice none 0 0, .slice none 0 0] 25)) #[.int .i64 kd, .int .i64 ba, .int .i64 sq, .slice io its.length ic, .slice bo bts.length bc] 25).alloc (.cells #[] 5)
  simp only [heap_alloc] at h2 h3
  have hsz : ((((w.alloc (.cells #[.int .i64 kd, .int .i64 ba, .int .i64 sq, .slice io its.length ic, .slice bo bts.length bc] 25)).alloc (.cells #[.int .i64 0, .int .i64 0, .int .i64 0, .slice none 0 0, .slice none 0 0] 25)).alloc (.cells #[.int .i64 kd, .int .i64 ba, .int .i64 sq, .slice io its.length ic, .slice bo bts.length bc] 25)).alloc (.cells #[] 5)).heap.size = w.heap.size + 4 := by simp
  have HW := hide (And.intro hF (And.intro h1 (And.intro h2 (And.intro h3 hsz))))
  have HA := hide hA
  clear hA hi hF h1 h2 h3 hsz
  go_enter Tryz.func6, Tryz.ntmps6
  go_wp2_with (at_builtin; refine wpList_copy _ rfl (.tmp 6) (.tmp 8) 23 23 rfl 5 i0 Tryz.underlying23 Tryz.underlying23 (unhide HI).1 (unhide HI).2.1 (unhide HI).2.2.1 (unhide HI).2.2.2 rfl bo bc bts rfl (unhide HB) ?_)
  intro bo' bc' w1 gb hr1 hf1 hg1
  generalize hWX : ((((w.alloc (.cells #[.int .i64 kd, .int .i64 ba, .int .i64 sq, .slice io its.length ic, .slice bo bts.length bc] 25)).alloc (.cells #[.int .i64 0, .int .i64 0, .int .i64 0, .slice none 0 0, .slice none 0 0] 25)).alloc (.cells #[.int .i64 kd, .int .i64 ba, .int .i64 sq, .slice io its.length ic, .slice bo bts.length bc] 25)).alloc (.cells #[] 5)) = WX at *
  clear hWX
  have HC : Hid (CP w w.heap.size (w.heap.size + 1) (w.heap.size + 1 + 1) w1.heap.size #[.int .i64 kd, .int .i64 ba, .int .i64 sq, .slice io its.length ic, .slice bo bts.length bc] kd ba sq bts bo' bc' gb none 0 0 [] [] ((w1.setCell ⟨w.heap.size + 1 + 1, 4, none⟩ (.slice bo' bts.length bc')).setCell ⟨w.heap.size + 1 + 1, 3, none⟩ (.slice none 0 0))) := by
    obtain ⟨a1, a2, a3, a4, a5⟩ := unhide HW
    have hs1 := hf1.size
    have hs2 : Fr (fun k => k = w.heap.size + 1 + 1) w1 ((w1.setCell ⟨w.heap.size + 1 + 1, 4, none⟩ (.slice bo' bts.length bc')).setCell ⟨w.heap.size + 1 + 1, 3, none⟩ (.slice none 0 0)) := Fr.setCell (S := fun k => k = w.heap.size + 1 + 1) (Fr.setCell (S := fun k => k = w.heap.size + 1 + 1) (Fr.refl _ _) (p := ⟨w.heap.size + 1 + 1, 4, none⟩) (fun _ => rfl) _) (p := ⟨w.heap.size + 1 + 1, 3, none⟩) (fun _ => rfl) _
    refine hide ⟨(a1.trans hf1 (fun _ _ t => t)).trans hs2 (fun i hi t => by omega), ((a2.keep hf1).setOther (by omega) 4 _).setOther (by omega) 3 _, ((a3.keep hf1).setOther (by omega) 4 _).setOther (by omega) 3 _, by exact ((a4.keep hf1).setCell 4 _).setCell 3 _, Row.elsewhere hr1 (fun hc => hs2.block gb (Row.below (d := ⟨bo', bts.length, bc', gb⟩) hr1 hc) (fun t => by omega)), IL.nil _ _ _, ⟨rfl, rfl, rfl⟩, by omega, by simp, by omega, fun hc => Row.below (d := ⟨bo', bts.length, bc', gb⟩) hr1 hc⟩
  have f4 : w1.frozen? ⟨w.heap.size + 1 + 1, 4, none⟩ = false := ((unhide HW).2.2.2.1.keep hf1).frozen 4
  have c4 : w1.cell? ⟨w.heap.size + 1 + 1, 4, none⟩ = some (.slice bo bts.length bc) := ((unhide HW).2.2.2.1.keep hf1).cell 4
  have f3 : (w1.setCell ⟨w.heap.size + 1 + 1, 4, none⟩ (.slice bo' bts.length bc')).frozen? ⟨w.heap.size + 1 + 1, 3, none⟩ = false := (((unhide HW).2.2.2.1.keep hf1).setCell 4 _).frozen 3
  have c3 : (w1.setCell ⟨w.heap.size + 1 + 1, 4, none⟩ (.slice bo' bts.length bc')).cell? ⟨w.heap.size + 1 + 1, 3, none⟩ = some (.slice io its.length ic) := (((unhide HW).2.2.2.1.keep hf1).setCell 4 _).cell 3
  clear hr1 hf1 hg1 HW HB
  go_wp2
  clear f4 c4 f3 c3
  generalize ((w1.setCell ⟨w.heap.size + 1 + 1, 4, none⟩ (.slice bo' bts.length bc')).setCell ⟨w.heap.size + 1 + 1, 3, none⟩ (.slice none 0 0)) = W2 at *
  generalize w1.heap.size = M at *
  generalize w.heap.size + 1 + 1 = Bo at *
  generalize w.heap.size + 1 = Bz at *
  obtain ⟨B, hBe⟩ : ∃ B, w.heap.size = B := ⟨_, rfl⟩
  rw [hBe] at HC ⊢
  have HBE := hide hBe
  clear hBe
  obtain ⟨info, hinf, hzz⟩ := Option.map_eq_some_iff.1 infoB
  simp only [Prod.mk.injEq] at hzz
  have HINF := hide (And.intro hinf hzz)
  clear hinf hzz hz0 hz1 hz2
  go_loopw [4] (fun iv wr => ∃ (i : Nat) (io' : Option Addr) (ic' ib : Nat) (ds : List RD), i ≤ its.length ∧ iv = .int .i64 i ∧ Hid (CP w B Bz Bo M #[.int .i64 kd, .int .i64 ba, .int .i64 sq, .slice io its.length ic, .slice bo bts.length bc] kd ba sq bts bo' bc' gb io' ic' ib ds (its.take i) wr)) (fun iv _ => its.length - (intOf iv).toNat)
  case atStart => exact ⟨0, none, 0, 0, [], Nat.zero_le _, rfl, HC⟩
  case round =>
    obtain ⟨i, io', ic', ib, ds, hi, rfl, HK⟩ := hrel
    have c3 : wr.cell? ⟨B, 3, none⟩ = some (.slice io its.length ic) := (unhide HK).bf.cell 3
    by_cases hil : i < its.length
    · have hiI : (i : Int) < (its.length : Int) := by omega
      have hlen : (its.take i).length = i := by rw [List.length_take]; omega
      have o3 : wr.cell? ⟨Bo, 3, none⟩ = some (.slice io' i ic') := by have := (unhide HK).ot.cell 3; rw [hlen] at this; exact this
      have g3 : wr.frozen? ⟨Bo, 3, none⟩ = false := (unhide HK).ot.frozen 3
      have hAr := ((unhide HA).later (unhide HK).fr).items
      obtain ⟨bi, off, e, hc⟩ := hAr.cells (by show 0 < its.length; omega)
      obtain ⟨xo, xc, k1, k3⟩ := hc i hil
      subst e
      clear hc hAr
      have HTT : Hid (its.take (i + 1) = its.take i ++ [its[i]]) := hide (List.take_succ_eq_append_getElem hil)
      simp only at k1 k3
      generalize its[i] = x at *
      have hxs : x.length ≤ 140737488355328 := k3.2.2
      have HBT := hide (fun u (hu : Fr (fun _ => False) wr u) => k3.later hu)
      have HDL : Hid (ds.length = i) := hide (by rw [(unhide HK).il.n1]; exact hlen)
      have HDN : Hid ((its.take i).length = i) := hide hlen
      have HKZ := hide ((unhide HK).keep ((Fr.refl (fun _ => False) wr).alloc (.cells #[] 5)))
      have z3 : (wr.alloc (.cells #[] 5)).cell? ⟨B, 3, none⟩ = some (.slice (some ⟨bi, off, none⟩) its.length ic) := (unhide HKZ).bf.cell 3
      have zo : (wr.alloc (.cells #[] 5)).cell? ⟨Bo, 3, none⟩ = some (.slice io' i ic') := by have := (unhide HKZ).ot.cell 3; rw [hlen] at this; exact this
      have zk : (wr.alloc (.cells #[] 5)).cell? ⟨bi, off + i, none⟩ = some (.slice xo x.length xc) := (World.cell?_alloc_lt _ _ _ (World.block_lt_of_cell? _ _ k1)).trans k1
      clear k3 hlen
      go_wp2_with fail
      go_region_law (first | (refine step_copy rfl (.tmp 21) (.tmp 26) 23 23 rfl 5 i0 Tryz.underlying23 Tryz.underlying23 (unhide HI).1 (unhide HI).2.1 (unhide HI).2.2.1 (unhide HI).2.2.2 rfl xo xc x rfl (unhide HBT _ (((Fr.refl _ _).drew).alloc _)) ?_; intro xo8 xc8 w8 g8 r1 r2 r3; have HK8 := hide (((unhide HK).keep (((Fr.refl (fun _ => False) wr).drew).alloc (.cells #[] 5))).keep r2); have HR8 := hide (And.intro r1 r3); have o8 : w8.cell? ⟨Bo, 3, none⟩ = some (.slice io' i ic') := (by have := (unhide HK8).ot.cell 3; rw [unhide HDN] at this; exact this); have HKA := hide ((unhide HK8).keep ((Fr.refl (fun _ => False) w8).alloc (.cells #[.slice xo8 x.length xc8] 23))); have oA : (w8.alloc (.cells #[.slice xo8 x.length xc8] 23)).cell? ⟨Bo, 3, none⟩ = some (.slice io' i ic') := (by have := (unhide HKA).ot.cell 3; rw [unhide HDN] at this; exact this); have HSR := hide (src_one (P := Tryz.prog) w8 [.slice xo8 x.length xc8] 22 23 1 Tryz.underlying22 rfl (fun u hu => by simp only [List.mem_cons, List.not_mem_nil, or_false] at hu; subst hu; rfl) (W := w8.alloc (.cells #[.slice xo8 x.length xc8] 23)) (fun j => by rw [World.cell?_alloc_new]; simp)); clear r1 r2 r3) | (refine step_append_krow rfl (.tmp 20) (.tmp 28) 22 22 rfl 23 info _ 1 (by omega) Tryz.underlying22 (unhide HINF).1 (unhide HINF).2.1 rfl (unhide HINF).2.2.1 (ao := io') (cap := ic') (g := ib) (n := i) (vs := ds.map RD.val) rfl (unhide HKA).il.row (by rw [List.length_map, unhide HDL]; omega) _ [.slice xo8 x.length xc8] 1 rfl (unhide HSR) (by rw [(unhide HINF).2.2.2]; omega) (by omega) ?_; intro io9 ic9 w9 ib9 hkr hgr; have hne9 : ¬ (Bo = ib ∧ 0 < ic') := (fun t => by have := (unhide HKA).il.ib t.2; have := (unhide HKA).lo; omega); have o9 : w9.cell? ⟨Bo, 3, none⟩ = some (.slice io' i ic') := (hgr.frZ.cell (a := ⟨Bo, 3, none⟩) (World.block_lt_of_cell? _ _ oA) hne9).trans oA; have f9 : w9.frozen? ⟨Bo, 3, none⟩ = false := (hgr.frZ.frozen (a := ⟨Bo, 3, none⟩) (World.block_lt_of_cell? _ _ oA) hne9).trans ((unhide HKA).ot.frozen 3); have HG9 := hide (And.intro hkr hgr); clear hkr hgr))
      all_goals
        have HN : Hid (CP w B Bz Bo M #[.int .i64 kd, .int .i64 ba, .int .i64 sq, .slice (some ⟨bi, off, none⟩) its.length ic, .slice bo bts.length bc] kd ba sq bts bo' bc' gb io9 ic9 ib9 (ds ++ [⟨xo8, x.length, xc8, g8⟩]) (its.take (i + 1)) (w9.setCell ⟨Bo, 3, none⟩ (.slice io9 (i + 1) ic9))) := by
          obtain ⟨hkr, hgr⟩ := unhide HG9
          have h8 : wr.heap.size + 1 ≤ g8 := by
            have h := (unhide HR8).2
            have e1 : (wr.alloc (.cells #[] 5)).drew.heap.size = wr.heap.size + 1 := heap_alloc wr _
            omega
          have hM := (unhide HK).lo.2.2.1
          have := (unhide HKA).next (d := ⟨xo8, x.length, xc8, g8⟩) (x := x) hxs ((unhide HR8).1.frame ((Fr.refl (fun _ => False) _).alloc _) (fun t => t)) rfl (fun hc => ⟨by show M ≤ g8; omega, fun hc2 => by have := (unhide HK).il.row.lt (by omega) hc2; show ib ≠ g8; omega, fun e he hc2 => by have := ((unhide HK).il.in' he hc2).2.1; show e.g < g8; omega⟩) hkr hgr
          rw [unhide HDN] at this
          rw [unhide HTT]
          exact hide this
        clear HG9 HKA HK8 HR8 HSR o8 oA o9 f9 o3 g3 c3 k1 HBT z3 zo zk HKZ
        go_wp2
        exact ⟨⟨i + 1, io9, ic9, ib9, ds ++ [⟨xo8, x.length, xc8, g8⟩], by omega, by go_num, HN⟩, by simp [intOf]; omega⟩
    · obtain rfl : i = its.length := by omega
      have HKT := unhide HK
      rw [List.take_length] at HKT
      have hot := HKT.ot
      have hzz := HKT.bz
      have hlo := HKT.lo
      have o0 : wr.cell? ⟨Bo, 0, none⟩ = some (.int .i64 kd) := hot.cell 0
      have o1 : wr.cell? ⟨Bo, 1, none⟩ = some (.int .i64 ba) := hot.cell 1
      have o2 : wr.cell? ⟨Bo, 2, none⟩ = some (.int .i64 sq) := hot.cell 2
      have o3 : wr.cell? ⟨Bo, 3, none⟩ = some (.slice io' its.length ic') := hot.cell 3
      have o4 : wr.cell? ⟨Bo, 4, none⟩ = some (.slice bo' bts.length bc') := hot.cell 4
      have y0 : wr.cell? ⟨Bz, 0, none⟩ = some (.int .i64 0) := hzz.cell 0
      have y1 : wr.cell? ⟨Bz, 1, none⟩ = some (.int .i64 0) := hzz.cell 1
      have y2 : wr.cell? ⟨Bz, 2, none⟩ = some (.int .i64 0) := hzz.cell 2
      have y3 : wr.cell? ⟨Bz, 3, none⟩ = some (.slice none 0 0) := hzz.cell 3
      have y4 : wr.cell? ⟨Bz, 4, none⟩ = some (.slice none 0 0) := hzz.cell 4
      have y5 : ∀ i, wr.frozen? ⟨Bz, i, none⟩ = false := hzz.frozen
      have HFIN := hide (((((hzz.setCell 0 (.int .i64 kd)).setCell 1 (.int .i64 ba)).setCell 2 (.int .i64 sq)).setCell 3 (.slice io' its.length ic')).setCell 4 (.slice bo' bts.length bc'))
      have HFR : Hid (Fr (fun k => k = Bz) wr (((((wr.setCell ⟨Bz, 0, none⟩ (.int .i64 kd)).setCell ⟨Bz, 1, none⟩ (.int .i64 ba)).setCell ⟨Bz, 2, none⟩ (.int .i64 sq)).setCell ⟨Bz, 3, none⟩ (.slice io' its.length ic')).setCell ⟨Bz, 4, none⟩ (.slice bo' bts.length bc'))) := hide ((((((Fr.refl (fun k => k = Bz) wr).setCell (p := ⟨Bz, 0, none⟩) (fun _ => rfl) _).setCell (p := ⟨Bz, 1, none⟩) (fun _ => rfl) _).setCell (p := ⟨Bz, 2, none⟩) (fun _ => rfl) _).setCell (p := ⟨Bz, 3, none⟩) (fun _ => rfl) _).setCell (p := ⟨Bz, 4, none⟩) (fun _ => rfl) _)
      have HKE := hide HKT
      clear HKT hot hzz hlo HK
      go_wp2
      generalize ((((wr.setCell ⟨Bz, 0, none⟩ (.int .i64 kd)).setCell ⟨Bz, 1, none⟩ (.int .i64 ba)).setCell ⟨Bz, 2, none⟩ (.int .i64 sq)).setCell ⟨Bz, 3, none⟩ (.slice io' its.length ic')).setCell ⟨Bz, 4, none⟩ (.slice bo' bts.length bc') = V at *
      have x0 : V.cell? ⟨Bz, 0, none⟩ = some (.int .i64 kd) := (unhide HFIN).cell 0
      have x1 : V.cell? ⟨Bz, 1, none⟩ = some (.int .i64 ba) := (unhide HFIN).cell 1
      have x2 : V.cell? ⟨Bz, 2, none⟩ = some (.int .i64 sq) := (unhide HFIN).cell 2
      have x3 : V.cell? ⟨Bz, 3, none⟩ = some (.slice io' its.length ic') := (unhide HFIN).cell 3
      have x4 : V.cell? ⟨Bz, 4, none⟩ = some (.slice bo' bts.length bc') := (unhide HFIN).cell 4
      refine bodyPost_ret (v := .agg #[.int .i64 kd, .int .i64 ba, .int .i64 sq, .slice io' its.length ic', .slice bo' bts.length bc']) ?_ rfl ?_
      · simp [results, Tryz.results6, go_sem, x0, x1, x2, x3, x4]
      · have hk := unhide HKE
        have hlo := hk.lo
        exact ⟨io', ic', bo', bc', rfl, hide ⟨hk.fr.trans (unhide HFR) (fun i hi t => by omega), ⟨ib, ds, (hk.il.stay (unhide HFR) (fun i t => by omega)).low (by omega)⟩, gb, Row.elsewhere hk.row (fun hc => (unhide HFR).block gb (Row.below (d := ⟨bo', bts.length, bc', gb⟩) hk.row hc) (fun t => by omega)), by omega⟩⟩

end Go.Proofs.YtabhfeocelljdaaGreatDoor

