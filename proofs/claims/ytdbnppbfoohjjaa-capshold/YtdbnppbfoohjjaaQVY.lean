import Derived.Test.YtdbnppbfoohjjaaQY
import Derived.Test.YtdbnppbfoohjjaaQUX
import Derived.Test.YtdbnppbfoohjjaaQK1
import Derived.Deep.RegionHeld3
import Derived.Test.YtdbnppbfoohjjaaQU2
import Derived.Test.YtdbnppbfoohjjaaQVX
import Derived.Test.YtdbnppbfoohjjaaQRX
/- The document's own look at prices. -/
namespace Go.Proofs.Ytdbnppbfoohjjaa
open Go.RowKit

theorem info3 : (Try.prog.info? 3).map (fun i => (i.zero, i.size, i.bytes)) = some (some (.int .i64 0), 1, 8) := by kernel_rfl

theorem step_append_vrow {P : Program} {ops : Array Oper} {o : Oper} {a : Act} {w : World} {K : Act → World → Prop} {Q : Exit → Act → World → Prop} {E : Prop} (hgd : o.guard = none) (s x : Operand) (t tx : TypeId)
    (ho : o.op = .call { callee := .builtin .append, args := #[s, x], argTypes := #[t, tx] }) (e : TypeId) (i : TypeInfo) (z : Value) (ht : P.underlying t = some (.slice e)) (hi : P.info? e = some i) (hz : i.zero = some z) (hz1 : z.cells = #[z]) (hs1 : i.size = 1)
    {ao : Option Addr} {cap g n : Nat} {vs : List Value} (hv : a.eval s = .slice ao n cap) (h : VRow w ao cap g vs) (hn : vs.length = n) (xv : Value) (news : List Value) (m : Nat) (hm : news.length = m) (hx : a.eval x = xv) (hs : Src P 1 tx xv m news w) (hfit : (n + m) * i.bytes ≤ 140737488355328) (hf2 : n + m ≤ 140737488355328)
    (hK : ∀ ao' cap' w' g', VRow w' ao' cap' g' (vs ++ news) → Grew w g cap w' g' cap' → K (a.put o.dst (.slice ao' (n + m) cap')) w') : if Region.wanted o (yielded ops a.tmps) = true then Oper.wp P o a w K Q else E := by
  have hw : Region.wanted o (yielded ops a.tmps) = true := by simp [Region.wanted, hgd]
  rw [if_pos hw]
  obtain ⟨ao', cap', w', g', hrun, r1, r2⟩ := append_vrow (P := P) t tx o.type e i z ht hi hz hz1 hs1 h hn xv news m hm hs hfit hf2
  unfold Oper.wp
  simp [execOp, ho, resolve, invoke, builtin, hv, hx, hrun, Result.andThen]
  exact hK ao' cap' w' g' r1 r2

theorem Grew.cell {w w' : World} {g cap g' cap' : Nat} (h : Grew w g cap w' g' cap') {a : Addr} {v : Value} (hc : w.cell? a = some v) (hne : a.block ≠ g) : w'.cell? a = some v := by
  have hlt := World.block_lt_of_cell? _ _ hc
  rcases h with ⟨_, _, hF⟩ | ⟨_, _, hF⟩
  · exact (hF.cell hlt (fun t => hne t.1)).trans hc
  · exact (hF.cell hlt (fun t => t)).trans hc

def three (s : Spn) : List Int := [s.single, s.daily, s.weekly]
def allPrices (t : Tf) : List Int := [t.bus, t.busDaily, t.busWeekly, t.most, t.threshold] ++ t.sp.flatMap three

theorem allPrices_ok (t : Tf) : (allPrices t).all price = pricesOk t := by
  unfold allPrices pricesOk
  rw [List.all_append, List.all_flatMap]
  rfl

theorem three_length (l : List Spn) : (l.flatMap three).length = l.length * 3 := by
  induction l with
  | nil => rfl
  | cons b r ih => rw [List.flatMap_cons, List.length_append, ih, List.length_cons]; simp [three]; omega

theorem src_three (w : World) (a b c : Int) : Src Try.prog 1 44 (.slice (some ⟨w.heap.size, 0, none⟩) 3 3) 3 ([a, b, c].map (Value.int .i64)) (w.alloc (.cells #[.int .i64 a, .int .i64 b, .int .i64 c] 3)) := by
  refine Src.ofSlice _ Try.underlying44 ⟨w.heap.size, 0, none⟩ 3 3 _ rfl (fun j u hj => ?_) (fun u hu => ?_)
  · rw [Addr.add_lit, Nat.zero_add, World.cell?_alloc_new]
    match j, hj with
    | 0, hj => exact hj
    | 1, hj => exact hj
    | 2, hj => exact hj
    | j + 3, hj => simp at hj
  · simp only [List.map_cons, List.map_nil, List.mem_cons, List.not_mem_nil, or_false] at hu
    rcases hu with rfl | rfl | rfl <;> rfl

/-- What the first loop of prices holds. -/
structure PI (w : World) (A : Ad) (t : Tf) (i : Nat) (acc : List Int) (ao : Option Addr) (cap g : Nat) (wr : World) : Prop where
  ae : acc = [t.bus, t.busDaily, t.busWeekly, t.most, t.threshold] ++ (t.sp.take i).flatMap three
  row : VRow wr ao cap g (acc.map (Value.int .i64))
  fr : Fr (fun _ => False) w wr
  tb : TB wr w.heap.size A t
  g0 : w.heap.size < g
  c0 : 0 < cap

theorem PI.next {w : World} {A : Ad} {t : Tf} {i : Nat} {acc : List Int} {ao : Option Addr} {cap g : Nat} {wr wa w' : World} (h : PI w A t i acc ao cap g wr) (hi : i < t.sp.length) (hF : Fr (fun _ => False) wr wa) {ao' : Option Addr} {cap' g' : Nat}
    (hrow : VRow w' ao' cap' g' (acc.map (Value.int .i64) ++ (three t.sp[i]).map (Value.int .i64))) (hgr : Grew wa g cap w' g' cap') : PI w A t (i + 1) (acc ++ three t.sp[i]) ao' cap' g' w' := by
  have h1 := h.fr.trans hF (fun _ _ t => t)
  have hg := h.g0
  have hS : Fr (fun k => k = g) wa w' := by
    rcases hgr with ⟨_, _, hF⟩ | ⟨_, _, hF⟩
    · exact hF.mono (fun _ _ t => t.1)
    · exact hF.mono (fun _ _ t => t.elim)
  refine ⟨?_, by rw [List.map_append]; exact hrow, h1.trans hS (fun k hk e => by omega), (h.tb.keep hF).frame hS (by omega), ?_, ?_⟩
  · rw [h.ae, List.take_succ_eq_append_getElem hi, List.flatMap_append, List.append_assoc]
    simp
  · rcases hgr with ⟨e, _, _⟩ | ⟨e, _, _⟩
    · omega
    · have := (h.tb.keep hF).lt; omega
  · rcases hgr with ⟨_, e, _⟩ | ⟨_, e, _⟩
    · have := h.c0; omega
    · exact e

set_option maxHeartbeats 8000000 in
set_option maxRecDepth 100000 in
theorem rprices_any (w : World) (A : Ad) (t : Tf) (h : TAt w A t) : Calls Try.prog 74 #[tv A t] w fun e w' => e = .returned (.bool (pricesOk t)) ∧ Fr (fun _ => False) w w' := by
  obtain ⟨y, HY⟩ : ∃ y, Hid (pricesOk t = y) := ⟨_, rfl⟩
  rw [unhide HY]
  obtain ⟨info, hi, hzz⟩ := Option.map_eq_some_iff.1 info3
  simp only [Prod.mk.injEq] at hzz
  obtain ⟨hz0, hz1, hz2⟩ := hzz
  have HI0 := hide hi
  have H := hide h.sp
  have hl := h.lP
  have HP0 : Hid (PI w A t 0 [t.bus, t.busDaily, t.busWeekly, t.most, t.threshold] (some ⟨w.heap.size + 1, 0, none⟩) 5 (w.heap.size + 1) ((w.alloc (.cells (tc A t) 27)).alloc (.cells #[.int .i64 t.bus, .int .i64 t.busDaily, .int .i64 t.busWeekly, .int .i64 t.most, .int .i64 t.threshold] 3))) := by
    have e := heap_alloc w (.cells (tc A t) 27)
    refine hide ⟨by simp, ⟨by simp, by simp only [maxLen]; omega, fun _ => rfl, fun j hj => ?_, fun j hj => ?_, fun u hu => ?_⟩, ((Fr.refl _ w).alloc _).alloc _, (TB.new w A t).keep ((Fr.refl _ _).alloc _), by omega, by omega⟩
    · rw [← e, World.cell?_alloc_new]
      refine ⟨?_, World.frozen?_alloc_new _ _ _ _⟩
      match j, hj with
      | 0, _ => rfl
      | 1, _ => rfl
      | 2, _ => rfl
      | 3, _ => rfl
      | 4, _ => rfl
      | j + 5, hj => omega
    · rw [← e, World.cell?_alloc_new]
      match j, hj with
      | 0, _ => rfl
      | 1, _ => rfl
      | 2, _ => rfl
      | 3, _ => rfl
      | 4, _ => rfl
      | j + 5, hj => simp at hj; omega
    · obtain ⟨b, _, rfl⟩ := List.mem_map.1 hu
      rfl
  clear h hi
  unfold tv
  unfold tc at HP0
  unfold tc
  go_enter Try.func74, Try.ntmps74
  go_wp2
  generalize (w.alloc (.cells #[.slice A.aS t.st.length A.cS, .slice A.aP t.sp.length A.cP, .slice A.aB t.bd.length A.cB, .float .f64 t.off, .int .i64 t.bus, .int .i64 t.busDaily, .int .i64 t.busWeekly, .int .i64 t.hopper, .int .i64 t.most, .int .i64 t.longest, .int .i64 t.change, .int .i64 t.passback, .int .i64 t.delay, .int .i64 t.threshold] 27)).alloc (.cells #[.int .i64 t.bus, .int .i64 t.busDaily, .int .i64 t.busWeekly, .int .i64 t.most, .int .i64 t.threshold] 3) = wm at *
  obtain ⟨B, HBE⟩ : ∃ B, Hid (B = w.heap.size) := ⟨_, rfl⟩
  rw [← unhide HBE] at HP0
  rw [← unhide HBE]
  go_loopw [3, 4] (fun lv iv wr => ∃ (i : Nat) (acc : List Int) (ao : Option Addr) (cap g : Nat), i ≤ t.sp.length ∧ acc.length = 5 + 3 * i ∧ iv = .int .i64 i ∧ lv = .slice ao acc.length cap ∧ Hid (PI w A t i acc ao cap g wr)) (fun _ iv _ => t.sp.length - (intOf iv).toNat)
  case atStart => exact ⟨0, [t.bus, t.busDaily, t.busWeekly, t.most, t.threshold], some ⟨w.heap.size + 1, 0, none⟩, 5, w.heap.size + 1, Nat.zero_le _, rfl, rfl, by rw [unhide HBE]; rfl, hide (by have := unhide HP0; rw [unhide HBE] at this; exact this)⟩
  case round =>
    obtain ⟨i, acc, ao, cap, g, hin, hac, rfl, rfl, HI⟩ := hrel
    have cB : wr.cell? ⟨B, 1, none⟩ = some (.slice A.aP t.sp.length A.cP) := by rw [unhide HBE]; exact (unhide HI).tb.cell 1
    by_cases hil : i < t.sp.length
    · obtain ⟨b, off, eA, c0, c1, c2, c3, c4⟩ := ((unhide H).keep (unhide HI).fr).sp hil
      have hbg : b ≠ g := by
        have h1 := World.block_lt_of_cell? _ _ c2
        have h2 : b < w.heap.size := by
          obtain ⟨b', off', e', d0, _⟩ := (unhide H).sp hil
          rw [eA] at e'
          injection e' with e'
          injection e' with e1 _
          rw [e1]
          exact World.block_lt_of_cell? _ _ d0
        have := (unhide HI).g0
        omega
      have hBg : B ≠ g := by
        have := (unhide HI).g0
        rw [unhide HBE]
        omega
      have HNX := hide (fun (w' : World) (ao' : Option Addr) (cap' g' : Nat) => (unhide HI).next (w' := w') (ao' := ao') (cap' := cap') (g' := g') hil (((Fr.refl (fun _ => False) wr).drew).alloc (.cells #[.int .i64 t.sp[i].single, .int .i64 t.sp[i].daily, .int .i64 t.sp[i].weekly] 3)))
      have hth : three t.sp[i] = [t.sp[i].single, t.sp[i].daily, t.sp[i].weekly] := rfl
      rw [hth] at HNX
      generalize t.sp[i] = s at *
      obtain ⟨x0, x1, x2, x3, x4⟩ := s
      simp only at c2 c3 c4 HNX
      have hROW : VRow (wr.drew.alloc (.cells #[.int .i64 x2, .int .i64 x3, .int .i64 x4] 3)) ao cap g (acc.map (Value.int .i64)) := (unhide HI).row.stay (fun hc => by
        have hlt := (unhide HI).row.lt hc
        exact Below.heap_alloc wr.drew (.cells #[.int .i64 x2, .int .i64 x3, .int .i64 x4] 3) _ hlt)
      have hSRC := src_three wr.drew x2 x3 x4
      have HRS := hide (And.intro hROW hSRC)
      have hml : (acc.map (Value.int .i64)).length = acc.length := List.length_map _
      rw [eA] at cB
      rw [eA]
      have i0 : (0 : Int) ≤ (i : Int) := by omega
      have i1 : (i : Int) < (t.sp.length : Int) := by omega
      have hb1 : (acc.length + 3) * 8 ≤ 140737488355328 := by omega
      have HAC := hide hac
      clear hROW hSRC c0 c1 HI hth eA hac
      go_wp2_with fail
      go_region_held3 (fun w' => w'.cell? ⟨B, 1, none⟩ = some (.slice (some ⟨b, off, none⟩) t.sp.length A.cP) ∧ w'.cell? ⟨b, off + i * 5 + 2, none⟩ = some (.int .i64 x2) ∧ w'.cell? ⟨b, off + i * 5 + 3, none⟩ = some (.int .i64 x3) ∧ w'.cell? ⟨b, off + i * 5 + 4, none⟩ = some (.int .i64 x4))
        (first | go_keep | (go_split_ands; refine ⟨?_, ?_, ?_, ?_⟩ <;> exact hgr.cell (by assumption) (by assumption)))
        ((refine step_append_vrow (by rfl) (.tmp 25) (.tmp 44) 44 44 (by rfl) 3 info (.int .i64 0) Try.underlying44 (unhide HI0) hz0 rfl hz1 (ao := ao) (cap := cap) (g := g) (n := acc.length) (vs := acc.map (Value.int .i64)) (by rfl) (unhide HRS).1 hml _ ([x2, x3, x4].map (Value.int .i64)) 3 rfl (by rfl) (unhide HRS).2 (by rw [hz2]; exact hb1) (by omega) ?_; intro ao' cap' w3 g' hrow hgr))
      have HN := hide (unhide HNX w3 ao' cap' g' hrow hgr)
      clear HNX hrow hgr HRS cB c2 c3 c4
      go_wp2
      exact ⟨⟨i + 1, acc ++ [x2, x3, x4], ao', cap', g', by omega, by rw [List.length_append, unhide HAC]; simp; omega, by go_num, by rw [List.length_append]; rfl, hide (unhide HN)⟩, by simp [intOf]; omega⟩
    · obtain rfl : i = t.sp.length := by omega
      have HL : Hid (acc.all price = y) := hide (by rw [(unhide HI).ae, List.take_length, ← unhide HY, ← allPrices_ok]; rfl)
      have HR := hide (unhide HI).row
      have HF := hide (unhide HI).fr
      have HA := hide (And.intro ((unhide HI).row.ad (unhide HI).c0) hac)
      have hsm : acc.length ≤ 140737488355328 := by omega
      obtain ⟨n, hn⟩ : ∃ n, acc.length = n := ⟨_, rfl⟩
      have HNN := hide hn
      have hsm' : n ≤ 140737488355328 := by omega
      rw [hn]
      clear HI hac hn hsm
      go_wp2
      go_loopw [5, 6] (fun kv _ wq => ∃ (k : Nat), k ≤ n ∧ kv = .int .i64 k ∧ wq = wr ∧ Hid ((acc.drop k).all price = y)) (fun kv _ _ => n - (intOf kv).toNat)
      case atStart => exact ⟨0, Nat.zero_le _, rfl, rfl, hide (by simpa using unhide HL)⟩
      case round =>
        obtain ⟨k, hk, rfl, rfl, HK⟩ := hrel
        by_cases hkl : k < n
        · have hka : k < acc.length := by have := unhide HNN; omega
          have ck : wr.cell? ⟨g, k, none⟩ = some (.int .i64 acc[k]) := by
            have h1 := (unhide HR).cells k (by rw [List.length_map]; exact hka)
            rw [h1]
            simp
          have ht := unhide HK
          rw [List.drop_eq_getElem_cons hka, List.all_cons] at ht
          have HT := hide ht
          have eA := (unhide HA).1
          subst eA
          clear ht HK
          generalize acc[k] = x at *
          have R := rprice_any wr x
          cases hp : price x with
          | true =>
            have HT' : Hid ((acc.drop (k + 1)).all price = y) := hide (by rw [← unhide HT, hp]; rfl)
            rw [hp] at R
            clear hp HT
            go_wp2_with fail
            refine R.mono ?_
            rintro e w2 ⟨rfl, rfl⟩
            go_wp2
            exact ⟨⟨k + 1, by omega, by go_num, (by first | rfl | trivial), unhide HT'⟩, by simp [intOf]; omega⟩
          | false =>
            have HT' : Hid (y = false) := hide (by rw [← unhide HT, hp]; rfl)
            rw [hp] at R
            clear hp HT HY HL
            go_wp2_with fail
            refine R.mono ?_
            rintro e w2 ⟨rfl, rfl⟩
            go_wp2
            go_ret
            exact ⟨by rw [unhide HT']; rfl, unhide HF⟩
        · obtain rfl : k = n := by omega
          have HT' : Hid (y = true) := hide (by
            have h1 := unhide HK
            rw [List.drop_of_length_le (by have := unhide HNN; omega)] at h1
            rw [← h1]; rfl)
          clear HK HY HL HR
          go_wp2
          go_ret
          exact ⟨by rw [unhide HT']; rfl, unhide HF⟩

end Go.Proofs.Ytdbnppbfoohjjaa

/- The document's own look at what is wider. -/
namespace Go.Proofs.Ytdbnppbfoohjjaa
open Go.RowKit

theorem all_swap {α : Type} (l : List α) (f : α → α → Bool) : (l.all fun o => l.all fun s => f o s) = (l.all fun s => l.all fun o => f o s) := by
  rw [Bool.eq_iff_iff, List.all_eq_true, List.all_eq_true]
  constructor
  · intro h s hs
    rw [List.all_eq_true]
    exact fun o ho => List.all_eq_true.1 (h o ho) s hs
  · intro h o ho
    rw [List.all_eq_true]
    exact fun s hs => List.all_eq_true.1 (h s hs) o ho

theorem fits_cases (o s : Spn) : fits o s = (!(withinB s o && (decide (o.single < s.single) || decide (o.daily < s.daily) || decide (o.weekly < s.weekly)))) := by
  unfold fits noDearer
  cases withinB s o
  · rfl
  · by_cases h1 : s.single ≤ o.single <;> by_cases h2 : s.daily ≤ o.daily <;> by_cases h3 : s.weekly ≤ o.weekly <;> simp [h1, h2, h3] <;> omega

set_option maxHeartbeats 8000000 in
theorem rwider_any (w : World) (ao : Option Addr) (cap : Nat) (l : List Spn) (h : CAt w ao (spV l)) (hl : (l.length + 1) * 40 ≤ 140737488355328) :
    Calls Try.prog 75 #[.slice ao l.length cap] w fun e w' => e = .returned (.bool (withinOk l)) ∧ Fr (fun _ => False) w w' := by
  have H := hide h
  have HE : Hid (withinOk l = l.all fun s => l.all fun o => fits o s) := hide (all_swap l fits)
  generalize withinOk l = y at *
  clear h
  go_enter Try.func75, Try.ntmps75
  go_wp2
  go_loopw [3, 4, 5] (fun iv _ _ wr => ∃ (i : Nat), i ≤ l.length ∧ iv = .int .i64 i ∧ Hid (Fr (fun _ => False) w wr ∧ ((l.drop i).all fun s => l.all fun o => fits o s) = y)) (fun iv _ _ _ => l.length - (intOf iv).toNat)
  case atStart => exact ⟨0, Nat.zero_le _, rfl, Fr.refl _ _, by rw [unhide HE]; simp⟩
  case round =>
    obtain ⟨i, hi, rfl, HI⟩ := hrel
    by_cases hil : i < l.length
    · have ht := (unhide HI).2
      rw [List.drop_eq_getElem_cons hil, List.all_cons] at ht
      have HT := hide ht
      have HF := hide (unhide HI).1
      clear ht HI
      go_wp2
      go_loopw [4, 5] (fun kv _ wq => ∃ (k : Nat), k ≤ l.length ∧ kv = .int .i64 k ∧ Hid (Fr (fun _ => False) w wq ∧ ((l.drop k).all fun o => fits o l[i]) = (l.all fun o => fits o l[i]))) (fun kv _ _ => l.length - (intOf kv).toNat)
      case atStart => exact ⟨0, Nat.zero_le _, rfl, unhide HF, by simp⟩
      case round =>
        obtain ⟨k, hk, rfl, HK⟩ := hrel
        by_cases hkl : k < l.length
        · obtain ⟨b, off, rfl, c0, c1, c2, c3, c4⟩ := ((unhide H).keep (unhide HK).1).sp hil
          obtain ⟨b', off', eA, d0, d1, d2, d3, d4⟩ := ((unhide H).keep (unhide HK).1).sp hkl
          injection eA with eA
          injection eA with eA1 eA2
          subst eA1 eA2
          have hu := (unhide HK).2
          rw [List.drop_eq_getElem_cons hkl, List.all_cons] at hu
          have HU := hide hu
          have HF1 := hide (unhide HK).1
          clear hu HK HF
          generalize l[i] = s at *
          generalize l[k] = o at *
          have HS := hide (fits_cases o s)
          have RW := fun w => rWithin_any w s o
          generalize withinB s o = p at *
          obtain ⟨x0, x1, x2, x3, x4⟩ := s
          obtain ⟨y0, y1, y2, y3, y4⟩ := o
          simp only at HS c0 c1 c2 c3 c4 d0 d1 d2 d3 d4 RW
          go_wp2_with fail
          have X0 := fun d os => cell_regrown c0 d os
          have X1 := fun d os => cell_regrown c1 d os
          have X2 := fun d os => cell_regrown c2 d os
          have X3 := fun d os => cell_regrown c3 d os
          have X4 := fun d os => cell_regrown c4 d os
          have Y0 := fun d os => cell_regrown d0 d os
          have Y1 := fun d os => cell_regrown d1 d os
          have Y2 := fun d os => cell_regrown d2 d os
          have Y3 := fun d os => cell_regrown d3 d os
          have Y4 := fun d os => cell_regrown d4 d os
          have HC := hide (And.intro c2 (And.intro c3 (And.intro c4 (And.intro d2 (And.intro d3 d4)))))
          clear c0 c1 c2 c3 c4 d0 d1 d2 d3 d4
          refine wp_region_quiet_below (by kernel_rfl) (by kernel_rfl) ?_
          repeat (first | go_big_quiet_skip | (go_big_quiet_want; go_big_quiet_op; go_big_quiet_on))
          (go_big_quiet_want; go_big_quiet_op; go_big_quiet_call (exact Calls.regrown_of ((RW _).mono fun _ _ h => ⟨h.1, fr_below h.2⟩)))
          repeat (first | go_big_quiet_skip | (go_big_quiet_want; go_big_quiet_op; go_big_quiet_on))
          refine wpQuiet_nil ?_
          intro _ hw'
          obtain ⟨⟨dq, osq⟩, hw''⟩ := hw'
          subst hw''
          have hFq := below_fr (below_regrown wr dq osq)
          have HF2 := hide ((unhide HF1).trans hFq (fun _ _ t => t))
          obtain ⟨c2, c3, c4, d2, d3, d4⟩ := unhide HC
          have c2 := (hFq.cell (World.block_lt_of_cell? _ _ c2) (fun t => t)).trans c2
          have c3 := (hFq.cell (World.block_lt_of_cell? _ _ c3) (fun t => t)).trans c3
          have c4 := (hFq.cell (World.block_lt_of_cell? _ _ c4) (fun t => t)).trans c4
          have d2 := (hFq.cell (World.block_lt_of_cell? _ _ d2) (fun t => t)).trans d2
          have d3 := (hFq.cell (World.block_lt_of_cell? _ _ d3) (fun t => t)).trans d3
          have d4 := (hFq.cell (World.block_lt_of_cell? _ _ d4) (fun t => t)).trans d4
          simp only
          generalize Go.Sort.grow (redrawn wr dq) osq = wz at *
          clear hFq HC X0 X1 X2 X3 X4 Y0 Y1 Y2 Y3 Y4 RW HF1
          have HN : Hid ((y0 = y0 → fits ⟨y0, y1, y2, y3, y4⟩ ⟨x0, x1, x2, x3, x4⟩ = true) → ((l.drop (k + 1)).all fun o => fits o ⟨x0, x1, x2, x3, x4⟩) = (l.all fun o => fits o ⟨x0, x1, x2, x3, x4⟩)) := hide (fun hg => by have := unhide HU; rw [hg rfl] at this; simpa using this)
          have HB : Hid (fits ⟨y0, y1, y2, y3, y4⟩ ⟨x0, x1, x2, x3, x4⟩ = false → y = false) := hide (fun hg => by rw [← unhide HT, ← unhide HU, hg]; rfl)
          clear HU
          go_wp2_with fail
          refine wp_region_quiet_lit (by kernel_rfl) (by kernel_rfl) ?_
          cases p with
          | false =>
            repeat (go_big_quiet_step (fail))
            refine wpQuiet_nil ?_
            intro _ hw'
            obtain ⟨nq, hw''⟩ := hw'
            subst hw''
            have HV := hide (unhide HN (fun _ => by rw [unhide HS]; rfl))
            clear HN HB c2 c3 c4 d2 d3 d4
            go_wp2
            exact ⟨⟨k + 1, by omega, by go_num, (unhide HF2).drewN _, unhide HV⟩, by simp [intOf]; omega⟩
          | true =>
            repeat (go_big_quiet_step (fail))
            cases hd0 : decide (y2 < x2) with
            | true =>
              have e0 : y2 < x2 := of_decide_eq_true hd0
              clear hd0
              repeat (go_big_quiet_step (fail))
              refine wpQuiet_nil ?_
              intro _ hw'
              obtain ⟨nq, hw''⟩ := hw'
              subst hw''
              have HV := hide (unhide HB (by rw [unhide HS]; simp; omega))
              clear HN HB c2 c3 c4 d2 d3 d4
              go_wp2
              go_ret
              exact ⟨by rw [unhide HV]; rfl, (unhide HF2).drewN _⟩
            | false =>
              have e0 : ¬ y2 < x2 := of_decide_eq_false hd0
              clear hd0
              repeat (go_big_quiet_step (fail))
              cases hd1 : decide (y3 < x3) with
              | true =>
                have e1 : y3 < x3 := of_decide_eq_true hd1
                clear hd1
                repeat (go_big_quiet_step (fail))
                refine wpQuiet_nil ?_
                intro _ hw'
                obtain ⟨nq, hw''⟩ := hw'
                subst hw''
                have HV := hide (unhide HB (by rw [unhide HS]; simp; omega))
                clear HN HB c2 c3 c4 d2 d3 d4
                go_wp2
                go_ret
                exact ⟨by rw [unhide HV]; rfl, (unhide HF2).drewN _⟩
              | false =>
                have e1 : ¬ y3 < x3 := of_decide_eq_false hd1
                clear hd1
                repeat (go_big_quiet_step (fail))
                cases hd2 : decide (y4 < x4) with
                | true =>
                  have e2 : y4 < x4 := of_decide_eq_true hd2
                  clear hd2
                  repeat (go_big_quiet_step (fail))
                  refine wpQuiet_nil ?_
                  intro _ hw'
                  obtain ⟨nq, hw''⟩ := hw'
                  subst hw''
                  have HV := hide (unhide HB (by rw [unhide HS]; simp; omega))
                  clear HN HB c2 c3 c4 d2 d3 d4
                  go_wp2
                  go_ret
                  exact ⟨by rw [unhide HV]; rfl, (unhide HF2).drewN _⟩
                | false =>
                  have e2 : ¬ y4 < x4 := of_decide_eq_false hd2
                  clear hd2
                  repeat (go_big_quiet_step (fail))
                  refine wpQuiet_nil ?_
                  intro _ hw'
                  obtain ⟨nq, hw''⟩ := hw'
                  subst hw''
                  have HV := hide (unhide HN (fun _ => by rw [unhide HS]; simp; omega))
                  clear HN HB c2 c3 c4 d2 d3 d4
                  go_wp2
                  exact ⟨⟨k + 1, by omega, by go_num, (unhide HF2).drewN _, unhide HV⟩, by simp [intOf]; omega⟩
        · obtain rfl : k = l.length := by omega
          have HV : Hid (((l.drop (i + 1)).all fun s => l.all fun o => fits o s) = y) := hide (by
            have h2 := unhide HT
            have h3 := (unhide HK).2
            rw [List.drop_length] at h3
            rw [← h3] at h2
            simpa using h2)
          have HF2 := hide (unhide HK).1
          clear HK HT HF
          go_wp2
          exact ⟨⟨i + 1, by omega, by go_num, unhide HF2, unhide HV⟩, by simp [intOf]; omega⟩
    · obtain rfl : i = l.length := by omega
      have HT' : Hid (y = true) := hide (by rw [← (unhide HI).2, List.drop_length]; rfl)
      have HF := hide (unhide HI).1
      clear HI H HE
      go_wp2
      go_ret
      exact ⟨by rw [unhide HT']; rfl, unhide HF⟩

end Go.Proofs.Ytdbnppbfoohjjaa

/- The document's own Right. -/
namespace Go.Proofs.Ytdbnppbfoohjjaa
open Go.RowKit

theorem minutes_parts (t : Tf) : minutesOk t = ((decide (1 ≤ t.longest) && decide (t.longest ≤ 1440)) && (decide (0 ≤ t.hopper) && decide (t.hopper ≤ 1440)) && (decide (0 ≤ t.change) && decide (t.change ≤ 1440)) && (decide (0 ≤ t.passback) && decide (t.passback ≤ 1440)) && (decide (0 ≤ t.delay) && decide (t.delay ≤ 1440))) := by
  rw [Bool.eq_iff_iff]
  simp [minutesOk, minOk]
  omega

set_option maxHeartbeats 8000000 in
set_option maxRecDepth 100000 in
theorem rright_walk (w : World) (A : Ad) (t : Tf) (h : TAt w A t) : Calls Try.prog 48 #[tv A t] w fun e w' => e = .returned (.int .i64 (rightE t)) ∧ Fr (fun _ => False) w w' := by
  obtain ⟨Y, HY⟩ : ∃ Y, Hid (rightE t = Y) := ⟨_, rfl⟩
  rw [unhide HY]
  obtain ⟨B, hB⟩ : ∃ B, w.heap.size = B := ⟨_, rfl⟩
  have HB0 : Hid (TB (w.alloc (.cells (tc A t) 27)) B A t) := hide (by rw [← hB]; exact TB.new w A t)
  have HF0 := hide ((Fr.refl (fun _ => False) w).alloc (.cells (tc A t) 27))
  have H := hide h
  have hoff := h.off
  obtain ⟨w0, hw0⟩ : ∃ w0, w0 = w.alloc (.cells (tc A t) 27) := ⟨_, rfl⟩
  rw [← hw0] at HB0 HF0
  clear h
  unfold tv
  cases hb1 : stationsOk t.st with
  | false =>
    have R := rstations_any w0 A.aS A.cS t.st ((unhide H).st.keep (unhide HF0)) (unhide H).lS
    rw [hb1] at R
    have c0 : w0.cell? ⟨B, 0, none⟩ = some (.slice A.aS t.st.length A.cS) := (unhide HB0).cell 0
    go_enter Try.func48, Try.ntmps48
    rw [hw0] at c0
    go_wp2_with fail
    rw [← hw0]
    refine R.mono ?_
    rintro e w1 ⟨rfl, hF⟩
    have HB1 := hide ((unhide HB0).keep hF)
    have HF1 := hide ((unhide HF0).trans hF (fun _ _ t => t))
    clear R hF HB0 HF0 c0
    clear hw0
    clear HB1
    have HR : Hid (Y = 70) := hide (by rw [← unhide HY]; simp [rightE, hb1])
    clear HY H hb1
    go_wp2
    go_ret
    exact ⟨by rw [unhide HR]; rfl, unhide HF1⟩
  | true =>
    have R := rstations_any w0 A.aS A.cS t.st ((unhide H).st.keep (unhide HF0)) (unhide H).lS
    rw [hb1] at R
    obtain ⟨Z, hZ⟩ : ∃ Z : Nat, zmax 1 t.st = (Z : Int) := ⟨(zmax 1 t.st).toNat, by have := zmax_bound t.st 0 1 (by have h1 := hb1; rw [stationsOk, Bool.and_eq_true] at h1; exact h1.2) (by omega) (by omega); omega⟩
    have hZ9 : Z ≤ 9 := by have := zmax_bound t.st 0 1 (by have h1 := hb1; rw [stationsOk, Bool.and_eq_true] at h1; exact h1.2) (by omega) (by omega); omega
    rw [hZ] at R
    have c0 : w0.cell? ⟨B, 0, none⟩ = some (.slice A.aS t.st.length A.cS) := (unhide HB0).cell 0
    go_enter Try.func48, Try.ntmps48
    rw [hw0] at c0
    go_wp2_with fail
    rw [← hw0]
    refine R.mono ?_
    rintro e w1 ⟨rfl, hF⟩
    have HB1 := hide ((unhide HB0).keep hF)
    have HF1 := hide ((unhide HF0).trans hF (fun _ _ t => t))
    clear R hF HB0 HF0 c0
    clear hw0
    cases hb2 : zonesOk t with
    | false =>
      have R := rspans_any w1 A.aP A.cP t.sp ((unhide H).sp.keep (unhide HF1)) (unhide H).lP Z hZ9
      rw [show sameAll t.sp (prs 1 Z) = false by rw [← hb2, zonesOk, hZ]; rfl] at R
      have c1 : w1.cell? ⟨B, 1, none⟩ = some (.slice A.aP t.sp.length A.cP) := (unhide HB1).cell 1
      go_wp2_with fail
      refine R.mono ?_
      rintro e w2 ⟨rfl, rfl⟩
      have HB2 := HB1
      have HF2 := HF1
      clear R HB1 HF1 c1
      clear HB2
      have HR : Hid (Y = 70) := hide (by rw [← unhide HY]; simp [rightE, hb1, hb2])
      clear HY H hb1 hb2
      go_wp2
      go_ret
      exact ⟨by rw [unhide HR]; rfl, unhide HF2⟩
    | true =>
      have R := rspans_any w1 A.aP A.cP t.sp ((unhide H).sp.keep (unhide HF1)) (unhide H).lP Z hZ9
      rw [show sameAll t.sp (prs 1 Z) = true by rw [← hb2, zonesOk, hZ]; rfl] at R
      have c1 : w1.cell? ⟨B, 1, none⟩ = some (.slice A.aP t.sp.length A.cP) := (unhide HB1).cell 1
      go_wp2_with fail
      refine R.mono ?_
      rintro e w2 ⟨rfl, rfl⟩
      have HB2 := HB1
      have HF2 := HF1
      clear R HB1 HF1 c1
      cases hb3 : pricesOk t with
      | false =>
        have R := rprices_any w2 A t ((unhide H).keep (unhide HF2))
        rw [hb3] at R
        go_wp2_with (refine wpList_load_tariff rfl (.tmp 1) rfl (g := B) (A := A) (t := t) rfl (unhide HB2) ?_)
        refine R.mono ?_
        rintro e w3 ⟨rfl, hF⟩
        have HB3 := hide ((unhide HB2).keep hF)
        have HF3 := hide ((unhide HF2).trans hF (fun _ _ t => t))
        clear R hF HB2 HF2
        clear HB3
        have HR : Hid (Y = 50) := hide (by rw [← unhide HY]; simp [rightE, hb1, hb2, hb3])
        clear HY H hb1 hb2 hb3
        go_wp2
        go_ret
        exact ⟨by rw [unhide HR]; rfl, unhide HF3⟩
      | true =>
        have R := rprices_any w2 A t ((unhide H).keep (unhide HF2))
        rw [hb3] at R
        go_wp2_with (refine wpList_load_tariff rfl (.tmp 1) rfl (g := B) (A := A) (t := t) rfl (unhide HB2) ?_)
        refine R.mono ?_
        rintro e w3 ⟨rfl, hF⟩
        have HB3 := hide ((unhide HB2).keep hF)
        have HF3 := hide ((unhide HF2).trans hF (fun _ _ t => t))
        clear R hF HB2 HF2
        cases hb4 : withinOk t.sp with
        | false =>
          have R := rwider_any w3 A.aP A.cP t.sp ((unhide H).sp.keep (unhide HF3)) (unhide H).lP
          rw [hb4] at R
          have c1 : w3.cell? ⟨B, 1, none⟩ = some (.slice A.aP t.sp.length A.cP) := (unhide HB3).cell 1
          go_wp2_with fail
          refine R.mono ?_
          rintro e w4 ⟨rfl, hF⟩
          have HB4 := hide ((unhide HB3).keep hF)
          have HF4 := hide ((unhide HF3).trans hF (fun _ _ t => t))
          clear R hF HB3 HF3 c1
          have R := rbands_any w4 A.aB A.cB t.bd ((unhide H).bd.keep (unhide HF4)) (unhide H).lB
          generalize bandsOk t.bd = q at R
          have c2 : w4.cell? ⟨B, 2, none⟩ = some (.slice A.aB t.bd.length A.cB) := (unhide HB4).cell 2
          go_wp2_with fail
          refine R.mono ?_
          rintro e w5 ⟨rfl, hF⟩
          have HF5 := hide ((unhide HF4).trans hF (fun _ _ t => t))
          clear R hF HB4 HF4 c2
          have HR : Hid (Y = 70) := hide (by rw [← unhide HY]; simp [rightE, hb1, hb2, hb3, hb4])
          clear HY H hb1 hb2 hb3 hb4
          go_wp2
          go_ret
          exact ⟨by rw [unhide HR]; rfl, unhide HF5⟩
        | true =>
          have R := rwider_any w3 A.aP A.cP t.sp ((unhide H).sp.keep (unhide HF3)) (unhide H).lP
          rw [hb4] at R
          have c1 : w3.cell? ⟨B, 1, none⟩ = some (.slice A.aP t.sp.length A.cP) := (unhide HB3).cell 1
          go_wp2_with fail
          refine R.mono ?_
          rintro e w4 ⟨rfl, hF⟩
          have HB4 := hide ((unhide HB3).keep hF)
          have HF4 := hide ((unhide HF3).trans hF (fun _ _ t => t))
          clear R hF HB3 HF3 c1
          cases hb5 : bandsOk t.bd with
          | false =>
            have R := rbands_any w4 A.aB A.cB t.bd ((unhide H).bd.keep (unhide HF4)) (unhide H).lB
            rw [hb5] at R
            have c2 : w4.cell? ⟨B, 2, none⟩ = some (.slice A.aB t.bd.length A.cB) := (unhide HB4).cell 2
            go_wp2_with fail
            refine R.mono ?_
            rintro e w5 ⟨rfl, hF⟩
            have HB5 := hide ((unhide HB4).keep hF)
            have HF5 := hide ((unhide HF4).trans hF (fun _ _ t => t))
            clear R hF HB4 HF4 c2
            clear HB5
            have HR : Hid (Y = 70) := hide (by rw [← unhide HY]; simp [rightE, hb1, hb2, hb3, hb4, hb5])
            clear HY H hb1 hb2 hb3 hb4 hb5
            go_wp2
            go_ret
            exact ⟨by rw [unhide HR]; rfl, unhide HF5⟩
          | true =>
            have R := rbands_any w4 A.aB A.cB t.bd ((unhide H).bd.keep (unhide HF4)) (unhide H).lB
            rw [hb5] at R
            have c2 : w4.cell? ⟨B, 2, none⟩ = some (.slice A.aB t.bd.length A.cB) := (unhide HB4).cell 2
            go_wp2_with fail
            refine R.mono ?_
            rintro e w5 ⟨rfl, hF⟩
            have HB5 := hide ((unhide HB4).keep hF)
            have HF5 := hide ((unhide HF4).trans hF (fun _ _ t => t))
            clear R hF HB4 HF4 c2
            cases hb6 : rate t.off with
            | false =>
              have R := rrate_any w5 t.off hoff
              rw [hb6] at R
              have c3 : w5.cell? ⟨B, 3, none⟩ = some (.float .f64 t.off) := (unhide HB5).cell 3
              go_wp2_with fail
              refine R.mono ?_
              rintro e w6 ⟨rfl, rfl⟩
              have HB6 := HB5
              have HF6 := HF5
              clear R HB5 HF5 c3
              clear HB6
              have HR : Hid (Y = 51) := hide (by rw [← unhide HY]; simp [rightE, hb1, hb2, hb3, hb4, hb5, hb6])
              clear HY H hb1 hb2 hb3 hb4 hb5 hb6
              go_wp2
              go_ret
              exact ⟨by rw [unhide HR]; rfl, unhide HF6⟩
            | true =>
              have R := rrate_any w5 t.off hoff
              rw [hb6] at R
              have c3 : w5.cell? ⟨B, 3, none⟩ = some (.float .f64 t.off) := (unhide HB5).cell 3
              go_wp2_with fail
              refine R.mono ?_
              rintro e w6 ⟨rfl, rfl⟩
              have HB6 := HB5
              have HF6 := HF5
              clear R HB5 HF5 c3
              have HM := hide (minutes_parts t)
              have c9 : w6.cell? ⟨B, 9, none⟩ = some (.int .i64 t.longest) := (unhide HB6).cell 9
              have c7 : w6.cell? ⟨B, 7, none⟩ = some (.int .i64 t.hopper) := (unhide HB6).cell 7
              have c10 : w6.cell? ⟨B, 10, none⟩ = some (.int .i64 t.change) := (unhide HB6).cell 10
              have c11 : w6.cell? ⟨B, 11, none⟩ = some (.int .i64 t.passback) := (unhide HB6).cell 11
              have c12 : w6.cell? ⟨B, 12, none⟩ = some (.int .i64 t.delay) := (unhide HB6).cell 12
              have HFz := HF6
              clear HB6 HF6 H hoff
              have R0 := fun w => rminutes_any w t.longest 1
              generalize (decide (1 ≤ t.longest) && decide (t.longest ≤ 1440)) = m0 at R0 HM
              have R1 := fun w => rminutes_any w t.hopper 0
              generalize (decide (0 ≤ t.hopper) && decide (t.hopper ≤ 1440)) = m1 at R1 HM
              have R2 := fun w => rminutes_any w t.change 0
              generalize (decide (0 ≤ t.change) && decide (t.change ≤ 1440)) = m2 at R2 HM
              have R3 := fun w => rminutes_any w t.passback 0
              generalize (decide (0 ≤ t.passback) && decide (t.passback ≤ 1440)) = m3 at R3 HM
              have R4 := fun w => rminutes_any w t.delay 0
              generalize (decide (0 ≤ t.delay) && decide (t.delay ≤ 1440)) = m4 at R4 HM
              have HRT : Hid (Y = if minutesOk t = true then 0 else 70) := hide (by rw [← unhide HY]; simp [rightE, hb1, hb2, hb3, hb4, hb5, hb6])
              rw [unhide HM] at HRT
              clear HY HM hb1 hb2 hb3 hb4 hb5 hb6 hZ hZ9
              cases m0 with
              | false =>
                have HR : Hid (Y = 70) := hide (by rw [unhide HRT]; simp)
                clear HRT
                go_wp2_with fail
                refine (R0 _).mono ?_
                rintro e w7 ⟨rfl, rfl⟩
                go_wp2
                go_ret
                exact ⟨by rw [unhide HR]; rfl, unhide HFz⟩
              | true =>
                cases m1 with
                | false =>
                  have HR : Hid (Y = 70) := hide (by rw [unhide HRT]; simp)
                  clear HRT
                  go_wp2_with fail
                  refine (R0 _).mono ?_
                  rintro e w7 ⟨rfl, rfl⟩
                  go_wp2_with fail
                  refine (R1 _).mono ?_
                  rintro e w8 ⟨rfl, rfl⟩
                  go_wp2
                  go_ret
                  exact ⟨by rw [unhide HR]; rfl, unhide HFz⟩
                | true =>
                  cases m2 with
                  | false =>
                    have HR : Hid (Y = 70) := hide (by rw [unhide HRT]; simp)
                    clear HRT
                    go_wp2_with fail
                    refine (R0 _).mono ?_
                    rintro e w7 ⟨rfl, rfl⟩
                    go_wp2_with fail
                    refine (R1 _).mono ?_
                    rintro e w8 ⟨rfl, rfl⟩
                    go_wp2_with fail
                    refine (R2 _).mono ?_
                    rintro e w9 ⟨rfl, rfl⟩
                    go_wp2
                    go_ret
                    exact ⟨by rw [unhide HR]; rfl, unhide HFz⟩
                  | true =>
                    cases m3 with
                    | false =>
                      have HR : Hid (Y = 70) := hide (by rw [unhide HRT]; simp)
                      clear HRT
                      go_wp2_with fail
                      refine (R0 _).mono ?_
                      rintro e w7 ⟨rfl, rfl⟩
                      go_wp2_with fail
                      refine (R1 _).mono ?_
                      rintro e w8 ⟨rfl, rfl⟩
                      go_wp2_with fail
                      refine (R2 _).mono ?_
                      rintro e w9 ⟨rfl, rfl⟩
                      go_wp2_with fail
                      refine (R3 _).mono ?_
                      rintro e w10 ⟨rfl, rfl⟩
                      go_wp2
                      go_ret
                      exact ⟨by rw [unhide HR]; rfl, unhide HFz⟩
                    | true =>
                      cases m4 with
                      | false =>
                        have HR : Hid (Y = 70) := hide (by rw [unhide HRT]; simp)
                        clear HRT
                        go_wp2_with fail
                        refine (R0 _).mono ?_
                        rintro e w7 ⟨rfl, rfl⟩
                        go_wp2_with fail
                        refine (R1 _).mono ?_
                        rintro e w8 ⟨rfl, rfl⟩
                        go_wp2_with fail
                        refine (R2 _).mono ?_
                        rintro e w9 ⟨rfl, rfl⟩
                        go_wp2_with fail
                        refine (R3 _).mono ?_
                        rintro e w10 ⟨rfl, rfl⟩
                        go_wp2_with fail
                        refine (R4 _).mono ?_
                        rintro e w11 ⟨rfl, rfl⟩
                        go_wp2
                        go_ret
                        exact ⟨by rw [unhide HR]; rfl, unhide HFz⟩
                      | true =>
                        have HR : Hid (Y = 0) := hide (by rw [unhide HRT]; simp)
                        clear HRT
                        go_wp2_with fail
                        refine (R0 _).mono ?_
                        rintro e w7 ⟨rfl, rfl⟩
                        go_wp2_with fail
                        refine (R1 _).mono ?_
                        rintro e w8 ⟨rfl, rfl⟩
                        go_wp2_with fail
                        refine (R2 _).mono ?_
                        rintro e w9 ⟨rfl, rfl⟩
                        go_wp2_with fail
                        refine (R3 _).mono ?_
                        rintro e w10 ⟨rfl, rfl⟩
                        go_wp2_with fail
                        refine (R4 _).mono ?_
                        rintro e w11 ⟨rfl, rfl⟩
                        go_wp2
                        go_ret
                        exact ⟨by rw [unhide HR]; rfl, unhide HFz⟩

end Go.Proofs.Ytdbnppbfoohjjaa

