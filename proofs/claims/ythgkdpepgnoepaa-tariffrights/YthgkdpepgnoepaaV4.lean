/- The document's own look at prices. -/
import Derived.Test.YthgkdpepgnoepaaT4
import Derived.Test.YthgkdpepgnoepaaU0
import Derived.Test.YthgkdpepgnoepaaK1
import Derived.Deep.RegionHeld3
namespace Go.Proofs.Ythgkdpepgnoepaa
open Go.RowKit

theorem info3 : (Try.prog.info? 3).map (fun i => (i.zero, i.size, i.bytes)) = some (some (.int .i64 0), 1, 8) := by kernel_rfl

theorem step_append_vrow {P : Program} {ops : Array Oper} {o : Oper} {a : Act} {w : World} {K : Act → World → Prop} {Q : Exit → Act → World → Prop} {E : Prop} (hgd : o.guard = none) (s x : Operand) (t tx : TypeId)
    (ho : o.op = .call { callee := .builtin .append, args := #[s, x], argTypes := #[t, tx] }) (e : TypeId) (i : TypeInfo) (z : Value) (ht : P.underlying t = some (.slice e)) (hi : P.info? e = some i) (hz : i.zero = some z) (hz1 : z.cells = #[z]) (hs1 : i.size = 1)
    {ao : Option Addr} {cap g n : Nat} {vs : List Value} (hv : a.eval s = .slice ao n cap) (h : VRow w ao cap g vs) (hn : vs.length = n) (xv : Value) (news : List Value) (m : Nat) (hm : news.length = m) (hx : a.eval x = xv) (hs : Src P 1 tx xv m news w) (hfit : (n + m) * i.bytes ≤ 140737488355328) (hf2 : n + m ≤ 140737488355328)
    (hK : ∀ ao' cap' w' g', VRow w' ao' cap' g' (vs ++ news) → Grew w g cap w' g' cap' → K (a.put o.dst (.slice ao' (n + m) cap')) w') : if Region.wanted o (yielded ops a.tmps) = true then Oper.wp P o a w K Q else E := by
  have hw : Region.wanted o (yielded ops a.tmps) = true := by simp [Region.wanted, hgd]
  rw [if_pos hw]
  obtain ⟨ao', cap', w', g', hrun, r1, r2⟩ := append_vrow (P := P) t tx o.type e i z ht hi hz hz1 hs1 h hn xv news m hm hs hfit hf2
  unfold Oper.wp
  simp [execOp, ho, resolve, invoke, builtin, hv, hx, hrun, Result.andThen]
  exact hK ao' cap' w' g' r1 r2

theorem Grew.cell {w w' : World} {g cap g' cap' : Nat} (h : Grew w g cap w' g' cap') {a : Addr} {v : Value} (hc : w.cell? a = some v) (hne : a.block ≠ g) : w'.cell? a = some v := by
  have hlt := World.block_lt_of_cell? _ _ hc
  rcases h with ⟨_, _, hF⟩ | ⟨_, _, hF⟩
  · exact (hF.cell hlt (fun t => hne t.1)).trans hc
  · exact (hF.cell hlt (fun t => t)).trans hc

def three (s : Spn) : List Int := [s.single, s.daily, s.weekly]
def allPrices (t : Tf) : List Int := [t.bus, t.busDaily, t.busWeekly, t.most, t.threshold] ++ t.sp.flatMap three

theorem allPrices_ok (t : Tf) : (allPrices t).all price = pricesOk t := by
  unfold allPrices pricesOk
  rw [List.all_append, List.all_flatMap]
  rfl

theorem three_length (l : List Spn) : (l.flatMap three).length = l.length * 3 := by
  induction l with
  | nil => rfl
  | cons b r ih => rw [List.flatMap_cons, List.length_append, ih, List.length_cons]; simp [three]; omega

theorem src_three (w : World) (a b c : Int) : Src Try.prog 1 81 (.slice (some ⟨w.heap.size, 0, none⟩) 3 3) 3 ([a, b, c].map (Value.int .i64)) (w.alloc (.cells #[.int .i64 a, .int .i64 b, .int .i64 c] 3)) := by
  refine Src.ofSlice _ Try.underlying81 ⟨w.heap.size, 0, none⟩ 3 3 _ rfl (fun j u hj => ?_) (fun u hu => ?_)
  · rw [Addr.add_lit, Nat.zero_add, World.cell?_alloc_new]
    match j, hj with
    | 0, hj => exact hj
    | 1, hj => exact hj
    | 2, hj => exact hj
    | j + 3, hj => simp at hj
  · simp only [List.map_cons, List.map_nil, List.mem_cons, List.not_mem_nil, or_false] at hu
    rcases hu with rfl | rfl | rfl <;> rfl

/-- What the first loop of prices holds. -/
structure PI (w : World) (A : Ad) (t : Tf) (i : Nat) (acc : List Int) (ao : Option Addr) (cap g : Nat) (wr : World) : Prop where
  ae : acc = [t.bus, t.busDaily, t.busWeekly, t.most, t.threshold] ++ (t.sp.take i).flatMap three
  row : VRow wr ao cap g (acc.map (Value.int .i64))
  fr : Fr (fun _ => False) w wr
  tb : TB wr w.heap.size A t
  g0 : w.heap.size < g
  c0 : 0 < cap

theorem PI.next {w : World} {A : Ad} {t : Tf} {i : Nat} {acc : List Int} {ao : Option Addr} {cap g : Nat} {wr wa w' : World} (h : PI w A t i acc ao cap g wr) (hi : i < t.sp.length) (hF : Fr (fun _ => False) wr wa) {ao' : Option Addr} {cap' g' : Nat}
    (hrow : VRow w' ao' cap' g' (acc.map (Value.int .i64) ++ (three t.sp[i]).map (Value.int .i64))) (hgr : Grew wa g cap w' g' cap') : PI w A t (i + 1) (acc ++ three t.sp[i]) ao' cap' g' w' := by
  have h1 := h.fr.trans hF (fun _ _ t => t)
  have hg := h.g0
  have hS : Fr (fun k => k = g) wa w' := by
    rcases hgr with ⟨_, _, hF⟩ | ⟨_, _, hF⟩
    · exact hF.mono (fun _ _ t => t.1)
    · exact hF.mono (fun _ _ t => t.elim)
  refine ⟨?_, by rw [List.map_append]; exact hrow, h1.trans hS (fun k hk e => by omega), (h.tb.keep hF).frame hS (by omega), ?_, ?_⟩
  · rw [h.ae, List.take_succ_eq_append_getElem hi, List.flatMap_append, List.append_assoc]
    simp
  · rcases hgr with ⟨e, _, _⟩ | ⟨e, _, _⟩
    · omega
    · have := (h.tb.keep hF).lt; omega
  · rcases hgr with ⟨_, e, _⟩ | ⟨_, e, _⟩
    · have := h.c0; omega
    · exact e

set_option maxHeartbeats 8000000 in
set_option maxRecDepth 100000 in
theorem rprices_any (w : World) (A : Ad) (t : Tf) (h : TAt w A t) : Calls Try.prog 33 #[tv A t] w fun e w' => e = .returned (.bool (pricesOk t)) ∧ Fr (fun _ => False) w w' := by
  obtain ⟨y, HY⟩ : ∃ y, Hid (pricesOk t = y) := ⟨_, rfl⟩
  rw [unhide HY]
  obtain ⟨info, hi, hzz⟩ := Option.map_eq_some_iff.1 info3
  simp only [Prod.mk.injEq] at hzz
  obtain ⟨hz0, hz1, hz2⟩ := hzz
  have HI0 := hide hi
  have H := hide h.sp
  have hl := h.lP
  have HP0 : Hid (PI w A t 0 [t.bus, t.busDaily, t.busWeekly, t.most, t.threshold] (some ⟨w.heap.size + 1, 0, none⟩) 5 (w.heap.size + 1) ((w.alloc (.cells (tc A t) 27)).alloc (.cells #[.int .i64 t.bus, .int .i64 t.busDaily, .int .i64 t.busWeekly, .int .i64 t.most, .int .i64 t.threshold] 3))) := by
    have e := heap_alloc w (.cells (tc A t) 27)
    refine hide ⟨by simp, ⟨by simp, by simp only [maxLen]; omega, fun _ => rfl, fun j hj => ?_, fun j hj => ?_, fun u hu => ?_⟩, ((Fr.refl _ w).alloc _).alloc _, (TB.new w A t).keep ((Fr.refl _ _).alloc _), by omega, by omega⟩
    · rw [← e, World.cell?_alloc_new]
      refine ⟨?_, World.frozen?_alloc_new _ _ _ _⟩
      match j, hj with
      | 0, _ => rfl
      | 1, _ => rfl
      | 2, _ => rfl
      | 3, _ => rfl
      | 4, _ => rfl
      | j + 5, hj => omega
    · rw [← e, World.cell?_alloc_new]
      match j, hj with
      | 0, _ => rfl
      | 1, _ => rfl
      | 2, _ => rfl
      | 3, _ => rfl
      | 4, _ => rfl
      | j + 5, hj => simp at hj; omega
    · obtain ⟨b, _, rfl⟩ := List.mem_map.1 hu
      rfl
  clear h hi
  unfold tv
  unfold tc at HP0
  unfold tc
  go_enter Try.func33, Try.ntmps33
  go_wp2
  generalize (w.alloc (.cells #[.slice A.aS t.st.length A.cS, .slice A.aP t.sp.length A.cP, .slice A.aB t.bd.length A.cB, .float .f64 t.off, .int .i64 t.bus, .int .i64 t.busDaily, .int .i64 t.busWeekly, .int .i64 t.hopper, .int .i64 t.most, .int .i64 t.longest, .int .i64 t.change, .int .i64 t.passback, .int .i64 t.delay, .int .i64 t.threshold] 27)).alloc (.cells #[.int .i64 t.bus, .int .i64 t.busDaily, .int .i64 t.busWeekly, .int .i64 t.most, .int .i64 t.threshold] 3) = wm at *
  obtain ⟨B, HBE⟩ : ∃ B, Hid (B = w.heap.size) := ⟨_, rfl⟩
  rw [← unhide HBE] at HP0
  rw [← unhide HBE]
  go_loopw [3, 4] (fun lv iv wr => ∃ (i : Nat) (acc : List Int) (ao : Option Addr) (cap g : Nat), i ≤ t.sp.length ∧ acc.length = 5 + 3 * i ∧ iv = .int .i64 i ∧ lv = .slice ao acc.length cap ∧ Hid (PI w A t i acc ao cap g wr)) (fun _ iv _ => t.sp.length - (intOf iv).toNat)
  case atStart => exact ⟨0, [t.bus, t.busDaily, t.busWeekly, t.most, t.threshold], some ⟨w.heap.size + 1, 0, none⟩, 5, w.heap.size + 1, Nat.zero_le _, rfl, rfl, by rw [unhide HBE]; rfl, hide (by have := unhide HP0; rw [unhide HBE] at this; exact this)⟩
  case round =>
    obtain ⟨i, acc, ao, cap, g, hin, hac, rfl, rfl, HI⟩ := hrel
    have cB : wr.cell? ⟨B, 1, none⟩ = some (.slice A.aP t.sp.length A.cP) := by rw [unhide HBE]; exact (unhide HI).tb.cell 1
    by_cases hil : i < t.sp.length
    · obtain ⟨b, off, eA, c0, c1, c2, c3, c4⟩ := ((unhide H).keep (unhide HI).fr).sp hil
      have hbg : b ≠ g := by
        have h1 := World.block_lt_of_cell? _ _ c2
        have h2 : b < w.heap.size := by
          obtain ⟨b', off', e', d0, _⟩ := (unhide H).sp hil
          rw [eA] at e'
          injection e' with e'
          injection e' with e1 _
          rw [e1]
          exact World.block_lt_of_cell? _ _ d0
        have := (unhide HI).g0
        omega
      have hBg : B ≠ g := by
        have := (unhide HI).g0
        rw [unhide HBE]
        omega
      have HNX := hide (fun (w' : World) (ao' : Option Addr) (cap' g' : Nat) => (unhide HI).next (w' := w') (ao' := ao') (cap' := cap') (g' := g') hil (((Fr.refl (fun _ => False) wr).drew).alloc (.cells #[.int .i64 t.sp[i].single, .int .i64 t.sp[i].daily, .int .i64 t.sp[i].weekly] 3)))
      have hth : three t.sp[i] = [t.sp[i].single, t.sp[i].daily, t.sp[i].weekly] := rfl
      rw [hth] at HNX
      generalize t.sp[i] = s at *
      obtain ⟨x0, x1, x2, x3, x4⟩ := s
      simp only at c2 c3 c4 HNX
      have hROW : VRow (wr.drew.alloc (.cells #[.int .i64 x2, .int .i64 x3, .int .i64 x4] 3)) ao cap g (acc.map (Value.int .i64)) := (unhide HI).row.stay (fun hc => by
        have hlt := (unhide HI).row.lt hc
        exact Below.heap_alloc wr.drew (.cells #[.int .i64 x2, .int .i64 x3, .int .i64 x4] 3) _ hlt)
      have hSRC := src_three wr.drew x2 x3 x4
      have HRS := hide (And.intro hROW hSRC)
      have hml : (acc.map (Value.int .i64)).length = acc.length := List.length_map _
      rw [eA] at cB
      rw [eA]
      have i0 : (0 : Int) ≤ (i : Int) := by omega
      have i1 : (i : Int) < (t.sp.length : Int) := by omega
      have hb1 : (acc.length + 3) * 8 ≤ 140737488355328 := by omega
      have HAC := hide hac
      clear hROW hSRC c0 c1 HI hth eA hac
      go_wp2_with fail
      go_region_held3 (fun w' => w'.cell? ⟨B, 1, none⟩ = some (.slice (some ⟨b, off, none⟩) t.sp.length A.cP) ∧ w'.cell? ⟨b, off + i * 5 + 2, none⟩ = some (.int .i64 x2) ∧ w'.cell? ⟨b, off + i * 5 + 3, none⟩ = some (.int .i64 x3) ∧ w'.cell? ⟨b, off + i * 5 + 4, none⟩ = some (.int .i64 x4))
        (first | go_keep | (go_split_ands; refine ⟨?_, ?_, ?_, ?_⟩ <;> exact hgr.cell (by assumption) (by assumption)))
        ((refine step_append_vrow (by rfl) (.tmp 25) (.tmp 44) 81 81 (by rfl) 3 info (.int .i64 0) Try.underlying81 (unhide HI0) hz0 rfl hz1 (ao := ao) (cap := cap) (g := g) (n := acc.length) (vs := acc.map (Value.int .i64)) (by rfl) (unhide HRS).1 hml _ ([x2, x3, x4].map (Value.int .i64)) 3 rfl (by rfl) (unhide HRS).2 (by rw [hz2]; exact hb1) (by omega) ?_; intro ao' cap' w3 g' hrow hgr))
      have HN := hide (unhide HNX w3 ao' cap' g' hrow hgr)
      clear HNX hrow hgr HRS cB c2 c3 c4
      go_wp2
      exact ⟨⟨i + 1, acc ++ [x2, x3, x4], ao', cap', g', by omega, by rw [List.length_append, unhide HAC]; simp; omega, by go_num, by rw [List.length_append]; rfl, hide (unhide HN)⟩, by simp [intOf]; omega⟩
    · obtain rfl : i = t.sp.length := by omega
      have HL : Hid (acc.all price = y) := hide (by rw [(unhide HI).ae, List.take_length, ← unhide HY, ← allPrices_ok]; rfl)
      have HR := hide (unhide HI).row
      have HF := hide (unhide HI).fr
      have HA := hide (And.intro ((unhide HI).row.ad (unhide HI).c0) hac)
      have hsm : acc.length ≤ 140737488355328 := by omega
      obtain ⟨n, hn⟩ : ∃ n, acc.length = n := ⟨_, rfl⟩
      have HNN := hide hn
      have hsm' : n ≤ 140737488355328 := by omega
      rw [hn]
      clear HI hac hn hsm
      go_wp2
      go_loopw [5, 6] (fun kv _ wq => ∃ (k : Nat), k ≤ n ∧ kv = .int .i64 k ∧ wq = wr ∧ Hid ((acc.drop k).all price = y)) (fun kv _ _ => n - (intOf kv).toNat)
      case atStart => exact ⟨0, Nat.zero_le _, rfl, rfl, hide (by simpa using unhide HL)⟩
      case round =>
        obtain ⟨k, hk, rfl, rfl, HK⟩ := hrel
        by_cases hkl : k < n
        · have hka : k < acc.length := by have := unhide HNN; omega
          have ck : wr.cell? ⟨g, k, none⟩ = some (.int .i64 acc[k]) := by
            have h1 := (unhide HR).cells k (by rw [List.length_map]; exact hka)
            rw [h1]
            simp
          have ht := unhide HK
          rw [List.drop_eq_getElem_cons hka, List.all_cons] at ht
          have HT := hide ht
          have eA := (unhide HA).1
          subst eA
          clear ht HK
          generalize acc[k] = x at *
          have R := rprice_any wr x
          cases hp : price x with
          | true =>
            have HT' : Hid ((acc.drop (k + 1)).all price = y) := hide (by rw [← unhide HT, hp]; rfl)
            rw [hp] at R
            clear hp HT
            go_wp2_with fail
            refine R.mono ?_
            rintro e w2 ⟨rfl, rfl⟩
            go_wp2
            exact ⟨⟨k + 1, by omega, by go_num, (by first | rfl | trivial), unhide HT'⟩, by simp [intOf]; omega⟩
          | false =>
            have HT' : Hid (y = false) := hide (by rw [← unhide HT, hp]; rfl)
            rw [hp] at R
            clear hp HT HY HL
            go_wp2_with fail
            refine R.mono ?_
            rintro e w2 ⟨rfl, rfl⟩
            go_wp2
            go_ret
            exact ⟨by rw [unhide HT']; rfl, unhide HF⟩
        · obtain rfl : k = n := by omega
          have HT' : Hid (y = true) := hide (by
            have h1 := unhide HK
            rw [List.drop_of_length_le (by have := unhide HNN; omega)] at h1
            rw [← h1]; rfl)
          clear HK HY HL HR
          go_wp2
          go_ret
          exact ⟨by rw [unhide HT']; rfl, unhide HF⟩

end Go.Proofs.Ythgkdpepgnoepaa
