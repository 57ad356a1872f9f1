/- The document's own spread. -/
import Derived.Test.YtgklgbomfipagaaDoorH5
import Derived.Deep.RegionLaw
namespace Go.Proofs.YtgklgbomfipagaaDoor
open Go.RowKit

theorem Tryd.info48 : (Tryd.prog.info? 48).map (fun i => (i.zero, i.size, i.bytes)) = some (some (.int .u32 0), 1, 4) := by kernel_rfl

/-- The first of some words, as values. -/
def colsV (f : Nat → Nat) (n : Nat) : List Value := (List.range n).map fun j => Value.int .u32 (f j)

theorem colsV_length (f : Nat → Nat) (n : Nat) : (colsV f n).length = n := by simp [colsV]
theorem colsV_get (f : Nat → Nat) (n j : Nat) (hj : j < n) : (colsV f n)[j]? = some (.int .u32 (f j)) := by simp [colsV, hj]
theorem colsV_succ (f : Nat → Nat) (n : Nat) : colsV f (n + 1) = colsV f n ++ [.int .u32 (f n)] := by simp [colsV, List.range_succ]
theorem colsV_ext {f g : Nat → Nat} {n : Nat} (h : ∀ j, j < n → f j = g j) : colsV f n = colsV g n := by
  unfold colsV
  exact List.map_congr_left (fun j hj => by rw [h j (List.mem_range.1 hj)])

/-- Words that can be read. -/
def MAt (w : World) (mo : Option Addr) (n : Nat) (f : Nat → Nat) : Prop := ∃ g, mo = some ⟨g, 0, none⟩ ∧ ∀ j, j < n → w.cell? ⟨g, j, none⟩ = some (.int .u32 (f j))

theorem MAt.later {w w' : World} {mo : Option Addr} {n : Nat} {f : Nat → Nat} (h : MAt w mo n f) (hF : Fr (fun _ => False) w w') : MAt w' mo n f := by
  obtain ⟨g, e, hc⟩ := h
  exact ⟨g, e, fun j hj => (hF.cell (a := ⟨g, j, none⟩) (World.block_lt_of_cell? _ _ (hc j hj)) (fun t => t)).trans (hc j hj)⟩

/-- A row of words under way, and nothing that was there has turned. -/
def MRow (w wr : World) (ao : Option Addr) (cap g : Nat) (f : Nat → Nat) (i : Nat) : Prop := VRow wr ao cap g (colsV f i) ∧ Fr (fun _ => False) w wr ∧ (0 < cap → w.heap.size ≤ g)

theorem MRow.start (w wr : World) (hF : Fr (fun _ => False) w wr) (f : Nat → Nat) : MRow w wr none 0 0 f 0 := ⟨VRow.nil wr 0, hF, fun h => absurd h (by omega)⟩

theorem MRow.later {w wr w' : World} {ao : Option Addr} {cap g : Nat} {f : Nat → Nat} {i : Nat} (h : MRow w wr ao cap g f i) (hF : Fr (fun _ => False) wr w') : MRow w w' ao cap g f i :=
  ⟨h.1.stay (fun hc => hF.block g (h.1.lt hc) (fun t => t)), h.2.1.trans hF (fun _ _ t => t), h.2.2⟩

theorem MRow.next {w wr w' : World} {ao ao' : Option Addr} {cap g cap' g' : Nat} {f : Nat → Nat} {i v : Nat} (h : MRow w wr ao cap g f i) (f' : Nat → Nat) (hf : ∀ j, j < i → f j = f' j) (hv : f' i = v) (wa : World) (hF : Fr (fun _ => False) wr wa) (hr : VRow w' ao' cap' g' (colsV f i ++ [.int .u32 v])) (hg : Grew wa g cap w' g' cap') : MRow w w' ao' cap' g' f' (i + 1) := by
  obtain ⟨_, h2, h3⟩ := h
  rw [colsV_ext hf, ← hv, ← colsV_succ] at hr
  have hF' := h2.trans hF (fun _ _ t => t)
  rcases hg with ⟨rfl, rfl, hf⟩ | ⟨hn, hc, hf⟩
  · exact ⟨hr, hF'.trans hf (fun k hk t => by have := h3 t.2; omega), h3⟩
  · exact ⟨hr, hF'.trans hf (fun _ _ t => t), fun _ => Nat.le_trans hF'.size hn⟩

theorem MRow.cell {w wr : World} {ao : Option Addr} {cap g : Nat} {f : Nat → Nat} {i : Nat} (h : MRow w wr ao cap g f i) (j : Nat) (hj : j < i) : wr.cell? ⟨g, j, none⟩ = some (.int .u32 (f j)) := by
  have hj2 : j < (colsV f i).length := by rw [colsV_length]; exact hj
  have := h.1.cells j hj2
  have e := colsV_get f i j hj
  rw [List.getElem?_eq_getElem hj2] at e
  rw [this, Option.some.inj e]

theorem MRow.ad {w wr : World} {ao : Option Addr} {cap g : Nat} {f : Nat → Nat} {i : Nat} (h : MRow w wr ao cap g f i) (hi : 0 < i) : ao = some ⟨g, 0, none⟩ ∧ i ≤ cap := by
  have hle := h.1.le
  rw [colsV_length] at hle
  exact ⟨h.1.ad (by omega), hle⟩

theorem src_one (w : World) (v : Int) : Src Tryd.prog 1 59 (.slice (some ⟨w.heap.size, 0, none⟩) 1 1) 1 [.int .u32 v] (w.alloc (.cells #[.int .u32 v] 48)) := by
  refine Src.ofSlice _ Tryd.underlying59 ⟨w.heap.size, 0, none⟩ 1 1 [.int .u32 v] rfl (fun j u hj => ?_) (fun u hu => ?_)
  · match j, hj with
    | 0, hj =>
      cases hj
      rw [Addr.add_lit, World.cell?_alloc_new]
      rfl
    | j + 1, hj => simp at hj
  · cases List.mem_singleton.1 hu
    rfl

theorem src_one_d (w : World) (v : Int) : Src Tryd.prog 1 59 (.slice (some ⟨w.heap.size, 0, none⟩) 1 1) 1 [.int .u32 v] (w.alloc (.cells #[.int .u32 v] 48)).drew := by
  refine Src.ofSlice _ Tryd.underlying59 ⟨w.heap.size, 0, none⟩ 1 1 [.int .u32 v] rfl (fun j u hj => ?_) (fun u hu => ?_)
  · match j, hj with
    | 0, hj =>
      cases hj
      rw [Addr.add_lit]
      show (w.alloc (.cells #[.int .u32 v] 48)).cell? _ = _
      rw [World.cell?_alloc_new]
      rfl
    | j + 1, hj => simp at hj
  · cases List.mem_singleton.1 hu
    rfl

theorem step_append_vrow {P : Program} {ops : Array Oper} {o : Oper} {a : Act} {w : World} {K : Act → World → Prop} {Q : Exit → Act → World → Prop} {E : Prop} (hgd : o.guard = none) (s x : Operand) (t tx : TypeId)
    (ho : o.op = .call { callee := .builtin .append, args := #[s, x], argTypes := #[t, tx] }) (e : TypeId) (i : TypeInfo) (z : Value) (ht : P.underlying t = some (.slice e)) (hi : P.info? e = some i) (hz : i.zero = some z) (hz1 : z.cells = #[z]) (hs1 : i.size = 1)
    {ao : Option Addr} {cap g n : Nat} {vs : List Value} (hv : a.eval s = .slice ao n cap) (h : VRow w ao cap g vs) (hn : vs.length = n) (xv : Value) (news : List Value) (m : Nat) (hm : news.length = m) (hx : a.eval x = xv) (hs : Src P 1 tx xv m news w) (hfit : (n + m) * i.bytes ≤ 140737488355328) (hf2 : n + m ≤ 140737488355328)
    (hK : ∀ ao' cap' w' g', VRow w' ao' cap' g' (vs ++ news) → Grew w g cap w' g' cap' → K (a.put o.dst (.slice ao' (n + m) cap')) w') : if Region.wanted o (yielded ops a.tmps) = true then Oper.wp P o a w K Q else E := by
  have hw : Region.wanted o (yielded ops a.tmps) = true := by simp [Region.wanted, hgd]
  rw [if_pos hw]
  obtain ⟨ao', cap', w', g', hrun, r1, r2⟩ := append_vrow (P := P) t tx o.type e i z ht hi hz hz1 hs1 h hn xv news m hm hs hfit hf2
  unfold Oper.wp
  simp [execOp, ho, resolve, invoke, builtin, hv, hx, hrun, Result.andThen]
  exact hK ao' cap' w' g' r1 r2

set_option maxHeartbeats 2000000 in
set_option maxRecDepth 100000 in
theorem rspread_any (w : World) (b off cap : Nat) (blk : Nat → UInt8) (hB : ∀ j, j < 64 → w.cell? ⟨b, off + j, none⟩ = some (.int .u8 (blk j).toNat)) :
    Calls Tryd.prog 41 #[.slice (some ⟨b, off, none⟩) 64 cap] w fun e w' => ∃ g mc, e = .returned (.slice (some ⟨g, 0, none⟩) 64 mc) ∧ (∀ j, j < 64 → w'.cell? ⟨g, j, none⟩ = some (.int .u32 (spr blk j))) ∧ Fr (fun _ => False) w w' ∧ w.heap.size ≤ g := by
  obtain ⟨i0, hi, hz0, hz1, hz2⟩ := info_parts Tryd.info48
  have HI := hide hi
  have HB := hide hB
  clear hi hB
  go_enter Tryd.func41, Tryd.ntmps41
  go_wp2
  go_loopw [3, 4, 5] (fun wv iv _ wr => ∃ i : Nat, i ≤ 16 ∧ iv = .int .i64 i ∧ ∃ ao cap g, wv = .slice ao i cap ∧ Hid (MRow w wr ao cap g (wrd blk) i)) (fun _ iv _ _ => 16 - (intOf iv).toNat)
  case atStart => exact ⟨0, Nat.zero_le _, rfl, none, 0, 0, rfl, MRow.start _ _ (Fr.refl _ _) _⟩
  case round =>
    obtain ⟨i, hi16, rfl, ao, cp, g, rfl, HS⟩ := hrel
    by_cases hlt : i < 16
    · have hc := fun j hj => ((unhide HS).2.1.cell (a := ⟨b, off + j, none⟩) (World.block_lt_of_cell? _ _ (unhide HB j hj)) (fun t => t)).trans (unhide HB j hj)
      have c0 := hc (4 * i) (by omega)
      have c1 := hc (4 * i + 1) (by omega)
      have c2 := hc (4 * i + 2) (by omega)
      have c3 := hc (4 * i + 3) (by omega)
      clear hc
      have hv : wrd blk i = (blk (4 * i)).toNat * 16777216 + (blk (4 * i + 1)).toNat * 65536 + (blk (4 * i + 2)).toNat * 256 + (blk (4 * i + 3)).toNat := rfl
      have HV := hide hv
      have l0 := (blk (4 * i)).toNat_lt
      have l1 := (blk (4 * i + 1)).toNat_lt
      have l2 := (blk (4 * i + 2)).toNat_lt
      have l3 := (blk (4 * i + 3)).toNat_lt
      clear hv
      generalize (blk (4 * i)).toNat = a0 at *
      generalize (blk (4 * i + 1)).toNat = a1 at *
      generalize (blk (4 * i + 2)).toNat = a2 at *
      generalize (blk (4 * i + 3)).toNat = a3 at *
      go_wp2
      go_quiet (fail)
      obtain ⟨X, hX⟩ : ∃ X, X = wrd blk i := ⟨_, rfl⟩
      have hv : (a0 : Int) * 16777216 + (a1 : Int) * 65536 + (a2 : Int) * 256 + (a3 : Int) = (X : Int) := by rw [hX, unhide HV]; omega
      rw [hv]
      have HX := hide hX
      have HS1 := hide ((unhide HS).later ((Fr.refl _ wr).drewN nq))
      clear hv hX c0 c1 c2 c3 l0 l1 l2 l3
      generalize wr.drewN nq = wd at *
      go_wp2_with (at_builtin; refine wpList_append_vrow _ rfl (.tmp 48) (.tmp 50) 59 59 rfl 48 i0 (.int .u32 0) Tryd.underlying59 (unhide HI) hz0 rfl hz1 (ao := ao) (cap := cp) (g := g) (n := i) (vs := colsV (wrd blk) i) rfl ((unhide HS1).1.stay (fun hc => Below.heap_alloc _ _ _ ((unhide HS1).1.lt hc))) (colsV_length _ i) _ [.int .u32 X] 1 rfl rfl (src_one wd X) (by rw [hz2]; omega) (by omega) ?next1)
      intro ao' cap' w3 g' hrow hgr
      have HN := hide ((unhide HS1).next (wrd blk) (fun _ _ => rfl) (unhide HX).symm _ ((Fr.refl _ wd).alloc _) hrow hgr)
      clear hrow hgr
      go_wp2
      first
      | exact ⟨⟨i + 1, by omega, by go_num, ao', cap', g', rfl, unhide HN⟩, by simp [intOf]; omega⟩
      | refine ⟨?_, ?_⟩
        · repeat apply Exists.intro
          refine ⟨?_, rfl⟩
          exact ⟨i + 1, by omega, by go_num, ao', cap', g', rfl, unhide HN⟩
        · show 16 - (intOf (.int .i64 ((i : Int) + 1))).toNat < 16 - (intOf (.int .i64 (i : Int))).toNat
          simp [intOf]; omega
    · obtain rfl : i = 16 := by omega
      go_wp2
      go_loopw [3, 6, 7, 8, 9, 10] (fun wv nv _ _ _ _ wr => ∃ n : Nat, 16 ≤ n ∧ n ≤ 64 ∧ nv = .int .i64 n ∧ ∃ ao cap g, wv = .slice ao n cap ∧ Hid (MRow w wr ao cap g (sched (wfirst blk 16) (n - 16)) n)) (fun _ nv _ _ _ _ _ => 64 - (intOf nv).toNat)
      case atStart =>
        refine ⟨16, Nat.le_refl _, by omega, rfl, ao, cp, g, rfl, ?_⟩
        obtain ⟨k1, k2, k3⟩ := unhide HS
        refine ⟨?_, k2, k3⟩
        have e : colsV (sched (wfirst blk 16) (16 - 16)) 16 = colsV (wrd blk) 16 := colsV_ext (fun j hj => if_pos hj)
        rw [e]
        exact k1
      case round =>
        obtain ⟨n, hn1, hn2, rfl, ao, cp, g, rfl, HS⟩ := hrel
        obtain ⟨had, hcp⟩ := (unhide HS).ad (by omega)
        subst had
        by_cases hlt : n < 64
        · obtain ⟨F, hF⟩ : ∃ F, F = sched (wfirst blk 16) (n - 16) := ⟨_, rfl⟩
          rw [← hF] at HS
          have hFl : ∀ j, F j < 4294967296 := fun j => by rw [hF]; exact sched_lt _ (wfirst_lt blk 16) _ _
          have HF := hide hF
          have cx := (unhide HS).cell (n - 15) (by omega)
          have cy := (unhide HS).cell (n - 2) (by omega)
          obtain ⟨m16, hm16⟩ : ∃ m, n = m + 16 := ⟨n - 16, by omega⟩
          obtain ⟨m7, hm7⟩ : ∃ m, n = m + 7 := ⟨n - 7, by omega⟩
          have ca := (unhide HS).cell m16 (by omega)
          have cb := (unhide HS).cell m7 (by omega)
          have lx := hFl (n - 15)
          have ly := hFl (n - 2)
          have la := hFl m16
          have lb := hFl m7
          have hv : wnext F n = add32 (add32 (add32 (F m16) (F m7)) (sg0 (F (n - 15)))) (sg1 (F (n - 2))) := by
            rw [wnext, show n - 16 = m16 by omega, show n - 7 = m7 by omega]
          have hn16 : (n : Int) - 16 = (m16 : Int) := by omega
          have hn7 : (n : Int) - 7 = (m7 : Int) := by omega
          have hw16 : IntKind.i64.wrap (m16 : Int) = (m16 : Int) := by rw [IntKind.wrap_i64]; omega
          have hw7 : IntKind.i64.wrap (m7 : Int) = (m7 : Int) := by rw [IntKind.wrap_i64]; omega
          have hl16 : (m16 : Int) < (n : Int) := by omega
          have hl7 : (m7 : Int) < (n : Int) := by omega
          have HM16 := hide (And.intro hm16 hm7)
          clear hm16 hm7
          have HV := hide hv
          clear hF hv hFl
          generalize F (n - 15) = x at *
          generalize F (n - 2) = y at *
          generalize F m16 = va at *
          generalize F m7 = vb at *
          have hsx := sg0_lt lx
          have hsy := sg1_lt ly
          go_wp2_with fail
          refine (rrot_any _ x 7 lx (by omega) (by omega)).mono ?_
          rintro e w1 ⟨rfl, rfl⟩
          go_wp2_with fail
          refine (rrot_any _ x 18 lx (by omega) (by omega)).mono ?_
          rintro e w1 ⟨rfl, rfl⟩
          go_wp2_with fail
          refine (rsh_any _ x 3 (by omega)).mono ?_
          rintro e w1 ⟨rfl, rfl⟩
          have hx := xor_sg0 x lx
          go_wp2_with fail
          clear hx
          refine (rrot_any _ y 17 ly (by omega) (by omega)).mono ?_
          rintro e w1 ⟨rfl, rfl⟩
          go_wp2_with fail
          refine (rrot_any _ y 19 ly (by omega) (by omega)).mono ?_
          rintro e w1 ⟨rfl, rfl⟩
          go_wp2_with fail
          refine (rsh_any _ y 10 (by omega)).mono ?_
          rintro e w1 ⟨rfl, rfl⟩
          have hy := xor_sg1 y ly
          go_wp2
          clear hy lx ly
          obtain ⟨V, hV⟩ : ∃ V, V = IntKind.u32.wrap (IntKind.u32.wrap (IntKind.u32.wrap ((va : Int) + (vb : Int)) + ((sg0 x : Nat) : Int)) + ((sg1 y : Nat) : Int)) := ⟨_, rfl⟩
          have hVn : V = ((wnext F n : Nat) : Int) := by
            rw [hV, unhide HV, IntKind.wrap_u32', IntKind.wrap_u32', IntKind.wrap_u32']
            simp only [add32]
            omega
          have HV2 := hide hV
          have HVN := hide hVn
          have hROW := ((unhide HS).later (((Fr.refl _ w1).alloc (.cells #[.int .u32 V] 48)).drew)).1
          have hSRC := src_one_d w1 V
          rw [hV] at hROW hSRC
          have HRS := hide (And.intro hROW hSRC)
          clear hV hVn hROW hSRC
          go_region_law (refine step_append_vrow rfl (.tmp 82) (.tmp 98) 59 59 rfl 48 i0 (.int .u32 0) Tryd.underlying59 (unhide HI) hz0 rfl hz1 (ao := some ⟨g, 0, none⟩) (cap := cp) (g := g) (n := n) (vs := colsV F n) rfl (unhide HRS).1 (colsV_length _ _) _ [.int .u32 (IntKind.u32.wrap (IntKind.u32.wrap (IntKind.u32.wrap ((va : Int) + (vb : Int)) + ((sg0 x : Nat) : Int)) + ((sg1 y : Nat) : Int)))] 1 rfl rfl (unhide HRS).2 (by rw [hz2]; omega) (by omega) ?_; intro ao' cap' w3 g' hrow hgr)
          all_goals
            rw [← unhide HV2, unhide HVN] at hrow hgr
            have HN := hide ((unhide HS).next (sched (wfirst blk 16) (n + 1 - 16)) (fun j hj => by
              rw [show n + 1 - 16 = (n - 16) + 1 by omega, sched, ← unhide HF, show 16 + (n - 16) = n by omega]
              show F j = if j = n then _ else F j
              rw [if_neg (by omega)]) (by
              rw [show n + 1 - 16 = (n - 16) + 1 by omega, sched, ← unhide HF, show 16 + (n - 16) = n by omega]
              exact if_pos rfl) _ (((Fr.refl _ w1).alloc _).drew) hrow hgr)
            clear hrow hgr
            go_wp2
            first
            | exact ⟨⟨n + 1, by omega, by omega, by go_num, ao', cap', g', rfl, unhide HN⟩, by simp [intOf]; omega⟩
            | refine ⟨?_, ?_⟩
              · repeat apply Exists.intro
                refine ⟨?_, rfl⟩
                exact ⟨n + 1, by omega, by omega, by go_num, ao', cap', g', rfl, unhide HN⟩
              · show 64 - (intOf (.int .i64 ((n : Int) + 1))).toNat < 64 - (intOf (.int .i64 (n : Int))).toNat
                simp [intOf]; omega
        · obtain rfl : n = 64 := by omega
          have HM : Hid ((∀ j, j < 64 → wr.cell? ⟨g, j, none⟩ = some (.int .u32 (spr blk j))) ∧ Fr (fun _ => False) w wr ∧ w.heap.size ≤ g) := ⟨fun j hj => (unhide HS).cell j hj, (unhide HS).2.1, (unhide HS).2.2 (by omega)⟩
          go_wp2
          go_ret
          exact ⟨_, _, rfl, unhide HM⟩

end Go.Proofs.YtgklgbomfipagaaDoor
