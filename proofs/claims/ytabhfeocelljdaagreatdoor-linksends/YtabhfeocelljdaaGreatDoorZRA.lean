import Derived.Test.YtabhfeocelljdaaGreatDoorZHB
import Derived.Deep.RegionLaw
import Derived.Test.YtabhfeocelljdaaGreatDoorZHC
/- The document's own spread. -/
namespace Go.Proofs.YtabhfeocelljdaaGreatDoor
open Go.RowKit

theorem Tryz.info128 : (Tryz.prog.info? 128).map (fun i => (i.zero, i.size, i.bytes)) = some (some (.int .u32 0), 1, 4) := by kernel_rfl

/-- The first of some words, as values. -/
def colsV (f : Nat → Nat) (n : Nat) : List Value := (List.range n).map fun j => Value.int .u32 (f j)

theorem colsV_length (f : Nat → Nat) (n : Nat) : (colsV f n).length = n := by simp [colsV]
theorem colsV_get (f : Nat → Nat) (n j : Nat) (hj : j < n) : (colsV f n)[j]? = some (.int .u32 (f j)) := by simp [colsV, hj]
theorem colsV_succ (f : Nat → Nat) (n : Nat) : colsV f (n + 1) = colsV f n ++ [.int .u32 (f n)] := by simp [colsV, List.range_succ]
theorem colsV_ext {f g : Nat → Nat} {n : Nat} (h : ∀ j, j < n → f j = g j) : colsV f n = colsV g n := by
  unfold colsV
  exact List.map_congr_left (fun j hj => by rw [h j (List.mem_range.1 hj)])

/-- Words that can be read. -/
def MAt (w : World) (mo : Option Addr) (n : Nat) (f : Nat → Nat) : Prop := ∃ g, mo = some ⟨g, 0, none⟩ ∧ ∀ j, j < n → w.cell? ⟨g, j, none⟩ = some (.int .u32 (f j))

theorem MAt.later {w w' : World} {mo : Option Addr} {n : Nat} {f : Nat → Nat} (h : MAt w mo n f) (hF : Fr (fun _ => False) w w') : MAt w' mo n f := by
  obtain ⟨g, e, hc⟩ := h
  exact ⟨g, e, fun j hj => (hF.cell (a := ⟨g, j, none⟩) (World.block_lt_of_cell? _ _ (hc j hj)) (fun t => t)).trans (hc j hj)⟩

/-- A row of words under way, and nothing that was there has turned. -/
def MRow (w wr : World) (ao : Option Addr) (cap g : Nat) (f : Nat → Nat) (i : Nat) : Prop := VRow wr ao cap g (colsV f i) ∧ Fr (fun _ => False) w wr ∧ (0 < cap → w.heap.size ≤ g)

theorem MRow.start (w wr : World) (hF : Fr (fun _ => False) w wr) (f : Nat → Nat) : MRow w wr none 0 0 f 0 := ⟨VRow.nil wr 0, hF, fun h => absurd h (by omega)⟩

theorem MRow.later {w wr w' : World} {ao : Option Addr} {cap g : Nat} {f : Nat → Nat} {i : Nat} (h : MRow w wr ao cap g f i) (hF : Fr (fun _ => False) wr w') : MRow w w' ao cap g f i :=
  ⟨h.1.stay (fun hc => hF.block g (h.1.lt hc) (fun t => t)), h.2.1.trans hF (fun _ _ t => t), h.2.2⟩

theorem MRow.next {w wr w' : World} {ao ao' : Option Addr} {cap g cap' g' : Nat} {f : Nat → Nat} {i v : Nat} (h : MRow w wr ao cap g f i) (f' : Nat → Nat) (hf : ∀ j, j < i → f j = f' j) (hv : f' i = v) (wa : World) (hF : Fr (fun _ => False) wr wa) (hr : VRow w' ao' cap' g' (colsV f i ++ [.int .u32 v])) (hg : Grew wa g cap w' g' cap') : MRow w w' ao' cap' g' f' (i + 1) := by
  obtain ⟨_, h2, h3⟩ := h
  rw [colsV_ext hf, ← hv, ← colsV_succ] at hr
  have hF' := h2.trans hF (fun _ _ t => t)
  rcases hg with ⟨rfl, rfl, hf⟩ | ⟨hn, hc, hf⟩
  · exact ⟨hr, hF'.trans hf (fun k hk t => by have := h3 t.2; omega), h3⟩
  · exact ⟨hr, hF'.trans hf (fun _ _ t => t), fun _ => Nat.le_trans hF'.size hn⟩

theorem MRow.cell {w wr : World} {ao : Option Addr} {cap g : Nat} {f : Nat → Nat} {i : Nat} (h : MRow w wr ao cap g f i) (j : Nat) (hj : j < i) : wr.cell? ⟨g, j, none⟩ = some (.int .u32 (f j)) := by
  have hj2 : j < (colsV f i).length := by rw [colsV_length]; exact hj
  have := h.1.cells j hj2
  have e := colsV_get f i j hj
  rw [List.getElem?_eq_getElem hj2] at e
  rw [this, Option.some.inj e]

theorem MRow.ad {w wr : World} {ao : Option Addr} {cap g : Nat} {f : Nat → Nat} {i : Nat} (h : MRow w wr ao cap g f i) (hi : 0 < i) : ao = some ⟨g, 0, none⟩ ∧ i ≤ cap := by
  have hle := h.1.le
  rw [colsV_length] at hle
  exact ⟨h.1.ad (by omega), hle⟩

theorem src_oneZ (w : World) (v : Int) : Src Tryz.prog 1 139 (.slice (some ⟨w.heap.size, 0, none⟩) 1 1) 1 [.int .u32 v] (w.alloc (.cells #[.int .u32 v] 128)) := by
  refine Src.ofSlice _ Tryz.underlying139 ⟨w.heap.size, 0, none⟩ 1 1 [.int .u32 v] rfl (fun j u hj => ?_) (fun u hu => ?_)
  · match j, hj with
    | 0, hj =>
      cases hj
      rw [Addr.add_lit, World.cell?_alloc_new]
      rfl
    | j + 1, hj => simp at hj
  · cases List.mem_singleton.1 hu
    rfl

theorem src_one_d (w : World) (v : Int) : Src Tryz.prog 1 139 (.slice (some ⟨w.heap.size, 0, none⟩) 1 1) 1 [.int .u32 v] (w.alloc (.cells #[.int .u32 v] 128)).drew := by
  refine Src.ofSlice _ Tryz.underlying139 ⟨w.heap.size, 0, none⟩ 1 1 [.int .u32 v] rfl (fun j u hj => ?_) (fun u hu => ?_)
  · match j, hj with
    | 0, hj =>
      cases hj
      rw [Addr.add_lit]
      show (w.alloc (.cells #[.int .u32 v] 128)).cell? _ = _
      rw [World.cell?_alloc_new]
      rfl
    | j + 1, hj => simp at hj
  · cases List.mem_singleton.1 hu
    rfl

theorem step_append_vrowZ {P : Program} {ops : Array Oper} {o : Oper} {a : Act} {w : World} {K : Act → World → Prop} {Q : Exit → Act → World → Prop} {E : Prop} (hgd : o.guard = none) (s x : Operand) (t tx : TypeId)
    (ho : o.op = .call { callee := .builtin .append, args := #[s, x], argTypes := #[t, tx] }) (e : TypeId) (i : TypeInfo) (z : Value) (ht : P.underlying t = some (.slice e)) (hi : P.info? e = some i) (hz : i.zero = some z) (hz1 : z.cells = #[z]) (hs1 : i.size = 1)
    {ao : Option Addr} {cap g n : Nat} {vs : List Value} (hv : a.eval s = .slice ao n cap) (h : VRow w ao cap g vs) (hn : vs.length = n) (xv : Value) (news : List Value) (m : Nat) (hm : news.length = m) (hx : a.eval x = xv) (hs : Src P 1 tx xv m news w) (hfit : (n + m) * i.bytes ≤ 140737488355328) (hf2 : n + m ≤ 140737488355328)
    (hK : ∀ ao' cap' w' g', VRow w' ao' cap' g' (vs ++ news) → Grew w g cap w' g' cap' → K (a.put o.dst (.slice ao' (n + m) cap')) w') : if Region.wanted o (yielded ops a.tmps) = true then Oper.wp P o a w K Q else E := by
  have hw : Region.wanted o (yielded ops a.tmps) = true := by simp [Region.wanted, hgd]
  rw [if_pos hw]
  obtain ⟨ao', cap', w', g', hrun, r1, r2⟩ := append_vrow (P := P) t tx o.type e i z ht hi hz hz1 hs1 h hn xv news m hm hs hfit hf2
  unfold Oper.wp
  simp [execOp, ho, resolve, invoke, builtin, hv, hx, hrun, Result.andThen]
  exact hK ao' cap' w' g' r1 r2

set_option maxHeartbeats 2000000 in
set_option maxRecDepth 100000 in
theorem rspread_any (w : World) (b off cap : Nat) (blk : Nat → UInt8) (hB : ∀ j, j < 64 → w.cell? ⟨b, off + j, none⟩ = some (.int .u8 (blk j).toNat)) :
    Calls Tryz.prog 110 #[.slice (some ⟨b, off, none⟩) 64 cap] w fun e w' => ∃ g mc, e = .returned (.slice (some ⟨g, 0, none⟩) 64 mc) ∧ (∀ j, j < 64 → w'.cell? ⟨g, j, none⟩ = some (.int .u32 (spr blk j))) ∧ Fr (fun _ => False) w w' ∧ w.heap.size ≤ g := by
  obtain ⟨i0, hi, hz0, hz1, hz2⟩ := info_parts Tryz.info128
  have HI := hide hi
  have HB := hide hB
  clear hi hB
  go_enter Tryz.func110, Tryz.ntmps110
  go_wp2
  go_loopw [3, 4, 5] (fun wv iv _ wr => ∃ i : Nat, i ≤ 16 ∧ iv = .int .i64 i ∧ ∃ ao cap g, wv = .slice ao i cap ∧ Hid (MRow w wr ao cap g (wrd blk) i)) (fun _ iv _ _ => 16 - (intOf iv).toNat)
  case atStart => exact ⟨0, Nat.zero_le _, rfl, none, 0, 0, rfl, MRow.start _ _ (Fr.refl _ _) _⟩
  case round =>
    obtain ⟨i, hi16, rfl, ao, cp, g, rfl, HS⟩ := hrel
    by_cases hlt : i < 16
    · have hc := fun j hj => ((unhide HS).2.1.cell (a := ⟨b, off + j, none⟩) (World.block_lt_of_cell? _ _ (unhide HB j hj)) (fun t => t)).trans (unhide HB j hj)
      have c0 := hc (4 * i) (by omega)
      have c1 := hc (4 * i + 1) (by omega)
      have c2 := hc (4 * i + 2) (by omega)
      have c3 := hc (4 * i + 3) (by omega)
      clear hc
      have hv : wrd blk i = (blk (4 * i)).toNat * 16777216 + (blk (4 * i + 1)).toNat * 65536 + (blk (4 * i + 2)).toNat * 256 + (blk (4 * i + 3)).toNat := rfl
      have HV := hide hv
      have l0 := (blk (4 * i)).toNat_lt
      have l1 := (blk (4 * i + 1)).toNat_lt
      have l2 := (blk (4 * i + 2)).toNat_lt
      have l3 := (blk (4 * i + 3)).toNat_lt
      clear hv
      generalize (blk (4 * i)).toNat = a0 at *
      generalize (blk (4 * i + 1)).toNat = a1 at *
      generalize (blk (4 * i + 2)).toNat = a2 at *
      generalize (blk (4 * i + 3)).toNat = a3 at *
      go_wp2
      go_quiet (fail)
      obtain ⟨X, hX⟩ : ∃ X, X = wrd blk i := ⟨_, rfl⟩
      have hv : (a0 : Int) * 16777216 + (a1 : Int) * 65536 + (a2 : Int) * 256 + (a3 : Int) = (X : Int) := by rw [hX, unhide HV]; omega
      rw [hv]
      have HX := hide hX
      have HS1 := hide ((unhide HS).later ((Fr.refl _ wr).drewN nq))
      clear hv hX c0 c1 c2 c3 l0 l1 l2 l3
      generalize wr.drewN nq = wd at *
      go_wp2_with (at_builtin; refine wpList_append_vrow _ rfl (.tmp 48) (.tmp 50) 139 139 rfl 128 i0 (.int .u32 0) Tryz.underlying139 (unhide HI) hz0 rfl hz1 (ao := ao) (cap := cp) (g := g) (n := i) (vs := colsV (wrd blk) i) rfl ((unhide HS1).1.stay (fun hc => Below.heap_alloc _ _ _ ((unhide HS1).1.lt hc))) (colsV_length _ i) _ [.int .u32 X] 1 rfl rfl (src_oneZ wd X) (by rw [hz2]; omega) (by omega) ?next1)
      intro ao' cap' w3 g' hrow hgr
      have HN := hide ((unhide HS1).next (wrd blk) (fun _ _ => rfl) (unhide HX).symm _ ((Fr.refl _ wd).alloc _) hrow hgr)
      clear hrow hgr
      go_wp2
      first
      | exact ⟨⟨i + 1, by omega, by go_num, ao', cap', g', rfl, unhide HN⟩, by simp [intOf]; omega⟩
      | refine ⟨?_, ?_⟩
        · repeat apply Exists.intro
          refine ⟨?_, rfl⟩
          exact ⟨i + 1, by omega, by go_num, ao', cap', g', rfl, unhide HN⟩
        · show 16 - (intOf (.int .i64 ((i : Int) + 1))).toNat < 16 - (intOf (.int .i64 (i : Int))).toNat
          simp [intOf]; omega
    · obtain rfl : i = 16 := by omega
      go_wp2
      go_loopw [3, 6, 7, 8, 9, 10] (fun wv nv _ _ _ _ wr => ∃ n : Nat, 16 ≤ n ∧ n ≤ 64 ∧ nv = .int .i64 n ∧ ∃ ao cap g, wv = .slice ao n cap ∧ Hid (MRow w wr ao cap g (sched (wfirst blk 16) (n - 16)) n)) (fun _ nv _ _ _ _ _ => 64 - (intOf nv).toNat)
      case atStart =>
        refine ⟨16, Nat.le_refl _, by omega, rfl, ao, cp, g, rfl, ?_⟩
        obtain ⟨k1, k2, k3⟩ := unhide HS
        refine ⟨?_, k2, k3⟩
        have e : colsV (sched (wfirst blk 16) (16 - 16)) 16 = colsV (wrd blk) 16 := colsV_ext (fun j hj => if_pos hj)
        rw [e]
        exact k1
      case round =>
        obtain ⟨n, hn1, hn2, rfl, ao, cp, g, rfl, HS⟩ := hrel
        obtain ⟨had, hcp⟩ := (unhide HS).ad (by omega)
        subst had
        by_cases hlt : n < 64
        · obtain ⟨F, hF⟩ : ∃ F, F = sched (wfirst blk 16) (n - 16) := ⟨_, rfl⟩
          rw [← hF] at HS
          have hFl : ∀ j, F j < 4294967296 := fun j => by rw [hF]; exact sched_lt _ (wfirst_lt blk 16) _ _
          have HF := hide hF
          have cx := (unhide HS).cell (n - 15) (by omega)
          have cy := (unhide HS).cell (n - 2) (by omega)
          obtain ⟨m16, hm16⟩ : ∃ m, n = m + 16 := ⟨n - 16, by omega⟩
          obtain ⟨m7, hm7⟩ : ∃ m, n = m + 7 := ⟨n - 7, by omega⟩
          have ca := (unhide HS).cell m16 (by omega)
          have cb := (unhide HS).cell m7 (by omega)
          have lx := hFl (n - 15)
          have ly := hFl (n - 2)
          have la := hFl m16
          have lb := hFl m7
          have hv : wnext F n = add32 (add32 (add32 (F m16) (F m7)) (sg0 (F (n - 15)))) (sg1 (F (n - 2))) := by
            rw [wnext, show n - 16 = m16 by omega, show n - 7 = m7 by omega]
          have hn16 : (n : Int) - 16 = (m16 : Int) := by omega
          have hn7 : (n : Int) - 7 = (m7 : Int) := by omega
          have hw16 : IntKind.i64.wrap (m16 : Int) = (m16 : Int) := by rw [IntKind.wrap_i64]; omega
          have hw7 : IntKind.i64.wrap (m7 : Int) = (m7 : Int) := by rw [IntKind.wrap_i64]; omega
          have hl16 : (m16 : Int) < (n : Int) := by omega
          have hl7 : (m7 : Int) < (n : Int) := by omega
          have HM16 := hide (And.intro hm16 hm7)
          clear hm16 hm7
          have HV := hide hv
          clear hF hv hFl
          generalize F (n - 15) = x at *
          generalize F (n - 2) = y at *
          generalize F m16 = va at *
          generalize F m7 = vb at *
          have hsx := sg0_lt lx
          have hsy := sg1_lt ly
          go_wp2_with fail
          refine (rrot_any _ x 7 lx (by omega) (by omega)).mono ?_
          rintro e w1 ⟨rfl, rfl⟩
          go_wp2_with fail
          refine (rrot_any _ x 18 lx (by omega) (by omega)).mono ?_
          rintro e w1 ⟨rfl, rfl⟩
          go_wp2_with fail
          refine (rsh_any _ x 3 (by omega)).mono ?_
          rintro e w1 ⟨rfl, rfl⟩
          have hx := xor_sg0 x lx
          go_wp2_with fail
          clear hx
          refine (rrot_any _ y 17 ly (by omega) (by omega)).mono ?_
          rintro e w1 ⟨rfl, rfl⟩
          go_wp2_with fail
          refine (rrot_any _ y 19 ly (by omega) (by omega)).mono ?_
          rintro e w1 ⟨rfl, rfl⟩
          go_wp2_with fail
          refine (rsh_any _ y 10 (by omega)).mono ?_
          rintro e w1 ⟨rfl, rfl⟩
          have hy := xor_sg1 y ly
          go_wp2
          clear hy lx ly
          obtain ⟨V, hV⟩ : ∃ V, V = IntKind.u32.wrap (IntKind.u32.wrap (IntKind.u32.wrap ((va : Int) + (vb : Int)) + ((sg0 x : Nat) : Int)) + ((sg1 y : Nat) : Int)) := ⟨_, rfl⟩
          have hVn : V = ((wnext F n : Nat) : Int) := by
            rw [hV, unhide HV, IntKind.wrap_u32', IntKind.wrap_u32', IntKind.wrap_u32']
            simp only [add32]
            omega
          have HV2 := hide hV
          have HVN := hide hVn
          have hROW := ((unhide HS).later (((Fr.refl _ w1).alloc (.cells #[.int .u32 V] 128)).drew)).1
          have hSRC := src_one_d w1 V
          rw [hV] at hROW hSRC
          have HRS := hide (And.intro hROW hSRC)
          clear hV hVn hROW hSRC
          go_region_law (refine step_append_vrowZ rfl (.tmp 82) (.tmp 98) 139 139 rfl 128 i0 (.int .u32 0) Tryz.underlying139 (unhide HI) hz0 rfl hz1 (ao := some ⟨g, 0, none⟩) (cap := cp) (g := g) (n := n) (vs := colsV F n) rfl (unhide HRS).1 (colsV_length _ _) _ [.int .u32 (IntKind.u32.wrap (IntKind.u32.wrap (IntKind.u32.wrap ((va : Int) + (vb : Int)) + ((sg0 x : Nat) : Int)) + ((sg1 y : Nat) : Int)))] 1 rfl rfl (unhide HRS).2 (by rw [hz2]; omega) (by omega) ?_; intro ao' cap' w3 g' hrow hgr)
          all_goals
            rw [← unhide HV2, unhide HVN] at hrow hgr
            have HN := hide ((unhide HS).next (sched (wfirst blk 16) (n + 1 - 16)) (fun j hj => by
              rw [show n + 1 - 16 = (n - 16) + 1 by omega, sched, ← unhide HF, show 16 + (n - 16) = n by omega]
              show F j = if j = n then _ else F j
              rw [if_neg (by omega)]) (by
              rw [show n + 1 - 16 = (n - 16) + 1 by omega, sched, ← unhide HF, show 16 + (n - 16) = n by omega]
              exact if_pos rfl) _ (((Fr.refl _ w1).alloc _).drew) hrow hgr)
            clear hrow hgr
            go_wp2
            first
            | exact ⟨⟨n + 1, by omega, by omega, by go_num, ao', cap', g', rfl, unhide HN⟩, by simp [intOf]; omega⟩
            | refine ⟨?_, ?_⟩
              · repeat apply Exists.intro
                refine ⟨?_, rfl⟩
                exact ⟨n + 1, by omega, by omega, by go_num, ao', cap', g', rfl, unhide HN⟩
              · show 64 - (intOf (.int .i64 ((n : Int) + 1))).toNat < 64 - (intOf (.int .i64 (n : Int))).toNat
                simp [intOf]; omega
        · obtain rfl : n = 64 := by omega
          have HM : Hid ((∀ j, j < 64 → wr.cell? ⟨g, j, none⟩ = some (.int .u32 (spr blk j))) ∧ Fr (fun _ => False) w wr ∧ w.heap.size ≤ g) := ⟨fun j hj => (unhide HS).cell j hj, (unhide HS).2.1, (unhide HS).2.2 (by omega)⟩
          go_wp2
          go_ret
          exact ⟨_, _, rfl, unhide HM⟩

end Go.Proofs.YtabhfeocelljdaaGreatDoor

/- The document's own change. -/
namespace Go.Proofs.YtabhfeocelljdaaGreatDoor
open Go.RowKit

/-- The document's tables lie where their text lays them. -/
def TabRZ (w : World) : Prop := (∀ j, j < 8 → w.cell? ⟨0, j, none⟩ = some (.int .u32 (hw0 j))) ∧ ∀ j, j < 64 → w.cell? ⟨2, j, none⟩ = some (.int .u32 (kw j))

theorem TabRZ.frame {S : Nat → Prop} {w w' : World} (h : TabRZ w) (hF : Fr S w w') (h0 : ¬ S 0) (h2 : ¬ S 2) : TabRZ w' :=
  ⟨fun j hj => (hF.cell (a := ⟨0, j, none⟩) (World.block_lt_of_cell? _ _ (h.1 j hj)) h0).trans (h.1 j hj), fun j hj => (hF.cell (a := ⟨2, j, none⟩) (World.block_lt_of_cell? _ _ (h.2 j hj)) h2).trans (h.2 j hj)⟩
theorem TabRZ.later {w w' : World} (h : TabRZ w) (hF : Fr (fun _ => False) w w') : TabRZ w' := h.frame hF (fun t => t) (fun t => t)

/-- Words of which those behind place i have been moved up. -/
def shf (s : Nat → Nat) (i j : Nat) : Nat := if i < j then s (j - 1) else s j
theorem shf_next (s : Nat → Nat) (i j : Nat) (hi : 0 < i) : (if j = i then Value.int .u32 (s (i - 1)) else wv (shf s i) j) = wv (shf s (i - 1)) j := by
  unfold wv shf
  by_cases e : j = i
  · subst e; rw [if_pos rfl, if_pos (by omega)]
  · rw [if_neg e]
    by_cases h2 : i < j
    · rw [if_pos h2, if_pos (by omega)]
    · rw [if_neg h2, if_neg (by omega)]

/-- Where change has come to. -/
def Chg (w wr : World) (b r v g : Nat) (h s : Nat → Nat) (W : Nat → Nat) : Prop :=
  Blk wr b 129 8 (wv h) ∧ Blk wr r 129 8 (wv fun _ => 0) ∧ Blk wr v 129 8 (wv s) ∧ Fr (fun _ => False) w wr ∧ (∀ j, j < 64 → wr.cell? ⟨g, j, none⟩ = some (.int .u32 (W j))) ∧ w.heap.size ≤ b ∧ w.heap.size ≤ r ∧ w.heap.size ≤ v ∧ b ≠ r ∧ b ≠ v ∧ r ≠ v ∧ g ≠ v ∧ g ≠ b

theorem Chg.later {w wr w' : World} {b r v g : Nat} {h s : Nat → Nat} {W : Nat → Nat} (k : Chg w wr b r v g h s W) (hF : Fr (fun _ => False) wr w') : Chg w w' b r v g h s W := by
  obtain ⟨k1, k2, k3, k4, k5, k6⟩ := k
  exact ⟨k1.later hF, k2.later hF, k3.later hF, k4.trans hF (fun _ _ t => t), fun j hj => (hF.cell (a := ⟨g, j, none⟩) (World.block_lt_of_cell? _ _ (k5 j hj)) (fun t => t)).trans (k5 j hj), k6⟩

theorem Chg.set {w wr : World} {b r v g : Nat} {h s : Nat → Nat} {W : Nat → Nat} (k : Chg w wr b r v g h s W) (i : Nat) (hi : i < 8) (x : Nat) (s' : Nat → Nat) (hs : ∀ j, j < 8 → (if j = i then Value.int .u32 x else wv s j) = wv s' j) : Chg w (wr.setCell ⟨v, i, none⟩ (.int .u32 x)) b r v g h s' W := by
  obtain ⟨k1, k2, k3, k4, k5, k6, k7, k8, k9, k10, k11, k12, k13⟩ := k
  refine ⟨k1.other _ _ k10, k2.other _ _ k11, (k3.set i hi _).same hs, k4.setCell (p := ⟨v, i, none⟩) (fun t => absurd t (by simp only []; omega)) _, fun j hj => ?_, k6, k7, k8, k9, k10, k11, k12, k13⟩
  rw [World.cell?_setCell_other _ _ _ _ (fun t => k12 (by injection t with t _; exact t.symm))]
  exact k5 j hj

theorem Chg.same {w wr : World} {b r v g : Nat} {h s s' : Nat → Nat} {W : Nat → Nat} (k : Chg w wr b r v g h s W) (hs : ∀ j, j < 8 → s j = s' j) : Chg w wr b r v g h s' W := by
  obtain ⟨k1, k2, k3, k4⟩ := k
  exact ⟨k1, k2, k3.same (fun j hj => by unfold wv; rw [hs j hj]), k4⟩

/-- What a round makes of the words that were moved up. -/
def rn2 (s : Nat → Nat) (x4 x0 j : Nat) : Nat := if j = 0 then x0 else if j = 4 then x4 else shf s 0 j
theorem rn2_is (k W : Nat) (s : Nat → Nat) (x4 x0 j : Nat) (hj : j < 8) (h4 : x4 = add32 (s 3) (t1 k W s)) (h0 : x0 = add32 (t1 k W s) (t2 s)) : rn2 s x4 x0 j = rnd k W s j := by
  subst h4 h0
  match j, hj with
  | 0, _ => rfl
  | 1, _ => rfl
  | 2, _ => rfl
  | 3, _ => rfl
  | 4, _ => rfl
  | 5, _ => rfl
  | 6, _ => rfl
  | 7, _ => rfl

theorem ch_nat2 (e f g : Nat) (he : e < 4294967296) (hf : f < 4294967296) (hg : g < 4294967296) : bits .xor .u32 (bits .and .u32 (e : Int) (f : Int)) (bits .and .u32 (bits .xor .u32 IntKind.u32.max (e : Int)) (g : Int)) = ((chs e f g : Nat) : Int) := by
  have := ch_nat e f g he hf hg
  rwa [if_neg (by decide)] at this

set_option maxHeartbeats 4000000 in
set_option maxRecDepth 100000 in
theorem rchange_any (w : World) (hT : TabRZ w) (hq : Nat → Nat) (hh : ∀ j, hq j < 4294967296) (b off cap : Nat) (blk : Nat → UInt8) (hB : ∀ j, j < 64 → w.cell? ⟨b, off + j, none⟩ = some (.int .u8 (blk j).toNat)) :
    Calls Tryz.prog 102 #[.agg (arr 8 (wv hq)), .slice (some ⟨b, off, none⟩) 64 cap] w fun e w' => e = .returned (.agg (arr 8 (wv (comp hq blk)))) ∧ Fr (fun _ => False) w w' := by
  have HT := hide hT
  have HB := hide hB
  clear hT hB
  go_enter Tryz.func102, Tryz.ntmps102
  go_wp2_with fail
  rw [zero8]
  have hF0 := ((Fr.refl (fun _ => False) w).alloc (.cells (arr 8 (wv hq)) 129)).alloc (.cells (arr 8 (wv fun _ => 0)) 129)
  have e1 : (w.alloc (.cells (arr 8 (wv hq)) 129)).heap.size = w.heap.size + 1 := by simp
  have b0 := (Blk.new w 129 8 (wv hq)).alloc (.cells (arr 8 (wv fun _ => 0)) 129)
  have b1 := Blk.new (w.alloc (.cells (arr 8 (wv hq)) 129)) 129 8 (wv fun _ => 0)
  have e2 : ((w.alloc (.cells (arr 8 (wv hq)) 129)).alloc (.cells (arr 8 (wv fun _ => 0)) 129)).heap.size = w.heap.size + 1 + 1 := by simp
  rw [e1] at b1
  have HM := hide (And.intro b0 (And.intro b1 (And.intro hF0 e2)))
  clear e1 b0 b1 hF0 e2
  generalize ((w.alloc (.cells (arr 8 (wv hq)) 129)).alloc (.cells (arr 8 (wv fun _ => 0)) 129)) = w0 at *
  refine (rspread_any w0 b off cap blk (fun j hj => ((unhide HM).2.2.1.cell (a := ⟨b, off + j, none⟩) (World.block_lt_of_cell? _ _ (unhide HB j hj)) (fun t => t)).trans (unhide HB j hj))).mono ?_
  rintro e w1 ⟨g, mc, rfl, hgc, k2, k3⟩
  have hM : Chg w ((w1.alloc (.cells (arr 8 (wv fun _ => 0)) 129)).setRow w1.heap.size (arr 8 (wv hq))) w.heap.size (w.heap.size + 1) w1.heap.size g hq (rnds (spr blk) hq 0) (spr blk) := by
    obtain ⟨m1, m2, m3, m4⟩ := unhide HM
    have hF1 := (Fr.refl (fun _ => False) w1).alloc (.cells (arr 8 (wv fun _ => 0)) 129)
    have hg1 : g < w1.heap.size := World.block_lt_of_cell? _ _ (hgc 0 (by omega))
    have hs1 := k2.size
    have hF2 : Fr (fun k => k = w1.heap.size) w1 ((w1.alloc (.cells (arr 8 (wv fun _ => 0)) 129)).setRow w1.heap.size (arr 8 (wv hq))) := (hF1.mono (T := fun k => k = w1.heap.size) (fun _ _ t => t.elim)).setRow (fun _ => rfl) _
    refine ⟨(m1.later k2).frame hF2 (by omega), (m2.later k2).frame hF2 (by omega), (Blk.new w1 129 8 _).row _, (m3.trans k2 (fun _ _ t => t)).trans hF2 (fun i hi t => by have := m3.size; omega), fun j hj => ?_, by omega, by omega, by omega, by omega, by omega, by omega, by omega, by omega⟩
    exact (hF2.cell (a := ⟨g, j, none⟩) hg1 (by show ¬ g = w1.heap.size; omega)).trans (hgc j hj)
  have HC := hide hM
  have HL := hide (And.intro ((unhide HM).1.later k2) (Blk.new w1 129 8 (wv fun _ => 0)))
  clear hM hgc k2 k3 HM
  go_wp2_with (first | refine wpList_load_row rfl 129 (.tmp 2) rfl w.heap.size rfl 129 (arr 8 (wv hq)) (0, 0) _ (unhide HL).1 Tryz.underlying129 rfl (size49 _) ?_ | refine wpList_store_row rfl 129 (.tmp 6) (.tmp 19) rfl w1.heap.size (arr 8 (wv hq)) rfl rfl 129 (arr 8 (wv fun _ => 0)) ?hb (size49 _) (by rw [arr_size, arr_size]) (arr_one _ _ (fun _ => rfl)) ?_)
  case hb =>
    rw [zero8]
    exact (unhide HL).2
  rw [zero8]
  generalize ((w1.alloc (.cells (arr 8 (wv fun _ => 0)) 129)).setRow w1.heap.size (arr 8 (wv hq))) = w2 at *
  generalize w1.heap.size = v at *
  generalize w.heap.size + 1 = r at *
  obtain ⟨b0, hb0⟩ : ∃ b, w.heap.size = b := ⟨_, rfl⟩
  rw [hb0] at HC ⊢
  clear HL
  go_wp2
  go_loopw [7, 8, 9, 10, 11, 12, 13, 14, 15] (fun nv _ _ _ _ _ _ _ _ wr => ∃ n : Nat, n ≤ 64 ∧ nv = .int .i64 n ∧ Hid (Chg w wr b0 r v g hq (rnds (spr blk) hq n) (spr blk))) (fun nv _ _ _ _ _ _ _ _ _ => 64 - (intOf nv).toNat)
  case atStart => exact ⟨0, Nat.zero_le _, rfl, unhide HC⟩
  case round =>
    clear HC
    obtain ⟨n, hn, rfl, HS⟩ := hrel
    by_cases hlt : n < 64
    · have HN := hide (rnds_next (spr blk) hq n)
      have HL := hide (fun j => rnds_lt (spr blk) hq hh n j)
      have ck := ((unhide HT).later (unhide HS).2.2.2.1).2 n hlt
      have cw := (unhide HS).2.2.2.2.1 n hlt
      have c0 : wr.cell? ⟨v, 0, none⟩ = some (.int .u32 (rnds (spr blk) hq n 0)) := (unhide HS).2.2.1.cell 0 (by omega)
      have c1 : wr.cell? ⟨v, 1, none⟩ = some (.int .u32 (rnds (spr blk) hq n 1)) := (unhide HS).2.2.1.cell 1 (by omega)
      have c2 : wr.cell? ⟨v, 2, none⟩ = some (.int .u32 (rnds (spr blk) hq n 2)) := (unhide HS).2.2.1.cell 2 (by omega)
      have c4 : wr.cell? ⟨v, 4, none⟩ = some (.int .u32 (rnds (spr blk) hq n 4)) := (unhide HS).2.2.1.cell 4 (by omega)
      have c5 : wr.cell? ⟨v, 5, none⟩ = some (.int .u32 (rnds (spr blk) hq n 5)) := (unhide HS).2.2.1.cell 5 (by omega)
      have c6 : wr.cell? ⟨v, 6, none⟩ = some (.int .u32 (rnds (spr blk) hq n 6)) := (unhide HS).2.2.1.cell 6 (by omega)
      have c7 : wr.cell? ⟨v, 7, none⟩ = some (.int .u32 (rnds (spr blk) hq n 7)) := (unhide HS).2.2.1.cell 7 (by omega)
      obtain ⟨s, hs⟩ : ∃ s, s = rnds (spr blk) hq n := ⟨_, rfl⟩
      have hnx : ∀ j, rnds (spr blk) hq (n + 1) j = rnd (kw n) (spr blk n) s j := fun j => by rw [hs]; rfl
      rw [← hs] at HS HL c0 c1 c2 c4 c5 c6 c7
      have HNX := hide hnx
      clear hs hnx HN
      have l0 := unhide HL 0
      have l4 := unhide HL 4
      have hx1 := xor_bs1 (s 4) l4
      have hx0 := xor_bs0 (s 0) l0
      have hch := ch_nat2 (s 4) (s 5) (s 6) l4 (unhide HL 5) (unhide HL 6)
      have hmj := maj_nat (s 0) (s 1) (s 2) l0 (unhide HL 1) (unhide HL 2)
      have HCH := hide hch
      have HMJ := hide hmj
      have HX0 := hide hx0
      have HX1 := hide hx1
      have HL0 := hide l0
      have HL4 := hide l4
      clear hch hmj hx0 hx1 l0 l4
      go_wp2_with fail
      refine (rrot_any _ (s 4) 6 (unhide HL4) (by omega) (by omega)).mono ?_
      rintro e w3 ⟨rfl, rfl⟩
      go_wp2_with fail
      refine (rrot_any _ (s 4) 11 (unhide HL4) (by omega) (by omega)).mono ?_
      rintro e w3 ⟨rfl, rfl⟩
      go_wp2_with fail
      refine (rrot_any _ (s 4) 25 (unhide HL4) (by omega) (by omega)).mono ?_
      rintro e w3 ⟨rfl, rfl⟩
      have hx1 := unhide HX1
      go_wp2
      clear hx1
      rw [unhide HCH]
      go_quiet (fail)
      obtain ⟨T, hT⟩ : ∃ T, T = t1 (kw n) (spr blk n) s := ⟨_, rfl⟩
      have htv : (((s 7 : Int) + (bs1 (s 4) : Int) + (chs (s 4) (s 5) (s 6) : Int) + (kw n : Int)) % 4294967296 + (spr blk n : Int)) % 4294967296 = (T : Int) := by
        rw [hT]; simp only [t1, add32]; omega
      rw [htv]
      have HTT := hide hT
      have hTl : T < 4294967296 := by rw [hT]; exact add32_lt _ _
      clear htv hT ck cw c4 c5 c6 c7
      have HS1 := hide ((unhide HS).later ((Fr.refl _ w3).drewN nq))
      have c0 : (w3.drewN nq).cell? ⟨v, 0, none⟩ = some (.int .u32 (s 0)) := c0
      have c1 : (w3.drewN nq).cell? ⟨v, 1, none⟩ = some (.int .u32 (s 1)) := c1
      have c2 : (w3.drewN nq).cell? ⟨v, 2, none⟩ = some (.int .u32 (s 2)) := c2
      generalize w3.drewN nq = wd at *
      go_wp2_with fail
      refine (rrot_any _ (s 0) 2 (unhide HL0) (by omega) (by omega)).mono ?_
      rintro e w3 ⟨rfl, rfl⟩
      go_wp2_with fail
      refine (rrot_any _ (s 0) 13 (unhide HL0) (by omega) (by omega)).mono ?_
      rintro e w3 ⟨rfl, rfl⟩
      go_wp2_with fail
      refine (rrot_any _ (s 0) 22 (unhide HL0) (by omega) (by omega)).mono ?_
      rintro e w3 ⟨rfl, rfl⟩
      have hx0 := unhide HX0
      have hmj := unhide HMJ
      go_wp2
      clear hx0 hmj c0 c1 c2
      have HS2 := hide ((unhide HS1).same (s' := shf s 7) (fun j hj => (if_neg (by omega)).symm))
      clear HS1
      go_loopw [15] (fun iv wr => ∃ i : Nat, i ≤ 7 ∧ iv = .int .i64 i ∧ Hid (Chg w wr b0 r v g hq (shf s i) (spr blk))) (fun iv _ => (intOf iv).toNat)
      case atStart => exact ⟨7, Nat.le_refl _, rfl, unhide HS2⟩
      case round =>
        obtain ⟨i, hi7, rfl, HI⟩ := hrel
        by_cases hi0 : 0 < i
        · have ci : wr.cell? ⟨v, i, none⟩ = some (.int .u32 (shf s i i)) := (unhide HI).2.2.1.cell i (by omega)
          have fi := (unhide HI).2.2.1.frozen i
          have cj : wr.cell? ⟨v, i - 1, none⟩ = some (.int .u32 (s (i - 1))) := by
            have := (unhide HI).2.2.1.cell (i - 1) (by omega)
            rw [this]
            unfold wv shf
            rw [if_neg (by omega)]
          have HN := hide ((unhide HI).set i (by omega) (s (i - 1)) (shf s (i - 1)) (fun j _ => shf_next s i j hi0))
          generalize shf s i i = y at *
          generalize s (i - 1) = x at *
          go_wp2
          first
          | exact ⟨⟨i - 1, by omega, by go_num, unhide HN⟩, by simp [intOf]; omega⟩
          | refine ⟨?_, ?_⟩
            · repeat apply Exists.intro
              refine ⟨?_, rfl⟩
              exact ⟨i - 1, by omega, by go_num, unhide HN⟩
            · show (intOf (.int .i64 ((i : Int) - 1))).toNat < (intOf (.int .i64 (i : Int))).toNat
              simp [intOf]; omega
        · obtain rfl : i = 0 := by omega
          have c4 : wr.cell? ⟨v, 4, none⟩ = some (.int .u32 (s 3)) := (unhide HI).2.2.1.cell 4 (by omega)
          have f4 := (unhide HI).2.2.1.frozen 4
          have c0 : wr.cell? ⟨v, 0, none⟩ = some (.int .u32 (s 0)) := (unhide HI).2.2.1.cell 0 (by omega)
          have f0 := (unhide HI).2.2.1.frozen 0
          obtain ⟨X4, hX4⟩ : ∃ X, X = add32 (s 3) (t1 (kw n) (spr blk n) s) := ⟨_, rfl⟩
          obtain ⟨X0, hX0⟩ : ∃ X, X = add32 (t1 (kw n) (spr blk n) s) (t2 s) := ⟨_, rfl⟩
          have hv4 : ((s 3 : Int) + (T : Int)) % 4294967296 = (X4 : Int) := by rw [hX4, ← unhide HTT]; simp only [add32]; omega
          have hv0 : ((T : Int) + (bs0 (s 0) : Int) + (maj (s 0) (s 1) (s 2) : Int)) % 4294967296 = (X0 : Int) := by rw [hX0, ← unhide HTT]; simp only [t2, add32]; omega
          have HZ := hide ((((unhide HI).set 4 (by omega) X4 (updZ (shf s 0) 4 X4) (fun j _ => by
            unfold wv updZ
            by_cases e : j = 4
            · subst e; rw [if_pos rfl, if_pos rfl]
            · rw [if_neg e, if_neg e])).set 0 (by omega) X0 (rn2 s X4 X0) (fun j _ => by
            unfold wv rn2 updZ
            by_cases e : j = 0
            · subst e; rw [if_pos rfl, if_pos rfl]
            · rw [if_neg e, if_neg e])).same (s' := rnds (spr blk) hq (n + 1)) (fun j hj => by rw [unhide HNX j]; exact rn2_is _ _ _ _ _ j hj hX4 hX0))
          have h43 := unhide HL 3
          clear hX4 hX0
          go_wp2
          exact ⟨⟨n + 1, by omega, by go_num, unhide HZ⟩, by simp [intOf]; omega⟩
    · obtain rfl : n = 64 := by omega
      have HL := hide (fun j => rnds_lt (spr blk) hq hh 64 j)
      have HH := hide hh
      obtain ⟨V, hV⟩ : ∃ V, V = rnds (spr blk) hq 64 := ⟨_, rfl⟩
      rw [← hV] at HL HS
      have HV := hide hV
      clear hV hh
      obtain ⟨k1, k2, k3, k4, _, k6, k7, k8, k9, k10, k11, _⟩ := unhide HS
      have HW : Hid (Blk wr b0 129 8 (wv (mixf hq V 0)) ∧ Blk wr r 129 8 (wv fun _ => 0) ∧ Blk wr v 129 8 (wv V) ∧ Fr (fun _ => False) w wr) := ⟨k1.same (fun j _ => by simp [wv, mixf]), k2, k3, k4⟩
      have HP := hide (And.intro k6 (And.intro k7 (And.intro k9 k10)))
      clear k1 k2 k3 k4 k6 k7 k8 k9 k10 k11 HS
      go_wp2
      go_loopw [16] (fun iv wr => ∃ i : Nat, i ≤ 8 ∧ iv = .int .i64 i ∧ Hid (Blk wr b0 129 8 (wv (mixf hq V i)) ∧ Blk wr r 129 8 (wv fun _ => 0) ∧ Blk wr v 129 8 (wv V) ∧ Fr (fun _ => False) w wr)) (fun iv _ => 8 - (intOf iv).toNat)
      case atStart => exact ⟨0, Nat.zero_le _, rfl, unhide HW⟩
      case round =>
        obtain ⟨i, hi, rfl, HS⟩ := hrel
        by_cases hlt : i < 8
        · have ci := (unhide HS).1.cell i hlt
          have fi := (unhide HS).1.frozen i
          have cv := (unhide HS).2.2.1.cell i hlt
          unfold wv at ci cv
          rw [mixf_at] at ci
          have hl := unhide HH i
          have hl2 := unhide HL i
          obtain ⟨k1, k2, k3, k4⟩ := unhide HS
          have HN := hide (And.intro ((k1.set i hlt (.int .u32 (add32 (hq i) (V i)))).same (f' := wv (mixf hq V (i + 1))) (fun j _ => mixf_next hq V i j)) (And.intro (k2.other ⟨b0, i, none⟩ (.int .u32 (add32 (hq i) (V i))) (fun t => (unhide HP).2.2.1 t.symm)) (And.intro (k3.other ⟨b0, i, none⟩ (.int .u32 (add32 (hq i) (V i))) (fun t => (unhide HP).2.2.2 t.symm)) (k4.setCell (p := ⟨b0, i, none⟩) (fun t => absurd t (by have := (unhide HP).1; simp only []; omega)) (.int .u32 (add32 (hq i) (V i)))))))
          clear k1 k2 k3 k4
          have hv : ((hq i : Int) + (V i : Int)) % 4294967296 = ((add32 (hq i) (V i) : Nat) : Int) := by simp only [add32]; omega
          rw [← hv] at HN
          clear hv
          generalize hq i = x at *
          generalize V i = y at *
          go_wp2
          go_big_region
          go_wp2
          obtain ⟨n1, n2, n3, n4⟩ := unhide HN
          exact ⟨⟨i + 1, by omega, by go_num, n1.later (Fr.refl _ _).drew, n2.later (Fr.refl _ _).drew, n3.later (Fr.refl _ _).drew, n4.drew⟩, by simp [intOf]; omega⟩
        · obtain rfl : i = 8 := by omega
          obtain ⟨k1, k2, k3, k4⟩ := unhide HS
          have k5 : Blk wr b0 129 8 (wv (comp hq blk)) := k1.same (fun j hj => by
            unfold wv
            rw [mixf_full hq V j hj, unhide HV]; rfl)
          have HQ := hide (And.intro k5 (And.intro k2 (k4.setRow (g := r) (fun t => absurd t (by have := (unhide HP).2.1; omega)) (arr 8 (wv (comp hq blk))))))
          clear k1 k2 k3 k4 k5
          go_wp2_with (first | refine wpList_load_row rfl 129 (.tmp 2) rfl b0 rfl 129 (arr 8 (wv (comp hq blk))) (0, 0) _ (unhide HQ).1 Tryz.underlying129 rfl (size49 _) ?_ | refine wpList_store_row rfl 129 (.tmp 4) (.tmp 118) rfl r (arr 8 (wv (comp hq blk))) rfl rfl 129 (arr 8 (wv fun _ => 0)) (unhide HQ).2.1 (size49 _) (by rw [arr_size, arr_size]) (arr_one _ _ (fun _ => rfl)) ?_)
          refine bodyPost_ret (results_cell_row rfl _ _ r 129 (arr 8 (wv (comp hq blk))) (0, 0) _ rfl ((unhide HQ).2.1.row _) Tryz.underlying129 rfl (size49 _)) rfl ?_
          exact ⟨rfl, (unhide HQ).2.2⟩

end Go.Proofs.YtabhfeocelljdaaGreatDoor

/- The document's own filling. -/
namespace Go.Proofs.YtabhfeocelljdaaGreatDoor
open Go.RowKit

/-- The byte that a round appends. -/
theorem src_byte (w : World) (x : UInt8) (z : Int) (hz : (x.toNat : Int) = z) : Src Tryz.prog 1 23 (.slice (some ⟨w.heap.size, 0, none⟩) 1 1) [x].length (bytesV [x]) (w.alloc (.cells #[.int .u8 z] 5)) := by
  subst hz
  exact src_slice Tryz.underlying23 _ _ 1 [x] (bat_lit w [x] 5 (0, 0) (by simp)).2.1

/-- Bytes that are being made. -/
def Mk (w wr : World) (ao : Option Addr) (l cap : Nat) (bs : List UInt8) : Prop := l = bs.length ∧ ∃ g, Row wr (.slice ao l cap) g bs ∧ Fr (fun _ => False) w wr ∧ w.heap.size ≤ g

theorem Mk.next {w wr w3 : World} {ao3 : Option Addr} {cap cap3 g g3 : Nat} {bs : List UInt8} {x : UInt8} {o : Obj} (hF : Fr (fun _ => False) w wr) (hg : w.heap.size ≤ g)
    (k1 : Row w3 (.slice ao3 (bs.length + 1) cap3) g3 (bs ++ [x])) (k2 : Fr (fun k => k = g ∧ 0 < cap) (wr.alloc o) w3) (k3 : (g3 = g ∧ cap3 = cap) ∨ wr.heap.size + 1 ≤ g3) : Mk w w3 ao3 (bs.length + 1) cap3 (bs ++ [x]) := by
  have h9 := hF.size
  refine ⟨by simp, g3, k1, (hF.alloc o).trans k2 (fun i hi t => by omega), ?_⟩
  rcases k3 with ⟨e, _⟩ | k3 <;> omega

theorem be8_take (n m : Nat) (hm : m < 8) : (be8 n).take (m + 1) = (be8 n).take m ++ [UInt8.ofNat (n / 2 ^ (8 * (7 - m)))] := by
  have h := be8_get n (7 - m) (by omega)
  rw [show 7 - (7 - m) = m by omega] at h
  rw [List.take_add_one, h]
  rfl

set_option maxRecDepth 20000 in
set_option maxHeartbeats 2000000 in
theorem hfilled_any (w : World) (ao : Option Addr) (cap : Nat) (bs : List UInt8) (hB : BAt w ao cap bs) (hfit : bs.length + 72 ≤ 140737488355328) :
    Calls Tryz.prog 101 #[.slice ao bs.length cap] w fun e w' => ∃ v, e = .returned v ∧ New w (bs ++ fill bs.length) v w' := by
  obtain ⟨i0, hi, hz0, hz1, hz2⟩ := info_parts Tryz.info5
  have HI := hide hi
  have HB := hide hB
  clear hi hB
  go_enter Tryz.func101, Tryz.ntmps101
  go_wp2_with (at_builtin; refine wpList_append_row _ rfl (.tmp 6) (.tmp 7) 23 23 rfl 5 i0 Tryz.underlying23 (unhide HI) hz0 hz1 hz2 (g := w.heap.size) (bs := []) (cap := 0) rfl (Row.nil _ _) _ bs rfl ?src1 ?fit1 ?next1)
  case src1 => exact src_slice Tryz.underlying23 _ ao cap bs (unhide HB).2.1
  case fit1 => simp; omega
  intro ao1 cap1 w1 g1 hrow hfr hg
  have hF1 : Fr (fun _ => False) w w1 := hfr.mono (fun i hi t => by omega)
  have hrow' : Row w1 (.slice ao1 bs.length cap1) g1 bs := by simpa using hrow
  have HR1 := hide (And.intro hrow' (And.intro hF1 (show w.heap.size ≤ g1 by omega)))
  clear hrow hrow' hfr hg hF1
  go_wp2_with (at_builtin; refine wpList_append_row _ rfl (.tmp 9) (.tmp 10) 23 23 rfl 5 i0 Tryz.underlying23 (unhide HI) hz0 hz1 hz2 (ao := ao1) (cap := cap1) (g := g1) (bs := bs) rfl ((unhide HR1).1.stay (fun hx => Below.heap_alloc w1 _ _ hx)) _ [128] rfl (src_byte w1 128 128 rfl) (by simp; omega) ?next2)
  intro ao2 cap2 w2 g2 k1 k2 k3
  have HM := hide (Mk.next (unhide HR1).2.1 (unhide HR1).2.2 k1 k2 k3)
  clear k1 k2 k3 HR1
  obtain ⟨N0, hN0⟩ : ∃ N, N = 63 - (bs.length + 8) % 64 := ⟨_, rfl⟩
  have HN0 := hide hN0
  clear hN0
  go_wp2
  go_loopw [3] (fun ov wr => ∃ k ao cap l, k ≤ N0 ∧ l = bs.length + 1 + k ∧ ov = .slice ao l cap ∧ Hid (Mk w wr ao l cap (bs ++ [128] ++ List.replicate k 0))) (fun ov _ => bs.length + 1 + N0 - slen ov)
  case atStart => exact ⟨0, ao2, cap2, _, Nat.zero_le _, rfl, rfl, by show Mk _ _ _ _ _ _; simpa using unhide HM⟩
  case round =>
    clear HM
    obtain ⟨k, ao, cap, l, hk, hl, rfl, HS⟩ := hrel
    have hn0 := unhide HN0
    by_cases hlt : k < N0
    · have hm : ((l : Int) % 64 != 56) = true := by
        simp only [bne_iff_ne, ne_eq]
        omega
      obtain ⟨e, g, m1, m2, m3⟩ := unhide HS
      have HK := hide (And.intro m1 (And.intro m2 m3))
      have HE := hide hl
      have hlf : l + 1 ≤ 140737488355328 := by omega
      generalize hR : bs ++ [128] ++ List.replicate k 0 = R at *
      have hRn : bs ++ [128] ++ List.replicate (k + 1) 0 = R ++ [0] := by rw [← hR, List.replicate_succ', List.append_assoc, List.append_assoc, List.append_assoc]
      have HRN := hide hRn
      clear m1 m2 m3 hl hn0 hRn hR HS
      subst e
      go_wp2_with (at_builtin; refine wpList_append_row _ rfl (.tmp 16) (.tmp 17) 23 23 rfl 5 i0 Tryz.underlying23 (unhide HI) hz0 hz1 hz2 (ao := ao) (cap := cap) (g := g) (bs := R) rfl ((unhide HK).1.stay (fun hx => Below.heap_alloc wr _ _ hx)) _ [0] rfl (src_byte wr 0 0 rfl) (by simp; omega) ?next3)
      intro ao3 cap3 w3 g3 k1 k2 k3
      have HM := hide (Mk.next (unhide HK).2.1 (unhide HK).2.2 k1 k2 k3)
      clear k1 k2 k3
      go_wp2
      refine ⟨⟨k + 1, ao3, cap3, R.length + 1, by omega, by have := unhide HE; omega, rfl, ?_⟩, by have := unhide HE; simp [slen]; omega⟩
      rw [unhide HRN]
      exact unhide HM
    · obtain rfl : k = N0 := by omega
      have hm : ((l : Int) % 64 != 56) = false := by
        simp only [bne_eq_false_iff_eq]
        omega
      have h8 : (bs.length : Int) * 8 < 18446744073709551616 := by omega
      have hfl : fill bs.length = [128] ++ List.replicate k 0 ++ (be8 (8 * bs.length)).take 8 := by
        rw [show (be8 (8 * bs.length)).take 8 = be8 (8 * bs.length) from rfl, hn0]; rfl
      have HFL := hide hfl
      have HE := hide hl
      have hk63 : k ≤ 63 := by omega
      clear hfl hn0 hl
      go_wp2
      clear hm
      go_loopw [3, 5] (fun ov iv wr => ∃ m ao cap l', m ≤ 8 ∧ l' = l + m ∧ iv = .int .i64 (7 - (m : Int)) ∧ ov = .slice ao l' cap ∧ Hid (Mk w wr ao l' cap (bs ++ [128] ++ List.replicate k 0 ++ (be8 (8 * bs.length)).take m))) (fun ov _ _ => l + 8 - slen ov)
      case atStart => exact ⟨0, ao, cap, l, by omega, rfl, rfl, rfl, by show Mk _ _ _ _ _ _; simpa using unhide HS⟩
      case round =>
        clear HS
        obtain ⟨m, ao, cap, l', hm8, hl', rfl, rfl, HS⟩ := hrel
        by_cases hlt : m < 8
        · obtain ⟨e, g, m1, m2, m3⟩ := unhide HS
          have HK := hide (And.intro m1 (And.intro m2 m3))
          have hlf : l' + 1 ≤ 140737488355328 := by have := unhide HE; omega
          generalize hR : bs ++ [128] ++ List.replicate k 0 ++ (be8 (8 * bs.length)).take m = R at *
          have hRn : bs ++ [128] ++ List.replicate k 0 ++ (be8 (8 * bs.length)).take (m + 1) = R ++ [UInt8.ofNat (8 * bs.length / 2 ^ (8 * (7 - m)))] := by rw [← hR, be8_take _ m hlt, List.append_assoc _ ((be8 (8 * bs.length)).take m)]
          have HRN := hide (And.intro hRn hl')
          obtain ⟨q, hq⟩ : ∃ q : Nat, q + m = 7 := ⟨7 - m, by omega⟩
          have hqi : 7 - (m : Int) = (q : Int) := by omega
          rw [show 7 - m = q by omega] at HRN
          have hv : ((UInt8.ofNat (8 * bs.length / 2 ^ (8 * q))).toNat : Int) = (bs.length : Int) * 8 / 2 ^ (8 * q) % 256 := by
            rw [UInt8.toNat_ofNat', Int.natCast_emod, Int.natCast_ediv, Int.natCast_pow, Nat.mul_comm, Int.natCast_mul]; rfl
          have HSB := hide (src_byte wr (UInt8.ofNat (8 * bs.length / 2 ^ (8 * q))) _ hv)
          have hq7 : q ≤ 7 := by omega
          have HQ := hide hq
          clear m1 m2 m3 hR hRn HS hv hq hl'
          subst e
          go_wp2_with (at_builtin; refine wpList_append_row _ rfl (.tmp 27) (.tmp 34) 23 23 rfl 5 i0 Tryz.underlying23 (unhide HI) hz0 hz1 hz2 (ao := ao) (cap := cap) (g := g) (bs := R) rfl ((unhide HK).1.stay (fun hx => Below.heap_alloc wr _ _ hx)) _ [UInt8.ofNat (8 * bs.length / 2 ^ (8 * q))] rfl (unhide HSB) (by simp; omega) ?next4)
          intro ao3 cap3 w3 g3 k1 k2 k3
          have HM := hide (Mk.next (unhide HK).2.1 (unhide HK).2.2 k1 k2 k3)
          clear k1 k2 k3
          go_wp2
          refine ⟨⟨m + 1, ao3, cap3, R.length + 1, by omega, by have := (unhide HRN).2; omega, ?_, rfl, ?_⟩, by have := (unhide HRN).2; simp [slen]; omega⟩
          · have := unhide HQ
            refine congrArg (Value.int .i64) ?_
            omega
          · rw [(unhide HRN).1]
            exact unhide HM
        · obtain rfl : m = 8 := by omega
          have HZ : Hid (New w (bs ++ fill bs.length) (.slice ao l' cap) wr) := by
            obtain ⟨e, g, m1, m2, m3⟩ := unhide HS
            refine ⟨g, ?_, m2, m3⟩
            rw [unhide HFL, ← List.append_assoc, ← List.append_assoc]
            exact m1
          go_wp2
          go_ret
          exact ⟨_, rfl, unhide HZ⟩

end Go.Proofs.YtabhfeocelljdaaGreatDoor

/- The regions of the document's Sum that draw their order. -/
namespace Go.Proofs.YtabhfeocelljdaaGreatDoor
open Go.RowKit

theorem n49 : (Tryz.prog.info? 129).map (·.size) = some 8 := by kernel_rfl
theorem load_row49 {w : World} {g : Nat} {f : Nat → Nat} (h : Blk w g 129 8 (wv f)) : (Instr.loadAt 129 (.pointer (some ⟨g, 0, none⟩))).run Tryz.prog w = .ok (.agg (arr 8 (wv f))) w := by
  simp only [Instr.loadAt, Instr.sureAddr, Sem.run_bind, Sem.run_pure, Result.andThen_ok, run_loadVar_row w g 129 129 _ _ _ h Tryz.underlying129 rfl (size49 _)]
theorem store_row49 {w : World} {g : Nat} {f : Nat → Nat} (h : Blk w g 129 8 (wv f)) (f' : Nat → Nat) : (Instr.storeAt 129 (.pointer (some ⟨g, 0, none⟩)) (.agg (arr 8 (wv f')))).run Tryz.prog w = .ok () (w.setRow g (arr 8 (wv f'))) := by
  simp only [Instr.storeAt, Instr.sureAddr, Sem.run_bind, Sem.run_pure, Result.andThen_ok, run_storeVar_row w g 129 129 _ (arr 8 (wv f')) h (size49 _) (by rw [arr_size, arr_size]) (arr_one _ _ (fun _ => rfl))]

set_option maxHeartbeats 1000000 in
theorem rs6_any {Q : Exit → Act → World → Prop} (w0 : World) (hb g L c i : Nat) (f f' : Nat → Nat) (hB : Blk w0 hb 129 8 (wv f)) (hi : i + 64 ≤ L) (hL : L ≤ c) (hLs : L ≤ 140737488355328)
    (HC : Calls Tryz.prog 102 #[.agg (arr 8 (wv f)), .slice (some ⟨g, i, none⟩) 64 (c - i)] w0.drew fun e w' => e = .returned (.agg (arr 8 (wv f'))) ∧ Fr (fun _ => False) w0.drew w')
    (u0 u1 u2 u6 u7 u8 u9 u10 u11 u12 u13 u14 u15 u16 u17 u18 u19 u20 u21 u22 u23 u24 u25 u26 u27 u28 u29 u30 u31 u32 u33 u34 u35 u36 u37 u38 u39 u40 u41 u42 u43 u44 u45 u46 u47 u48 u49 u50 : Value) (hQ : ∀ c (a : Act) (t : Tmp) v w, Q (.panic c) (a.put (some t) v) w → Q (.panic c) a w)
    (h : ∀ w9, Blk w9 hb 129 8 (wv f') → Fr (fun k => k = hb) w0 w9 → Q .normal { tmps := #[u0, u1, u2, (.pointer (some ⟨hb, 0, none⟩)), (.slice (some ⟨g, 0, none⟩) L c), (.int .i64 i), u6, u7, u8, u9, u10, u11, u12, u13, u14, u15, u16, (.agg (arr 8 (wv f))), (.slice (some ⟨g, 0, none⟩) L c), (.int .i64 i), (.int .i64 i), (.int .i64 ((i : Int) + 64)), (.slice (some ⟨g, i, none⟩) 64 (c - i)), (.agg (arr 8 (wv f'))), u24, u25, u26, u27, u28, u29, u30, u31, u32, u33, u34, u35, u36, u37, u38, u39, u40, u41, u42, u43, u44, u45, u46, u47, u48, u49, u50], defers := [] } w9) :
    (Code.region 6 #[{ dst := some 17, op := Go.Op.load 129 (Go.Operand.tmp 3), type := 129, pos := "ref.go:87", after := #[], guard := none }, { dst := some 18, op := Go.Op.move (Go.Operand.tmp 4), type := 23, pos := "ref.go:87", after := #[], guard := none }, { dst := some 19, op := Go.Op.move (Go.Operand.tmp 5), type := 3, pos := "ref.go:87", after := #[], guard := none }, { dst := some 20, op := Go.Op.move (Go.Operand.tmp 5), type := 3, pos := "ref.go:87", after := #[], guard := none }, { dst := some 21, op := Go.Op.binOp Go.BinOp.add 3 (Go.Operand.tmp 20) (Go.Operand.const (Go.Value.int Go.IntKind.i64 64)) 3, type := 3, pos := "ref.go:87", after := #[{ on := 3, ground := Go.Ground.data }], guard := none }, { dst := some 22, op := Go.Op.slice 23 (Go.Operand.tmp 18) (some (Go.Operand.tmp 19)) (some (Go.Operand.tmp 21)) none, type := 23, pos := "ref.go:87", after := #[{ on := 1, ground := Go.Ground.data }, { on := 2, ground := Go.Ground.data }, { on := 4, ground := Go.Ground.data }], guard := none }, { dst := some 23, op := Go.Op.call { callee := Go.Callee.value (Go.Operand.func 102), args := #[Go.Operand.tmp 17, Go.Operand.tmp 22], argTypes := #[129, 23] }, type := 129, pos := "ref.go:87", after := #[{ on := 0, ground := Go.Ground.data }, { on := 5, ground := Go.Ground.data }], guard := none }, { dst := none, op := Go.Op.store 129 (Go.Operand.tmp 3) (Go.Operand.tmp 23), type := 0, pos := "ref.go:87", after := #[{ on := 6, ground := Go.Ground.data }, { on := 6, ground := Go.Ground.chain }, { on := 0, ground := Go.Ground.phase }, { on := 1, ground := Go.Ground.phase }, { on := 2, ground := Go.Ground.phase }, { on := 3, ground := Go.Ground.phase }, { on := 4, ground := Go.Ground.phase }, { on := 5, ground := Go.Ground.phase }, { on := 6, ground := Go.Ground.phase }], guard := none }] true).wp Tryz.prog Q { tmps := #[u0, u1, u2, (.pointer (some ⟨hb, 0, none⟩)), (.slice (some ⟨g, 0, none⟩) L c), (.int .i64 i), u6, u7, u8, u9, u10, u11, u12, u13, u14, u15, u16, u17, u18, u19, u20, u21, u22, u23, u24, u25, u26, u27, u28, u29, u30, u31, u32, u33, u34, u35, u36, u37, u38, u39, u40, u41, u42, u43, u44, u45, u46, u47, u48, u49, u50], defers := [] } w0 := by
  have hlw := load_row49 (w := w0.drew) hB
  have e1 : (0 : Int) ≤ (i : Int) + 64 ∧ (i : Int) + 64 ≤ (c : Int) := by omega
  have e3 : ((i : Int) + 64).toNat = i + 64 := by omega
  have e4 : ¬ c = i := by omega
  have e5 : i + 64 - i = 64 := by omega
  refine wp_region_any (by kernel_rfl) ?_
  change wpAny _ _ _ _ _ _ _ (World.drew _)
  refine wpAny_take (i := 1) (v := (.slice (some ⟨g, 0, none⟩) L c)) rfl (by kernel_rfl) (by kernel_rfl) (by kernel_rfl) (fun _ _ _ h => hQ _ _ _ _ _ h) (Or.inl ⟨by kernel_rfl, fun w => by go_simp⟩) ?_
  refine wpAny_take (i := 2) (v := (.int .i64 i)) rfl (by kernel_rfl) (by kernel_rfl) (by kernel_rfl) (fun _ _ _ h => hQ _ _ _ _ _ h) (Or.inl ⟨by kernel_rfl, fun w => by go_simp⟩) ?_
  refine wpAny_take (i := 3) (v := (.int .i64 i)) rfl (by kernel_rfl) (by kernel_rfl) (by kernel_rfl) (fun _ _ _ h => hQ _ _ _ _ _ h) (Or.inl ⟨by kernel_rfl, fun w => by go_simp⟩) ?_
  refine wpAny_take (i := 4) (v := (.int .i64 ((i : Int) + 64))) rfl (by kernel_rfl) (by kernel_rfl) (by kernel_rfl) (fun _ _ _ h => hQ _ _ _ _ _ h) (Or.inl ⟨by kernel_rfl, fun w => by go_simp; rw [IntKind.wrap_i64]; omega⟩) ?_
  refine wpAny_take (i := 5) (v := (.slice (some ⟨g, i, none⟩) 64 (c - i))) rfl (by kernel_rfl) (by kernel_rfl) (by kernel_rfl) (fun _ _ _ h => hQ _ _ _ _ _ h) (Or.inl ⟨by kernel_rfl, fun w => by go_simp⟩) ?_
  refine wpAny_ready (rs := [0]) (by kernel_rfl) (by simp) (ready_load (i := 0) rfl rfl 129 (.tmp 3) rfl (.pointer (some ⟨hb, 0, none⟩)) (.agg (arr 8 (wv f))) (by kernel_rfl) hlw ?_ AllReady.nil)
  refine wpAny_ready (rs := [6]) (by kernel_rfl) (by simp) (ready_call (i := 6) rfl rfl 102 #[.agg (arr 8 (wv f)), .slice (some ⟨g, i, none⟩) 64 (c - i)] (by kernel_rfl) HC ?_ AllReady.nil)
  rintro e w3 ⟨rfl, hF3⟩
  refine ⟨_, rfl, ?_⟩
  have hB3 := Blk.later (w := w0.drew) hB hF3
  refine wpAny_ready (rs := [7]) (by kernel_rfl) (by simp) (ready_store (i := 7) rfl rfl 129 (.tmp 3) (.tmp 23) rfl (.pointer (some ⟨hb, 0, none⟩)) (.agg (arr 8 (wv f'))) (by kernel_rfl) (by kernel_rfl) (store_row49 hB3 f') ?_ AllReady.nil)
  refine wpAny_done (by kernel_rfl) ?_ _
  refine q_frame ?_ (h _ (hB3.row _) (Fr.setRow (S := fun k => k = hb) ((Fr.refl _ w0).drew.trans hF3 (fun _ _ t => t.elim)) (g := hb) (fun _ => rfl) _))
  kernel_rfl

set_option maxHeartbeats 1000000 in
theorem rs11_any {Q : Exit → Act → World → Prop} (w0 : World) (hb i x ol oc go : Nat) (oo : Option Addr) (R : List UInt8) (hx : x < 4294967296) (hi : i < 8) (hol : R.length = ol) (hrow : Row w0 (.slice oo ol oc) go R) (hne : go ≠ hb) (hfit : ol + 4 ≤ 140737488355328) (hc : w0.cell? ⟨hb, i, none⟩ = some (.int .u32 x)) (u0 u1 u2 u4 u5 u8 u9 u10 u11 u12 u13 u14 u15 u16 u17 u18 u19 u20 u21 u22 u23 u24 u25 u26 u27 u28 u29 u30 u31 u32 u33 u34 u35 u36 u37 u38 u39 u40 u41 u42 u43 u44 u45 u46 u47 u48 u49 u50 : Value) (hQ : ∀ c (a : Act) (t : Tmp) v w, Q (.panic c) (a.put (some t) v) w → Q (.panic c) a w)
    (h : ∀ w9 ao6 cap6 g6, Row w9 (.slice ao6 (ol + 4) cap6) g6 (R ++ be4 x) → Fr (fun k => k = go ∧ 0 < oc) w0 w9 → ((g6 = go ∧ cap6 = oc) ∨ w0.heap.size ≤ g6) → Q .normal { tmps := #[u0, u1, u2, (.pointer (some ⟨hb, 0, none⟩)), u4, u5, (.slice ao6 (ol + 4) cap6), (.int .i64 i), u8, u9, u10, u11, u12, u13, u14, u15, u16, u17, u18, u19, u20, u21, u22, u23, u24, u25, u26, u27, (.slice oo ol oc), (.int .i64 i), (.pointer (some ⟨hb, i, none⟩)), (.int .u32 x), (.int .u32 ((x : Int) / 16777216)), (.int .u8 ((x : Int) / 16777216)), (.int .i64 i), (.pointer (some ⟨hb, i, none⟩)), (.int .u32 x), (.int .u32 ((x : Int) / 65536)), (.int .u8 ((x : Int) / 65536 % 256)), (.int .i64 i), (.pointer (some ⟨hb, i, none⟩)), (.int .u32 x), (.int .u32 ((x : Int) / 256)), (.int .u8 ((x : Int) / 256 % 256)), (.int .i64 i), (.pointer (some ⟨hb, i, none⟩)), (.int .u32 x), (.int .u8 ((x : Int) % 256)), (.slice (some ⟨w0.heap.size, 0, none⟩) 4 4), (.slice ao6 (ol + 4) cap6), u50], defers := [] } w9) :
    (Code.region 11 #[{ dst := some 28, op := Go.Op.move (Go.Operand.tmp 6), type := 23, pos := "ref.go:91", after := #[], guard := none }, { dst := some 29, op := Go.Op.move (Go.Operand.tmp 7), type := 3, pos := "ref.go:91", after := #[], guard := none }, { dst := some 30, op := Go.Op.indexAddr 129 (Go.Operand.tmp 3) (Go.Operand.tmp 29), type := 0, pos := "ref.go:91", after := #[{ on := 1, ground := Go.Ground.data }], guard := none }, { dst := some 31, op := Go.Op.load 128 (Go.Operand.tmp 30), type := 128, pos := "ref.go:91", after := #[{ on := 2, ground := Go.Ground.data }], guard := none }, { dst := some 32, op := Go.Op.binOp Go.BinOp.quo 128 (Go.Operand.tmp 31) (Go.Operand.const (Go.Value.int Go.IntKind.u32 16777216)) 128, type := 128, pos := "ref.go:91", after := #[{ on := 3, ground := Go.Ground.data }], guard := none }, { dst := some 33, op := Go.Op.convert 128 5 (Go.Operand.tmp 32), type := 5, pos := "ref.go:91", after := #[{ on := 4, ground := Go.Ground.data }], guard := none }, { dst := some 34, op := Go.Op.move (Go.Operand.tmp 7), type := 3, pos := "ref.go:91", after := #[], guard := none }, { dst := some 35, op := Go.Op.indexAddr 129 (Go.Operand.tmp 3) (Go.Operand.tmp 34), type := 0, pos := "ref.go:91", after := #[{ on := 6, ground := Go.Ground.data }], guard := none }, { dst := some 36, op := Go.Op.load 128 (Go.Operand.tmp 35), type := 128, pos := "ref.go:91", after := #[{ on := 7, ground := Go.Ground.data }], guard := none }, { dst := some 37, op := Go.Op.binOp Go.BinOp.quo 128 (Go.Operand.tmp 36) (Go.Operand.const (Go.Value.int Go.IntKind.u32 65536)) 128, type := 128, pos := "ref.go:91", after := #[{ on := 8, ground := Go.Ground.data }], guard := none }, { dst := some 38, op := Go.Op.convert 128 5 (Go.Operand.tmp 37), type := 5, pos := "ref.go:91", after := #[{ on := 9, ground := Go.Ground.data }], guard := none }, { dst := some 39, op := Go.Op.move (Go.Operand.tmp 7), type := 3, pos := "ref.go:91", after := #[], guard := none }, { dst := some 40, op := Go.Op.indexAddr 129 (Go.Operand.tmp 3) (Go.Operand.tmp 39), type := 0, pos := "ref.go:91", after := #[{ on := 11, ground := Go.Ground.data }], guard := none }, { dst := some 41, op := Go.Op.load 128 (Go.Operand.tmp 40), type := 128, pos := "ref.go:91", after := #[{ on := 12, ground := Go.Ground.data }], guard := none }, { dst := some 42, op := Go.Op.binOp Go.BinOp.quo 128 (Go.Operand.tmp 41) (Go.Operand.const (Go.Value.int Go.IntKind.u32 256)) 128, type := 128, pos := "ref.go:91", after := #[{ on := 13, ground := Go.Ground.data }], guard := none }, { dst := some 43, op := Go.Op.convert 128 5 (Go.Operand.tmp 42), type := 5, pos := "ref.go:91", after := #[{ on := 14, ground := Go.Ground.data }], guard := none }, { dst := some 44, op := Go.Op.move (Go.Operand.tmp 7), type := 3, pos := "ref.go:91", after := #[], guard := none }, { dst := some 45, op := Go.Op.indexAddr 129 (Go.Operand.tmp 3) (Go.Operand.tmp 44), type := 0, pos := "ref.go:91", after := #[{ on := 16, ground := Go.Ground.data }], guard := none }, { dst := some 46, op := Go.Op.load 128 (Go.Operand.tmp 45), type := 128, pos := "ref.go:91", after := #[{ on := 17, ground := Go.Ground.data }], guard := none }, { dst := some 47, op := Go.Op.convert 128 5 (Go.Operand.tmp 46), type := 5, pos := "ref.go:91", after := #[{ on := 18, ground := Go.Ground.data }], guard := none }, { dst := some 48, op := Go.Op.buildSlice 23 4 #[(0, Go.Operand.tmp 33), (1, Go.Operand.tmp 38), (2, Go.Operand.tmp 43), (3, Go.Operand.tmp 47)], type := 23, pos := "ref.go:91", after := #[{ on := 5, ground := Go.Ground.data }, { on := 10, ground := Go.Ground.data }, { on := 15, ground := Go.Ground.data }, { on := 19, ground := Go.Ground.data }], guard := none }, { dst := some 49, op := Go.Op.call { callee := Go.Callee.builtin Go.Builtin.append, args := #[Go.Operand.tmp 28, Go.Operand.tmp 48], argTypes := #[23, 23] }, type := 23, pos := "ref.go:91", after := #[{ on := 0, ground := Go.Ground.data }, { on := 20, ground := Go.Ground.data }], guard := none }, { dst := some 6, op := Go.Op.assign (Go.Operand.tmp 49), type := 23, pos := "ref.go:91", after := #[{ on := 21, ground := Go.Ground.data }, { on := 21, ground := Go.Ground.chain }, { on := 0, ground := Go.Ground.phase }, { on := 1, ground := Go.Ground.phase }, { on := 2, ground := Go.Ground.phase }, { on := 3, ground := Go.Ground.phase }, { on := 4, ground := Go.Ground.phase }, { on := 5, ground := Go.Ground.phase }, { on := 6, ground := Go.Ground.phase }, { on := 7, ground := Go.Ground.phase }, { on := 8, ground := Go.Ground.phase }, { on := 9, ground := Go.Ground.phase }, { on := 10, ground := Go.Ground.phase }, { on := 11, ground := Go.Ground.phase }, { on := 12, ground := Go.Ground.phase }, { on := 13, ground := Go.Ground.phase }, { on := 14, ground := Go.Ground.phase }, { on := 15, ground := Go.Ground.phase }, { on := 16, ground := Go.Ground.phase }, { on := 17, ground := Go.Ground.phase }, { on := 18, ground := Go.Ground.phase }, { on := 19, ground := Go.Ground.phase }, { on := 20, ground := Go.Ground.phase }, { on := 21, ground := Go.Ground.phase }], guard := none }] true).wp Tryz.prog Q { tmps := #[u0, u1, u2, (.pointer (some ⟨hb, 0, none⟩)), u4, u5, (.slice oo ol oc), (.int .i64 i), u8, u9, u10, u11, u12, u13, u14, u15, u16, u17, u18, u19, u20, u21, u22, u23, u24, u25, u26, u27, u28, u29, u30, u31, u32, u33, u34, u35, u36, u37, u38, u39, u40, u41, u42, u43, u44, u45, u46, u47, u48, u49, u50], defers := [] } w0 := by
  obtain ⟨i0, hi0, hz0, hz1, hz2⟩ := info_parts Tryz.info5
  refine wp_region_held_drew (S := fun w' => w'.cell? ⟨hb, i, none⟩ = some (.int .u32 x)) (by kernel_rfl) hc (fun hS => ?_)
  refine wpAnyH_take (i := 0) (v := (.slice oo ol oc)) rfl (by kernel_rfl) (by kernel_rfl) (by kernel_rfl) (fun _ _ _ h => hQ _ _ _ _ _ h) (Or.inl ⟨by kernel_rfl, fun w _ => by go_simp⟩) (by assumption) ?_
  refine wpAnyH_take (i := 1) (v := (.int .i64 i)) rfl (by kernel_rfl) (by kernel_rfl) (by kernel_rfl) (fun _ _ _ h => hQ _ _ _ _ _ h) (Or.inl ⟨by kernel_rfl, fun w _ => by go_simp⟩) (by assumption) ?_
  refine wpAnyH_take (i := 2) (v := (.pointer (some ⟨hb, i, none⟩))) rfl (by kernel_rfl) (by kernel_rfl) (by kernel_rfl) (fun _ _ _ h => hQ _ _ _ _ _ h) (Or.inl ⟨by kernel_rfl, fun w _ => by go_simp; intro hh; omega⟩) (by assumption) ?_
  refine wpAnyH_take (i := 3) (v := (.int .u32 x)) rfl (by kernel_rfl) (by kernel_rfl) (by kernel_rfl) (fun _ _ _ h => hQ _ _ _ _ _ h) (Or.inl ⟨by kernel_rfl, fun w hw => by go_simp⟩) (by assumption) ?_
  refine wpAnyH_take (i := 4) (v := (.int .u32 ((x : Int) / 16777216))) rfl (by kernel_rfl) (by kernel_rfl) (by kernel_rfl) (fun _ _ _ h => hQ _ _ _ _ _ h) (Or.inl ⟨by kernel_rfl, fun w _ => by go_simp; rw [IntKind.wrap_u32']; omega⟩) (by assumption) ?_
  refine wpAnyH_take (i := 5) (v := (.int .u8 ((x : Int) / 16777216))) rfl (by kernel_rfl) (by kernel_rfl) (by kernel_rfl) (fun _ _ _ h => hQ _ _ _ _ _ h) (Or.inl ⟨by kernel_rfl, fun w _ => by go_simp; rw [IntKind.wrap_u8']; omega⟩) (by assumption) ?_
  refine wpAnyH_take (i := 6) (v := (.int .i64 i)) rfl (by kernel_rfl) (by kernel_rfl) (by kernel_rfl) (fun _ _ _ h => hQ _ _ _ _ _ h) (Or.inl ⟨by kernel_rfl, fun w _ => by go_simp⟩) (by assumption) ?_
  refine wpAnyH_take (i := 7) (v := (.pointer (some ⟨hb, i, none⟩))) rfl (by kernel_rfl) (by kernel_rfl) (by kernel_rfl) (fun _ _ _ h => hQ _ _ _ _ _ h) (Or.inl ⟨by kernel_rfl, fun w _ => by go_simp; intro hh; omega⟩) (by assumption) ?_
  refine wpAnyH_take (i := 8) (v := (.int .u32 x)) rfl (by kernel_rfl) (by kernel_rfl) (by kernel_rfl) (fun _ _ _ h => hQ _ _ _ _ _ h) (Or.inl ⟨by kernel_rfl, fun w hw => by go_simp⟩) (by assumption) ?_
  refine wpAnyH_take (i := 9) (v := (.int .u32 ((x : Int) / 65536))) rfl (by kernel_rfl) (by kernel_rfl) (by kernel_rfl) (fun _ _ _ h => hQ _ _ _ _ _ h) (Or.inl ⟨by kernel_rfl, fun w _ => by go_simp; rw [IntKind.wrap_u32']; omega⟩) (by assumption) ?_
  refine wpAnyH_take (i := 10) (v := (.int .u8 ((x : Int) / 65536 % 256))) rfl (by kernel_rfl) (by kernel_rfl) (by kernel_rfl) (fun _ _ _ h => hQ _ _ _ _ _ h) (Or.inl ⟨by kernel_rfl, fun w _ => by go_simp; rw [IntKind.wrap_u8']⟩) (by assumption) ?_
  refine wpAnyH_take (i := 11) (v := (.int .i64 i)) rfl (by kernel_rfl) (by kernel_rfl) (by kernel_rfl) (fun _ _ _ h => hQ _ _ _ _ _ h) (Or.inl ⟨by kernel_rfl, fun w _ => by go_simp⟩) (by assumption) ?_
  refine wpAnyH_take (i := 12) (v := (.pointer (some ⟨hb, i, none⟩))) rfl (by kernel_rfl) (by kernel_rfl) (by kernel_rfl) (fun _ _ _ h => hQ _ _ _ _ _ h) (Or.inl ⟨by kernel_rfl, fun w _ => by go_simp; intro hh; omega⟩) (by assumption) ?_
  refine wpAnyH_take (i := 13) (v := (.int .u32 x)) rfl (by kernel_rfl) (by kernel_rfl) (by kernel_rfl) (fun _ _ _ h => hQ _ _ _ _ _ h) (Or.inl ⟨by kernel_rfl, fun w hw => by go_simp⟩) (by assumption) ?_
  refine wpAnyH_take (i := 14) (v := (.int .u32 ((x : Int) / 256))) rfl (by kernel_rfl) (by kernel_rfl) (by kernel_rfl) (fun _ _ _ h => hQ _ _ _ _ _ h) (Or.inl ⟨by kernel_rfl, fun w _ => by go_simp; rw [IntKind.wrap_u32']; omega⟩) (by assumption) ?_
  refine wpAnyH_take (i := 15) (v := (.int .u8 ((x : Int) / 256 % 256))) rfl (by kernel_rfl) (by kernel_rfl) (by kernel_rfl) (fun _ _ _ h => hQ _ _ _ _ _ h) (Or.inl ⟨by kernel_rfl, fun w _ => by go_simp; rw [IntKind.wrap_u8']⟩) (by assumption) ?_
  refine wpAnyH_take (i := 16) (v := (.int .i64 i)) rfl (by kernel_rfl) (by kernel_rfl) (by kernel_rfl) (fun _ _ _ h => hQ _ _ _ _ _ h) (Or.inl ⟨by kernel_rfl, fun w _ => by go_simp⟩) (by assumption) ?_
  refine wpAnyH_take (i := 17) (v := (.pointer (some ⟨hb, i, none⟩))) rfl (by kernel_rfl) (by kernel_rfl) (by kernel_rfl) (fun _ _ _ h => hQ _ _ _ _ _ h) (Or.inl ⟨by kernel_rfl, fun w _ => by go_simp; intro hh; omega⟩) (by assumption) ?_
  refine wpAnyH_take (i := 18) (v := (.int .u32 x)) rfl (by kernel_rfl) (by kernel_rfl) (by kernel_rfl) (fun _ _ _ h => hQ _ _ _ _ _ h) (Or.inl ⟨by kernel_rfl, fun w hw => by go_simp⟩) (by assumption) ?_
  refine wpAnyH_take (i := 19) (v := (.int .u8 ((x : Int) % 256))) rfl (by kernel_rfl) (by kernel_rfl) (by kernel_rfl) (fun _ _ _ h => hQ _ _ _ _ _ h) (Or.inl ⟨by kernel_rfl, fun w _ => by go_simp; rw [IntKind.wrap_u8']⟩) (by assumption) ?_
  have hwa : w0.drew.alloc (.cells #[.int .u8 ((x : Int) / 16777216), .int .u8 ((x : Int) / 65536 % 256), .int .u8 ((x : Int) / 256 % 256), .int .u8 ((x : Int) % 256)] 5) = w0.drew.alloc (.cells (bytesV (be4 x)).toArray 5) := by rw [be4_cells x hx]
  have hlt : hb < w0.heap.size := World.block_lt_of_cell? _ _ hc
  have hS1 : (w0.drew.alloc (.cells #[.int .u8 ((x : Int) / 16777216), .int .u8 ((x : Int) / 65536 % 256), .int .u8 ((x : Int) / 256 % 256), .int .u8 ((x : Int) % 256)] 5)).cell? ⟨hb, i, none⟩ = some (.int .u32 x) := (World.cell?_alloc_lt _ _ _ hlt).trans hc
  refine wpAnyH_ready (rs := [20]) (by kernel_rfl) (by simp) (readyH_runw (i := 20) rfl (by kernel_rfl) (.slice (some ⟨w0.heap.size, 0, none⟩) 4 4) (w0.drew.alloc (.cells #[.int .u8 ((x : Int) / 16777216), .int .u8 ((x : Int) / 65536 % 256), .int .u8 ((x : Int) / 256 % 256), .int .u8 ((x : Int) % 256)] 5)) (by kernel_rfl) hS1 ?_ AllReadyH.nil)
  have hr1 : Row (w0.drew.alloc (.cells #[.int .u8 ((x : Int) / 16777216), .int .u8 ((x : Int) / 65536 % 256), .int .u8 ((x : Int) / 256 % 256), .int .u8 ((x : Int) % 256)] 5)) (.slice oo ol oc) go R := hrow.stay (fun hl => Below.heap_alloc w0.drew _ _ hl)
  subst hol
  obtain ⟨ao6, cap6, w6, g6, hrun6, row6, fr6, hg6⟩ := append_row (P := Tryz.prog) 23 23 23 5 i0 Tryz.underlying23 hi0 hz0 hz1 hz2 hr1 (.slice (some ⟨w0.heap.size, 0, none⟩) 4 4) (be4 x) (by rw [hwa]; exact src_slice Tryz.underlying23 _ _ 4 (be4 x) (bat_lit w0.drew (be4 x) 5 (0, 0) (by simp [be4])).2.1) (by rw [be4_length]; omega)
  rw [List.length_append, be4_length] at hrun6 row6
  have hF6 : Fr (fun k => k = go ∧ 0 < oc) w0 w6 := (((Fr.refl _ w0).drew).alloc _).trans fr6 (fun _ _ t => t)
  have hS6 : w6.cell? ⟨hb, i, none⟩ = some (.int .u32 x) := (hF6.cell (a := ⟨hb, i, none⟩) hlt (fun t => hne t.1.symm)).trans hc
  refine wpAnyH_ready (rs := [21]) (by kernel_rfl) (by simp) (readyH_runw (i := 21) rfl (by kernel_rfl) (.slice ao6 (R.length + 4) cap6) w6 (exec_appendZ 23 23 23 rfl (.tmp 28) (.tmp 48) rfl (.slice oo R.length oc) (.slice (some ⟨w0.heap.size, 0, none⟩) 4 4) (by kernel_rfl) (by kernel_rfl) hrun6) hS6 ?_ AllReadyH.nil)
  refine wpAnyH_take (i := 22) (v := (.slice ao6 (R.length + 4) cap6)) rfl (by kernel_rfl) (by kernel_rfl) (by kernel_rfl) (fun _ _ _ h => hQ _ _ _ _ _ h) (Or.inl ⟨by kernel_rfl, fun w _ => by go_simp⟩) (by assumption) ?_
  refine wpAnyH_done (by kernel_rfl) ?_ _
  refine q_frame ?_ (h w6 ao6 cap6 g6 row6 hF6 (by
    rcases hg6 with e | e
    · exact .inl e
    · right
      have : w0.heap.size ≤ (w0.drew.alloc (.cells #[.int .u8 ((x : Int) / 16777216), .int .u8 ((x : Int) / 65536 % 256), .int .u8 ((x : Int) / 256 % 256), .int .u8 ((x : Int) % 256)] 5)).heap.size := World.size_alloc_le w0.drew _
      omega))
  kernel_rfl

end Go.Proofs.YtabhfeocelljdaaGreatDoor

/- The document's own Sum. -/
namespace Go.Proofs.YtabhfeocelljdaaGreatDoor
open Go.RowKit

/-- Where the document's Sum has come to. -/
def Smg (w wr : World) (hb g : Nat) (all : List UInt8) (f : Nat → Nat) : Prop := Blk wr hb 129 8 (wv f) ∧ (∀ j (hj : j < all.length), wr.cell? ⟨g, j, none⟩ = some (.int .u8 all[j].toNat)) ∧ Fr (fun _ => False) w wr ∧ w.heap.size ≤ hb ∧ g ≠ hb

set_option maxRecDepth 20000 in
set_option maxHeartbeats 2000000 in
theorem rsum_any (w : World) (hT : TabRZ w) (ao : Option Addr) (cap : Nat) (bs : List UInt8) (hB : BAt w ao cap bs) (hfit : bs.length + 72 ≤ 140737488355328) :
    Calls Tryz.prog 80 #[.slice ao bs.length cap] w fun e w' => ∃ v, e = .returned v ∧ New w (digest bs) v w' := by
  have HT := hide hT
  have HB := hide hB
  clear hT hB
  have HN := hide (Blk.new w 129 8 (wv fun _ => 0))
  go_enter Tryz.func80, Tryz.ntmps80
  go_wp2_with (first | refine wpList_load_arr rfl 129 (.global 0) rfl 0 0 rfl 8 (wv hw0) _ (fun j hj => by rw [Nat.zero_add]; exact (unhide HT).1 j hj) Tryz.underlying129 rfl n49 ?_ | refine wpList_store_row rfl 129 (.tmp 3) (.tmp 8) rfl w.heap.size (arr 8 (wv hw0)) rfl rfl 129 (arr 8 (wv fun _ => 0)) ?hb (size49 _) (by rw [arr_size, arr_size]) (arr_one _ _ (fun _ => rfl)) ?_)
  case hb =>
    rw [zero8]
    exact unhide HN
  rw [zero8]
  have HM := hide (And.intro ((unhide HN).row (wv hw0)) (((Fr.refl (fun _ => False) w).alloc (.cells (arr 8 (wv fun _ => 0)) 129)).setRow (g := w.heap.size) (fun t => absurd t (Nat.lt_irrefl _)) (arr 8 (wv hw0))))
  generalize ((w.alloc (.cells (arr 8 (wv fun _ => 0)) 129)).setRow w.heap.size (arr 8 (wv hw0))) = w1 at *
  obtain ⟨hb, hhb⟩ : ∃ b, w.heap.size = b := ⟨_, rfl⟩
  rw [hhb] at HM ⊢
  clear HN
  go_wp2_with fail
  refine (hfilled_any w1 ao cap bs ((unhide HB).later (unhide HM).2) hfit).mono ?_
  rintro e w2 ⟨v, rfl, g, m1, m2, m3⟩
  obtain ⟨ao2, c, rfl, hlc, _, had, _⟩ := m1.shape
  have hll : (bs ++ fill bs.length).length = bs.length + (72 - (bs.length + 8) % 64) := by rw [List.length_append, fill_length]
  have hao : ao2 = some ⟨g, 0, none⟩ := had (by omega)
  subst hao
  obtain ⟨all, hall⟩ : ∃ l, l = bs ++ fill bs.length := ⟨_, rfl⟩
  rw [← hall] at m1 hlc hll ⊢
  have HA := hide hall
  have HS0 : Hid (Smg w w2 hb g all (absorb all 0)) := ⟨(unhide HM).1.later m2, fun j hj => m1.cells j hj, (unhide HM).2.trans m2 (fun _ _ t => t), by omega, by have := (unhide HM).1.lt; omega⟩
  have hL64 : all.length % 64 = 0 := by omega
  have hLs : all.length ≤ 140737488355328 := by omega
  clear m1 m2 m3 hall hll had HM
  go_wp2
  go_loopw [5] (fun iv wr => ∃ k : Nat, 64 * k ≤ all.length ∧ iv = .int .i64 (64 * k : Nat) ∧ Hid (Smg w wr hb g all (absorb all k))) (fun iv _ => all.length - (intOf iv).toNat)
  case atStart => exact ⟨0, Nat.zero_le _, rfl, unhide HS0⟩
  case round =>
    clear HS0
    obtain ⟨k, hk, rfl, HS⟩ := hrel
    obtain ⟨i, hi⟩ : ∃ i, i = 64 * k := ⟨_, rfl⟩
    rw [← hi] at hk ⊢
    by_cases hlt : i < all.length
    · have hi64 : i + 64 ≤ all.length := by omega
      have HC := hide (rchange_any wr.drew ((unhide HT).later (unhide HS).2.2.1.drew) (absorb all k) (absorb_lt all k) g i (c - i) (fun j => all.getD (64 * k + j) 0) (fun j hj => by
        have := (unhide HS).2.1 (i + j) (by omega)
        rw [← hi, List.getD_eq_getElem?_getD, List.getElem?_eq_getElem (by omega)]
        exact this))
      have HI := hide hi
      clear hi
      go_wp2
      refine rs6_any wr hb g all.length c i (absorb all k) (absorb all (k + 1)) (unhide HS).1 hi64 hlc hLs (unhide HC) _ _ _ _ _ _ _ _ _ _ _ _ _ _ _ _ _ _ _ _ _ _ _ _ _ _ _ _ _ _ _ _ _ _ _ _ _ _ _ _ _ _ _ _ _ _ _ _ (fun _ _ _ _ _ h => h) ?_
      intro w9 k1 k2
      have HN : Hid (Smg w w9 hb g all (absorb all (k + 1))) := by
        obtain ⟨n1, n2, n3, n4, n5⟩ := unhide HS
        exact ⟨k1, fun j hj => (k2.cell (a := ⟨g, j, none⟩) (World.block_lt_of_cell? _ _ (n2 j hj)) n5).trans (n2 j hj), n3.trans k2 (fun i hi t => by omega), n4, n5⟩
      clear k1 k2 HC
      go_wp2
      refine ⟨⟨k + 1, by have := unhide HI; omega, ?_, unhide HN⟩, by simp [intOf]; omega⟩
      have := unhide HI
      refine congrArg (Value.int .i64) ?_
      omega
    · have hkf : k = all.length / 64 := by omega
      obtain ⟨f, hf⟩ : ∃ f, f = absorb all k := ⟨_, rfl⟩
      rw [← hf] at HS
      have hfl : ∀ j, f j < 4294967296 := fun j => by rw [hf]; exact absorb_lt _ _ _
      have hdg : digest bs = wbytesZ f 8 := by rw [hf, hkf, unhide HA]; rfl
      have HF := hide (And.intro hfl hdg)
      clear hf hfl hdg hkf
      go_wp2
      go_loopw [6, 7] (fun ov iv wr => ∃ m : Nat, ∃ oo oc ol, m ≤ 8 ∧ ol = 4 * m ∧ iv = .int .i64 m ∧ ov = .slice oo ol oc ∧ Hid ((Blk wr hb 129 8 (wv f) ∧ Fr (fun _ => False) w wr ∧ w.heap.size ≤ hb) ∧ ∃ go, Row wr (.slice oo ol oc) go (wbytesZ f m) ∧ (0 < oc → w.heap.size ≤ go) ∧ go ≠ hb)) (fun _ iv _ => 8 - (intOf iv).toNat)
      case atStart => exact ⟨0, none, 0, 0, by omega, rfl, rfl, rfl, ⟨(unhide HS).1, (unhide HS).2.2.1, (unhide HS).2.2.2.1⟩, hb + 1, Row.nil _ _, fun h => absurd h (by omega), by omega⟩
      case round =>
        clear HS
        obtain ⟨m, oo, oc, ol, hm, hol, rfl, rfl, HS⟩ := hrel
        by_cases hlt8 : m < 8
        · obtain ⟨⟨n1, n3, n4⟩, go, q1, q2, q3⟩ := unhide HS
          have cm : wr.cell? ⟨hb, m, none⟩ = some (.int .u32 (f m)) := n1.cell m hlt8
          have HP := hide (And.intro q1 (And.intro q2 (And.intro q3 (And.intro cm (And.intro n4 (And.intro n3 n1))))))
          clear n1 n3 n4 q1 q2 q3 cm
          go_wp2
          refine rs11_any wr hb m (f m) ol oc go oo (wbytesZ f m) ((unhide HF).1 m) hlt8 (by rw [wbytes_length, hol]) (unhide HP).1 (unhide HP).2.2.1 (by omega) (unhide HP).2.2.2.1 _ _ _ _ _ _ _ _ _ _ _ _ _ _ _ _ _ _ _ _ _ _ _ _ _ _ _ _ _ _ _ _ _ _ _ _ _ _ _ _ _ _ _ _ _ _ _ _ (fun _ _ _ _ _ h => h) ?_
          intro w9 ao6 cap6 g6 r1 r2 r3
          have HN : Hid ((Blk w9 hb 129 8 (wv f) ∧ Fr (fun _ => False) w w9 ∧ w.heap.size ≤ hb) ∧ ∃ go, Row w9 (.slice ao6 (ol + 4) cap6) go (wbytesZ f (m + 1)) ∧ (0 < cap6 → w.heap.size ≤ go) ∧ go ≠ hb) := by
            obtain ⟨q1, q2, q3, cm, n4, n3, n1⟩ := unhide HP
            have hge := n3.size
            have hbl := n1.lt
            refine ⟨⟨n1.frame r2 (fun t => q3 t.1.symm), n3.trans r2 (fun i hi t => by have := q2 t.2; omega), n4⟩, g6, r1, fun hc => ?_, ?_⟩
            · rcases r3 with ⟨e1, e2⟩ | e
              · rw [e1]; exact q2 (by omega)
              · omega
            · rcases r3 with ⟨e1, e2⟩ | e
              · rw [e1]; exact q3
              · omega
          clear r1 r2 r3
          go_wp2
          exact ⟨⟨m + 1, ao6, cap6, ol + 4, by omega, by omega, by go_num, rfl, unhide HN⟩, by simp [intOf]; omega⟩
        · obtain rfl : m = 8 := by omega
          have HZ : Hid (New w (digest bs) (.slice oo ol oc) wr) := by
            obtain ⟨⟨n1, n3, n4⟩, go, q1, q2, q3⟩ := unhide HS
            obtain ⟨_, _, e, hle, _⟩ := q1.shape
            injection e with _ _ e
            subst e
            rw [wbytes_length] at hle
            rw [(unhide HF).2]
            exact ⟨go, q1, n3, q2 (by omega)⟩
          go_wp2
          go_ret
          exact ⟨_, rfl, unhide HZ⟩

end Go.Proofs.YtabhfeocelljdaaGreatDoor

