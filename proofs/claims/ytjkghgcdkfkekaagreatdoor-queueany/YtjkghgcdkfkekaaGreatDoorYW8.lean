import Derived.Test.YtjkghgcdkfkekaaGreatDoorYW7
/- Contract: recordsIn. -/
namespace Go.Proofs.YtjkghgcdkfkekaaGreatDoor
open Go.RowKit

/-- Records in memory whose blocks meet P. -/
structure RecsP (P : Nat → Prop) (w : World) (ro : Option Addr) (rc : Nat) (rs : List Bs) : Prop where
  cells : 0 < rs.length → ∃ b off, ro = some ⟨b, off, none⟩ ∧ P b ∧ ∀ i (h : i < rs.length), ∃ ao cap, w.cell? ⟨b, off + i, none⟩ = some (.slice ao rs[i].length cap) ∧ BAt w ao cap rs[i] ∧ ∀ b' off', 0 < rs[i].length → ao = some ⟨b', off', none⟩ → P b'
  small : rs.length ≤ 140737488355328

theorem RecsP.recs {P : Nat → Prop} {w : World} {ro : Option Addr} {rc : Nat} {rs : List Bs} (h : RecsP P w ro rc rs) : Recs w ro rc rs := by
  refine ⟨fun h0 => ?_, h.small⟩
  obtain ⟨b, off, e, _, hc⟩ := h.cells h0
  exact ⟨b, off, e, fun i hi => by obtain ⟨ao, cap, h1, h2, _⟩ := hc i hi; exact ⟨ao, cap, h1, h2⟩⟩

theorem RecsP.frame {P S : Nat → Prop} {w w' : World} {ro : Option Addr} {rc : Nat} {rs : List Bs} (h : RecsP P w ro rc rs) (hF : Fr S w w') (hS : ∀ k, P k → ¬ S k) : RecsP P w' ro rc rs := by
  refine ⟨fun h0 => ?_, h.small⟩
  obtain ⟨b, off, e, hp, hc⟩ := h.cells h0
  refine ⟨b, off, e, hp, fun i hi => ?_⟩
  obtain ⟨ao, cap, h1, h2, h3⟩ := hc i hi
  exact ⟨ao, cap, (hF.cell (a := ⟨b, off + i, none⟩) (World.block_lt_of_cell? _ _ h1) (hS b hp)).trans h1, h2.stay (fun b' off' ea h0 hlt => hF.block b' hlt (hS b' (h3 b' off' h0 ea))), h3⟩

theorem RecsP.mono {P Q : Nat → Prop} {w : World} {ro : Option Addr} {rc : Nat} {rs : List Bs} (h : RecsP P w ro rc rs) (hPQ : ∀ k, k < w.heap.size → P k → Q k) : RecsP Q w ro rc rs := by
  refine ⟨fun h0 => ?_, h.small⟩
  obtain ⟨b, off, e, hp, hc⟩ := h.cells h0
  refine ⟨b, off, e, ?_, fun i hi => ?_⟩
  · obtain ⟨ao, cap, h1, _⟩ := hc 0 h0
    exact hPQ b (World.block_lt_of_cell? _ _ h1) hp
  · obtain ⟨ao, cap, h1, h2, h3⟩ := hc i hi
    refine ⟨ao, cap, h1, h2, fun b' off' h0 ea => ?_⟩
    obtain ⟨b2, off2, ea2, hcc⟩ := h2.2.1 h0
    rw [ea] at ea2
    injection ea2 with ea2
    injection ea2 with e1 e2
    exact hPQ b' (by rw [e1]; exact World.block_lt_of_cell? _ _ (hcc 0 h0)) (h3 b' off' h0 ea)

theorem recAt_some {t b : Bs} {n : Nat} (h : recAt t n = some b) : frm b n <+: t ∧ 12 + b.length ≤ t.length := by
  unfold recAt at h
  split at h
  · cases h
  · split at h
    · cases h
    · split at h
      · rename_i h1 h2 h3
        injection h with h
        have e : t.take (12 + num (t.take 4)) = frm b n := by
          rw [List.take_add, h3, h]; rfl
        have hl : b.length = num (t.take 4) := by rw [← h]; simp; omega
        exact ⟨⟨t.drop (12 + num (t.take 4)), by rw [← e, List.take_append_drop]⟩, by omega⟩
      · cases h

theorem recAt_none {t : Bs} {n : Nat} (ht : t.length < 4294967296) (h : recAt t n = none) (b : Bs) : ¬ frm b n <+: t := by
  intro hp
  have hl := hp.length_le
  rw [frm_length] at hl
  obtain ⟨r, hr⟩ := hp
  have e1 : t = fh b n ++ (b ++ r) := by rw [← hr, frm, List.append_assoc]
  have e4 : t.take 4 = digs b.length 4 := by
    rw [e1, fh, List.append_assoc, List.append_assoc, List.take_append_of_le_length (by rw [digs_length]; exact Nat.le_refl _), List.take_of_length_le (by rw [digs_length]; exact Nat.le_refl _)]
  have en : num (t.take 4) = b.length := by rw [e4]; exact digs_num_lt (by omega)
  have e12 : t.take 12 = fh b n := by rw [e1, List.take_append_of_le_length (by rw [fh_length]; exact Nat.le_refl _), List.take_of_length_le (by rw [fh_length]; exact Nat.le_refl _)]
  have ed : (t.drop 12).take b.length = b := by
    rw [e1, List.drop_left' (fh_length b n), List.take_left' rfl]
  unfold recAt at h
  rw [if_neg (by omega), en, if_neg (by omega), ed, e12, if_pos rfl] at h
  cases h

/-- A slice's end. -/
theorem cutL {w : World} {ao : Option Addr} {cap : Nat} {s : Bs} (hB : BAt w ao cap s) (m : Nat) (hm : m ≤ s.length) (hc : s.length ≤ cap) :
    ∃ ao', (∀ w', (Instr.slice 28 (.slice ao s.length cap) (some (.int .i64 (m : Int))) none none).run Tryz.prog w' = .ok (.slice ao' (s.length - m) (cap - m)) w') ∧ ∀ w', BAt w' ao cap s → BAt w' ao' (cap - m) (s.drop m) := by
  refine ⟨if cap = m then ao else ao.map (·.add m), fun w' => ?_, fun w' h => ?_⟩
  · rw [run_slice_l (P := Tryz.prog) (w := w') 28 ao s.length cap under37 .i64 (m : Int) (by omega) (by omega), size5w]
    simp only [Result.andThen, sliced, Int.toNat_natCast, Nat.mul_one]
  · by_cases hcm : cap = m
    · rw [if_pos hcm]
      have hd : s.drop m = [] := List.drop_of_length_le (by omega)
      rw [hd]
      exact ⟨fun _ => ⟨rfl, by omega⟩, fun h0 => absurd h0 (by simp), by simp⟩
    · rw [if_neg hcm]
      cases ao with
      | none => have := h.1 rfl; omega
      | some x =>
        refine ⟨fun e => (by cases e), fun h0 => ?_, by have := h.2.2; rw [List.length_drop]; omega⟩
        rw [List.length_drop] at h0
        obtain ⟨b, off, ex, hcc⟩ := h.2.1 (by omega)
        injection ex with ex
        subst ex
        refine ⟨b, off + m, by simp [Addr.add_lit], fun j hj => ?_⟩
        rw [List.length_drop] at hj
        rw [List.getElem_drop, Nat.add_assoc]
        exact hcc (m + j) (by omega)

theorem infoS : (Tryz.prog.info? 28).map (fun i => (i.zero, i.size, i.bytes)) = some (some (.slice none 0 0), 1, 24) := by kernel_rfl

/-- Frames of records stand in a stream, one behind another. -/
def Stands (s : Bs) (l : List Bs) : Prop := ∀ k (h : k < l.length), frm l[k] k <+: s.drop (pos l k)

theorem Stands.len {s : Bs} {l : List Bs} (h : Stands s l) : (strm l).length ≤ s.length := by
  rcases Nat.eq_zero_or_pos l.length with h0 | h0
  · rw [List.eq_nil_of_length_eq_zero h0]; exact Nat.zero_le _
  · have h1 := (h (l.length - 1) (by omega)).length_le
    rw [frm_length, List.length_drop] at h1
    have h2 := pos_end l (l.length - 1) (by omega)
    rw [show l.length - 1 + 1 = l.length by omega, List.take_length] at h2
    omega

theorem strm_many (l : List Bs) : 12 * l.length ≤ (strm l).length := by
  have : ∀ j, j ≤ l.length → 12 * j ≤ (strm (l.take j)).length := by
    intro j
    induction j with
    | zero => intro _; omega
    | succ j ih =>
      intro hj
      have := pos_end l j (by omega)
      have := pos_ge l j
      have := ih (by omega)
      omega
  have := this l.length (Nat.le_refl _)
  rwa [List.take_length] at this

theorem Stands.snoc {s : Bs} {l : List Bs} (h : Stands s l) {b : Bs} (hb : frm b l.length <+: s.drop (bgn (strm l).length)) : Stands s (l ++ [b]) := by
  intro k hk
  have hp : pos (l ++ [b]) k = pos l k := by
    rw [pos, pos, List.take_append_of_le_length (by simp at hk; omega)]
  rw [hp]
  by_cases hkl : k < l.length
  · rw [List.getElem_append_left hkl]; exact h k hkl
  · have : k = l.length := by simp at hk; omega
    subst this
    rw [List.getElem_append_right (Nat.le_refl _)]
    simp only [Nat.sub_self, List.getElem_cons_zero]
    rw [pos, List.take_length]; exact hb

/-- A list of new records, as a row. -/
def ListAt (w0 w : World) (ao : Option Addr) (cap g : Nat) (l : List Bs) : Prop := ∃ vs, VRow w ao cap g vs ∧ vs.length = l.length ∧ w0.heap.size ≤ g ∧ ∀ i (h : i < vs.length) (h' : i < l.length), ∃ gi ao' cap', vs[i] = .slice ao' l[i].length cap' ∧ Row w (.slice ao' l[i].length cap') gi l[i] ∧ w0.heap.size ≤ gi ∧ (0 < cap' → gi ≠ g)

theorem Row.lt0 {w : World} {ao : Option Addr} {n cap g : Nat} {bs : Bs} (h : Row w (.slice ao n cap) g bs) (hc : 0 < cap) : g < w.heap.size := by
  obtain ⟨ao0, cap0, e2, q1, q2, q3, q4⟩ := h.shape
  injection e2 with e3 e4 e5
  subst e3 e5
  obtain ⟨u, hu⟩ := Option.isSome_iff_exists.1 (q4 0 hc).1
  exact World.block_lt_of_cell? _ _ hu

theorem ListAt.recs {w0 w : World} {ao : Option Addr} {cap g : Nat} {l : List Bs} (h : ListAt w0 w ao cap g l) (hl : ∀ b ∈ l, b.length ≤ 140737488355328) (hn : l.length ≤ 140737488355328) : RecsP (fun k => w0.heap.size ≤ k) w ao cap l := by
  obtain ⟨vs, hv, hlen, hg, he⟩ := h
  refine ⟨fun h0 => ⟨g, 0, hv.ad (by have := hv.le; omega), hg, fun i hi => ?_⟩, hn⟩
  obtain ⟨gi, ao', cap', e1, hr, hgi, _⟩ := he i (by omega) hi
  obtain ⟨ao0, cap0, e2, q1, q2, q3, q4⟩ := hr.shape
  injection e2 with e3 e4 e5
  subst e3 e5
  refine ⟨ao', cap', ?_, ?_, fun b' off' h0 ea => ?_⟩
  · rw [Nat.zero_add, hv.cells i (by omega), e1]
  · exact (hr.bat (hl _ (List.getElem_mem hi))).2
  · rw [q3 (by omega)] at ea
    injection ea with ea
    injection ea with e1 e2
    omega

set_option maxHeartbeats 2000000 in
set_option maxRecDepth 20000 in
theorem recordsIn_any (w : World) (hT : TabAt w) (ao : Option Addr) (cap : Nat) (s : Bs) (hB : BAt w ao cap s) (hcap : s.length ≤ cap) (hcm : cap ≤ maxLen) (hl : s.length < 536870912) :
    Calls Tryz.prog 69 #[.slice ao s.length cap] w fun e w' => ∃ l ro rc, e = .returned (.slice ro l.length rc) ∧ IsRecs s l ∧ RecsP (fun k => w.heap.size ≤ k) w' ro rc l ∧ Fr (fun _ => False) w w' := by
  obtain ⟨i0, hi, hzz⟩ := Option.map_eq_some_iff.1 infoS
  simp only [Prod.mk.injEq] at hzz
  obtain ⟨hz0, hz1, hz2⟩ := hzz
  have HI := hide (And.intro hi (And.intro hz0 (And.intro hz1 hz2)))
  have HH := hide (And.intro hT (And.intro hB (And.intro hcap (And.intro hcm hl))))
  clear hi hz0 hz1 hz2 hT hB hcap hcm hl
  go_enter Tryz.func69, Tryz.ntmps69
  go_wp2
  go_loopw [3, 4] (fun lv pv wr => ∃ l ro rc g, lv = .slice ro (List.length l) rc ∧ pv = .int .i64 ((strm l).length : Nat) ∧ Hid (Stands s l ∧ ListAt w wr ro rc g l ∧ Fr (fun _ => False) w wr)) (fun _ pv _ => s.length - (intOf pv).toNat)
  case atStart => exact ⟨[], none, 0, w.heap.size, rfl, rfl, fun k h => absurd h (by simp), ⟨[], VRow.nil _ _, rfl, Nat.le_refl _, fun i h => absurd h (by simp)⟩, Fr.refl _ _⟩
  case round =>
    obtain ⟨l, ro, rc, g, rfl, rfl, HR⟩ := hrel
    obtain ⟨hT, hB, hcap, hcm, hl⟩ := unhide HH
    obtain ⟨hS, hL, hF⟩ := unhide HR
    have hSl := hS.len
    have hm := strm_many l
    have hbl := bgn_lt (strm l).length
    obtain ⟨m, hmm⟩ : ∃ m, m = min (bgn (strm l).length) s.length := ⟨_, rfl⟩
    have hmin : ∀ ts t (w : World), (Builtin.min_ ts t #[.int .i64 ((bgn (strm l).length : Nat) : Int), .int .i64 (s.length : Int)]).run Tryz.prog w = .ok (.int .i64 (m : Int)) w := fun ts t w => by
      rw [run_min_int2]; congr 2; split <;> omega
    obtain ⟨ao', hcut, hBc⟩ := cutL hB m (by omega) hcap
    have hBw := hBc wr (hB.later hF)
    have hdl : (s.drop m).length = s.length - m := List.length_drop
    have hcm' : cap ≤ 9223372036854775807 := by simp only [maxLen] at hcm; omega
    have RA := recordAt_any wr (hT.later hF) ao' (cap - m) (s.drop m) hBw (by omega) (by omega) (by omega) l.length (by omega)
    rw [hdl] at RA
    have hpb : (strm l).length < 4611686018427387904 := by omega
    have hdrop : s.drop m = s.drop (bgn (strm l).length) := by
      by_cases hlt : bgn (strm l).length ≤ s.length
      · rw [hmm, Nat.min_eq_left hlt]
      · rw [hmm, Nat.min_eq_right (by omega), List.drop_of_length_le (Nat.le_refl _), List.drop_of_length_le (by omega)]
    have hll : (l.length : Int) ≤ 536870912 := by omega
    have hi1 : ((bgn (strm l).length : Nat) : Int) ≤ 536871000 := by omega
    have hi0 : (0 : Int) ≤ ((bgn (strm l).length : Nat) : Int) := by omega
    have HA := hide (And.intro RA (And.intro hdrop (And.intro hSl (And.intro hm hdl))))
    clear RA hdrop hBw hdl hT hB hcap hcm hcm' hl hS hL hF hSl hm hbl hmm hBc
    go_wp2_with fail
    refine (begin_any _ _ hpb).mono ?_
    rintro e w1 ⟨rfl, rfl⟩
    clear hpb
    generalize hBG : bgn (strm l).length = BG at *
    have HBG := hide hBG
    clear hBG
    go_wp2_with fail
    refine (unhide HA).1.mono ?_
    cases hra : recAt (s.drop m) l.length with
    | none =>
      rintro e w2 ⟨rfl, hF2⟩
      have HF2 := hide (And.intro hF2 hra)
      clear hF2 hra hcut hmin
      go_wp2
      go_ret
      obtain ⟨hF2, hra⟩ := unhide HF2
      obtain ⟨hS, hL, hF⟩ := unhide HR
      obtain ⟨hT, hB, hcap, hcm, hl⟩ := unhide HH
      obtain ⟨_, hdrop, hSl, hm, hdl⟩ := unhide HA
      refine ⟨l, ro, rc, rfl, ⟨hS, fun b => ?_⟩, ?_, hF.trans hF2 (fun _ _ t => t)⟩
      · rw [unhide HBG, ← hdrop]
        exact recAt_none (by omega) hra b
      · refine RecsP.frame (hL.recs (fun b hb => ?_) (by omega)) hF2 (fun _ _ t => t)
        obtain ⟨k, hk, rfl⟩ := List.getElem_of_mem hb
        have h1 := pos_end l k hk
        have h2 := strm_take_len l (show k + 1 ≤ l.length from hk)
        rw [List.take_length] at h2
        omega
    | some b =>
      rintro e w2 ⟨v, rfl, g2, hrow, hF2, hg2⟩
      obtain ⟨vo, vc, rfl, hjunk⟩ := hrow.shape
      clear hjunk
      have hst := recAt_some hra
      rw [(unhide HA).2.1] at hst
      have hfl := hst.1.length_le
      rw [frm_length, List.length_drop] at hfl
      have hSl := (unhide HA).2.2.1
      have hl := (unhide HH).2.2.2.2
      have hbb : (b.length : Int) ≤ 536870912 := by omega
      have hb0 : (0 : Int) ≤ (b.length : Int) := by omega
      have HB2 := hide (And.intro hrow (And.intro hF2 (And.intro hg2 (And.intro hst.1 hfl))))
      clear hrow hF2 hg2 hst hfl hra hcut hmin hSl hl
      obtain ⟨hS, hL, hF⟩ := unhide HR
      obtain ⟨vs, hv, hvl, hgw, hve⟩ := hL
      have hv2 : VRow w2 ro rc g vs := hv.stay fun hc => (unhide HB2).2.1.block g (hv.lt hc) (fun t => t)
      have hvi : vs.length = l.length := hvl
      have hgl1 : 0 < rc → g < w1.heap.size := fun hc => hv.lt hc
      have HV := hide (And.intro hv2 (And.intro hvl (And.intro hgw (And.intro hve (And.intro hS (And.intro hF hgl1))))))
      clear hS hF hv hvl hgw hve hv2 hvi HR hgl1
      go_wp2_with (at_builtin; refine wpList_append_vrow _ rfl (.tmp 24) (.tmp 26) 23 23 rfl 28 i0 (.slice none 0 0) Tryz.underlying23 (unhide HI).1 (unhide HI).2.1 rfl (unhide HI).2.2.1 (ao := ro) (cap := rc) (g := g) (n := l.length) (vs := vs) rfl ?hvr (unhide HV).2.1 _ [.slice vo b.length vc] 1 rfl rfl ?hsr ?hf1 ?hf2 ?next)
      case hvr => exact (unhide HV).1.stay (fun hc => Below.heap_alloc _ _ _ ((unhide HV).1.lt hc))
      case hsr =>
        have hnew := Bx.new w2 #[.slice vo b.length vc] 28
        refine Src.ofSlice _ Tryz.underlying23 ⟨w2.heap.size, 0, none⟩ 1 1 _ rfl (fun j u hj => ?_) (fun u hu => ?_)
        · rw [Addr.add_lit, Nat.zero_add, hnew.cell j, ← hj, List.getElem?_toArray]
        · simp at hu; subst hu; rfl
      case hf1 => rw [(unhide HI).2.2.2]; have := (unhide HA).2.2.2.1; have := (unhide HA).2.2.1; have := (unhide HH).2.2.2.2; omega
      case hf2 => have := (unhide HA).2.2.2.1; have := (unhide HA).2.2.1; have := (unhide HH).2.2.2.2; omega
      case next =>
        intro ao2 cap2 w3 g3 hv3 hG3
        have HG := hide (And.intro hv3 hG3)
        clear hv3 hG3
        go_wp2
        obtain ⟨hv3, hG3⟩ := unhide HG
        obtain ⟨hrow, hF2, hg2, hst, hfl⟩ := unhide HB2
        obtain ⟨hv2, hvl, hgw, hve, hS, hF, hgl1⟩ := unhide HV
        have hSl := (unhide HA).2.2.1
        have hsl : (strm (l ++ [b])).length = BG + 12 + b.length := by rw [strm_snoc, addR_length, unhide HBG]
        have hbge := bgn_le (strm l).length
        rw [unhide HBG] at hbge
        have hFa : Fr (fun _ => False) w2 (w2.alloc (.cells #[.slice vo b.length vc] 28)) := (Fr.refl _ _).alloc _
        have hs2 := hF.size
        have hs3 := hF2.size
        have hs4 := hFa.size
        have hF3 : Fr (fun k => k = g ∧ 0 < rc) w2 w3 := by
          rcases hG3 with ⟨_, _, hf⟩ | ⟨_, _, hf⟩
          · exact (hFa.mono (fun _ _ t => t.elim)).trans hf (fun _ _ t => t)
          · exact (hFa.mono (fun _ _ t => t.elim)).trans hf (fun _ _ t => t.elim)
        have hF03 : Fr (fun _ => False) w w3 := (hF.trans hF2 (fun _ _ t => t)).trans hF3 (fun i hi t => by omega)
        have hg3 : w.heap.size ≤ g3 := by
          rcases hG3 with ⟨e, _, _⟩ | ⟨e, _, _⟩ <;> omega
        have hlv : vs.length = l.length := hvl
        refine ⟨⟨l ++ [b], ao2, cap2, g3, by simp, ?_, hS.snoc (by rw [unhide HBG]; exact hst), ⟨vs ++ [.slice vo b.length vc], hv3, by simp [hlv], hg3, fun i h1 h2 => ?_⟩, hF03⟩, ?_⟩
        · rw [hsl]; exact congrArg (Value.int .i64) (by omega)
        · have hle3 := hv3.le
          have hgne : ∀ gi, gi < w2.heap.size → (0 < rc → gi ≠ g) → gi ≠ g3 := fun gi h1 h2 => by
            rcases hG3 with ⟨e, e', _⟩ | ⟨e, _, _⟩
            · have := h2 (by simp at hle3; omega)
              omega
            · omega
          by_cases hil : i < vs.length
          · obtain ⟨gi, ao', cap', e1, hr, hgi, hne⟩ := hve i hil (by omega)
            rw [List.getElem_append_left hil, List.getElem_append_left (by omega)]
            have hr2 : Row w2 (.slice ao' l[i].length cap') gi l[i] := hr.elsewhere (fun hc => hF2.block gi (hr.lt0 hc) (fun t => t))
            exact ⟨gi, ao', cap', e1, hr2.elsewhere (fun hc => hF3.block gi (hr2.lt0 hc) (fun t => hne hc t.1)), hgi, fun hc => hgne gi (hr2.lt0 hc) (fun _ => hne hc)⟩
          · have hiv : i = vs.length := by simp at h1; omega
            subst hiv
            rw [List.getElem_append_right (Nat.le_refl _), List.getElem_append_right (by omega)]
            simp only [hlv, Nat.sub_self, List.getElem_cons_zero]
            exact ⟨g2, vo, vc, rfl, hrow.elsewhere (fun hc => hF3.block g2 (hrow.lt0 hc) (fun t => by have := hgl1 t.2; have t1 := t.1; omega)), by omega, fun hc => hgne g2 (hrow.lt0 hc) (fun hc' t => by have := hgl1 hc'; omega)⟩
        · simp only [intOf]
          omega

end Go.Proofs.YtjkghgcdkfkekaaGreatDoor

