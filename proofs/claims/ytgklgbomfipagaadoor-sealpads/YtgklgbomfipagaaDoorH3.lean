/- The contract of changed. -/
import Derived.Test.YtgklgbomfipagaaDoorH2
namespace Go.Proofs.YtgklgbomfipagaaDoor
open Go.RowKit

/-- The program's tables lie where its text lays them. -/
def TabP (w : World) : Prop := (∀ j, j < 8 → w.cell? ⟨1, j, none⟩ = some (.int .u32 (hw0 j))) ∧ ∀ j, j < 64 → w.cell? ⟨3, j, none⟩ = some (.int .u32 (kw j))

theorem TabP.frame {S : Nat → Prop} {w w' : World} (h : TabP w) (hF : Fr S w w') (h1 : ¬ S 1) (h3 : ¬ S 3) : TabP w' :=
  ⟨fun j hj => (hF.cell (a := ⟨1, j, none⟩) (World.block_lt_of_cell? _ _ (h.1 j hj)) h1).trans (h.1 j hj), fun j hj => (hF.cell (a := ⟨3, j, none⟩) (World.block_lt_of_cell? _ _ (h.2 j hj)) h3).trans (h.2 j hj)⟩
theorem TabP.later {w w' : World} (h : TabP w) (hF : Fr (fun _ => False) w w') : TabP w' := h.frame hF (fun t => t) (fun t => t)

theorem kw_lt (n : Nat) : kw n < 4294967296 := by
  by_cases h : n < 64
  · have hall : (List.range 64).all (fun n => decide (kw n < 4294967296)) = true := by decide +kernel
    simpa using List.all_eq_true.1 hall n (List.mem_range.2 h)
  · have : kw n = 0 := by
      show ktab.getD n 0 = 0
      rw [List.getD_eq_getElem?_getD, List.getElem?_eq_none (by show 64 ≤ n; omega)]; rfl
    omega
theorem hw0_lt (n : Nat) : hw0 n < 4294967296 := by
  by_cases h : n < 8
  · have hall : (List.range 8).all (fun n => decide (hw0 n < 4294967296)) = true := by decide +kernel
    simpa using List.all_eq_true.1 hall n (List.mem_range.2 h)
  · have : hw0 n = 0 := by
      show htab.getD n 0 = 0
      rw [List.getD_eq_getElem?_getD, List.getElem?_eq_none (by show 8 ≤ n; omega)]; rfl
    omega
theorem spr_lt (blk : Nat → UInt8) (j : Nat) : spr blk j < 4294967296 := sched_lt _ (wfirst_lt blk 16) _ _
theorem rnds_lt (W h : Nat → Nat) (hh : ∀ j, h j < 4294967296) (n j : Nat) : rnds W h n j < 4294967296 := by
  induction n generalizing j with
  | zero => exact hh j
  | succ n ih =>
    show rnd (kw n) (W n) (rnds W h n) j < _
    unfold rnd of8
    split
    · exact add32_lt _ _
    · exact ih _
    · exact ih _
    · exact ih _
    · exact add32_lt _ _
    · exact ih _
    · exact ih _
    · exact ih _
    · omega
theorem rnds_next (W h : Nat → Nat) (n : Nat) :
    rnds W h (n + 1) 0 = add32 (add32 (add32 (add32 (add32 (rnds W h n 7) (bs1 (rnds W h n 4))) (chs (rnds W h n 4) (rnds W h n 5) (rnds W h n 6))) (kw n)) (W n)) (add32 (bs0 (rnds W h n 0)) (maj (rnds W h n 0) (rnds W h n 1) (rnds W h n 2))) ∧
    rnds W h (n + 1) 1 = rnds W h n 0 ∧ rnds W h (n + 1) 2 = rnds W h n 1 ∧ rnds W h (n + 1) 3 = rnds W h n 2 ∧
    rnds W h (n + 1) 4 = add32 (rnds W h n 3) (add32 (add32 (add32 (add32 (rnds W h n 7) (bs1 (rnds W h n 4))) (chs (rnds W h n 4) (rnds W h n 5) (rnds W h n 6))) (kw n)) (W n)) ∧
    rnds W h (n + 1) 5 = rnds W h n 4 ∧ rnds W h (n + 1) 6 = rnds W h n 5 ∧ rnds W h (n + 1) 7 = rnds W h n 6 := ⟨rfl, rfl, rfl, rfl, rfl, rfl, rfl, rfl⟩
theorem comp_lt (h : Nat → Nat) (blk : Nat → UInt8) (j : Nat) : comp h blk j < 4294967296 := add32_lt _ _

theorem xor_bs1 (x : Nat) (hx : x < 4294967296) : bits .xor .u32 (bits .xor .u32 ((rotr x 6 : Nat) : Int) ((rotr x 11 : Nat) : Int)) ((rotr x 25 : Nat) : Int) = ((bs1 x : Nat) : Int) :=
  xor3 _ _ _ (rotr_lt _ hx) (rotr_lt _ hx) (rotr_lt _ hx)
theorem xor_bs0 (x : Nat) (hx : x < 4294967296) : bits .xor .u32 (bits .xor .u32 ((rotr x 2 : Nat) : Int) ((rotr x 13 : Nat) : Int)) ((rotr x 22 : Nat) : Int) = ((bs0 x : Nat) : Int) :=
  xor3 _ _ _ (rotr_lt _ hx) (rotr_lt _ hx) (rotr_lt _ hx)

theorem not_nat (e : Nat) (he : e < 4294967296) : bits .xor .u32 (if IntKind.u32.signed = true then -1 else IntKind.u32.max) (e : Int) = ((4294967295 - e : Nat) : Int) := by
  have h0 : (if IntKind.u32.signed = true then (-1 : Int) else IntKind.u32.max) = ((4294967295 : Nat) : Int) := by decide
  rw [h0, u32_xor_nat _ _ (by omega) he]
  congr 1
  rw [Nat.xor_comm]
  have hadd : e ^^^ 4294967295 = 2 ^ 32 - 1 - e := by
    have h := BitVec.toNat_not (x := BitVec.ofNat 32 e)
    have hx : (~~~ BitVec.ofNat 32 e) = BitVec.ofNat 32 e ^^^ BitVec.allOnes 32 := by rw [BitVec.xor_allOnes]
    rw [hx, BitVec.toNat_xor, BitVec.toNat_allOnes, BitVec.toNat_ofNat, Nat.mod_eq_of_lt (by omega)] at h
    exact h
  rw [hadd]
theorem ch_nat (e f g : Nat) (he : e < 4294967296) (hf : f < 4294967296) (hg : g < 4294967296) : bits .xor .u32 (bits .and .u32 (e : Int) (f : Int)) (bits .and .u32 (bits .xor .u32 (if IntKind.u32.signed = true then -1 else IntKind.u32.max) (e : Int)) (g : Int)) = ((chs e f g : Nat) : Int) := by
  rw [not_nat e he, u32_and_nat e f he hf, u32_and_nat _ g (by omega) hg, u32_xor_nat _ _ (and32 he) (and32 (by omega))]
  rfl
theorem maj_nat (a b c : Nat) (ha : a < 4294967296) (hb : b < 4294967296) (hc : c < 4294967296) : bits .xor .u32 (bits .xor .u32 (bits .and .u32 (a : Int) (b : Int)) (bits .and .u32 (a : Int) (c : Int))) (bits .and .u32 (b : Int) (c : Int)) = ((maj a b c : Nat) : Int) := by
  rw [u32_and_nat a b ha hb, u32_and_nat a c ha hc, u32_and_nat b c hb hc, xor3 _ _ _ (and32 ha) (and32 ha) (and32 hb)]
  rfl
theorem chs_lt {e : Nat} (f g : Nat) (he : e < 4294967296) : chs e f g < 4294967296 := xor32 (and32 he) (and32 (by omega))
theorem maj_lt {a b : Nat} (c : Nat) (ha : a < 4294967296) (hb : b < 4294967296) : maj a b c < 4294967296 := xor32 (xor32 (and32 ha) (and32 ha)) (and32 hb)

theorem lit8 (V : Nat → Nat) : #[Value.int .u32 (V 0), .int .u32 (V 1), .int .u32 (V 2), .int .u32 (V 3), .int .u32 (V 4), .int .u32 (V 5), .int .u32 (V 6), .int .u32 (V 7)] = arr 8 (wv V) := rfl
theorem run_index_8 (w : World) (V : Nat → Nat) (i : Nat) (hi : i < 8) : (Instr.index 51 (.agg (arr 8 (wv V))) (.int .i64 i)).run Tryd.prog w = .ok (.int .u32 (V i)) w := by
  have h3 : (sizeOf 48).run Tryd.prog w = .ok 1 w := by kernel_rfl
  have hv := arr_get 8 (wv V) i hi
  unfold wv at hv ⊢
  simp [Instr.index, run_underlying Tryd.underlying51, asIntOf, part, h3, hi, hv]

/-- The words, of which the first i have been added up. -/
def mixf (h V : Nat → Nat) (i j : Nat) : Nat := if j < i then add32 (h j) (V j) else h j
theorem mixf_at (h V : Nat → Nat) (i : Nat) : mixf h V i i = h i := if_neg (Nat.lt_irrefl i)
theorem mixf_full (h V : Nat → Nat) (j : Nat) (hj : j < 8) : mixf h V 8 j = add32 (h j) (V j) := if_pos hj
theorem mixf_next (h V : Nat → Nat) (i j : Nat) : (if j = i then Value.int .u32 (add32 (h i) (V i)) else wv (mixf h V i) j) = wv (mixf h V (i + 1)) j := by
  unfold wv mixf
  by_cases e : j = i
  · subst e; rw [if_pos rfl, if_pos (by omega)]
  · rw [if_neg e]
    by_cases h2 : j < i
    · rw [if_pos h2, if_pos (by omega)]
    · rw [if_neg h2, if_neg (by omega)]

theorem rotZ_any (w : World) (x : Nat) (k : Int) (hx : x < 4294967296) (h0 : 0 < k) (hn : k < 32) : Calls Tryd.prog 44 #[.int .u32 x, .int .i64 k] w fun e w' => e = .returned (.int .u32 (rotr x k.toNat)) ∧ w' = w := by
  obtain ⟨n, rfl⟩ : ∃ n : Nat, k = n := ⟨k.toNat, by omega⟩
  exact rot_any w x n hx (by omega) (by omega)

set_option maxHeartbeats 4000000 in
set_option maxRecDepth 100000 in
theorem changed_any (w : World) (hT : TabP w) (h : Nat → Nat) (hh : ∀ j, h j < 4294967296) (blk : Nat → UInt8) :
    Calls Tryd.prog 37 #[.agg (arr 8 (wv h)), .agg (arr 64 (bv blk))] w fun e w' => e = .returned (.agg (arr 8 (wv (comp h blk)))) ∧ Fr (fun _ => False) w w' := by
  have HT := hide hT
  clear hT
  go_enter Tryd.func37, Tryd.ntmps37
  go_wp2
  rw [zero8]
  have e1 : (w.alloc (.cells (arr 8 (wv h)) 51)).heap.size = w.heap.size + 1 := by simp
  have e2 : ((w.alloc (.cells (arr 8 (wv h)) 51)).alloc (.cells (arr 64 (bv blk)) 53)).heap.size = w.heap.size + 1 + 1 := by simp
  have b0 := ((Blk.new w 51 8 (wv h)).alloc (.cells (arr 64 (bv blk)) 53)).alloc (.cells (arr 8 (wv fun _ => 0)) 51)
  have b1 := (Blk.new (w.alloc (.cells (arr 8 (wv h)) 51)) 53 64 (bv blk)).alloc (.cells (arr 8 (wv fun _ => 0)) 51)
  have b2 := Blk.new ((w.alloc (.cells (arr 8 (wv h)) 51)).alloc (.cells (arr 64 (bv blk)) 53)) 51 8 (wv fun _ => 0)
  rw [e1] at b1
  rw [e2] at b2
  have hF := (((Fr.refl (fun _ => False) w).alloc (.cells (arr 8 (wv h)) 51)).alloc (.cells (arr 64 (bv blk)) 53)).alloc (.cells (arr 8 (wv fun _ => 0)) 51)
  have HM := hide (And.intro b0 (And.intro b1 (And.intro b2 hF)))
  clear e1 e2 b0 b1 b2 hF
  generalize (((w.alloc (.cells (arr 8 (wv h)) 51)).alloc (.cells (arr 64 (bv blk)) 53)).alloc (.cells (arr 8 (wv fun _ => 0)) 51)) = w0 at *
  have hp : w.heap.size + 1 + 1 ≠ w.heap.size ∧ w.heap.size ≤ w.heap.size + 1 + 1 := by omega
  have HP := hide hp
  clear hp
  generalize w.heap.size + 1 + 1 = r at *
  generalize w.heap.size + 1 = q at *
  obtain ⟨b, hb⟩ : ∃ b, w.heap.size = b := ⟨_, rfl⟩
  rw [hb] at HM HP ⊢
  have c0 := (unhide HM).1.cell 0 (by omega)
  have c1 := (unhide HM).1.cell 1 (by omega)
  have c2 := (unhide HM).1.cell 2 (by omega)
  have c3 := (unhide HM).1.cell 3 (by omega)
  have c4 := (unhide HM).1.cell 4 (by omega)
  have c5 := (unhide HM).1.cell 5 (by omega)
  have c6 := (unhide HM).1.cell 6 (by omega)
  have c7 := (unhide HM).1.cell 7 (by omega)
  unfold wv at c0 c1 c2 c3 c4 c5 c6 c7
  go_quiet (fail)
  clear c0 c1 c2 c3 c4 c5 c6 c7
  have HM1 := hide (And.intro ((unhide HM).1.later ((Fr.refl _ w0).drewN nq)) (And.intro ((unhide HM).2.1.later ((Fr.refl _ w0).drewN nq)) (And.intro ((unhide HM).2.2.1.later ((Fr.refl _ w0).drewN nq)) ((unhide HM).2.2.2.drewN nq))))
  clear HM
  generalize w0.drewN nq = w1 at *
  go_wp2_with (refine wpList_load_row rfl 53 (.tmp 3) rfl q rfl 53 (arr 64 (bv blk)) (0, 0) _ (unhide HM1).2.1 Tryd.underlying53 rfl (size53 _) ?_)
  go_wp2_with fail
  refine (spread_any w1 blk).mono ?_
  rintro e w2 ⟨rfl, hF2⟩
  have HM2 := hide (And.intro ((unhide HM1).1.later hF2) (And.intro ((unhide HM1).2.2.1.later hF2) ((unhide HM1).2.2.2.trans hF2 (fun _ _ t => t))))
  clear HM1 hF2
  go_wp2
  go_loopw [5, 6, 7, 8, 9, 10, 11, 12, 13, 14, 15, 16, 37] (fun va vb vc vd ve vf vg vi _ _ _ _ iv wr => ∃ n : Nat, n ≤ 64 ∧ iv = .int .i64 n ∧ va = .int .u32 (rnds (spr blk) h n 0) ∧ vb = .int .u32 (rnds (spr blk) h n 1) ∧ vc = .int .u32 (rnds (spr blk) h n 2) ∧ vd = .int .u32 (rnds (spr blk) h n 3) ∧ ve = .int .u32 (rnds (spr blk) h n 4) ∧ vf = .int .u32 (rnds (spr blk) h n 5) ∧ vg = .int .u32 (rnds (spr blk) h n 6) ∧ vi = .int .u32 (rnds (spr blk) h n 7) ∧ Hid (Blk wr b 51 8 (wv h) ∧ Blk wr r 51 8 (wv fun _ => 0) ∧ Fr (fun _ => False) w wr)) (fun _ _ _ _ _ _ _ _ _ _ _ _ iv _ => 64 - (intOf iv).toNat)
  case atStart => exact ⟨0, Nat.zero_le _, rfl, rfl, rfl, rfl, rfl, rfl, rfl, rfl, rfl, unhide HM2⟩
  case round =>
    obtain ⟨n, hn, rfl, rfl, rfl, rfl, rfl, rfl, rfl, rfl, rfl, HS⟩ := hrel
    by_cases hlt : n < 64
    · have HN := hide (rnds_next (spr blk) h n)
      have HL := hide (fun j => rnds_lt (spr blk) h hh n j)
      have ck := ((unhide HT).later (unhide HS).2.2).2 n hlt
      have hix : ∀ w, (Instr.index 62 (.agg (arr 64 (wv (spr blk)))) (.int .i64 n)).run Tryd.prog w = .ok (.int .u32 (spr blk n)) w := by
        intro w
        have h3 : (sizeOf 48).run Tryd.prog w = .ok 1 w := by kernel_rfl
        have hv := arr_get 64 (wv (spr blk)) n hlt
        unfold wv at hv ⊢
        simp [Instr.index, run_underlying Tryd.underlying62, asIntOf, part, h3, hlt, hv]
      have L := And.intro (unhide HL 0) (And.intro (unhide HL 1) (And.intro (unhide HL 2) (And.intro (unhide HL 4) (And.intro (unhide HL 5) (unhide HL 6)))))
      clear HL
      generalize rnds (spr blk) h n 0 = x0 at *
      generalize rnds (spr blk) h n 1 = x1 at *
      generalize rnds (spr blk) h n 2 = x2 at *
      generalize rnds (spr blk) h n 3 = x3 at *
      generalize rnds (spr blk) h n 4 = x4 at *
      generalize rnds (spr blk) h n 5 = x5 at *
      generalize rnds (spr blk) h n 6 = x6 at *
      generalize rnds (spr blk) h n 7 = x7 at *
      generalize spr blk n = W at *
      generalize kw n = K at *
      obtain ⟨l0, l1, l2, l4, l5, l6⟩ := L
      have hx1 := xor_bs1 x4 l4
      have hx0 := xor_bs0 x0 l0
      have hch := ch_nat x4 x5 x6 l4 l5 l6
      have hmj := maj_nat x0 x1 x2 l0 l1 l2
      have HC := hide hch
      have HM := hide hmj
      have HX0 := hide hx0
      have HL0 := hide l0
      have HL4 := hide l4
      clear hch hmj hx0 l0 l1 l2 l4 l5 l6 hh
      obtain ⟨T, hT⟩ : ∃ T, T = add32 (add32 (add32 (add32 x7 (bs1 x4)) (chs x4 x5 x6)) K) W := ⟨_, rfl⟩
      have htv : (((x7 : Int) + (bs1 x4 : Int) + (chs x4 x5 x6 : Int) + (K : Int)) % 4294967296 + (W : Int)) % 4294967296 = (T : Int) := by
        rw [hT]; simp only [add32]; omega
      rw [← hT] at HN
      have HTV := hide htv
      clear htv hT
      obtain ⟨U, hU⟩ : ∃ U, U = add32 (bs0 x0) (maj x0 x1 x2) := ⟨_, rfl⟩
      rw [← hU] at HN
      have HU := hide hU
      clear hU
      go_wp2
      go_quiet (((go_at_call 44; refine Calls.quiet_of_same (rotZ_any _ x4 _ (unhide HL4) ?_ ?_)) <;> decide))
      rw [unhide HC, unhide HTV]
      clear hx1 hix ck
      go_wp2_with fail
      refine (rot_any _ x0 2 (unhide HL0) (by omega) (by omega)).mono ?_
      rintro e w3 ⟨rfl, rfl⟩
      go_wp2_with fail
      refine (rot_any _ x0 13 (unhide HL0) (by omega) (by omega)).mono ?_
      rintro e w3 ⟨rfl, rfl⟩
      go_wp2_with fail
      refine (rot_any _ x0 22 (unhide HL0) (by omega) (by omega)).mono ?_
      rintro e w3 ⟨rfl, rfl⟩
      have hx0 := unhide HX0
      have hmj := unhide HM
      go_wp2
      clear hx0 hmj
      obtain ⟨N0, N1, N2, N3, N4, N5, N6, N7⟩ := unhide HN
      refine ⟨⟨n + 1, by omega, by go_num, ?_, by rw [N1], by rw [N2], by rw [N3], ?_, by rw [N5], by rw [N6], by rw [N7], (unhide HS).1.later ((Fr.refl _ wr).drewN nq), (unhide HS).2.1.later ((Fr.refl _ wr).drewN nq), (unhide HS).2.2.drewN nq⟩, by simp [intOf]; omega⟩
      · rw [N0]
        refine congrArg (Value.int .u32) ?_
        rw [unhide HU]; simp only [add32]; omega
      · rw [N4]
        refine congrArg (Value.int .u32) ?_
        simp only [add32]; omega
    · obtain rfl : n = 64 := by omega
      have HL := hide (fun j => rnds_lt (spr blk) h hh 64 j)
      have HH := hide hh
      obtain ⟨V, hV⟩ : ∃ V, V = rnds (spr blk) h 64 := ⟨_, rfl⟩
      rw [← hV] at HL ⊢
      have HV := hide hV
      clear hV hh
      go_wp2
      rw [lit8 V]
      go_loopw [17, 18, 108] (fun _ _ iv wr => ∃ i : Nat, i ≤ 8 ∧ iv = .int .i64 i ∧ Hid (Blk wr b 51 8 (wv (mixf h V i)) ∧ Blk wr r 51 8 (wv fun _ => 0) ∧ Fr (fun _ => False) w wr)) (fun _ _ iv _ => 8 - (intOf iv).toNat)
      case atStart => exact ⟨0, Nat.zero_le _, rfl, (unhide HS).1.same (fun j _ => by simp [wv, mixf]), (unhide HS).2⟩
      case round =>
        obtain ⟨i, hi, rfl, HS⟩ := hrel
        by_cases hlt : i < 8
        · have hix := fun w => run_index_8 w V i hlt
          have ci := (unhide HS).1.cell i hlt
          have fi := (unhide HS).1.frozen i
          unfold wv at ci
          rw [mixf_at] at ci
          have hl := unhide HH i
          have hl2 := unhide HL i
          obtain ⟨k1, k2, k3⟩ := unhide HS
          have HN := hide (And.intro ((k1.set i hlt (.int .u32 (add32 (h i) (V i)))).same (f' := wv (mixf h V (i + 1))) (fun j _ => mixf_next h V i j)) (And.intro (k2.other ⟨b, i, none⟩ (.int .u32 (add32 (h i) (V i))) (unhide HP).1) (k3.setCell (p := ⟨b, i, none⟩) (fun t => absurd t (by simp only []; omega)) (.int .u32 (add32 (h i) (V i))))))
          clear k1 k2 k3
          have hv : ((h i : Int) + (V i : Int)) % 4294967296 = ((add32 (h i) (V i) : Nat) : Int) := by simp only [add32]; omega
          rw [← hv] at HN
          clear hv
          generalize h i = x at *
          generalize V i = y at *
          go_wp2
          exact ⟨⟨i + 1, by omega, by go_num, unhide HN⟩, by simp [intOf]; omega⟩
        · obtain rfl : i = 8 := by omega
          obtain ⟨k1, k2, k3⟩ := unhide HS
          have k4 : Blk wr b 51 8 (wv (comp h blk)) := k1.same (fun j hj => by
            unfold wv
            rw [mixf_full h V j hj, unhide HV]; rfl)
          have HQ := hide (And.intro k4 (And.intro k2 (k3.setRow (g := r) (fun t => absurd t (by have := (unhide HP).2; omega)) (arr 8 (wv (comp h blk))))))
          clear k1 k2 k3 k4
          go_wp2_with (first | refine wpList_load_row rfl 51 (.tmp 2) rfl b rfl 51 (arr 8 (wv (comp h blk))) (0, 0) _ (unhide HQ).1 Tryd.underlying51 rfl (size51 _) ?_ | refine wpList_store_row rfl 51 (.tmp 4) (.tmp 119) rfl r (arr 8 (wv (comp h blk))) rfl rfl 51 (arr 8 (wv fun _ => 0)) (unhide HQ).2.1 (size51 _) (by rw [arr_size, arr_size]) (arr_one _ _ (fun _ => rfl)) ?_)
          refine bodyPost_ret (results_cell_row rfl _ _ r 51 (arr 8 (wv (comp h blk))) (0, 0) _ rfl ((unhide HQ).2.1.row _) Tryd.underlying51 rfl (size51 _)) rfl ?_
          exact ⟨rfl, (unhide HQ).2.2⟩

end Go.Proofs.YtgklgbomfipagaaDoor
