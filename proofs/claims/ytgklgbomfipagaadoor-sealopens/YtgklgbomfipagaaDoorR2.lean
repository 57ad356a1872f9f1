/- The document's own change. -/
import Derived.Test.YtgklgbomfipagaaDoorR1
namespace Go.Proofs.YtgklgbomfipagaaDoor
open Go.RowKit

/-- The document's tables lie where their text lays them. -/
def TabR (w : World) : Prop := (∀ j, j < 8 → w.cell? ⟨0, j, none⟩ = some (.int .u32 (hw0 j))) ∧ ∀ j, j < 64 → w.cell? ⟨2, j, none⟩ = some (.int .u32 (kw j))

theorem TabR.frame {S : Nat → Prop} {w w' : World} (h : TabR w) (hF : Fr S w w') (h0 : ¬ S 0) (h2 : ¬ S 2) : TabR w' :=
  ⟨fun j hj => (hF.cell (a := ⟨0, j, none⟩) (World.block_lt_of_cell? _ _ (h.1 j hj)) h0).trans (h.1 j hj), fun j hj => (hF.cell (a := ⟨2, j, none⟩) (World.block_lt_of_cell? _ _ (h.2 j hj)) h2).trans (h.2 j hj)⟩
theorem TabR.later {w w' : World} (h : TabR w) (hF : Fr (fun _ => False) w w') : TabR w' := h.frame hF (fun t => t) (fun t => t)

/-- Words of which those behind place i have been moved up. -/
def shf (s : Nat → Nat) (i j : Nat) : Nat := if i < j then s (j - 1) else s j
theorem shf_next (s : Nat → Nat) (i j : Nat) (hi : 0 < i) : (if j = i then Value.int .u32 (s (i - 1)) else wv (shf s i) j) = wv (shf s (i - 1)) j := by
  unfold wv shf
  by_cases e : j = i
  · subst e; rw [if_pos rfl, if_pos (by omega)]
  · rw [if_neg e]
    by_cases h2 : i < j
    · rw [if_pos h2, if_pos (by omega)]
    · rw [if_neg h2, if_neg (by omega)]

/-- Where change has come to. -/
def Chg (w wr : World) (b r v g : Nat) (h s : Nat → Nat) (W : Nat → Nat) : Prop :=
  Blk wr b 49 8 (wv h) ∧ Blk wr r 49 8 (wv fun _ => 0) ∧ Blk wr v 49 8 (wv s) ∧ Fr (fun _ => False) w wr ∧ (∀ j, j < 64 → wr.cell? ⟨g, j, none⟩ = some (.int .u32 (W j))) ∧ w.heap.size ≤ b ∧ w.heap.size ≤ r ∧ w.heap.size ≤ v ∧ b ≠ r ∧ b ≠ v ∧ r ≠ v ∧ g ≠ v ∧ g ≠ b

theorem Chg.later {w wr w' : World} {b r v g : Nat} {h s : Nat → Nat} {W : Nat → Nat} (k : Chg w wr b r v g h s W) (hF : Fr (fun _ => False) wr w') : Chg w w' b r v g h s W := by
  obtain ⟨k1, k2, k3, k4, k5, k6⟩ := k
  exact ⟨k1.later hF, k2.later hF, k3.later hF, k4.trans hF (fun _ _ t => t), fun j hj => (hF.cell (a := ⟨g, j, none⟩) (World.block_lt_of_cell? _ _ (k5 j hj)) (fun t => t)).trans (k5 j hj), k6⟩

theorem Chg.set {w wr : World} {b r v g : Nat} {h s : Nat → Nat} {W : Nat → Nat} (k : Chg w wr b r v g h s W) (i : Nat) (hi : i < 8) (x : Nat) (s' : Nat → Nat) (hs : ∀ j, j < 8 → (if j = i then Value.int .u32 x else wv s j) = wv s' j) : Chg w (wr.setCell ⟨v, i, none⟩ (.int .u32 x)) b r v g h s' W := by
  obtain ⟨k1, k2, k3, k4, k5, k6, k7, k8, k9, k10, k11, k12, k13⟩ := k
  refine ⟨k1.other _ _ k10, k2.other _ _ k11, (k3.set i hi _).same hs, k4.setCell (p := ⟨v, i, none⟩) (fun t => absurd t (by simp only []; omega)) _, fun j hj => ?_, k6, k7, k8, k9, k10, k11, k12, k13⟩
  rw [World.cell?_setCell_other _ _ _ _ (fun t => k12 (by injection t with t _; exact t.symm))]
  exact k5 j hj

theorem Chg.same {w wr : World} {b r v g : Nat} {h s s' : Nat → Nat} {W : Nat → Nat} (k : Chg w wr b r v g h s W) (hs : ∀ j, j < 8 → s j = s' j) : Chg w wr b r v g h s' W := by
  obtain ⟨k1, k2, k3, k4⟩ := k
  exact ⟨k1, k2, k3.same (fun j hj => by unfold wv; rw [hs j hj]), k4⟩

/-- What a round makes of the words that were moved up. -/
def rn2 (s : Nat → Nat) (x4 x0 j : Nat) : Nat := if j = 0 then x0 else if j = 4 then x4 else shf s 0 j
theorem rn2_is (k W : Nat) (s : Nat → Nat) (x4 x0 j : Nat) (hj : j < 8) (h4 : x4 = add32 (s 3) (t1 k W s)) (h0 : x0 = add32 (t1 k W s) (t2 s)) : rn2 s x4 x0 j = rnd k W s j := by
  subst h4 h0
  match j, hj with
  | 0, _ => rfl
  | 1, _ => rfl
  | 2, _ => rfl
  | 3, _ => rfl
  | 4, _ => rfl
  | 5, _ => rfl
  | 6, _ => rfl
  | 7, _ => rfl

theorem ch_nat2 (e f g : Nat) (he : e < 4294967296) (hf : f < 4294967296) (hg : g < 4294967296) : bits .xor .u32 (bits .and .u32 (e : Int) (f : Int)) (bits .and .u32 (bits .xor .u32 IntKind.u32.max (e : Int)) (g : Int)) = ((chs e f g : Nat) : Int) := by
  have := ch_nat e f g he hf hg
  rwa [if_neg (by decide)] at this

set_option maxHeartbeats 4000000 in
set_option maxRecDepth 100000 in
theorem rchange_any (w : World) (hT : TabR w) (hq : Nat → Nat) (hh : ∀ j, hq j < 4294967296) (b off cap : Nat) (blk : Nat → UInt8) (hB : ∀ j, j < 64 → w.cell? ⟨b, off + j, none⟩ = some (.int .u8 (blk j).toNat)) :
    Calls Tryd.prog 36 #[.agg (arr 8 (wv hq)), .slice (some ⟨b, off, none⟩) 64 cap] w fun e w' => e = .returned (.agg (arr 8 (wv (comp hq blk)))) ∧ Fr (fun _ => False) w w' := by
  have HT := hide hT
  have HB := hide hB
  clear hT hB
  go_enter Tryd.func36, Tryd.ntmps36
  go_wp2_with fail
  rw [zero8]
  have hF0 := ((Fr.refl (fun _ => False) w).alloc (.cells (arr 8 (wv hq)) 49)).alloc (.cells (arr 8 (wv fun _ => 0)) 49)
  have e1 : (w.alloc (.cells (arr 8 (wv hq)) 49)).heap.size = w.heap.size + 1 := by simp
  have b0 := (Blk.new w 49 8 (wv hq)).alloc (.cells (arr 8 (wv fun _ => 0)) 49)
  have b1 := Blk.new (w.alloc (.cells (arr 8 (wv hq)) 49)) 49 8 (wv fun _ => 0)
  have e2 : ((w.alloc (.cells (arr 8 (wv hq)) 49)).alloc (.cells (arr 8 (wv fun _ => 0)) 49)).heap.size = w.heap.size + 1 + 1 := by simp
  rw [e1] at b1
  have HM := hide (And.intro b0 (And.intro b1 (And.intro hF0 e2)))
  clear e1 b0 b1 hF0 e2
  generalize ((w.alloc (.cells (arr 8 (wv hq)) 49)).alloc (.cells (arr 8 (wv fun _ => 0)) 49)) = w0 at *
  refine (rspread_any w0 b off cap blk (fun j hj => ((unhide HM).2.2.1.cell (a := ⟨b, off + j, none⟩) (World.block_lt_of_cell? _ _ (unhide HB j hj)) (fun t => t)).trans (unhide HB j hj))).mono ?_
  rintro e w1 ⟨g, mc, rfl, hgc, k2, k3⟩
  have hM : Chg w ((w1.alloc (.cells (arr 8 (wv fun _ => 0)) 49)).setRow w1.heap.size (arr 8 (wv hq))) w.heap.size (w.heap.size + 1) w1.heap.size g hq (rnds (spr blk) hq 0) (spr blk) := by
    obtain ⟨m1, m2, m3, m4⟩ := unhide HM
    have hF1 := (Fr.refl (fun _ => False) w1).alloc (.cells (arr 8 (wv fun _ => 0)) 49)
    have hg1 : g < w1.heap.size := World.block_lt_of_cell? _ _ (hgc 0 (by omega))
    have hs1 := k2.size
    have hF2 : Fr (fun k => k = w1.heap.size) w1 ((w1.alloc (.cells (arr 8 (wv fun _ => 0)) 49)).setRow w1.heap.size (arr 8 (wv hq))) := (hF1.mono (T := fun k => k = w1.heap.size) (fun _ _ t => t.elim)).setRow (fun _ => rfl) _
    refine ⟨(m1.later k2).frame hF2 (by omega), (m2.later k2).frame hF2 (by omega), (Blk.new w1 49 8 _).row _, (m3.trans k2 (fun _ _ t => t)).trans hF2 (fun i hi t => by have := m3.size; omega), fun j hj => ?_, by omega, by omega, by omega, by omega, by omega, by omega, by omega, by omega⟩
    exact (hF2.cell (a := ⟨g, j, none⟩) hg1 (by show ¬ g = w1.heap.size; omega)).trans (hgc j hj)
  have HC := hide hM
  have HL := hide (And.intro ((unhide HM).1.later k2) (Blk.new w1 49 8 (wv fun _ => 0)))
  clear hM hgc k2 k3 HM
  go_wp2_with (first | refine wpList_load_row rfl 49 (.tmp 2) rfl w.heap.size rfl 49 (arr 8 (wv hq)) (0, 0) _ (unhide HL).1 Tryd.underlying49 rfl (size49 _) ?_ | refine wpList_store_row rfl 49 (.tmp 6) (.tmp 19) rfl w1.heap.size (arr 8 (wv hq)) rfl rfl 49 (arr 8 (wv fun _ => 0)) ?hb (size49 _) (by rw [arr_size, arr_size]) (arr_one _ _ (fun _ => rfl)) ?_)
  case hb =>
    rw [zero8]
    exact (unhide HL).2
  rw [zero8]
  generalize ((w1.alloc (.cells (arr 8 (wv fun _ => 0)) 49)).setRow w1.heap.size (arr 8 (wv hq))) = w2 at *
  generalize w1.heap.size = v at *
  generalize w.heap.size + 1 = r at *
  obtain ⟨b0, hb0⟩ : ∃ b, w.heap.size = b := ⟨_, rfl⟩
  rw [hb0] at HC ⊢
  clear HL
  go_wp2
  go_loopw [7, 8, 9, 10, 11, 12, 13, 14, 15] (fun nv _ _ _ _ _ _ _ _ wr => ∃ n : Nat, n ≤ 64 ∧ nv = .int .i64 n ∧ Hid (Chg w wr b0 r v g hq (rnds (spr blk) hq n) (spr blk))) (fun nv _ _ _ _ _ _ _ _ _ => 64 - (intOf nv).toNat)
  case atStart => exact ⟨0, Nat.zero_le _, rfl, unhide HC⟩
  case round =>
    clear HC
    obtain ⟨n, hn, rfl, HS⟩ := hrel
    by_cases hlt : n < 64
    · have HN := hide (rnds_next (spr blk) hq n)
      have HL := hide (fun j => rnds_lt (spr blk) hq hh n j)
      have ck := ((unhide HT).later (unhide HS).2.2.2.1).2 n hlt
      have cw := (unhide HS).2.2.2.2.1 n hlt
      have c0 : wr.cell? ⟨v, 0, none⟩ = some (.int .u32 (rnds (spr blk) hq n 0)) := (unhide HS).2.2.1.cell 0 (by omega)
      have c1 : wr.cell? ⟨v, 1, none⟩ = some (.int .u32 (rnds (spr blk) hq n 1)) := (unhide HS).2.2.1.cell 1 (by omega)
      have c2 : wr.cell? ⟨v, 2, none⟩ = some (.int .u32 (rnds (spr blk) hq n 2)) := (unhide HS).2.2.1.cell 2 (by omega)
      have c4 : wr.cell? ⟨v, 4, none⟩ = some (.int .u32 (rnds (spr blk) hq n 4)) := (unhide HS).2.2.1.cell 4 (by omega)
      have c5 : wr.cell? ⟨v, 5, none⟩ = some (.int .u32 (rnds (spr blk) hq n 5)) := (unhide HS).2.2.1.cell 5 (by omega)
      have c6 : wr.cell? ⟨v, 6, none⟩ = some (.int .u32 (rnds (spr blk) hq n 6)) := (unhide HS).2.2.1.cell 6 (by omega)
      have c7 : wr.cell? ⟨v, 7, none⟩ = some (.int .u32 (rnds (spr blk) hq n 7)) := (unhide HS).2.2.1.cell 7 (by omega)
      obtain ⟨s, hs⟩ : ∃ s, s = rnds (spr blk) hq n := ⟨_, rfl⟩
      have hnx : ∀ j, rnds (spr blk) hq (n + 1) j = rnd (kw n) (spr blk n) s j := fun j => by rw [hs]; rfl
      rw [← hs] at HS HL c0 c1 c2 c4 c5 c6 c7
      have HNX := hide hnx
      clear hs hnx HN
      have l0 := unhide HL 0
      have l4 := unhide HL 4
      have hx1 := xor_bs1 (s 4) l4
      have hx0 := xor_bs0 (s 0) l0
      have hch := ch_nat2 (s 4) (s 5) (s 6) l4 (unhide HL 5) (unhide HL 6)
      have hmj := maj_nat (s 0) (s 1) (s 2) l0 (unhide HL 1) (unhide HL 2)
      have HCH := hide hch
      have HMJ := hide hmj
      have HX0 := hide hx0
      have HX1 := hide hx1
      have HL0 := hide l0
      have HL4 := hide l4
      clear hch hmj hx0 hx1 l0 l4
      go_wp2_with fail
      refine (rrot_any _ (s 4) 6 (unhide HL4) (by omega) (by omega)).mono ?_
      rintro e w3 ⟨rfl, rfl⟩
      go_wp2_with fail
      refine (rrot_any _ (s 4) 11 (unhide HL4) (by omega) (by omega)).mono ?_
      rintro e w3 ⟨rfl, rfl⟩
      go_wp2_with fail
      refine (rrot_any _ (s 4) 25 (unhide HL4) (by omega) (by omega)).mono ?_
      rintro e w3 ⟨rfl, rfl⟩
      have hx1 := unhide HX1
      go_wp2
      clear hx1
      rw [unhide HCH]
      go_quiet (fail)
      obtain ⟨T, hT⟩ : ∃ T, T = t1 (kw n) (spr blk n) s := ⟨_, rfl⟩
      have htv : (((s 7 : Int) + (bs1 (s 4) : Int) + (chs (s 4) (s 5) (s 6) : Int) + (kw n : Int)) % 4294967296 + (spr blk n : Int)) % 4294967296 = (T : Int) := by
        rw [hT]; simp only [t1, add32]; omega
      rw [htv]
      have HTT := hide hT
      have hTl : T < 4294967296 := by rw [hT]; exact add32_lt _ _
      clear htv hT ck cw c4 c5 c6 c7
      have HS1 := hide ((unhide HS).later ((Fr.refl _ w3).drewN nq))
      have c0 : (w3.drewN nq).cell? ⟨v, 0, none⟩ = some (.int .u32 (s 0)) := c0
      have c1 : (w3.drewN nq).cell? ⟨v, 1, none⟩ = some (.int .u32 (s 1)) := c1
      have c2 : (w3.drewN nq).cell? ⟨v, 2, none⟩ = some (.int .u32 (s 2)) := c2
      generalize w3.drewN nq = wd at *
      go_wp2_with fail
      refine (rrot_any _ (s 0) 2 (unhide HL0) (by omega) (by omega)).mono ?_
      rintro e w3 ⟨rfl, rfl⟩
      go_wp2_with fail
      refine (rrot_any _ (s 0) 13 (unhide HL0) (by omega) (by omega)).mono ?_
      rintro e w3 ⟨rfl, rfl⟩
      go_wp2_with fail
      refine (rrot_any _ (s 0) 22 (unhide HL0) (by omega) (by omega)).mono ?_
      rintro e w3 ⟨rfl, rfl⟩
      have hx0 := unhide HX0
      have hmj := unhide HMJ
      go_wp2
      clear hx0 hmj c0 c1 c2
      have HS2 := hide ((unhide HS1).same (s' := shf s 7) (fun j hj => (if_neg (by omega)).symm))
      clear HS1
      go_loopw [15] (fun iv wr => ∃ i : Nat, i ≤ 7 ∧ iv = .int .i64 i ∧ Hid (Chg w wr b0 r v g hq (shf s i) (spr blk))) (fun iv _ => (intOf iv).toNat)
      case atStart => exact ⟨7, Nat.le_refl _, rfl, unhide HS2⟩
      case round =>
        obtain ⟨i, hi7, rfl, HI⟩ := hrel
        by_cases hi0 : 0 < i
        · have ci : wr.cell? ⟨v, i, none⟩ = some (.int .u32 (shf s i i)) := (unhide HI).2.2.1.cell i (by omega)
          have fi := (unhide HI).2.2.1.frozen i
          have cj : wr.cell? ⟨v, i - 1, none⟩ = some (.int .u32 (s (i - 1))) := by
            have := (unhide HI).2.2.1.cell (i - 1) (by omega)
            rw [this]
            unfold wv shf
            rw [if_neg (by omega)]
          have HN := hide ((unhide HI).set i (by omega) (s (i - 1)) (shf s (i - 1)) (fun j _ => shf_next s i j hi0))
          generalize shf s i i = y at *
          generalize s (i - 1) = x at *
          go_wp2
          first
          | exact ⟨⟨i - 1, by omega, by go_num, unhide HN⟩, by simp [intOf]; omega⟩
          | refine ⟨?_, ?_⟩
            · repeat apply Exists.intro
              refine ⟨?_, rfl⟩
              exact ⟨i - 1, by omega, by go_num, unhide HN⟩
            · show (intOf (.int .i64 ((i : Int) - 1))).toNat < (intOf (.int .i64 (i : Int))).toNat
              simp [intOf]; omega
        · obtain rfl : i = 0 := by omega
          have c4 : wr.cell? ⟨v, 4, none⟩ = some (.int .u32 (s 3)) := (unhide HI).2.2.1.cell 4 (by omega)
          have f4 := (unhide HI).2.2.1.frozen 4
          have c0 : wr.cell? ⟨v, 0, none⟩ = some (.int .u32 (s 0)) := (unhide HI).2.2.1.cell 0 (by omega)
          have f0 := (unhide HI).2.2.1.frozen 0
          obtain ⟨X4, hX4⟩ : ∃ X, X = add32 (s 3) (t1 (kw n) (spr blk n) s) := ⟨_, rfl⟩
          obtain ⟨X0, hX0⟩ : ∃ X, X = add32 (t1 (kw n) (spr blk n) s) (t2 s) := ⟨_, rfl⟩
          have hv4 : ((s 3 : Int) + (T : Int)) % 4294967296 = (X4 : Int) := by rw [hX4, ← unhide HTT]; simp only [add32]; omega
          have hv0 : ((T : Int) + (bs0 (s 0) : Int) + (maj (s 0) (s 1) (s 2) : Int)) % 4294967296 = (X0 : Int) := by rw [hX0, ← unhide HTT]; simp only [t2, add32]; omega
          have HZ := hide ((((unhide HI).set 4 (by omega) X4 (upd (shf s 0) 4 X4) (fun j _ => by
            unfold wv upd
            by_cases e : j = 4
            · subst e; rw [if_pos rfl, if_pos rfl]
            · rw [if_neg e, if_neg e])).set 0 (by omega) X0 (rn2 s X4 X0) (fun j _ => by
            unfold wv rn2 upd
            by_cases e : j = 0
            · subst e; rw [if_pos rfl, if_pos rfl]
            · rw [if_neg e, if_neg e])).same (s' := rnds (spr blk) hq (n + 1)) (fun j hj => by rw [unhide HNX j]; exact rn2_is _ _ _ _ _ j hj hX4 hX0))
          have h43 := unhide HL 3
          clear hX4 hX0
          go_wp2
          exact ⟨⟨n + 1, by omega, by go_num, unhide HZ⟩, by simp [intOf]; omega⟩
    · obtain rfl : n = 64 := by omega
      have HL := hide (fun j => rnds_lt (spr blk) hq hh 64 j)
      have HH := hide hh
      obtain ⟨V, hV⟩ : ∃ V, V = rnds (spr blk) hq 64 := ⟨_, rfl⟩
      rw [← hV] at HL HS
      have HV := hide hV
      clear hV hh
      obtain ⟨k1, k2, k3, k4, _, k6, k7, k8, k9, k10, k11, _⟩ := unhide HS
      have HW : Hid (Blk wr b0 49 8 (wv (mixf hq V 0)) ∧ Blk wr r 49 8 (wv fun _ => 0) ∧ Blk wr v 49 8 (wv V) ∧ Fr (fun _ => False) w wr) := ⟨k1.same (fun j _ => by simp [wv, mixf]), k2, k3, k4⟩
      have HP := hide (And.intro k6 (And.intro k7 (And.intro k9 k10)))
      clear k1 k2 k3 k4 k6 k7 k8 k9 k10 k11 HS
      go_wp2
      go_loopw [16] (fun iv wr => ∃ i : Nat, i ≤ 8 ∧ iv = .int .i64 i ∧ Hid (Blk wr b0 49 8 (wv (mixf hq V i)) ∧ Blk wr r 49 8 (wv fun _ => 0) ∧ Blk wr v 49 8 (wv V) ∧ Fr (fun _ => False) w wr)) (fun iv _ => 8 - (intOf iv).toNat)
      case atStart => exact ⟨0, Nat.zero_le _, rfl, unhide HW⟩
      case round =>
        obtain ⟨i, hi, rfl, HS⟩ := hrel
        by_cases hlt : i < 8
        · have ci := (unhide HS).1.cell i hlt
          have fi := (unhide HS).1.frozen i
          have cv := (unhide HS).2.2.1.cell i hlt
          unfold wv at ci cv
          rw [mixf_at] at ci
          have hl := unhide HH i
          have hl2 := unhide HL i
          obtain ⟨k1, k2, k3, k4⟩ := unhide HS
          have HN := hide (And.intro ((k1.set i hlt (.int .u32 (add32 (hq i) (V i)))).same (f' := wv (mixf hq V (i + 1))) (fun j _ => mixf_next hq V i j)) (And.intro (k2.other ⟨b0, i, none⟩ (.int .u32 (add32 (hq i) (V i))) (fun t => (unhide HP).2.2.1 t.symm)) (And.intro (k3.other ⟨b0, i, none⟩ (.int .u32 (add32 (hq i) (V i))) (fun t => (unhide HP).2.2.2 t.symm)) (k4.setCell (p := ⟨b0, i, none⟩) (fun t => absurd t (by have := (unhide HP).1; simp only []; omega)) (.int .u32 (add32 (hq i) (V i)))))))
          clear k1 k2 k3 k4
          have hv : ((hq i : Int) + (V i : Int)) % 4294967296 = ((add32 (hq i) (V i) : Nat) : Int) := by simp only [add32]; omega
          rw [← hv] at HN
          clear hv
          generalize hq i = x at *
          generalize V i = y at *
          go_wp2
          go_big_region
          go_wp2
          obtain ⟨n1, n2, n3, n4⟩ := unhide HN
          exact ⟨⟨i + 1, by omega, by go_num, n1.later (Fr.refl _ _).drew, n2.later (Fr.refl _ _).drew, n3.later (Fr.refl _ _).drew, n4.drew⟩, by simp [intOf]; omega⟩
        · obtain rfl : i = 8 := by omega
          obtain ⟨k1, k2, k3, k4⟩ := unhide HS
          have k5 : Blk wr b0 49 8 (wv (comp hq blk)) := k1.same (fun j hj => by
            unfold wv
            rw [mixf_full hq V j hj, unhide HV]; rfl)
          have HQ := hide (And.intro k5 (And.intro k2 (k4.setRow (g := r) (fun t => absurd t (by have := (unhide HP).2.1; omega)) (arr 8 (wv (comp hq blk))))))
          clear k1 k2 k3 k4 k5
          go_wp2_with (first | refine wpList_load_row rfl 49 (.tmp 2) rfl b0 rfl 49 (arr 8 (wv (comp hq blk))) (0, 0) _ (unhide HQ).1 Tryd.underlying49 rfl (size49 _) ?_ | refine wpList_store_row rfl 49 (.tmp 4) (.tmp 118) rfl r (arr 8 (wv (comp hq blk))) rfl rfl 49 (arr 8 (wv fun _ => 0)) (unhide HQ).2.1 (size49 _) (by rw [arr_size, arr_size]) (arr_one _ _ (fun _ => rfl)) ?_)
          refine bodyPost_ret (results_cell_row rfl _ _ r 49 (arr 8 (wv (comp hq blk))) (0, 0) _ rfl ((unhide HQ).2.1.row _) Tryd.underlying49 rfl (size49 _)) rfl ?_
          exact ⟨rfl, (unhide HQ).2.2⟩

end Go.Proofs.YtgklgbomfipagaaDoor
