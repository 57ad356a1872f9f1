import Derived.Test.YtabhfeocelljdaaGreatDoorZXN
import Derived.Test.YtabhfeocelljdaaGreatDoorZGX
import Derived.BigQuiet
import Derived.Deep.QuietTactic
/- LinkSends: its walk. -/
namespace Go.Proofs.YtabhfeocelljdaaGreatDoor
open Go.RowKit Go.Maps

set_option maxHeartbeats 40000000 in
set_option maxRecDepth 20000 in
theorem sends_walk (w : World) (hT : TabP w) (hR : TabRZ w) (a b c : Int) (ao : Option Addr) (cap : Nat) (ts : List TkA) (hA : TksAt w ao ts) :
    Calls Tryz.prog 4 #[.int .i64 a, .int .i64 b, .int .i64 c, .slice ao ts.length cap] w fun e w' => e = .returned (.bool true) ∧ Fr (fun _ => False) w w' := by
  have HT := hide (And.intro hT hR)
  have HA := hide hA
  have hsI : (ts.length : Int) * 24 ≤ 140737488355328 := by have := hA.small; omega
  clear hT hR hA
  go_enter Tryz.func4, Tryz.ntmps4
  go_wp2_with fail
  refine (awakeL_any w (unhide HT).1).mono ?_
  rintro e w1 ⟨rfl, h1⟩
  go_wp2_with fail
  by_cases hs : sndOk a b c
  · refine (newsender_ok w1 hs).mono ?_
    rintro e w2 ⟨p, m, rfl, h2, h3, h4, h5⟩
    go_wp2_with fail
    refine (dnew_ok w2 hs).mono ?_
    rintro e w3 ⟨X, rfl, h6, h7, h8⟩
    have HTW : Hid (TW w p m X ⟨a, b, c, 0, []⟩ ⟨a, b, c, 0, []⟩ none 0 0 0 w3) := hide (by
      have z1 := (unhide h1).size
      have z2 := h3.size
      have z3 := h7.size
      have y1 := h2.bx.lt
      have y2 := h2.mp.lt
      exact ⟨((unhide h1).trans h3 (fun _ _ t => t)).trans h7 (fun _ _ t => t), h2.frame h7 (fun t => t) (fun t => t), h6, ⟨rfl, rfl, rfl, rfl, List.Pairwise.nil, List.Pairwise.nil, fun q => rfl⟩, fun e he => by (cases he), fun e he => by (cases he), rfl, by omega, ⟨by omega, by omega, fun h => absurd h (by omega)⟩⟩)
    clear h1 h2 h3 h4 h5 h6 h7 h8
    go_wp2
    go_loopw [14] (fun iv wr => ∃ (i : Nat) (s d : Snd) (so : Option Addr) (sc sb : Nat), i ≤ ts.length ∧ iv = .int .i64 i ∧ Hid (TW w p m X s d so sc sb i wr)) (fun iv _ => ts.length - (intOf iv).toNat)
    case atStart => exact ⟨0, _, _, none, 0, 0, Nat.zero_le _, rfl, HTW⟩
    case round =>
      obtain ⟨i, s, d, so, sc, sb, hi, rfl, HK⟩ := hrel
      clear HTW
      obtain ⟨W0, hW0⟩ : ∃ W0, W0 = wr := ⟨_, rfl⟩
      subst hW0
      by_cases hil : i < ts.length
      · have hiI : (i : Int) < (ts.length : Int) := by omega
        obtain ⟨bt, ot, e, hc⟩ := (unhide HA).cells (by omega)
        subst e
        have hct := hc i hil
        have HI := hide ((unhide HA).each ts[i] (List.getElem_mem hil))
        have HFW := hide ((unhide HA).few ts[i] (List.getElem_mem hil))
        clear hc
        generalize ts[i] = tk at *
        obtain ⟨io, ic, its⟩ := tk
        simp only at hct HI HFW
        have ct : W0.cell? ⟨bt, ot + i, none⟩ = some (.slice io its.length ic) := ((unhide HK).fr.cell (World.block_lt_of_cell? _ _ hct) (fun t => t)).trans hct
        have hnI : (its.length : Int) * 32 ≤ 140737488351232 := by have := unhide HFW; omega
        obtain ⟨info, hinf, hzz⟩ := Option.map_eq_some_iff.1 infoIt
        simp only [Prod.mk.injEq] at hzz
        have HINF := hide (And.intro hinf hzz)
        clear hinf hzz
        go_wp2
        go_loopw [15, 16] (fun iv kv wk => ∃ (k : Nat) (jo : Option Addr) (jc jb : Nat) (xs : List LtM), k ≤ its.length ∧ iv = .slice jo k jc ∧ kv = .int .i64 k ∧ Hid (Fr (fun _ => False) W0 wk ∧ LL W0.heap.size wk jo jc jb xs ∧ xs.map LtM.q = its.take k)) (fun _ kv _ => its.length - (intOf kv).toNat)
        case atStart => exact ⟨0, none, 0, 0, [], Nat.zero_le _, rfl, rfl, hide ⟨Fr.refl _ _, LL.nil _ _ _, rfl⟩⟩
        case round =>
          obtain ⟨k, jo, jc, jb, xs, hk, rfl, rfl, HL⟩ := hrel
          have ct1 : wr.cell? ⟨bt, ot + i, none⟩ = some (.slice io its.length ic) := ((unhide HL).1.cell (World.block_lt_of_cell? _ _ ct) (fun t => t)).trans ct
          have HFR : Hid (Fr (fun _ => False) w wr) := hide ((unhide HK).fr.trans (unhide HL).1 (fun _ _ t => t))
          by_cases hkl : k < its.length
          · have hkI : (k : Int) < (its.length : Int) := by omega
            obtain ⟨bi, oi, e, hc⟩ := (unhide HI).cells (by omega)
            subst e
            obtain ⟨q1, bo, bc, q2, q3⟩ := hc k hkl
            have HB : Hid (∀ u, Fr (fun _ => False) w u → BAt u bo bc its[k].bytes) := hide (fun u hu => q3.later hu)
            have HTK : Hid (its.take (k + 1) = its.take k ++ [its[k]]) := hide (List.take_succ_eq_append_getElem hkl)
            have c1 : wr.cell? ⟨bi, oi + k * 2, none⟩ = some (.int .i64 its[k].seq) := ((unhide HFR).cell (World.block_lt_of_cell? _ _ q1) (fun t => t)).trans q1
            have c2 : wr.cell? ⟨bi, oi + k * 2 + 1, none⟩ = some (.slice bo its[k].bytes.length bc) := ((unhide HFR).cell (World.block_lt_of_cell? _ _ q2) (fun t => t)).trans q2
            have HXL : Hid (xs.length = k) := hide (by have := congrArg List.length (unhide HL).2.2; rw [List.length_map, List.length_take] at this; omega)
            have HSM : Hid (its[k].bytes.length ≤ 140737488355328) := hide q3.2.2
            clear hc q1 q2 q3
            generalize its[k] = it at *
            obtain ⟨sq, bs⟩ := it
            simp only at c1 c2 HB HSM
            go_wp2_with fail
            go_region_law (first | (refine step_call rfl 10 #[.slice bo bs.length bc] (by kernel_rfl) (lent_any _ bo bc bs (unhide HB _ ((unhide HFR).drew))) ?_; rintro e w8 ⟨g, rfl, k1, k2, k3⟩; refine ⟨_, rfl, ?_⟩; have HF8 : Hid (Fr (fun _ => False) wr w8) := hide (((Fr.refl (fun _ => False) wr).drew).trans k1 (fun _ _ t => t)); have HL8 := hide (And.intro k2 k3); have d0 : w8.cell? ⟨bt, ot + i, none⟩ = some (.slice (some ⟨bi, oi, none⟩) its.length ic) := ((unhide HF8).cell (World.block_lt_of_cell? _ _ ct1) (fun t => t)).trans ct1; have d1 : w8.cell? ⟨bi, oi + k * 2, none⟩ = some (.int .i64 sq) := ((unhide HF8).cell (World.block_lt_of_cell? _ _ c1) (fun t => t)).trans c1; have HSR := hide (src_one (P := Tryz.prog) w8 [.int .i64 sq, .slice (some ⟨g, 0, none⟩) bs.length (bs.length + 3)] 45 47 2 Tryz.underlying45 rfl (fun u hu => by simp only [List.mem_cons, List.not_mem_nil, or_false] at hu; rcases hu with rfl | rfl <;> rfl) (W := w8.alloc (.cells #[.int .i64 sq, .slice (some ⟨g, 0, none⟩) bs.length (bs.length + 3)] 47)) (fun j => by rw [World.cell?_alloc_new]; simp)); have HFA : Hid (Fr (fun _ => False) wr (w8.alloc (.cells #[.int .i64 sq, .slice (some ⟨g, 0, none⟩) bs.length (bs.length + 3)] 47))) := hide ((unhide HF8).alloc _); clear k1 k2 k3) | (refine step_append_krow rfl (.tmp 74) (.tmp 93) 45 45 rfl 47 info _ 2 (by omega) Tryz.underlying45 (unhide HINF).1 (unhide HINF).2.1 rfl (unhide HINF).2.2.1 (ao := jo) (cap := jc) (g := jb) (n := k) (vs := xs.flatMap LtM.cells) rfl ((unhide HL).2.1.keep (unhide HFA)).row (by rw [flatL, unhide HXL]) _ [.int .i64 sq, .slice (some ⟨g, 0, none⟩) bs.length (bs.length + 3)] 1 rfl (unhide HSR) (by rw [(unhide HINF).2.2.2]; omega) (by omega) ?_; intro jo' jc' wB jb' hkr hgr; have HG := hide (And.intro hkr hgr); clear hkr hgr))
            all_goals
              have HNX : Hid (Fr (fun _ => False) W0 wB ∧ LL W0.heap.size wB jo' jc' jb' (xs ++ [LtM.mk ⟨sq, bs⟩ g]) ∧ (xs ++ [LtM.mk ⟨sq, bs⟩ g]).map LtM.q = its.take (k + 1)) := by
                obtain ⟨g1, g2⟩ := unhide HG
                obtain ⟨l1, l2, l3⟩ := unhide HL
                have hz := l1.size
                refine hide ⟨(l1.trans (unhide HFA) (fun _ _ t => t)).trans g2.frZ (fun i hi t => by have := l2.bk t.2; omega), l2.next (q := ⟨sq, bs⟩) (g := g) hz (unhide HFA) ?_ ?_ (unhide HSM) g1 g2, by rw [List.map_append, l3, unhide HTK]; rfl⟩
                · have := (unhide HL8).1
                  exact this
                · exact LentAt.frame (w := w8) (unhide HL8).2 ((Fr.refl (fun _ => False) w8).alloc _) (fun t => t)
              clear HG HSR HFA HF8 HL8 d0 d1 c1 c2 ct1 HB HL HFR
              go_wp2
              exact ⟨⟨k + 1, jo', jc', jb', _, by omega, rfl, by go_num, HNX⟩, by simp [intOf]; omega⟩
          · obtain rfl : k = its.length := by omega
            have HLE : Hid (xs.map LtM.q = its) := hide (by rw [(unhide HL).2.2, List.take_length])
            have HXL : Hid (xs.length = its.length) := hide (by have := congrArg List.length (unhide HLE); rw [List.length_map] at this; exact this)
            have HSN : Hid (SN wr p m s) := hide ((unhide HK).sn.frame (unhide HL).1 (fun t => t) (fun t => t))
            have HLT : Hid (p < W0.heap.size ∧ m < W0.heap.size ∧ X < W0.heap.size ∧ w.heap.size ≤ W0.heap.size ∧ W0.heap.size ≤ wr.heap.size) := hide ⟨(unhide HK).sn.bx.lt, (unhide HK).sn.mp.lt, (unhide HK).ds.bx.lt, (unhide HK).fr.size, (unhide HL).1.size⟩
            have HTI : Hid (∀ u, Fr (fun k => k = p ∨ k = m) wr u → ItsAt u jo its) := hide (fun u hu => by
              have h1 := ((unhide HL).2.1.frame hu (fun i t => by have t : i = p ∨ i = m := t; have := unhide HLT; omega)).its (by rw [unhide HXL]; omega)
              rw [unhide HLE] at h1
              exact h1)
            have HCK : Hid (its.length ≤ jc ∧ s.clk < 1152921504606846976 ∧ s.sent.length ≤ 1099511627776) := hide ⟨by have := (unhide HL).2.1.room; rw [unhide HXL] at this; exact this, by rw [(unhide HK).ck]; omega, (unhide HK).few⟩
            have HSO : Hid (SOk d) := hide ((unhide HK).sok (by omega))
            obtain ⟨F, hF⟩ : ∃ F, (tickF s its).2 = F := ⟨_, rfl⟩
            have hFD : (tickD d its).2 = F := by rw [← hF]; exact (tick_alike (unhide HK).al (unhide HK).sn.bat.1 (unhide HK).sn.evy.1 its).2.symm
            have HBT := hide (unhide HSN).bat
            have HFS := hide (And.intro hF hFD)
            clear hF hFD
            obtain ⟨W1, hW1⟩ : ∃ W1, W1 = wr := ⟨_, rfl⟩
            subst hW1
            go_wp2_with fail
            refine (tick_any (unhide HSN) jo jc its (unhide HTI) (unhide HCK).1 (unhide HCK).2.1 (unhide HCK).2.2).mono ?_
            rw [(unhide HFS).1]
            rintro e w2 ⟨fo, fc, rfl, H2⟩
            obtain ⟨h21, ⟨fb, fx, h22, h23⟩, h24, h25⟩ := unhide H2
            have HP2 := hide (And.intro h21 (And.intro h22 (And.intro h23 (And.intro h24 h25))))
            have HL2 : Hid (LL W0.heap.size w2 jo jc jb xs) := hide ((unhide HL).2.1.frame h24 (fun i t => by have t : i = p ∨ i = m := t; have := unhide HLT; omega))
            have HF2 : Hid (Fr (fun _ => False) w w2) := hide ((unhide HFR).trans h24 (fun i hi t => by have t : i = p ∨ i = m := t; have := (unhide HK).lo; omega))
            clear H2 h21 h22 h23 h24 h25 ct1 HSN HTI HCK
            go_wp2
            go_loopw [18, 19, 20] (fun kv nv _ wk => ∃ k : Nat, k ≤ its.length ∧ kv = .bool true ∧ nv = .int .i64 k ∧ Hid (Fr (fun q => ∃ x ∈ xs.take k, q = x.g) w2 wk)) (fun _ nv _ _ => its.length - (intOf nv).toNat)
            case atStart => exact ⟨0, Nat.zero_le _, rfl, rfl, hide (Fr.refl _ _)⟩
            case round =>
              obtain ⟨k, hk, rfl, rfl, HS3⟩ := hrel
              have HF3 : Hid (Fr (fun _ => False) w wr) := hide ((unhide HF2).trans (unhide HS3) (fun i hi t => by
                obtain ⟨x, hx, rfl⟩ := t
                have := (unhide HL2).it x (List.mem_of_mem_take hx)
                have := unhide HLT
                omega))
              have ct3 : wr.cell? ⟨bt, ot + i, none⟩ = some (.slice io its.length ic) := ((unhide HF3).cell (World.block_lt_of_cell? _ _ hct) (fun t => t)).trans hct
              by_cases hkl : k < its.length
              · have hkI : (k : Int) < (its.length : Int) := by omega
                obtain ⟨bi, oi, e, hc⟩ := (unhide HI).cells (by omega)
                subst e
                obtain ⟨q1, bo, bc, q2, q3⟩ := hc k hkl
                have hkx : k < xs.length := by rw [unhide HXL]; exact hkl
                have HXK : Hid (xs[k]? = some xs[k] ∧ xs.take (k + 1) = xs.take k ++ [xs[k]]) := hide ⟨List.getElem?_eq_getElem hkx, List.take_succ_eq_append_getElem hkx⟩
                have hqk : xs[k].q = its[k] := by
                  have : (xs.map LtM.q)[k]? = its[k]? := by rw [unhide HLE]
                  rw [List.getElem?_map, List.getElem?_eq_getElem hkx, List.getElem?_eq_getElem hkl] at this
                  simpa using this
                obtain ⟨a1, a2, a3⟩ := (unhide HL2).at_ k _ (unhide HXK).1
                obtain ⟨b1, b2, b3, b4⟩ := (unhide HL2).it _ (List.getElem_mem hkx)
                have HGN : Hid (∀ y ∈ xs.take k, y.g ≠ xs[k].g) := hide (fun y hy => by
                  obtain ⟨j, hj, rfl⟩ := List.mem_iff_getElem.1 hy
                  rw [List.length_take] at hj
                  rw [List.getElem_take]
                  exact List.pairwise_iff_getElem.1 (unhide HL2).ap j k (by omega) hkx (by omega))
                have HBB : Hid (bi < w.heap.size ∧ (0 < its[k].bytes.length → ∀ b off, bo = some ⟨b, off, none⟩ → b < w.heap.size)) := hide ⟨World.block_lt_of_cell? _ _ q1, fun h0 b off e => by
                  obtain ⟨b', off', e', hc'⟩ := q3.2.1 h0
                  rw [e'] at e
                  injection e with e
                  injection e with e1 _ _
                  rw [← e1]
                  exact World.block_lt_of_cell? _ _ (hc' 0 h0)⟩
                rw [hqk] at a2 a3 b3 b4
                have HB : Hid (∀ u, Fr (fun _ => False) w u → BAt u bo bc its[k].bytes) := hide (fun u hu => q3.later hu)
                have c1 : wr.cell? ⟨bi, oi + k * 2, none⟩ = some (.int .i64 its[k].seq) := ((unhide HF3).cell (World.block_lt_of_cell? _ _ q1) (fun t => t)).trans q1
                have c2 : wr.cell? ⟨bi, oi + k * 2 + 1, none⟩ = some (.slice bo its[k].bytes.length bc) := ((unhide HF3).cell (World.block_lt_of_cell? _ _ q2) (fun t => t)).trans q2
                have HJB : Hid (¬ (∃ x ∈ xs.take k, jb = x.g) ∧ jb < w2.heap.size ∧ jb ≠ xs[k].g) := hide ⟨fun ⟨x, hx, e⟩ => ((unhide HL2).it x (List.mem_of_mem_take hx)).2.1 (by have := (unhide HL2).room; omega) e.symm, World.block_lt_of_cell? _ _ a2, fun e => b2 (by have := (unhide HL2).room; omega) e.symm⟩
                have d1 : wr.cell? ⟨jb, k * 2, none⟩ = some (.int .i64 its[k].seq) := ((unhide HS3).cell (a := ⟨jb, k * 2, none⟩) (unhide HJB).2.1 (unhide HJB).1).trans a2
                have d2 : wr.cell? ⟨jb, k * 2 + 1, none⟩ = some (.slice (some ⟨xs[k].g, 0, none⟩) its[k].bytes.length (its[k].bytes.length + 3)) := ((unhide HS3).cell (a := ⟨jb, k * 2 + 1, none⟩) (unhide HJB).2.1 (unhide HJB).1).trans a3
                have HLA : Hid (LentAt wr its[k].bytes xs[k].g) := hide (b3.frame (unhide HS3) (fun ⟨y, hy, e⟩ => unhide HGN y hy e.symm))
                have HGW : Hid (w.heap.size ≤ xs[k].g) := hide (by have := unhide HLT; omega)
                have HNX : Hid (∀ u, Fr (fun q => q = xs[k].g) wr u → Fr (fun q => ∃ x ∈ xs.take (k + 1), q = x.g) w2 u) := hide (fun u hu => by
                  rw [(unhide HXK).2]
                  refine ((unhide HS3).mono (fun i hi t => ?_)).trans hu (fun i hi t => ?_)
                  · obtain ⟨x, hx, e⟩ := t
                    exact ⟨x, List.mem_append_left _ hx, e⟩
                  · exact ⟨xs[k], List.mem_append_right _ (List.mem_singleton.2 rfl), t⟩)
                clear hc q1 q2 q3 a2 a3 b1 b2 b3 b4 hqk HGN HXK
                subst a1
                generalize xs[k].g = g at *
                generalize its[k] = it at *
                obtain ⟨sq, bs⟩ := it
                simp only at c1 c2 d1 d2 HB HLA HBB
                go_wp2_with fail
                go_region_law (refine step_call rfl 12 #[.slice (some ⟨g, 0, none⟩) bs.length (bs.length + 3), .slice bo bs.length bc] (by kernel_rfl) (back_any _ bo bc bs (unhide HB _ ((unhide HF3).drew)) g (fun b off e h0 t => by have := (unhide HBB).2 h0 b off e; have := unhide HGW; omega) (unhide HLA)) ?_; rintro e w8 ⟨rfl, k8⟩; refine ⟨_, rfl, ?_⟩; have HF8 : Hid (Fr (fun q => q = g) wr w8) := hide (((Fr.refl (fun q => q = g) wr).drew).trans k8 (fun _ _ t => t)); clear k8)
                all_goals
                  have y0 : w8.cell? ⟨bt, ot + i, none⟩ = some (.slice (some ⟨bi, oi, none⟩) its.length ic) := ((unhide HF8).cell (World.block_lt_of_cell? _ _ ct3) (fun t => by have t : bt = g := t; have h1 : bt < w.heap.size := World.block_lt_of_cell? _ _ hct; have := unhide HGW; omega)).trans ct3
                  have y1 : w8.cell? ⟨bi, oi + k * 2, none⟩ = some (.int .i64 sq) := ((unhide HF8).cell (World.block_lt_of_cell? _ _ c1) (fun t => by have t : bi = g := t; have := (unhide HBB).1; have := unhide HGW; omega)).trans c1
                  have y2 : w8.cell? ⟨jb, k * 2, none⟩ = some (.int .i64 sq) := ((unhide HF8).cell (World.block_lt_of_cell? _ _ d1) (fun t => (unhide HJB).2.2 t)).trans d1
                  have HZ8 := hide (unhide HNX w8 (unhide HF8))
                  clear HF8 c1 c2 d1 d2 ct3 HB HLA
                  go_wp2_with fail
                  go_quiet (fail)
                  go_wp2
                  exact ⟨⟨k + 1, by omega, rfl, by go_num, hide ((unhide HZ8).drewN _)⟩, by simp [intOf]; omega⟩
              · obtain rfl : k = its.length := by omega
                have HX3 : Hid (DS wr X d so sc sb) := hide (by
                  have hk := unhide HK
                  have hl := unhide HLT
                  have hsb : 0 < sc → sb < W0.heap.size := fun hc => hk.ds.row.lt (by omega) hc
                  exact ((hk.ds.keep (unhide HL).1).frame (unhide HP2).2.2.2.1 (fun t => by have t : X = p ∨ X = m := t; have := hk.ne; omega) (fun hc t => by have t : sb = p ∨ sb = m := t; have := hk.ne.2.2 hc; omega)).frame (unhide HS3) (fun ⟨x, hx, e⟩ => by have := ((unhide HL2).it x (List.mem_of_mem_take hx)).1; omega) (fun hc ⟨x, hx, e⟩ => by have := ((unhide HL2).it x (List.mem_of_mem_take hx)).1; have := hsb hc; omega))
                have HIX : Hid (∀ u, Fr (fun k => k = X) wr u → ItsAt u io its) := hide (fun u hu => (unhide HI).stay ((unhide HF3).trans hu (fun i hi t => by have t : i = X := t; have := (unhide HK).lo; omega)) (fun _ _ t => t))
                have HIP : Hid (∀ b o, io = some ⟨b, o, none⟩ → 0 < its.length → b ≠ X ∧ b < wr.heap.size) := hide (fun b o e h0 => by
                  obtain ⟨b', o', e', hc⟩ := (unhide HI).cells h0
                  rw [e'] at e
                  injection e with e
                  injection e with e1 _ _
                  have h1 : b' < w.heap.size := World.block_lt_of_cell? _ _ (hc 0 h0).1
                  have h2 := (unhide HK).lo
                  have h3 := (unhide HF3).size
                  omega)
                obtain ⟨W3, hW3⟩ : ∃ W3, W3 = wr := ⟨_, rfl⟩
                subst hW3
                go_wp2_with fail
                refine (dtick_any (unhide HX3) io ic its (unhide HIX) (unhide HIP) (unhide HSO)).mono ?_
                rw [(unhide HFS).2]
                rintro e w4 ⟨fo', fc', rfl, H4⟩
                have HTG : Hid (∃ so' sc' sb' fb' fx', TG w p m X (tickF s its).1 (tickD d its).1 so' sc' sb' (i + 1) W1.heap.size fo fc fb fx 0 w4 ∧ FL W1.heap.size w4 fo fc fb fx ∧ FL W3.heap.size w4 fo' fc' fb' fx' ∧ fx'.map FrM.f = F) := hide (by
                  obtain ⟨so', sc', sb', fb', fx', g1, g2, g3, g4, g5⟩ := unhide H4
                  obtain ⟨h21, h22, h23, h24, h25⟩ := unhide HP2
                  have ht := (unhide HK).ticked its (unhide HL).1 h24 h21 h22 (unhide HS3) (fun q t => by
                    obtain ⟨x, hx, e⟩ := t
                    have := (unhide HL).2.1.it x (List.mem_of_mem_take hx)
                    have h2 := this.2.2.1.lt
                    omega) g5 g1 g2
                  exact ⟨so', sc', sb', fb', fx', ht.1, ht.2, g3, g4⟩)
                obtain ⟨so', sc', sb', fb', fx', t1, t2, t3, t4⟩ := unhide HTG
                have HFF : Hid (fx.map FrM.f = F ∧ F.length ≤ 64 ∧ ∀ f ∈ F, f.items.length ≤ 8 ∧ ∀ b ∈ f.items, b.length ≤ 256) := hide (by
                  obtain ⟨h21, h22, h23, h24, h25⟩ := unhide HP2
                  exact ⟨h23, h25.few, fun f hf => ⟨by have := (h25.each f hf).2.2.2.1; have := (unhide HBT).2; omega, (h25.each f hf).2.2.2.2.2⟩⟩)
                have HFA : Hid (∀ u, Fr (fun _ => False) w4 u → FsAt u fo F ∧ FsAt u fo' F) := hide (fun u hu => by
                  obtain ⟨r1, r2, r3⟩ := unhide HFF
                  have l1 : fx.length = F.length := by rw [← r1, List.length_map]
                  have l2 : fx'.length = F.length := by rw [← t4, List.length_map]
                  have x1 := (t2.frame hu (fun _ t => t.elim)).fs (by omega) (fun x hx => (r3 x.f (by rw [← r1]; exact List.mem_map_of_mem hx)).1)
                  have x2 := (t3.frame hu (fun _ t => t.elim)).fs (by omega) (fun x hx => (r3 x.f (by rw [← t4]; exact List.mem_map_of_mem hx)).1)
                  rw [r1] at x1
                  rw [t4] at x2
                  exact ⟨x1, x2⟩)
                have HG4 := hide t1
                have HT4 : Hid (TabRZ w4) := hide ((unhide HT).2.later t1.tw.fr)
                have hFn : (F.length : Int) ≤ 64 := by have := (unhide HFF).2.1; omega
                clear H4 HTG t1 t2 t3 t4 HP2 HL2 HL HX3 HIX HIP HSO HS3 HF3 HF2 ct3 HLE HXL
                go_wp2_with fail
                refine (sent_any (unhide HT4) fo fc F (unhide HFA w4 (Fr.refl _ _)).1 (by omega)).mono ?_
                rintro e w5 ⟨rfl, h5⟩
                go_wp2_with fail
                refine (sent_any ((unhide HT4).later (unhide h5)) fo' fc' F (unhide HFA w5 (unhide h5)).2 (by omega)).mono ?_
                rintro e w6 ⟨rfl, h6⟩
                have HF6 : Hid (Fr (fun _ => False) w4 w6) := hide ((unhide h5).trans (unhide h6) (fun _ _ t => t))
                clear h5 h6
                go_wp2
                go_loopw [22, 23] (fun kv _ wk => ∃ k : Nat, k ≤ F.length ∧ kv = .int .i64 k ∧ Hid (Fr (fun _ => False) w4 wk)) (fun kv _ _ => F.length - (intOf kv).toNat)
                case atStart => exact ⟨0, Nat.zero_le _, rfl, HF6⟩
                case round =>
                  obtain ⟨k, hk, rfl, HS⟩ := hrel
                  by_cases hkl : k < F.length
                  · have hkI : (k : Int) < (F.length : Int) := by omega
                    obtain ⟨x1, x2⟩ := unhide HFA wr (unhide HS)
                    obtain ⟨b1, o1, e1, hc1⟩ := x1.cells (by omega)
                    obtain ⟨b2, o2, e2, hc2⟩ := x2.cells (by omega)
                    obtain ⟨i1, c1, p1, d1, hl1, hA1⟩ := hc1 k hkl
                    obtain ⟨i2, c2, p2, d2, hl2, hA2⟩ := hc2 k hkl
                    subst e1 e2
                    have HA1 := hide hA1
                    have HA2 := hide hA2
                    clear hc1 hc2 x1 x2 hA1 hA2
                    generalize F[k] = f at *
                    obtain ⟨kd, ba, sq, fi, bts⟩ := f
                    have u0 : wr.cell? ⟨b1, o1 + k * 5, none⟩ = some (.int .i64 kd) := hl1 0 (by omega)
                    have u1 : wr.cell? ⟨b1, o1 + k * 5 + 1, none⟩ = some (.int .i64 ba) := hl1 1 (by omega)
                    have u2 : wr.cell? ⟨b1, o1 + k * 5 + 2, none⟩ = some (.int .i64 sq) := hl1 2 (by omega)
                    have u3 : wr.cell? ⟨b1, o1 + k * 5 + 3, none⟩ = some (.slice i1 fi.length c1) := hl1 3 (by omega)
                    have u4 : wr.cell? ⟨b1, o1 + k * 5 + 4, none⟩ = some (.slice p1 bts.length d1) := hl1 4 (by omega)
                    have v0 : wr.cell? ⟨b2, o2 + k * 5, none⟩ = some (.int .i64 kd) := hl2 0 (by omega)
                    have v1 : wr.cell? ⟨b2, o2 + k * 5 + 1, none⟩ = some (.int .i64 ba) := hl2 1 (by omega)
                    have v2 : wr.cell? ⟨b2, o2 + k * 5 + 2, none⟩ = some (.int .i64 sq) := hl2 2 (by omega)
                    have v3 : wr.cell? ⟨b2, o2 + k * 5 + 3, none⟩ = some (.slice i2 fi.length c2) := hl2 3 (by omega)
                    have v4 : wr.cell? ⟨b2, o2 + k * 5 + 4, none⟩ = some (.slice p2 bts.length d2) := hl2 4 (by omega)
                    clear hl1 hl2
                    go_wp2_with fail
                    go_region_law (refine step_call rfl 8 #[.agg #[.int .i64 kd, .int .i64 ba, .int .i64 sq, .slice i1 fi.length c1, .slice p1 bts.length d1], .agg #[.int .i64 kd, .int .i64 ba, .int .i64 sq, .slice i2 fi.length c2, .slice p2 bts.length d2]] (by kernel_rfl) (same_eq _ ⟨kd, ba, sq, fi, bts⟩ i1 c1 p1 d1 i2 c2 p2 d2 ((unhide HA1).later ((Fr.refl (fun _ => False) wr).drew)) ((unhide HA2).later ((Fr.refl (fun _ => False) wr).drew))) ?_; rintro e w8 ⟨rfl, k8⟩; refine ⟨_, rfl, ?_⟩; have HF8 : Hid (Fr (fun _ => False) w4 w8) := hide ((unhide HS).trans (((Fr.refl (fun _ => False) wr).drew).trans (unhide k8) (fun _ _ t => t)) (fun _ _ t => t)); clear k8)
                    all_goals
                      clear u0 u1 u2 u3 u4 v0 v1 v2 v3 v4
                      go_wp2
                      exact ⟨⟨k + 1, by omega, by go_num, HF8⟩, by simp [intOf]; omega⟩
                  · obtain rfl : k = F.length := by omega
                    have HG6 := hide ((unhide HG4).keep (unhide HS))
                    clear HS HF6
                    go_wp2
                    go_loopw [24, 25] (fun kv _ wk => ∃ k : Nat, k ≤ F.length ∧ kv = .int .i64 k ∧ Hid (TG w p m X (tickF s its).1 (tickD d its).1 so' sc' sb' (i + 1) W1.heap.size fo fc fb fx k wk)) (fun kv _ _ => F.length - (intOf kv).toNat)
                    case atStart => exact ⟨0, Nat.zero_le _, rfl, HG6⟩
                    case round =>
                      obtain ⟨k, hk, rfl, HS⟩ := hrel
                      by_cases hkl : k < F.length
                      · have hkI : (k : Int) < (F.length : Int) := by omega
                        have hkx : k < fx.length := by have := congrArg List.length (unhide HFF).1; rw [List.length_map] at this; omega
                        have HXK : Hid (fx[k]? = some fx[k]) := hide (List.getElem?_eq_getElem hkx)
                        have HXF : Hid (fx[k].f.items.length ≤ 8 ∧ ∀ b ∈ fx[k].f.items, b.length ≤ 256) := hide ((unhide HFF).2.2 _ (by rw [← (unhide HFF).1]; exact List.mem_map_of_mem (List.getElem_mem hkx)))
                        generalize fx[k] = x at *
                        obtain ⟨a1, a2⟩ := (unhide HS).at_ k x (unhide HXK)
                        have u3 : wr.cell? ⟨fb, k * 5 + 3, none⟩ = some (.slice x.io x.f.items.length x.ic) := a2 3 (by omega)
                        have HOK := hide ((unhide HS).ok k x (Nat.le_refl _) (unhide HXK))
                        have HRO : Hid (0 < x.f.items.length → x.io = some ⟨x.ib, 0, none⟩) := hide (fun h0 => (unhide HOK).il.row.ad (by have := (unhide HOK).il.row.le; rw [List.length_map, (unhide HOK).il.n1] at this; omega))
                        have HHD := hide ((unhide HOK).il.handedS (by have := (unhide HXF).1; omega) (fun b hb => by have := (unhide HXF).2 b hb; omega))
                        clear a2
                        subst a1
                        go_wp2_with fail
                        refine (owned_any wr x.io x.ib x.f.items.length x.ic (unhide HRO) _ (unhide HHD)).mono ?_
                        rintro e w8 ⟨rfl, k8⟩
                        have HG8 := hide ((unhide HS).own x (unhide HXK) k8)
                        clear k8 u3 HHD HRO HOK
                        go_wp2
                        exact ⟨⟨k + 1, by omega, by go_num, HG8⟩, by simp [intOf]; omega⟩
                      · obtain rfl : k = F.length := by omega
                        go_wp2
                        exact ⟨⟨i + 1, _, _, so', sc', sb', by omega, by go_num, hide (unhide HS).tw⟩, by simp [intOf]; omega⟩
      · obtain rfl : i = ts.length := by omega
        go_wp2
        go_ret
        exact ⟨rfl, (unhide HK).fr⟩
  · refine (newsender_bad w1 hs).mono ?_
    rintro e w2 ⟨rfl, rfl⟩
    go_wp2_with fail
    refine (dnew_bad w2 hs).mono ?_
    rintro e w3 ⟨rfl, rfl⟩
    have HF := hide (unhide h1)
    clear h1 hs
    go_wp2
    go_loopw [14] (fun iv wr => iv = .int .i64 0 ∧ Hid (Fr (fun _ => False) w wr)) (fun _ _ => 0)
    case atStart => exact ⟨rfl, HF⟩
    case round =>
      obtain ⟨rfl, HR⟩ := hrel
      by_cases h0 : 0 < ts.length
      · have h0I : (0 : Int) < (ts.length : Int) := by omega
        go_wp2
        go_ret
        exact ⟨rfl, unhide HR⟩
      · have h0I : ¬ (0 : Int) < (ts.length : Int) := by omega
        go_wp2
        go_ret
        exact ⟨rfl, unhide HR⟩

end Go.Proofs.YtabhfeocelljdaaGreatDoor

