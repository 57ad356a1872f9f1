/- Proved: the law RecordShort answers true for every tap, delta, tariff and number, and its arguments read afterwards as they read before. No condition but the form's own reach. -/
import Derived.Test.YtkjoojamkbpfcabGreatL2
import Derived.Test.YtkjoojamkbpfcabGreatP4
import Derived.Deep.Cut
import Derived.Test.YtkjoojamkbpfcabGreatO1
import Derived.Test.YtkjoojamkbpfcabGreatO2
import Derived.Test.YtkjoojamkbpfcabGreatQO1
/- The walk of the law RecordShort. -/
namespace Go.Proofs.YtkjoojamkbpfcabGreat
open Go.RowKit
attribute [local go_sem] run_store_float

theorem take_bin {w : World} {ao : Option Addr} {cap g : Nat} {bs : List UInt8} (h : Row w (.slice ao bs.length cap) g bs) (hf : bs.length ≤ 140737488355328) (k : Nat) (hk : k < bs.length) : BIn w ao cap (bs.take k) ∧ (bs.take k).length = k ∧ bs.length ≤ cap ∧ cap ≤ maxLen := by
  obtain ⟨ao', cap', e, h1, h2, h3, h4⟩ := h.shape
  injection e with e1 e2 e3
  subst e1 e3
  have hl : (bs.take k).length = k := by rw [List.length_take]; omega
  refine ⟨⟨fun e => ?_, fun h0 => ⟨g, 0, h3 (by omega), fun j hj => ?_⟩, by omega⟩, hl, h1, h2⟩
  · rw [h3 (by omega)] at e
    cases e
  · rw [Nat.zero_add, h.cells j (by omega)]
    simp
theorem tmod_nat (m k : Nat) : Int.tmod (m : Int) (k : Int) = ((m % k : Nat) : Int) := by
  rw [Int.tmod_eq_emod_of_nonneg (by omega)]
  rfl
theorem tar_nil {p : Tf} (h : (tarW p).2 ≠ 0) : (tarW p).1 = [] := by
  unfold tarW at h ⊢
  split
  · rename_i hr
    rw [if_pos hr] at h
    cases hb : tarB p with
    | none => rfl
    | some l => rw [hb] at h; exact absurd rfl h
  · rfl
theorem gen_pos {A : Type} {is : List It} {vs : A → List Vl} {bad : A → Int} {x : A} (n : Nat) (h : (wrG is vs bad x).2 = 0) (hp : ∀ l, wrI is (vs x) = some l → n ≤ l.length) : n ≤ (wrG is vs bad x).1.length := hp _ (gen_wrote h).2
theorem wcount_len {n : Int} {l : List UInt8} (h : wCount n = some l) : l.length = 2 := by
  unfold wCount at h
  split at h
  · injection h with h
    subst h
    rw [digs_length]
  · cases h
theorem delta_pos {d : Dl} (h : (deltaW d).2 = 0) : 0 < (deltaW d).1.length := by
  rw [deltaW_G] at h ⊢
  refine gen_pos 1 h (fun l hl => ?_)
  obtain ⟨x, y, h1, h2, rfl⟩ := stepW_split (show stepW (wrL (List.replicate 1 (.num 8)) _) (wrI [.m 1000 tokenK, .m 1000 tokenK] _) = some l from hl)
  obtain ⟨x1, y1, a1, b1, rfl⟩ := stepW_split (show stepW (wrM tokenK _) (wrI [.m 1000 tokenK] _) = some y from h2)
  obtain ⟨x2, y2, a2, b2, rfl⟩ := stepW_split (show stepW (wCount _) (wrN tokenK _) = some x1 from a1)
  have := wcount_len a2
  simp only [List.length_append]
  omega
theorem tar_pos {p : Tf} (h : (tarW p).2 = 0) : 0 < (tarW p).1.length := by
  rw [tarW_G] at h ⊢
  refine gen_pos 1 h (fun l hl => ?_)
  obtain ⟨x1, y1, a1, b1, rfl⟩ := stepW_split (show stepW (wrM stationK _) (wrI [.m 45 spanK, .m 8 bandK, .l [.float], .l (List.replicate 3 (.num 4)), .l (List.replicate 1 (.num 2)), .l (List.replicate 1 (.num 4)), .l (List.replicate 4 (.num 2)), .l (List.replicate 1 (.num 4))] _) = some l from hl)
  obtain ⟨x2, y2, a2, b2, rfl⟩ := stepW_split (show stepW (wCount _) (wrN stationK _) = some x1 from a1)
  have := wcount_len a2
  simp only [List.length_append]
  omega

set_option maxHeartbeats 8000000 in
set_option maxRecDepth 100000 in
theorem short_walk (w : World) (t : Tp) (d : Dl) (a1 : Option Addr) (c1 : Nat) (a2 : Option Addr) (c2 : Nat) (hd : DIn w d a1 c1 a2 c2) (A : Ad) (p : Tf) (hp : TAt w A p) (n : Int) (hn : n ≤ 9223372036854775807) :
    Calls Tryz.prog 5 #[.agg (tpC t), .agg (dlC d a1 c1 a2 c2), tv A p, .int .i64 n] w fun e w' => e = .returned (.bool true) ∧ Fr (fun _ => False) w w' := by
  have W1 := hide (fun (w : World) => recTap_any t w)
  have W2 := hide (fun (w : World) h => recDelta_any d w a1 c1 a2 c2 h)
  have W3 := hide (fun (w : World) h => recTariff_any p A w h)
  have F1 := hide (fun (h : (tapW t).2 = 0) => And.intro (tap_back h).2.2 (show 0 < (tapW t).1.length by rw [tap_len h]; decide))
  have F2 := hide (fun (h : (deltaW d).2 = 0) => And.intro (delta_back hd.ver h).2 (delta_pos h))
  have F3 := hide (fun (h : (tarW p).2 = 0) => And.intro (tar_back h).2.2 (tar_pos h))
  have F4 := hide (fun (h : (tarW p).2 ≠ 0) => tar_nil h)
  have L1 := hide (tapW_le t)
  have L2 := hide (deltaW_le d)
  have L3 := hide (tarW_le p)
  generalize tapW t = r1 at *
  generalize deltaW d = r2 at *
  generalize tarW p = r3 at *
  obtain ⟨x1, k1⟩ := r1
  obtain ⟨x2, k2⟩ := r2
  obtain ⟨x3, k3⟩ := r3
  have HD := hide hd
  have HT := hide hp
  unfold tpC at W1 ⊢
  unfold dlC at W2 ⊢
  unfold tv tc at W3 ⊢
  simp only at W1 W2 W3 F1 F2 F3 F4 L1 L2 L3
  have R1 := hide (fun (w : World) ao cap bs h => readTap_any w ao cap bs h)
  have R2 := hide (fun (w : World) ao cap bs h => readDelta_any w ao cap bs h)
  have R3 := hide (fun (w : World) ao cap bs h => readTariff_any w ao cap bs h)
  unfold ReadTap tpC at R1
  unfold ReadDelta dlC at R2
  unfold ReadTariff tv tc at R3
  clear hd hp
  go_enter Tryz.func5, Tryz.ntmps5
  go_wp2_with fail
  refine (awake_any _).mono ?_
  rintro e v0 ⟨rfl, hF⟩
  have HX0 : Hid (Fr (fun _ => False) w v0 ∧ Bx v0 w.heap.size #[.int .i64 t.dev, .int .i64 t.ctr, .string t.tok, .int .i64 t.kind, .int .i64 t.place, .int .i64 t.time] 23 ∧ Bx v0 (w.heap.size + 1) #[.int .i64 d.ver, .slice a1 d.add.length c1, .slice a2 d.gone.length c2] 26 ∧ Bx v0 (w.heap.size + 1 + 1) #[.slice A.aS p.st.length A.cS, .slice A.aP p.sp.length A.cP, .slice A.aB p.bd.length A.cB, .float .f64 p.off, .int .i64 p.bus, .int .i64 p.busDaily, .int .i64 p.busWeekly, .int .i64 p.hopper, .int .i64 p.most, .int .i64 p.longest, .int .i64 p.change, .int .i64 p.passback, .int .i64 p.delay, .int .i64 p.threshold] 37) := hide (by
    have h1 := (((Bx.new w #[.int .i64 t.dev, .int .i64 t.ctr, .string t.tok, .int .i64 t.kind, .int .i64 t.place, .int .i64 t.time] 23).alloc (.cells #[.int .i64 d.ver, .slice a1 d.add.length c1, .slice a2 d.gone.length c2] 26)).alloc (.cells #[.slice A.aS p.st.length A.cS, .slice A.aP p.sp.length A.cP, .slice A.aB p.bd.length A.cB, .float .f64 p.off, .int .i64 p.bus, .int .i64 p.busDaily, .int .i64 p.busWeekly, .int .i64 p.hopper, .int .i64 p.most, .int .i64 p.longest, .int .i64 p.change, .int .i64 p.passback, .int .i64 p.delay, .int .i64 p.threshold] 37)).keep hF
    have h2 := ((Bx.new (w.alloc (.cells #[.int .i64 t.dev, .int .i64 t.ctr, .string t.tok, .int .i64 t.kind, .int .i64 t.place, .int .i64 t.time] 23)) #[.int .i64 d.ver, .slice a1 d.add.length c1, .slice a2 d.gone.length c2] 26).alloc (.cells #[.slice A.aS p.st.length A.cS, .slice A.aP p.sp.length A.cP, .slice A.aB p.bd.length A.cB, .float .f64 p.off, .int .i64 p.bus, .int .i64 p.busDaily, .int .i64 p.busWeekly, .int .i64 p.hopper, .int .i64 p.most, .int .i64 p.longest, .int .i64 p.change, .int .i64 p.passback, .int .i64 p.delay, .int .i64 p.threshold] 37)).keep hF
    have h3 := (Bx.new ((w.alloc (.cells #[.int .i64 t.dev, .int .i64 t.ctr, .string t.tok, .int .i64 t.kind, .int .i64 t.place, .int .i64 t.time] 23)).alloc (.cells #[.int .i64 d.ver, .slice a1 d.add.length c1, .slice a2 d.gone.length c2] 26)) #[.slice A.aS p.st.length A.cS, .slice A.aP p.sp.length A.cP, .slice A.aB p.bd.length A.cB, .float .f64 p.off, .int .i64 p.bus, .int .i64 p.busDaily, .int .i64 p.busWeekly, .int .i64 p.hopper, .int .i64 p.most, .int .i64 p.longest, .int .i64 p.change, .int .i64 p.passback, .int .i64 p.delay, .int .i64 p.threshold] 37).keep hF
    rw [heap_alloc] at h2
    rw [heap_alloc, heap_alloc] at h3
    exact ⟨((((Fr.refl _ w).alloc _).alloc _).alloc _).trans hF (fun _ _ t => t), h1, h2, h3⟩)
  obtain ⟨B1, HB1⟩ : ∃ B, Hid (w.heap.size = B) := ⟨_, rfl⟩
  rw [unhide HB1] at HX0 ⊢
  obtain ⟨B2, HB2⟩ : ∃ B, Hid (B1 + 1 = B) := ⟨_, rfl⟩
  rw [unhide HB2] at HX0 ⊢
  obtain ⟨B3, HB3⟩ : ∃ B, Hid (B2 + 1 = B) := ⟨_, rfl⟩
  rw [unhide HB3] at HX0 ⊢
  clear HB1 HB2 HB3 hF
  by_cases hneg : n < 0
  · have hlt : (decide (n < 0)) = true := by simp [hneg]
    go_wp2
    go_ret
    exact ⟨rfl, (unhide HX0).1⟩
  obtain ⟨m, rfl⟩ : ∃ m : Nat, n = (m : Int) := ⟨n.toNat, by omega⟩
  have q0 : v0.cell? ⟨B1, 0, none⟩ = some (.int .i64 t.dev) := (unhide HX0).2.1.cell 0
  have q1 : v0.cell? ⟨B1, 1, none⟩ = some (.int .i64 t.ctr) := (unhide HX0).2.1.cell 1
  have q2 : v0.cell? ⟨B1, 2, none⟩ = some (.string t.tok) := (unhide HX0).2.1.cell 2
  have q3 : v0.cell? ⟨B1, 3, none⟩ = some (.int .i64 t.kind) := (unhide HX0).2.1.cell 3
  have q4 : v0.cell? ⟨B1, 4, none⟩ = some (.int .i64 t.place) := (unhide HX0).2.1.cell 4
  have q5 : v0.cell? ⟨B1, 5, none⟩ = some (.int .i64 t.time) := (unhide HX0).2.1.cell 5
  go_wp2_with fail
  refine (unhide W1 _).mono ?_
  rintro e u1 ⟨ao, cap, gb, rfl, hrow, hnew, hF⟩
  have HU : Hid (Fr (fun _ => False) w u1 ∧ Bx u1 B2 #[.int .i64 d.ver, .slice a1 d.add.length c1, .slice a2 d.gone.length c2] 26 ∧ Bx u1 B3 #[.slice A.aS p.st.length A.cS, .slice A.aP p.sp.length A.cP, .slice A.aB p.bd.length A.cB, .float .f64 p.off, .int .i64 p.bus, .int .i64 p.busDaily, .int .i64 p.busWeekly, .int .i64 p.hopper, .int .i64 p.most, .int .i64 p.longest, .int .i64 p.change, .int .i64 p.passback, .int .i64 p.delay, .int .i64 p.threshold] 37) := hide ⟨(unhide HX0).1.trans hF (fun _ _ t => t), (unhide HX0).2.2.1.keep hF, (unhide HX0).2.2.2.keep hF⟩
  have HR := hide hrow
  clear hrow hnew hF HX0 q0 q1 q2 q3 q4 q5
  go_upto_if 34 with (fail)
  go_cut [] from 20 (fun wc => Fr (fun _ => False) w wc ∧ Bx wc B2 #[.int .i64 d.ver, .slice a1 d.add.length c1, .slice a2 d.gone.length c2] 26 ∧ Bx wc B3 #[.slice A.aS p.st.length A.cS, .slice A.aP p.sp.length A.cP, .slice A.aB p.bd.length A.cB, .float .f64 p.off, .int .i64 p.bus, .int .i64 p.busDaily, .int .i64 p.busWeekly, .int .i64 p.hopper, .int .i64 p.most, .int .i64 p.longest, .int .i64 p.change, .int .i64 p.passback, .int .i64 p.delay, .int .i64 p.threshold] 37)
  case first =>
    by_cases hk : k1 = 0
    · subst hk
      have hl := (unhide F1 rfl).2
      have hm : m % x1.length < x1.length := Nat.mod_lt _ hl
      have h10 := (unhide F1 rfl).1 _ hm
      obtain ⟨hb, hbl, hbc, hbm⟩ := take_bin (unhide HR) (by have := unhide L1; omega) _ hm
      have hbm' : cap ≤ 9223372036854775807 := Nat.le_trans hbm (by decide)
      have R := hide (unhide R1 _ ao cap _ hb)
      rw [hbl] at R
      generalize tapRd (x1.take (m % x1.length)) = r at h10 R
      obtain ⟨y, kk, ff⟩ := r
      simp only at h10 R
      subst h10
      have ht := tmod_nat m x1.length
      have hz : ((x1.length : Nat) : Int) ≠ 0 := by omega
      have hH := hide hb
      clear hb hbl
      go_wp2_with fail
      refine (unhide R).mono ?_
      rintro e u9 ⟨rfl, hF⟩
      have HP : Hid (Fr (fun _ => False) w ((u9.alloc (.cells #[.int .i64 y.dev, .int .i64 y.ctr, .string y.tok, .int .i64 y.kind, .int .i64 y.place, .int .i64 y.time] 23)).alloc (.cells #[.int .i64 10, .int .i64 ff] 44)) ∧ Bx ((u9.alloc (.cells #[.int .i64 y.dev, .int .i64 y.ctr, .string y.tok, .int .i64 y.kind, .int .i64 y.place, .int .i64 y.time] 23)).alloc (.cells #[.int .i64 10, .int .i64 ff] 44)) B2 #[.int .i64 d.ver, .slice a1 d.add.length c1, .slice a2 d.gone.length c2] 26 ∧ Bx ((u9.alloc (.cells #[.int .i64 y.dev, .int .i64 y.ctr, .string y.tok, .int .i64 y.kind, .int .i64 y.place, .int .i64 y.time] 23)).alloc (.cells #[.int .i64 10, .int .i64 ff] 44)) B3 #[.slice A.aS p.st.length A.cS, .slice A.aP p.sp.length A.cP, .slice A.aB p.bd.length A.cB, .float .f64 p.off, .int .i64 p.bus, .int .i64 p.busDaily, .int .i64 p.busWeekly, .int .i64 p.hopper, .int .i64 p.most, .int .i64 p.longest, .int .i64 p.change, .int .i64 p.passback, .int .i64 p.delay, .int .i64 p.threshold] 37 ∧ Bx ((u9.alloc (.cells #[.int .i64 y.dev, .int .i64 y.ctr, .string y.tok, .int .i64 y.kind, .int .i64 y.place, .int .i64 y.time] 23)).alloc (.cells #[.int .i64 10, .int .i64 ff] 44)) (u9.heap.size + 1) #[.int .i64 10, .int .i64 ff] 44) := hide (by
        have h2 := Bx.new (u9.alloc (.cells #[.int .i64 y.dev, .int .i64 y.ctr, .string y.tok, .int .i64 y.kind, .int .i64 y.place, .int .i64 y.time] 23)) #[.int .i64 10, .int .i64 ff] 44
        rw [heap_alloc] at h2
        exact ⟨(((unhide HU).1.trans hF (fun _ _ t => t)).alloc _).alloc _, (((unhide HU).2.1.keep hF).alloc _).alloc _, (((unhide HU).2.2.keep hF).alloc _).alloc _, h2⟩)
      have y0 : ((u9.alloc (.cells #[.int .i64 y.dev, .int .i64 y.ctr, .string y.tok, .int .i64 y.kind, .int .i64 y.place, .int .i64 y.time] 23)).alloc (.cells #[.int .i64 10, .int .i64 ff] 44)).cell? ⟨u9.heap.size + 1, 0, none⟩ = some (.int .i64 10) := (unhide HP).2.2.2.cell 0
      clear R hF
      go_wp2
      go_meet
      case rel => exact ⟨(unhide HP).1, (unhide HP).2.1, (unhide HP).2.2.1⟩
    · have hkb : (k1 == 0) = false := by simp [hk]
      go_wp2
      go_meet
      case rel => exact ⟨(unhide HU).1, (unhide HU).2.1, (unhide HU).2.2⟩
  case rest =>
    obtain ⟨v1, hv⟩ : ∃ v, v = wc := ⟨_, rfl⟩
    subst hv
    have HX1 : Hid (Fr (fun _ => False) w v1 ∧ True ∧ Bx v1 B2 #[.int .i64 d.ver, .slice a1 d.add.length c1, .slice a2 d.gone.length c2] 26 ∧ Bx v1 B3 #[.slice A.aS p.st.length A.cS, .slice A.aP p.sp.length A.cP, .slice A.aB p.bd.length A.cB, .float .f64 p.off, .int .i64 p.bus, .int .i64 p.busDaily, .int .i64 p.busWeekly, .int .i64 p.hopper, .int .i64 p.most, .int .i64 p.longest, .int .i64 p.change, .int .i64 p.passback, .int .i64 p.delay, .int .i64 p.threshold] 37) := hide ⟨hcut.1, trivial, hcut.2.1, hcut.2.2⟩
    clear hcut HU HR W1 F1 R1 L1
    have q0 : v1.cell? ⟨B2, 0, none⟩ = some (.int .i64 d.ver) := (unhide HX1).2.2.1.cell 0
    have q1 : v1.cell? ⟨B2, 1, none⟩ = some (.slice a1 d.add.length c1) := (unhide HX1).2.2.1.cell 1
    have q2 : v1.cell? ⟨B2, 2, none⟩ = some (.slice a2 d.gone.length c2) := (unhide HX1).2.2.1.cell 2
    go_wp2_with fail
    refine (unhide W2 _ ((unhide HD).keep (unhide HX1).1)).mono ?_
    rintro e u2 ⟨ao, cap, gb, rfl, hrow, hnew, hF⟩
    have HU : Hid (Fr (fun _ => False) w u2 ∧ Bx u2 B3 #[.slice A.aS p.st.length A.cS, .slice A.aP p.sp.length A.cP, .slice A.aB p.bd.length A.cB, .float .f64 p.off, .int .i64 p.bus, .int .i64 p.busDaily, .int .i64 p.busWeekly, .int .i64 p.hopper, .int .i64 p.most, .int .i64 p.longest, .int .i64 p.change, .int .i64 p.passback, .int .i64 p.delay, .int .i64 p.threshold] 37) := hide ⟨(unhide HX1).1.trans hF (fun _ _ t => t), (unhide HX1).2.2.2.keep hF⟩
    have HR := hide hrow
    clear hrow hnew hF HX1 q0 q1 q2
    go_upto_if 54 with (fail)
    go_cut [] from 20 (fun wc => Fr (fun _ => False) w wc ∧ Bx wc B3 #[.slice A.aS p.st.length A.cS, .slice A.aP p.sp.length A.cP, .slice A.aB p.bd.length A.cB, .float .f64 p.off, .int .i64 p.bus, .int .i64 p.busDaily, .int .i64 p.busWeekly, .int .i64 p.hopper, .int .i64 p.most, .int .i64 p.longest, .int .i64 p.change, .int .i64 p.passback, .int .i64 p.delay, .int .i64 p.threshold] 37)
    case first =>
      by_cases hk : k2 = 0
      · subst hk
        have hl := (unhide F2 rfl).2
        have hm : m % x2.length < x2.length := Nat.mod_lt _ hl
        have h10 := (unhide F2 rfl).1 _ hm
        obtain ⟨hb, hbl, hbc, hbm⟩ := take_bin (unhide HR) (by have := unhide L2; omega) _ hm
        have hbm' : cap ≤ 9223372036854775807 := Nat.le_trans hbm (by decide)
        have R := hide (unhide R2 _ ao cap _ hb)
        rw [hbl] at R
        generalize deltaRd (x2.take (m % x2.length)) = r at h10 R
        obtain ⟨y, kk, ff⟩ := r
        simp only at h10 R
        subst h10
        have ht := tmod_nat m x2.length
        have hz : ((x2.length : Nat) : Int) ≠ 0 := by omega
        have hH := hide hb
        clear hb hbl
        go_wp2_with fail
        refine (unhide R).mono ?_
        rintro e u9 ⟨b1, e1, g1, b2, e2, g2, rfl, hN, hF⟩
        have HP : Hid (Fr (fun _ => False) w ((u9.alloc (.cells #[.int .i64 y.ver, .slice b1 y.add.length e1, .slice b2 y.gone.length e2] 26)).alloc (.cells #[.int .i64 10, .int .i64 ff] 44)) ∧ Bx ((u9.alloc (.cells #[.int .i64 y.ver, .slice b1 y.add.length e1, .slice b2 y.gone.length e2] 26)).alloc (.cells #[.int .i64 10, .int .i64 ff] 44)) B3 #[.slice A.aS p.st.length A.cS, .slice A.aP p.sp.length A.cP, .slice A.aB p.bd.length A.cB, .float .f64 p.off, .int .i64 p.bus, .int .i64 p.busDaily, .int .i64 p.busWeekly, .int .i64 p.hopper, .int .i64 p.most, .int .i64 p.longest, .int .i64 p.change, .int .i64 p.passback, .int .i64 p.delay, .int .i64 p.threshold] 37 ∧ Bx ((u9.alloc (.cells #[.int .i64 y.ver, .slice b1 y.add.length e1, .slice b2 y.gone.length e2] 26)).alloc (.cells #[.int .i64 10, .int .i64 ff] 44)) (u9.heap.size + 1) #[.int .i64 10, .int .i64 ff] 44) := hide (by
          have h2 := Bx.new (u9.alloc (.cells #[.int .i64 y.ver, .slice b1 y.add.length e1, .slice b2 y.gone.length e2] 26)) #[.int .i64 10, .int .i64 ff] 44
          rw [heap_alloc] at h2
          exact ⟨(((unhide HU).1.trans hF (fun _ _ t => t)).alloc _).alloc _, (((unhide HU).2.keep hF).alloc _).alloc _, h2⟩)
        have y0 : ((u9.alloc (.cells #[.int .i64 y.ver, .slice b1 y.add.length e1, .slice b2 y.gone.length e2] 26)).alloc (.cells #[.int .i64 10, .int .i64 ff] 44)).cell? ⟨u9.heap.size + 1, 0, none⟩ = some (.int .i64 10) := (unhide HP).2.2.cell 0
        clear R hF hN
        go_wp2
        go_meet
        case rel => exact ⟨(unhide HP).1, (unhide HP).2.1⟩
      · have hkb : (k2 == 0) = false := by simp [hk]
        go_wp2
        go_meet
        case rel => exact ⟨(unhide HU).1, (unhide HU).2⟩
    case rest =>
      obtain ⟨v2, hv⟩ : ∃ v, v = wc := ⟨_, rfl⟩
      subst hv
      have HX2 : Hid (Fr (fun _ => False) w v2 ∧ True ∧ Bx v2 B3 #[.slice A.aS p.st.length A.cS, .slice A.aP p.sp.length A.cP, .slice A.aB p.bd.length A.cB, .float .f64 p.off, .int .i64 p.bus, .int .i64 p.busDaily, .int .i64 p.busWeekly, .int .i64 p.hopper, .int .i64 p.most, .int .i64 p.longest, .int .i64 p.change, .int .i64 p.passback, .int .i64 p.delay, .int .i64 p.threshold] 37) := hide ⟨hcut.1, trivial, hcut.2⟩
      clear hcut HU HR W2 F2 R2 L2
      have q0 : v2.cell? ⟨B3, 0, none⟩ = some (.slice A.aS p.st.length A.cS) := (unhide HX2).2.2.cell 0
      have q1 : v2.cell? ⟨B3, 1, none⟩ = some (.slice A.aP p.sp.length A.cP) := (unhide HX2).2.2.cell 1
      have q2 : v2.cell? ⟨B3, 2, none⟩ = some (.slice A.aB p.bd.length A.cB) := (unhide HX2).2.2.cell 2
      have q3 : v2.cell? ⟨B3, 3, none⟩ = some (.float .f64 p.off) := (unhide HX2).2.2.cell 3
      have q4 : v2.cell? ⟨B3, 4, none⟩ = some (.int .i64 p.bus) := (unhide HX2).2.2.cell 4
      have q5 : v2.cell? ⟨B3, 5, none⟩ = some (.int .i64 p.busDaily) := (unhide HX2).2.2.cell 5
      have q6 : v2.cell? ⟨B3, 6, none⟩ = some (.int .i64 p.busWeekly) := (unhide HX2).2.2.cell 6
      have q7 : v2.cell? ⟨B3, 7, none⟩ = some (.int .i64 p.hopper) := (unhide HX2).2.2.cell 7
      have q8 : v2.cell? ⟨B3, 8, none⟩ = some (.int .i64 p.most) := (unhide HX2).2.2.cell 8
      have q9 : v2.cell? ⟨B3, 9, none⟩ = some (.int .i64 p.longest) := (unhide HX2).2.2.cell 9
      have q10 : v2.cell? ⟨B3, 10, none⟩ = some (.int .i64 p.change) := (unhide HX2).2.2.cell 10
      have q11 : v2.cell? ⟨B3, 11, none⟩ = some (.int .i64 p.passback) := (unhide HX2).2.2.cell 11
      have q12 : v2.cell? ⟨B3, 12, none⟩ = some (.int .i64 p.delay) := (unhide HX2).2.2.cell 12
      have q13 : v2.cell? ⟨B3, 13, none⟩ = some (.int .i64 p.threshold) := (unhide HX2).2.2.cell 13
      go_wp2_with fail
      refine (unhide W3 _ ((unhide HT).keep (unhide HX2).1)).mono ?_
      rintro e u3 ⟨ao, cap, gb, rfl, hrow, hnew, hF⟩
      have HU : Hid (Fr (fun _ => False) w u3) := hide ((unhide HX2).1.trans hF (fun _ _ t => t))
      have HR := hide hrow
      clear hrow hnew hF HX2 q0 q1 q2 q3 q4 q5 q6 q7 q8 q9 q10 q11 q12 q13
      by_cases hk : k3 = 0
      · subst hk
        have hl := (unhide F3 rfl).2
        have hm : m % x3.length < x3.length := Nat.mod_lt _ hl
        have h10 := (unhide F3 rfl).1 _ hm
        obtain ⟨hb, hbl, hbc, hbm⟩ := take_bin (unhide HR) (by have := unhide L3; omega) _ hm
        have hbm' : cap ≤ 9223372036854775807 := Nat.le_trans hbm (by decide)
        have R := hide (unhide R3 _ ao cap _ hb)
        rw [hbl] at R
        generalize tarRd (x3.take (m % x3.length)) = r at h10 R
        obtain ⟨y, kk, ff⟩ := r
        simp only at h10 R
        subst h10
        have ht := tmod_nat m x3.length
        have hz : ((x3.length : Nat) : Int) ≠ 0 := by omega
        have hH := hide hb
        clear hb hbl
        go_wp2_with fail
        refine (unhide R).mono ?_
        rintro e u9 ⟨A2, g0, g1, g2, rfl, hN, hF⟩
        have HP : Hid (Fr (fun _ => False) w ((u9.alloc (.cells #[.slice A2.aS y.st.length A2.cS, .slice A2.aP y.sp.length A2.cP, .slice A2.aB y.bd.length A2.cB, .float .f64 y.off, .int .i64 y.bus, .int .i64 y.busDaily, .int .i64 y.busWeekly, .int .i64 y.hopper, .int .i64 y.most, .int .i64 y.longest, .int .i64 y.change, .int .i64 y.passback, .int .i64 y.delay, .int .i64 y.threshold] 37)).alloc (.cells #[.int .i64 10, .int .i64 ff] 44)) ∧ Bx ((u9.alloc (.cells #[.slice A2.aS y.st.length A2.cS, .slice A2.aP y.sp.length A2.cP, .slice A2.aB y.bd.length A2.cB, .float .f64 y.off, .int .i64 y.bus, .int .i64 y.busDaily, .int .i64 y.busWeekly, .int .i64 y.hopper, .int .i64 y.most, .int .i64 y.longest, .int .i64 y.change, .int .i64 y.passback, .int .i64 y.delay, .int .i64 y.threshold] 37)).alloc (.cells #[.int .i64 10, .int .i64 ff] 44)) (u9.heap.size + 1) #[.int .i64 10, .int .i64 ff] 44) := hide (by
          have h2 := Bx.new (u9.alloc (.cells #[.slice A2.aS y.st.length A2.cS, .slice A2.aP y.sp.length A2.cP, .slice A2.aB y.bd.length A2.cB, .float .f64 y.off, .int .i64 y.bus, .int .i64 y.busDaily, .int .i64 y.busWeekly, .int .i64 y.hopper, .int .i64 y.most, .int .i64 y.longest, .int .i64 y.change, .int .i64 y.passback, .int .i64 y.delay, .int .i64 y.threshold] 37)) #[.int .i64 10, .int .i64 ff] 44
          rw [heap_alloc] at h2
          exact ⟨(((unhide HU).trans hF (fun _ _ t => t)).alloc _).alloc _, h2⟩)
        have y0 : ((u9.alloc (.cells #[.slice A2.aS y.st.length A2.cS, .slice A2.aP y.sp.length A2.cP, .slice A2.aB y.bd.length A2.cB, .float .f64 y.off, .int .i64 y.bus, .int .i64 y.busDaily, .int .i64 y.busWeekly, .int .i64 y.hopper, .int .i64 y.most, .int .i64 y.longest, .int .i64 y.change, .int .i64 y.passback, .int .i64 y.delay, .int .i64 y.threshold] 37)).alloc (.cells #[.int .i64 10, .int .i64 ff] 44)).cell? ⟨u9.heap.size + 1, 0, none⟩ = some (.int .i64 10) := (unhide HP).2.cell 0
        clear R hF hN
        go_wp2
        go_ret
        exact ⟨rfl, (unhide HP).1⟩
      · have hkb : (k3 != 0) = true := by simp [hk]
        have hx := unhide F4 hk
        subst hx
        go_wp2
        go_ret
        exact ⟨rfl, unhide HU⟩

end Go.Proofs.YtkjoojamkbpfcabGreat

namespace Go.Proofs.YtkjoojamkbpfcabGreat
open Go.ChangeShapes Go.WideShapes Go.ChangeAt Go.RowKit Go.Deep

namespace recordShort

set_option maxRecDepth 100000 in
theorem lifted (os : Os) (started : os.Started) (H : Type) (enc : TypeId × Value → H) :
    ReturnsInHanded {} Tryz.checked os 5 .any (Rows.recordShortSpec.pre6 enc Tryz.prog Tryz.f5 Rows.recordShortRow.domain false) (Rows.recordShortSpec.post enc Tryz.prog Tryz.f5 false true false false) := by
  refine returnsInHanded_of_change_sized (C := Tryz.checked) own started (by kernel_rfl) Tryz.func5
    (ChangeSpec.witness6 (enc := enc) (C := Tryz.checked) false ⟨#[], #[.agg #[.int .i64 0, .int .i64 0, .string ⟨#[]⟩, .int .i64 0, .int .i64 0, .int .i64 0], .agg #[.int .i64 0, .slice none 0 0, .slice none 0 0], .agg #[.slice none 0 0, .slice none 0 0, .slice none 0 0, .float .f64 0, .int .i64 0, .int .i64 0, .int .i64 0, .int .i64 0, .int .i64 0, .int .i64 0, .int .i64 0, .int .i64 0, .int .i64 0, .int .i64 0], .int .i64 0], []⟩ 8 (by kernel_rfl) (by kernel_rfl) (by kernel_rfl) (by kernel_rfl)) ?_
  intro W base args ds gs before hval0 hW hcnd hsz0 _
  have hsz : (DataW.weightsEach Tryz.prog (Tryz.f5.params.toList ++ Rows.recordShortSpec.plain.varTypes Tryz.prog) (ds ++ gs)).all (· ≤ reachBytes) = true := hsz0
  have hval : ∀ (j : Nat) t v, Tryz.f5.params[j]? = some t → args[j]? = some v → Value.okWide Tryz.prog W .any base t v := hval0
  have hW' := hW
  obtain ⟨p, q, hA0, hV, rfl, hfz, hnd⟩ := hW
  have hA : DataW.TrodAll enc Tryz.prog W 0 (fun _ => true) true Tryz.f5.params.toList args.toList ds p := hA0
  rw [Tryz.params5] at hA hval hsz
  obtain ⟨v0, vs0, d0, ds0, p0, q0, hargs, rfl, rfl, h0, r0⟩ := trodAll_cons hA
  obtain ⟨v1, vs1, d1, ds1, p1, q1, rfl, rfl, rfl, h1, r1⟩ := trodAll_cons r0
  obtain ⟨v2, vs2, d2, ds2, p2, q2, rfl, rfl, rfl, h2, r2⟩ := trodAll_cons r1
  obtain ⟨v3, vs3, d3, ds3, p3, q3, rfl, rfl, rfl, h3, r3⟩ := trodAll_cons r2
  obtain ⟨rfl, rfl, rfl⟩ := trodAll_nil r3
  obtain rfl : args = #[v0, v1, v2, v3] := by cases args; simp_all
  obtain ⟨rfl, rfl⟩ := trodVars_none hV
  have k0 := h0
  have lt0 : ∀ x ∈ p0, x.block < W.heap.size := by obtain ⟨m, hm⟩ := k0; exact DataW.trod_lt m _ _ _ hm
  obtain ⟨t0, rfl, ht0⟩ := arg_tap (okWide_struct Tryz.underlying23 (hval 0 23 v0 rfl rfl)) h0
  have k1 := h1
  have lt1 : ∀ x ∈ p1, x.block < W.heap.size := by obtain ⟨m, hm⟩ := k1; exact DataW.trod_lt m _ _ _ hm
  obtain ⟨t1, aa1, ca1, ab1, cb1, rfl, ht1⟩ := arg_delta (j := 1) (okWide_struct Tryz.underlying26 (hval 1 26 v1 rfl rfl)) h1 hsz rfl rfl
  have k2 := h2
  have lt2 : ∀ x ∈ p2, x.block < W.heap.size := by obtain ⟨m, hm⟩ := k2; exact DataW.trod_lt m _ _ _ hm
  obtain ⟨A2, t2, rfl, hT2⟩ := open_arg (j := 2) (okWide_struct Tryz.underlying37 (hval 2 37 v2 rfl rfl)) h2 hsz rfl rfl
  obtain ⟨n3, rfl, rfl, rfl, w3⟩ := open_int Tryz.underlying3 (hval 3 3 v3 rfl rfl) h3
  clear hA0 hval0
  refine (short_walk W t0 t1 aa1 ca1 ab1 cb1 ht1 A2 t2 hT2 n3 (wf_le w3).1).mono fun e W' ⟨he, hfr⟩ => ?_
  subst he
  have bel : Below W.heap.size W W' := hfr.below (Nat.le_refl _) (fun k t => t.elim)
  exact ⟨_, rfl, _, _, _, [], _, [], hW', trodAll_mk1 (shut_bool Tryz.underlying4 _), (trodAll_cons_mk (Below.trod laidOut (by kernel_rfl) (of_decide_eq_true (by kernel_rfl)) k0 bel lt0) (trodAll_cons_mk (Below.trod laidOut (by kernel_rfl) (of_decide_eq_true (by kernel_rfl)) k1 bel lt1) (trodAll_cons_mk (Below.trod laidOut (by kernel_rfl) (of_decide_eq_true (by kernel_rfl)) k2 bel lt2) (trodAll_cons_mk (shut_int Tryz.underlying3 w3) trodAll_mk0)))), rfl, bel.frame _, fun h => by cases h⟩

theorem over : Rows.recordShortRow.holds Tryz.pinned (OpenSpec.ofChange Rows.recordShortSpec) :=
  OpenClaim.holds_of_wide 5 Tryz.f5 rfl rfl rfl rfl rfl rfl rfl ⟨rfl, rfl, rfl, rfl, rfl⟩ rfl rfl rfl rfl rfl (by kernel_rfl) Tryz.func5 (by kernel_rfl)
    (of_decide_eq_true (by kernel_rfl)) (by unfold Func.isWrapper; first | (rw [if_pos (by decide +kernel)]; kernel_rfl) | (rw [if_neg (by decide +kernel)]; exact ⟨rfl, rfl⟩))
    (fun os started H enc _ => lifted os started H enc)

end recordShort

/-- THE STATEMENT. -/
theorem recordShort_holds : Rows.RecordShortSaid := recordShort.over
#print axioms recordShort_holds
end Go.Proofs.YtkjoojamkbpfcabGreat

