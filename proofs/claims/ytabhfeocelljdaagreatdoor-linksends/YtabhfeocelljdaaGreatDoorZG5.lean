import Derived.Test.YtabhfeocelljdaaGreatDoorZG4
import Derived.WalkKit
/- Contracts: joins, forget. -/
namespace Go.Proofs.YtabhfeocelljdaaGreatDoor
open Go.RowKit Go.Maps

theorem joins_none {w : World} {p : Nat} (fo : Option Addr) (fc : Nat) (q : Int) : Calls Tryz.prog 40 #[.pointer (some ⟨p, 0, none⟩), .slice fo 0 fc, .int .i64 q] w fun e w' => e = .returned (.bool false) ∧ Hid (Fr (fun _ => False) w w') := by
  go_enter Tryz.func40, Tryz.ntmps40
  go_wp2
  go_ret
  exact ⟨rfl, hide (Fr.refl _ _)⟩

set_option maxHeartbeats 1000000 in
set_option maxRecDepth 20000 in
theorem joins_last {w : World} {p b : Nat} {s : Snd} (h : SN w p b s) (g n fc : Nat) (f : Fm) (io bo : Option Addr) (ic bc : Nat) (hn : n < 1000000) (hc : ∀ j, j < 5 → w.cell? ⟨g, n * 5 + j, none⟩ = (f.cells io ic bo bc)[j]?) (h8 : f.items.length ≤ 8) (hq : 0 ≤ f.seq ∧ f.seq ≤ 4294967295) (q : Int) :
    Calls Tryz.prog 40 #[.pointer (some ⟨p, 0, none⟩), .slice (some ⟨g, 0, none⟩) (n + 1) fc, .int .i64 q] w fun e w' => e = .returned (.bool (decide ((f.items.length : Int) < s.bat ∧ f.seq + (f.items.length : Int) = q))) ∧ Hid (Fr (fun _ => False) w w') := by
  obtain ⟨kd, ba, sq, its, bts⟩ := f
  have k0 : w.cell? ⟨g, n * 5, none⟩ = some (.int .i64 kd) := hc 0 (by omega)
  have k1 : w.cell? ⟨g, n * 5 + 1, none⟩ = some (.int .i64 ba) := hc 1 (by omega)
  have k2 : w.cell? ⟨g, n * 5 + 2, none⟩ = some (.int .i64 sq) := hc 2 (by omega)
  have k3 : w.cell? ⟨g, n * 5 + 3, none⟩ = some (.slice io its.length ic) := hc 3 (by omega)
  have k4 : w.cell? ⟨g, n * 5 + 4, none⟩ = some (.slice bo bts.length bc) := hc 4 (by omega)
  have hlt := World.block_lt_of_cell? _ _ k0
  have hb := (h.bx.alloc (.cells #[.int .i64 kd, .int .i64 ba, .int .i64 sq, .slice io its.length ic, .slice bo bts.length bc] 25))
  have c1 : (w.alloc (.cells #[.int .i64 kd, .int .i64 ba, .int .i64 sq, .slice io its.length ic, .slice bo bts.length bc] 25)).cell? ⟨p, 1, none⟩ = some (.int .i64 s.bat) := hb.cell 1
  have hplt := h.bx.lt
  have hne : w.heap.size ≠ p := by omega
  simp only at h8 hq ⊢
  have hF : Hid (Fr (fun _ => False) w (w.alloc (.cells #[.int .i64 kd, .int .i64 ba, .int .i64 sq, .slice io its.length ic, .slice bo bts.length bc] 25))) := hide ((Fr.refl _ _).alloc _)
  generalize its.length = L at *
  generalize bts.length = Lb at *
  generalize s.bat = bt at *
  have hlI : (L : Int) ≤ 8 := by omega
  obtain ⟨hq1, hq2⟩ := hq
  clear h hb hc
  by_cases h1 : (L : Int) < bt
  · have hd : decide ((L : Int) < bt) = true := by simp [h1]
    have e : decide ((L : Int) < bt ∧ sq + (L : Int) = q) = decide (sq + (L : Int) = q) := by simp [h1]
    have e2 : (sq + (L : Int) == q) = decide (sq + (L : Int) = q) := by
      by_cases t : sq + (L : Int) = q
      · simp [t]
      · simp [t]
    rw [e]
    generalize decide (sq + (L : Int) = q) = r at *
    clear h1 e
    go_enter Tryz.func40, Tryz.ntmps40
    go_wp2_with fail
    go_quiet (fail)
    go_wp2
    go_ret
    exact ⟨rfl, hide ((unhide hF).drewN _)⟩
  · have hd : decide ((L : Int) < bt) = false := by simp; omega
    have e : decide ((L : Int) < bt ∧ sq + (L : Int) = q) = false := by simp; omega
    rw [e]
    clear h1 e
    go_enter Tryz.func40, Tryz.ntmps40
    go_wp2_with fail
    go_quiet (fail)
    go_wp2
    go_ret
    exact ⟨rfl, hide ((unhide hF).drewN _)⟩

theorem Vw.mem {D : DataW Unit} {l : List (Int × Int)} (h : Vw D l) {x c : Int} (hat : ∀ zd, D.atKey (.int .i64 x) zd = .lit (.int .i64 c)) : (x, c) ∈ l := by
  obtain ⟨p, hp, e⟩ := h.keys _ (has_true_of_atKey hat)
  injection e with _ e
  have h2 := h.vals p hp (.map [])
  rw [← e, hat] at h2
  injection h2 with h2
  injection h2 with _ h2
  obtain ⟨a, d⟩ := p
  simp only at e h2
  subst e h2
  exact hp
theorem grown_fr {S : Nat → Prop} {w w' : World} {r : Option Nat} (h : w.grownBy w' r) (hr : ∀ k, r = some k → k < w.heap.size → S k) : Fr S w w' := ⟨h.os, h.tape, h.output, h.size, fun k hk hS => h.block k hk (fun e => hS (hr k e.symm hk))⟩

set_option maxHeartbeats 2000000 in
set_option maxRecDepth 100000 in
theorem forget_any {w : World} {p b : Nat} {s : Snd} (h : SN w p b s) (io : Option Addr) (ic : Nat) (its : List Itm) (hI : ∀ u, Fr (fun k => k = b) w u → ItsAt u io its) :
    Calls Tryz.prog 39 #[.pointer (some ⟨p, 0, none⟩), .slice io its.length ic] w fun e w' => e = .returned (.tuple #[]) ∧ SN w' p b { s with sent := s.sent.filter (keepS its s.clk s.evy) } ∧ Fr (fun k => k = b) w w' := by
  obtain ⟨D, hown, hV⟩ := h.mp
  have H := hide h
  have HI := hide hI
  have HV := hide hV
  have HO := hide hown
  have hsm := (hI w (Fr.refl _ _)).small
  have hsmI : (its.length : Int) ≤ 140737488355328 := by omega
  have c4 : w.cell? ⟨p, 4, none⟩ = some (.map (some b)) := h.bx.cell 4
  clear h hI hV hown hsm
  go_enter Tryz.func39, Tryz.ntmps39
  go_wp2_with (first
    | (at_range; refine wpList_range_own _ rfl _ 71 rfl 3 3 keyedI Tryz.underlying71 _ b s.sent.length D rfl (unhide HO) ?_; intro w0 hrg0 hg0 hs0)
    | go_in)
  go_frame
  have HR0 : Hid (w0.ranges Tryz.prog 3 (plainElem Tryz.prog 3) b w.heap.size s.sent.length D (has D) (Maps.size D) ∧ Vw D (stayL (has D) (keepS its s.clk s.evy) s.sent) ∧ Fr (fun k => k = b) w w0) := hide ⟨hrg0, by rw [stay_start (unhide HV)]; exact unhide HV, grown_fr hg0 (fun k e => by (cases e))⟩
  clear hrg0 hg0 hs0 c4
  go_loopw [4] (fun _ wr => ∃ (left : Lit → Bool) (cnt : Nat) (D' : DataW Unit), Hid (wr.ranges Tryz.prog 3 (plainElem Tryz.prog 3) b w.heap.size s.sent.length D' left cnt ∧ Vw D' (stayL left (keepS its s.clk s.evy) s.sent) ∧ Fr (fun k => k = b) w wr)) (fun _ wr => wr.rangeLeft b w.heap.size)
  case atStart => exact ⟨_, _, _, HR0⟩
  case round =>
    obtain ⟨left, cnt, D', HR⟩ := hrel
    go_wp2_with (first
      | (at_next; refine wpList_next_ranges_ii _ rfl _ rfl 3 3 .i64 .i64 keyedI Tryz.underlying3 Tryz.underlying3 b w.heap.size s.sent.length _ _ _ rfl (unhide HR).1 ?_ ?_)
      | go_in)
    · intro _ hl0
      have HL := hide hl0
      clear hl0
      go_wp2
      go_end0
      obtain ⟨r1, r2, r3⟩ := unhide HR
      have hm : SMap wr b (s.sent.filter (keepS its s.clk s.evy)) := by
        rw [← stay_end (unhide HL)]
        exact SRng.done ⟨_, _, r1, r2⟩
      have h := unhide H
      exact ⟨rfl, ⟨h.bx.frame r3 h.ne, hm, h.ne, h.win, h.bat, h.evy, h.clk, fun x hx => h.tks x (List.mem_filter.1 hx).1⟩, r3⟩
    · intro x c w1 cnt1 hwx hwc hlx hat hrg1 hlt hg1 hs1 hen
      have hmem : (x, c) ∈ s.sent := (List.mem_filter.1 ((unhide HR).2.1.mem hat)).1
      obtain ⟨ht1, ht2⟩ := (unhide H).tks _ hmem
      have ht1 : 0 ≤ c := ht1
      have ht2 : c ≤ s.clk := ht2
      obtain ⟨hk1, hk2⟩ := (unhide H).clk
      have F1 : Fr (fun k => k = b) w w1 := (unhide HR).2.2.trans (grown_fr (S := fun k => k = w.heap.size) hg1 (fun k e _ => by injection e with e; exact e.symm)) (fun i hi t => by omega)
      have hbx := (unhide H).bx.frame F1 (unhide H).ne
      have c2 : w1.cell? ⟨p, 2, none⟩ = some (.int .i64 s.evy) := hbx.cell 2
      have c3 : w1.cell? ⟨p, 3, none⟩ = some (.int .i64 s.clk) := hbx.cell 3
      have c4 : w1.cell? ⟨p, 4, none⟩ = some (.map (some b)) := hbx.cell 4
      have hI1 := unhide HI w1 F1
      have HW : Hid (∀ n, (w1.drewN n).ranges Tryz.prog 3 (plainElem Tryz.prog 3) b w.heap.size s.sent.length D' (fun z => left z && !z.sameKey (.int .i64 x)) cnt1) := hide (fun n => hrg1)
      have HK : Hid (keepS its s.clk s.evy (x, c) = true → Vw D' (stayL (fun z => left z && !z.sameKey (.int .i64 x)) (keepS its s.clk s.evy) s.sent)) := hide (fun hk => by rw [stay_kept (unhide HV).nd hmem hk]; exact (unhide HR).2.1)
      have HG : Hid (keepS its s.clk s.evy (x, c) = false → Vw (D'.del (.int .i64 x)) (stayL (fun z => left z && !z.sameKey (.int .i64 x)) (keepS its s.clk s.evy) s.sent)) := hide (fun hk => by rw [stay_gone (unhide HV).nd hmem hk]; exact (unhide HR).2.1.del x)
      have HF := hide F1
      have HL : Hid (wr.rangeLeft b w.heap.size = cnt) := hide (unhide HR).1.left_eq
      have HWX := hide hwx
      have hwr : IntKind.i64.wrap (s.clk - c) = s.clk - c := by rw [IntKind.wrap_i64]; omega
      clear hg1 hs1 hbx F1 hrg1 hat hlx hmem HR hwx hwc
      by_cases h0 : its.length = 0
      · have hnil : its = [] := List.eq_nil_of_length_eq_zero h0
        have HKF : Hid (keepS its s.clk s.evy (x, c) = false) := hide (by rw [hnil]; rfl)
        have hz : ((its.length : Int) == 0) = true := by rw [h0]; rfl
        clear hI1 hnil h0
        go_wp2_with fail
        go_quiet (fail)
        go_wp2_with (first
          | (at_delete; refine wpList_delete_ranges _ rfl _ _ 71 3 rfl 3 keyedI Tryz.underlying71 _ b w.heap.size s.sent.length _ _ _ rfl (unhide HW _) _ _ rfl (keyOf_int_mk Tryz.underlying3 (unhide HWX)) ?_; intro w2 cnt2 hrg2 hle hturn; go_frame)
          | go_in)
        rw [strike_twice] at hrg2
        go_roundw
        case rel => exact ⟨_, cnt2, _, hide ⟨hrg2, unhide HG (unhide HKF), ((unhide HF).drewN _).trans (grown_fr (S := fun k => k = b) hturn.grown (fun k e _ => by injection e with e; exact e.symm)) (fun _ _ t => t)⟩⟩
        case measure => rw [hrg2.left_eq, unhide HL]; omega
      · have hz : ((its.length : Int) == 0) = false := by rw [beq_eq_false_iff_ne]; omega
        have hzI : (0 : Int) < (its.length : Int) := by omega
        obtain ⟨bi, off, e, hc⟩ := hI1.cells (by omega)
        have k0 := (hc 0 (by omega)).1
        rw [Nat.zero_mul, Nat.add_zero] at k0
        subst e
        have hke : keepS its s.clk s.evy (x, c) = decide ((its[0]'(by omega)).seq ≤ x ∧ s.clk - c < s.evy) := by
          cases its with
          | nil => simp at h0
          | cons y r => rfl
        generalize (its[0]'(by omega)).seq = y0 at *
        clear hc hI1
        by_cases h1 : x < y0
        · have HKF : Hid (keepS its s.clk s.evy (x, c) = false) := hide (by rw [hke]; simp; omega)
          have hd1 : decide (x < y0) = true := by simp [h1]
          clear h1 hke h0
          go_wp2_with fail
          go_quiet (fail)
          go_wp2_with (first
            | (at_delete; refine wpList_delete_ranges _ rfl _ _ 71 3 rfl 3 keyedI Tryz.underlying71 _ b w.heap.size s.sent.length _ _ _ rfl (unhide HW _) _ _ rfl (keyOf_int_mk Tryz.underlying3 (unhide HWX)) ?_; intro w2 cnt2 hrg2 hle hturn; go_frame)
            | go_in)
          rw [strike_twice] at hrg2
          go_roundw
          case rel => exact ⟨_, cnt2, _, hide ⟨hrg2, unhide HG (unhide HKF), ((unhide HF).drewN _).trans (grown_fr (S := fun k => k = b) hturn.grown (fun k e _ => by injection e with e; exact e.symm)) (fun _ _ t => t)⟩⟩
          case measure => rw [hrg2.left_eq, unhide HL]; omega
        · have hd1 : decide (x < y0) = false := by simp; omega
          by_cases h2 : s.clk - c ≥ s.evy
          · have HKF : Hid (keepS its s.clk s.evy (x, c) = false) := hide (by rw [hke]; simp; omega)
            have hd2 : decide (s.clk - c ≥ s.evy) = true := by simp; omega
            have hd3 : decide (s.evy ≤ s.clk - c) = true := hd2
            clear h1 h2 hke h0
            go_wp2_with fail
            go_quiet (fail)
            go_wp2_with (first
              | (at_delete; refine wpList_delete_ranges _ rfl _ _ 71 3 rfl 3 keyedI Tryz.underlying71 _ b w.heap.size s.sent.length _ _ _ rfl (unhide HW _) _ _ rfl (keyOf_int_mk Tryz.underlying3 (unhide HWX)) ?_; intro w2 cnt2 hrg2 hle hturn; go_frame)
              | go_in)
            rw [strike_twice] at hrg2
            go_roundw
            case rel => exact ⟨_, cnt2, _, hide ⟨hrg2, unhide HG (unhide HKF), ((unhide HF).drewN _).trans (grown_fr (S := fun k => k = b) hturn.grown (fun k e _ => by injection e with e; exact e.symm)) (fun _ _ t => t)⟩⟩
            case measure => rw [hrg2.left_eq, unhide HL]; omega
          · have HKT : Hid (keepS its s.clk s.evy (x, c) = true) := hide (by rw [hke]; simp; omega)
            have hd2 : decide (s.clk - c ≥ s.evy) = false := by simp; omega
            have hd3 : decide (s.evy ≤ s.clk - c) = false := hd2
            clear h1 h2 hke h0
            go_wp2_with fail
            go_quiet (fail)
            go_wp2
            go_roundw
            case rel => exact ⟨_, cnt1, _, hide ⟨unhide HW _, unhide HK (unhide HKT), (unhide HF).drewN _⟩⟩
            case measure => rw [(unhide HW _).left_eq, unhide HL]; omega

end Go.Proofs.YtabhfeocelljdaaGreatDoor

