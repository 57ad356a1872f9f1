import Derived.Test.YtkjoojamkbpfcaaGreatQZ1
import Derived.Test.YtkjoojamkbpfcaaGreatN7
/- A tariff as bytes: written, the exported call. -/
namespace Go.Proofs.YtkjoojamkbpfcaaGreat
open Go.RowKit

theorem cat_low {w : World} {ao : Option Addr} {vs : List Value} (h : CAt w ao vs) (q off : Nat) (e : ao = some ⟨q, off, none⟩) (h0 : 0 < vs.length) : q < w.heap.size := by
  obtain ⟨b, o, e1, hc⟩ := h h0
  rw [e] at e1
  injection e1 with e1
  injection e1 with e1 e2 e3
  subst e1
  exact World.block_lt_of_cell? _ _ (hc 0 h0)

def tarB (t : Tf) : Option (List UInt8) := stepW (stepW (stepW (stepW (stepW (stepW (stepW (stepW (stepW (some []) (wrM stationK (t.st.map stC))) (wrM spanK (t.sp.map spC))) (wrM bandK (t.bd.map bdC))) ((Kd.float).w (.float .f64 t.off))) (wrL (List.replicate 3 (.num 4)) ([t.bus, t.busDaily, t.busWeekly].map (Value.int .i64)))) (wrL (List.replicate 1 (.num 2)) ([t.hopper].map (Value.int .i64)))) (wrL (List.replicate 1 (.num 4)) ([t.most].map (Value.int .i64)))) (wrL (List.replicate 4 (.num 2)) ([t.longest, t.change, t.passback, t.delay].map (Value.int .i64)))) (wrL (List.replicate 1 (.num 4)) ([t.threshold].map (Value.int .i64)))
/-- What writing answers. -/
def tarW (t : Tf) : List UInt8 × Int := if rightE t = 0 then ((tarB t).getD [], codeOf (tarB t)) else ([], rightE t)
theorem tarB_most (t : Tf) (h : Small t) : Most (tarB t) 20000 := by
  have h1 := h.lS
  have h2 := h.lP
  have h3 := h.lB
  refine (((((((((Most.nil.step (Most.list stationK (t.st.map stC))).step (Most.list spanK (t.sp.map spC))).step (Most.list bandK (t.bd.map bdC))).step (Most.kd Kd.float _)).step (Most.wr _ _)).step (Most.wr _ _)).step (Most.wr _ _)).step (Most.wr _ _)).step (Most.wr _ _)).mono ?_
  simp only [wide, List.foldr, Kd.n, List.length_map, List.replicate]
  omega

theorem tarW_le (t : Tf) : (tarW t).1.length ≤ 20000 := by
  unfold tarW
  split
  · rename_i hk
    cases h : tarB t with
    | none => simp
    | some bs => exact tarB_most t (small_of hk) bs h
  · simp

/-- What the writer of a tariff asks. -/
theorem tariff_wS {w : World} {p g b : Nat} {A : Ad} {t : Tf} {T : TypeId} (h : WB w p g b (some []) (tc A t) T) (hS : Small t) (h1 : CAt w A.aS (stV t.st)) (h2 : CAt w A.aP (spV t.sp)) (h3 : CAt w A.aB (bdV t.bd)) (n : Nat) (hn : ∀ q, q < n → q ≠ p ∧ q ≠ g ∧ q < w.heap.size)
    (l1 : ∀ q off, A.aS = some ⟨q, off, none⟩ → 0 < t.st.length → q < n) (l2 : ∀ q off, A.aP = some ⟨q, off, none⟩ → 0 < t.sp.length → q < n) (l3 : ∀ q off, A.aB = some ⟨q, off, none⟩ → 0 < t.bd.length → q < n) :
    Calls Tryz.prog 18 #[walkW p, .pointer (some ⟨b, 0, none⟩)] w (WDone p g (tarB t) w) :=
  tariff_w A.aS A.cS t.st A.aP A.cP t.sp A.aB A.cB t.bd t.off t.bus t.busDaily t.busWeekly t.hopper t.most t.longest t.change t.passback t.delay t.threshold h
    h1 (fun q off e h0 => hn q (l1 q off e h0)) (fun x hx => by have := hS.st x hx; omega) hS.lS
    h2 (fun q off e h0 => hn q (l2 q off e h0)) (fun x hx => by have := hS.sp x hx; omega) hS.lP
    h3 (fun q off e h0 => hn q (l3 q off e h0)) (fun x hx => by have := hS.bd x hx; omega) hS.lB
    (by have := hS.bus; omega) (by have := hS.busDaily; omega) (by have := hS.busWeekly; omega) (by have := hS.hopper; omega) (by have := hS.most; omega) (by have := hS.longest; omega) (by have := hS.change; omega) (by have := hS.passback; omega) (by have := hS.delay; omega) (by have := hS.threshold; omega)
    0 Most.nil (by omega)

set_option maxHeartbeats 2000000 in
theorem writtenTariff_bad (t : Tf) (A : Ad) (w : World) (h : TAt w A t) (c : Int) (hc : c = 50 ∨ c = 51 ∨ c = 70) (he : rightE t = c) :
    Calls Tryz.prog 17 #[tv A t, .func (Fn.func 18) #[] #[], .func (Fn.func 19) #[] #[]] w (Wrote w [] c) := by
  have R := hide (fun (w' : World) (hf : Fr (fun _ => False) w w') => right_walk w' A t (h.keep hf))
  rw [he] at R
  clear he h
  have HA0 : Hid (Fr (fun _ => False) w (w.alloc (.cells #[.slice A.aS t.st.length A.cS, .slice A.aP t.sp.length A.cP, .slice A.aB t.bd.length A.cB, .float .f64 t.off, .int .i64 t.bus, .int .i64 t.busDaily, .int .i64 t.busWeekly, .int .i64 t.hopper, .int .i64 t.most, .int .i64 t.longest, .int .i64 t.change, .int .i64 t.passback, .int .i64 t.delay, .int .i64 t.threshold] 27))) := hide ((Fr.refl _ w).alloc _)
  unfold tv tc at *
  rcases hc with rfl | rfl | rfl
  · go_enter Tryz.func17, Tryz.ntmps17
    go_wp2_with fail
    refine (unhide R _ (unhide HA0)).mono ?_
    rintro e w1 ⟨rfl, hF⟩
    have HF1 : Hid (Fr (fun _ => False) w w1) := hide ((unhide HA0).trans hF (fun _ _ t => t))
    clear hF
    go_wp2
    go_ret2
    exact ⟨none, 0, 0, rfl, Row.nil _ _, fun h => absurd h (by omega), unhide HF1⟩
  · go_enter Tryz.func17, Tryz.ntmps17
    go_wp2_with fail
    refine (unhide R _ (unhide HA0)).mono ?_
    rintro e w1 ⟨rfl, hF⟩
    have HF1 : Hid (Fr (fun _ => False) w w1) := hide ((unhide HA0).trans hF (fun _ _ t => t))
    clear hF
    go_wp2
    go_ret2
    exact ⟨none, 0, 0, rfl, Row.nil _ _, fun h => absurd h (by omega), unhide HF1⟩
  · go_enter Tryz.func17, Tryz.ntmps17
    go_wp2_with fail
    refine (unhide R _ (unhide HA0)).mono ?_
    rintro e w1 ⟨rfl, hF⟩
    have HF1 : Hid (Fr (fun _ => False) w w1) := hide ((unhide HA0).trans hF (fun _ _ t => t))
    clear hF
    go_wp2
    go_ret2
    exact ⟨none, 0, 0, rfl, Row.nil _ _, fun h => absurd h (by omega), unhide HF1⟩

set_option maxHeartbeats 2000000 in
theorem writtenTariff_good (t : Tf) (A : Ad) (w : World) (h : TAt w A t) (he : rightE t = 0) :
    Calls Tryz.prog 17 #[tv A t, .func (Fn.func 18) #[] #[], .func (Fn.func 19) #[] #[]] w (Wrote w ((tarB t).getD []) (codeOf (tarB t))) := by
  have R := hide (fun (w' : World) (hf : Fr (fun _ => False) w w') => right_walk w' A t (h.keep hf))
  have HSM := hide (small_of he)
  have HM := hide (tarB_most t (small_of he))
  rw [he] at R
  have HI := hide h
  clear he h
  have HA0 : Hid (Fr (fun _ => False) w (w.alloc (.cells #[.slice A.aS t.st.length A.cS, .slice A.aP t.sp.length A.cP, .slice A.aB t.bd.length A.cB, .float .f64 t.off, .int .i64 t.bus, .int .i64 t.busDaily, .int .i64 t.busWeekly, .int .i64 t.hopper, .int .i64 t.most, .int .i64 t.longest, .int .i64 t.change, .int .i64 t.passback, .int .i64 t.delay, .int .i64 t.threshold] 27))) := hide ((Fr.refl _ w).alloc _)
  unfold tv tc at *
  go_enter Tryz.func17, Tryz.ntmps17
  go_wp2_with fail
  refine (unhide R _ (unhide HA0)).mono ?_
  rintro e w1 ⟨rfl, hF⟩
  have HB1 := hide ((Bx.new w #[.slice A.aS t.st.length A.cS, .slice A.aP t.sp.length A.cP, .slice A.aB t.bd.length A.cB, .float .f64 t.off, .int .i64 t.bus, .int .i64 t.busDaily, .int .i64 t.busWeekly, .int .i64 t.hopper, .int .i64 t.most, .int .i64 t.longest, .int .i64 t.change, .int .i64 t.passback, .int .i64 t.delay, .int .i64 t.threshold] 27).keep hF)
  have HF1 : Hid (Fr (fun _ => False) w w1) := hide ((unhide HA0).trans hF (fun _ _ t => t))
  obtain ⟨B, HB⟩ : ∃ B, Hid (w.heap.size = B) := ⟨_, rfl⟩
  have HBL : Hid (B < w1.heap.size) := hide (by rw [← unhide HB]; exact (unhide HB1).lt)
  rw [unhide HB] at HB1 ⊢
  clear hF HA0 R
  go_wp2_with fail
  refine (newwriter_any _).mono ?_
  rintro e w2 ⟨rfl, rfl⟩
  have HW2 : Hid (WB ((w1.alloc (.cells #[.slice none 0 0, .bool false] 130)).alloc (.cells #[.pointer (some ⟨w1.heap.size, 0, none⟩), .pointer none] 59)) w1.heap.size w1.heap.size B (some []) #[.slice A.aS t.st.length A.cS, .slice A.aP t.sp.length A.cP, .slice A.aB t.bd.length A.cB, .float .f64 t.off, .int .i64 t.bus, .int .i64 t.busDaily, .int .i64 t.busWeekly, .int .i64 t.hopper, .int .i64 t.most, .int .i64 t.longest, .int .i64 t.change, .int .i64 t.passback, .int .i64 t.delay, .int .i64 t.threshold] 27) :=
    hide ⟨WSt.alloc (show WSt _ _ _ (some []) from newW) _, ((unhide HB1).alloc _).alloc _, by have := unhide HBL; omega, by have := unhide HBL; omega, by rw [heap_alloc, heap_alloc]; omega⟩
  have HN2 : Hid (Bx ((w1.alloc (.cells #[.slice none 0 0, .bool false] 130)).alloc (.cells #[.pointer (some ⟨w1.heap.size, 0, none⟩), .pointer none] 59)) (w1.heap.size + 1) #[.pointer (some ⟨w1.heap.size, 0, none⟩), .pointer none] 59) := hide (by
    have := Bx.new (w1.alloc (.cells #[.slice none 0 0, .bool false] 130)) #[.pointer (some ⟨w1.heap.size, 0, none⟩), .pointer none] 59
    rw [heap_alloc] at this
    exact this)
  have HF2 : Hid (Fr (fun _ => False) w ((w1.alloc (.cells #[.slice none 0 0, .bool false] 130)).alloc (.cells #[.pointer (some ⟨w1.heap.size, 0, none⟩), .pointer none] 59))) := hide (((unhide HF1).alloc _).alloc _)
  have HS2 : Hid (w.heap.size ≤ w1.heap.size ∧ w.heap.size ≤ ((w1.alloc (.cells #[.slice none 0 0, .bool false] 130)).alloc (.cells #[.pointer (some ⟨w1.heap.size, 0, none⟩), .pointer none] 59)).heap.size) := hide ⟨(unhide HF1).size, (unhide HF2).size⟩
  go_wp2_with fail
  generalize ((w1.alloc (.cells #[.slice none 0 0, .bool false] 130)).alloc (.cells #[.pointer (some ⟨w1.heap.size, 0, none⟩), .pointer none] 59)) = w2 at *
  obtain ⟨p, Hp⟩ : ∃ p, Hid (w1.heap.size = p) := ⟨_, rfl⟩
  rw [unhide Hp] at HW2 HN2 HS2 ⊢
  have HPL : Hid (w.heap.size ≤ p) := hide (unhide HS2).1
  have hI := unhide HI
  have hsep : ∀ q, q < w.heap.size → q ≠ p ∧ q ≠ p ∧ q < w2.heap.size := fun q hq => by have := unhide HS2; omega
  refine (tariff_wS (T := 27) (A := A) (t := t) (unhide HW2) (unhide HSM) (hI.st.keep (unhide HF2)) (hI.sp.keep (unhide HF2)) (hI.bd.keep (unhide HF2)) w.heap.size hsep (fun q off e h0 => cat_low hI.st q off e (by rw [stV_length]; omega)) (fun q off e h0 => cat_low hI.sp q off e (by rw [spV_length]; omega)) (fun q off e h0 => cat_low hI.bd q off e (by rw [bdV_length]; omega))).mono ?_
  rintro e w3 ⟨rfl, hP⟩
  clear hI hsep
  have hF3 : Fr (fun k => k = p ∨ k = p) w2 w3 := by obtain ⟨g', _, _, _, h4⟩ := hP; exact h4
  have n0 : w3.cell? ⟨p + 1, 0, none⟩ = some (.pointer (some ⟨p, 0, none⟩)) := ((unhide HN2).frame hF3 (by omega)).cell 0
  have HF3 := hide (WP.fresh (unhide HF2) (unhide HPL) (unhide HPL) hP)
  obtain ⟨g', h1, _, _, _⟩ := hP
  have HW3 := hide h1
  clear h1 hF3
  go_wp2_with fail
  refine (wbytes (unhide HW3) 20000 (unhide HM) (by omega)).mono ?_
  rintro e w4 hWr
  obtain ⟨ao', cap', gb, rfl, h2⟩ := Wrote.later (unhide HF3) hWr
  have H4 := hide h2
  clear hWr h2 n0
  go_wp2
  go_ret2
  exact ⟨ao', cap', gb, rfl, unhide H4⟩

theorem writtenTariff_any (t : Tf) (A : Ad) (w : World) (h : TAt w A t) :
    Calls Tryz.prog 17 #[tv A t, .func (Fn.func 18) #[] #[], .func (Fn.func 19) #[] #[]] w (Wrote w (tarW t).1 (tarW t).2) := by
  unfold tarW
  rcases rightE_cases t with e | e | e | e
  · rw [if_pos e]
    exact writtenTariff_good t A w h e
  all_goals
    rw [if_neg (by omega)]
    have := writtenTariff_bad t A w h (rightE t) (by omega) rfl
    exact this

theorem recTariff_any (t : Tf) (A : Ad) (w : World) (h : TAt w A t) : Calls Tryz.prog 6 #[tv A t] w (Wrote w (tarW t).1 (tarW t).2) := by
  have R := hide (fun (w' : World) (hf : Fr (fun _ => False) w w') => writtenTariff_any t A w' (h.keep hf))
  generalize (tarW t).1 = bs at *
  generalize (tarW t).2 = c at *
  clear h
  unfold tv tc at *
  go_enter Tryz.func6, Tryz.ntmps6
  go_wp2_with fail
  refine (unhide R _ ((Fr.refl _ w).alloc _)).mono ?_
  rintro e w1 ⟨ao', cap', gb, rfl, h2⟩
  have H2 : Hid (Wrote w bs c (.returned (.tuple #[.slice ao' bs.length cap', .int .i64 c])) w1) := hide (Wrote.later ((Fr.refl (fun _ => False) w).alloc (.cells #[.slice A.aS t.st.length A.cS, .slice A.aP t.sp.length A.cP, .slice A.aB t.bd.length A.cB, .float .f64 t.off, .int .i64 t.bus, .int .i64 t.busDaily, .int .i64 t.busWeekly, .int .i64 t.hopper, .int .i64 t.most, .int .i64 t.longest, .int .i64 t.change, .int .i64 t.passback, .int .i64 t.delay, .int .i64 t.threshold] 27)) ⟨ao', cap', gb, rfl, h2⟩)
  clear h2
  go_wp2
  go_ret2
  exact unhide H2

end Go.Proofs.YtkjoojamkbpfcaaGreat

