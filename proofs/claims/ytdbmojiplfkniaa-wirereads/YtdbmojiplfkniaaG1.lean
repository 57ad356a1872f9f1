/- The walk of the law WireReads. -/
import Derived.Test.YtdbmojiplfkniaaF7
import Derived.Test.YtdbmojiplfkniaaE0
import Derived.Lib.QuietBelow
import Derived.BigQuiet
namespace Go.Proofs.Ytdbmojiplfkniaa
open Go.RowKit Go.Sort

theorem at_below {w : World} {p : Nat} {a : Int} (h1 : w.cell? ⟨p, 1, none⟩ = some (.int .i64 a)) :
    Calls Try.prog 20 #[.pointer (some ⟨p, 0, none⟩)] w fun e w' => e = .returned (.int .i64 a) ∧ Below w.heap.size w w' :=
  (at_any p a w h1).mono fun e w' ⟨h1, h2⟩ => ⟨h1, by subst h2; exact (Fr.refl (fun _ => False) w).below (Nat.le_refl _) (fun _ t => t.elim)⟩

theorem left_below {w : World} {p a n : Nat} {ao : Option Addr} {cap : Nat} (h0 : w.cell? ⟨p, 0, none⟩ = some (.slice ao n cap)) (h1 : w.cell? ⟨p, 1, none⟩ = some (.int .i64 a)) (ha : a ≤ n) (hn : n ≤ 140737488355328) :
    Calls Try.prog 21 #[.pointer (some ⟨p, 0, none⟩)] w fun e w' => e = .returned (.int .i64 (n - a)) ∧ Below w.heap.size w w' :=
  (left_any p a n ao cap w h0 h1 ha hn).mono fun e w' ⟨h1, k, h2⟩ => ⟨h1, by subst h2; exact ((Fr.refl (fun _ => False) w).drewN k).below (Nat.le_refl _) (fun _ t => t.elim)⟩

theorem fault_below {w : World} {p : Nat} {c f : Int} (h3 : w.cell? ⟨p, 3, none⟩ = some (.int .i64 c)) (h4 : w.cell? ⟨p, 4, none⟩ = some (.int .i64 f)) :
    Calls Try.prog 22 #[.pointer (some ⟨p, 0, none⟩)] w fun e w' => e = .returned (.agg #[.int .i64 c, .int .i64 f]) ∧ Below w.heap.size w w' :=
  (fault_any p c f w h3 h4 (World.block_lt_of_cell? _ _ h3)).mono fun e w' ⟨h1, h2⟩ => ⟨h1, by subst h2; exact ((Fr.refl (fun _ => False) w).alloc _).below (Nat.le_refl _) (fun _ t => t.elim)⟩

theorem RX.later {w w' : World} {p g xp : Nat} {ao : Option Addr} {cap : Nat} {bs : List UInt8} {s : RS} (h : RX w p g xp ao cap bs s) (hb : Below w.heap.size w w') : RX w' p g xp ao cap bs s :=
  ⟨RAt.stay h.r (fun k _ hlt => hb.block k hlt), h.x.stay (hb.block xp h.x.lt) (fun _ _ _ _ hlt => hb.block _ hlt), h.n1, h.n2, h.n3⟩

set_option maxHeartbeats 2000000 in
set_option maxRecDepth 100000 in
theorem reads_walk (w : World) (ao : Option Addr) (cap : Nat) (bs : List UInt8) (hB : BAt w ao cap bs) (hlc : bs.length ≤ cap) (hcm : cap ≤ 9223372036854775807) (lo : Option Addr) (lc : Nat) (ps : List Pc) (hL : LAt w lo ps) :
    Calls Try.prog 4 #[.slice ao bs.length cap, .slice lo ps.length lc] w fun e w' => e = .returned (.bool true) ∧ Fr (fun _ => False) w w' := by
  have HB := hide hB
  have HL := hide hL
  have hpl := hL.2.1
  have hsm := hB.2.2
  clear hB hL
  go_enter Try.func4, Try.ntmps4
  go_wp2_with fail
  refine (awake_any _).mono ?_
  rintro e w1 ⟨rfl, hF1⟩
  have HF1 := hide hF1
  clear hF1
  go_wp2_with fail
  refine (lent_any w1 ao cap bs ((unhide HB).later (unhide HF1))).mono ?_
  rintro e w2 ⟨g0, rfl, hF2, hg0, hrow⟩
  have HF2 := hide (And.intro ((unhide HF1).trans hF2 (fun _ _ t => t)) (And.intro (Nat.le_trans (unhide HF1).size hg0) hrow))
  have hb2 : BAt w2 (some ⟨g0, 0, none⟩) (bs.length + 3) bs := ⟨fun e => (by cases e), fun h0 => ⟨g0, 0, rfl, fun j hj => by rw [Nat.zero_add, (hrow j (by omega)).1, lentF_in _ _ _ hj]⟩, hsm⟩
  have HB2 := hide hb2
  clear hF2 hg0 hrow hb2 HF1
  go_wp2_with fail
  refine (newreader2 w2 (some ⟨g0, 0, none⟩) (bs.length + 3) bs (unhide HB2)).mono ?_
  rintro e w3 ⟨p, g, rfl, hR, hF3, hg1, hp1, hg2⟩
  have hg0l : g0 < w2.heap.size := World.block_lt_of_cell? _ _ ((unhide HF2).2.2 0 (by omega)).1
  have hF13 := (unhide HF2).1.trans hF3 (fun _ _ t => t)
  have hlent : ∀ j, j < bs.length + 3 → w3.cell? ⟨g0, j, none⟩ = some (.int .u8 (lentF bs (bs.length + 3) j)) ∧ w3.frozen? ⟨g0, j, none⟩ = false := fun j hj =>
    ⟨(hF3.cell (a := ⟨g0, j, none⟩) hg0l (fun t => t)).trans ((unhide HF2).2.2 j hj).1, (hF3.frozen (a := ⟨g0, j, none⟩) hg0l (fun t => t)).trans ((unhide HF2).2.2 j hj).2⟩
  have hBw := (unhide HB).later hF13
  have hgb : ∀ b off, ao = some ⟨b, off, none⟩ → 0 < bs.length → g0 ≠ b ∧ p ≠ b ∧ b < w.heap.size := fun b off e h0 => by
    obtain ⟨b', off', e', hc⟩ := (unhide HB).2.1 h0
    rw [e] at e'
    injection e' with e'
    injection e' with e1 e2
    subst e1
    have h1 : b < w.heap.size := World.block_lt_of_cell? _ _ (hc 0 h0)
    have h2 := (unhide HF2).2.1
    have h3 := (unhide HF2).1.size
    omega
  have HW3 := hide (And.intro hR (And.intro hF13 (And.intro hlent (And.intro hBw (And.intro hgb (And.intro (unhide HF2).2.1 (And.intro hg1 (And.intro hp1 hg2))))))))
  clear hR hF3 hF13 hlent hBw hgb HB2 HF2 hg1 hp1 hg2
  go_wp2_with fail
  refine (back_any w3 ao cap bs (unhide HW3).2.2.2.1 g0 (fun b off e h0 => ((unhide HW3).2.2.2.2.1 b off e h0).1) (unhide HW3).2.2.1).mono ?_
  rintro e w4 ⟨rfl, hF4⟩
  obtain ⟨hR, hF13, hlent, hBw, hgb, hg0, hg1, hp1, hg2⟩ := unhide HW3
  have hp2 := hR.lt
  have h34 := hF4.size
  have hF14 : Fr (fun _ => False) w w4 := hF13.trans hF4 (fun i hi t => by omega)
  have hRA : RX (w4.alloc (.cells #[.slice ao bs.length cap, .int .i64 0, .int .i64 0, .int .i64 0, .int .i64 0] 49)) p g w4.heap.size ao cap bs ⟨0, 0, 0, 0⟩ := by
    refine ⟨RAt.alloc (RAt.frame hR hF4 (by omega) (by omega)) _, ⟨by simp, by simp, by simp, by simp, by simp, fun i hi => World.frozen?_alloc_new _ _ _ _, fun h0 => ?_, Nat.zero_le _, hsm, hlc, hcm⟩, by omega, by omega, fun b off e h0 => (hgb b off e h0).2.1⟩
    obtain ⟨b, off, e, hc⟩ := (unhide HB).2.1 h0
    have hbw := (hgb b off e h0).2.2
    have hsz := hF14.size
    exact ⟨b, off, e, by omega, fun j hj => (World.cell?_alloc_lt _ _ _ (by simp only []; omega)).trans ((hF14.cell (a := ⟨b, off + j, none⟩) hbw (fun t => t)).trans (hc j hj))⟩
  have hp0 : w.heap.size ≤ p := by have := hF13.size; have := (unhide HB).2.2; omega
  have HRX := hide (And.intro hRA (And.intro (hF14.alloc (.cells #[.slice ao bs.length cap, .int .i64 0, .int .i64 0, .int .i64 0, .int .i64 0] 49)) (And.intro hp0 hF14.size)))
  clear hR hF13 hlent hBw hgb hg0 hg1 hp1 hg2 hp2 h34 hF14 hRA hp0 HW3 hF4
  obtain ⟨xp, hxp⟩ : ∃ xp, w4.heap.size = xp := ⟨_, rfl⟩
  rw [hxp] at HRX
  go_wp2
  go_loopw [10] (fun iv wr => ∃ i : Nat, i ≤ ps.length ∧ iv = .int .i64 i ∧ ∃ s : RS, Hid (RX wr p g xp ao cap bs s ∧ Fr (fun _ => False) w wr ∧ w.heap.size ≤ p ∧ w.heap.size ≤ xp)) (fun iv _ => ps.length - (intOf iv).toNat)
  case atStart => exact ⟨0, Nat.zero_le _, rfl, ⟨0, 0, 0, 0⟩, unhide HRX⟩
  case round =>
    obtain ⟨i, hi, rfl, s, HS⟩ := hrel
    by_cases hlt : i < ps.length
    · obtain ⟨b, off, rfl⟩ : ∃ b off, lo = some ⟨b, off, none⟩ := by
        obtain ⟨b, off, e, _⟩ := (unhide HL).1 (by omega)
        exact ⟨b, off, e⟩
      obtain ⟨q0, q1, q2, q3, q4, q5⟩ := (unhide HL).cells (unhide HS).2.1 i hlt
      generalize ps[i] = q at q0 q1 q2 q3 q4 q5
      go_wp2_with fail
      refine (takes_any (unhide HS).1 q).mono ?_
      rintro e w6 ⟨rfl, ⟨s', hX6⟩, hF6⟩
      have HS6 := hide (And.intro hX6 ((unhide HS).2.1.trans hF6 (fun k hk t => by have := (unhide HS).2.2; omega)))
      have c1 := hX6.r.c1
      have c3 := hX6.r.c3
      have c4 := hX6.r.c4
      have x1 := hX6.x.c1
      have x3 := hX6.x.c3
      have x4 := hX6.x.c4
      have hpw := hX6.r.lt
      have hxw := hX6.x.lt
      have hale := hX6.r.le
      have hne := hX6.n1
      have hab : ((s'.a : Int) != (s'.a : Int)) = false := by simp
      have hlb : (((bs.length : Int) - s'.a) != ((bs.length : Int) - s'.a)) = false := by simp
      obtain ⟨ro, rc, r0, _⟩ := hX6.r.c0
      have X1 : ∀ d os, (grow (redrawn w6 d) os).cell? ⟨xp, 1, none⟩ = some (.int .i64 s'.a) := fun d os => cell_regrown x1 d os
      have X3 : ∀ d os, (grow (redrawn w6 d) os).cell? ⟨xp, 3, none⟩ = some (.int .i64 s'.c) := fun d os => cell_regrown x3 d os
      have X4 : ∀ d os, (grow (redrawn w6 d) os).cell? ⟨xp, 4, none⟩ = some (.int .i64 s'.f) := fun d os => cell_regrown x4 d os
      have HC := hide (And.intro r0 (And.intro c1 (And.intro c3 c4)))
      clear hX6 hF6 q0 q1 q2 q3 q4 q5 c1 c3 c4 x1 x3 x4 r0
      go_wp2_with fail
      refine wp_region_quiet_below (by kernel_rfl) (by kernel_rfl) ?_
      repeat (first | go_big_quiet_skip | (go_big_quiet_want; go_big_quiet_op; first | go_big_quiet_on | go_big_quiet_call (first | exact Calls.regrown_of (at_below (cell_regrown (unhide HC).2.1 _ _)) | exact Calls.regrown_of (left_below (cell_regrown (unhide HC).1 _ _) (cell_regrown (unhide HC).2.1 _ _) hale hsm) | exact Calls.regrown_of (fault_below (cell_regrown (unhide HC).2.2.1 _ _) (cell_regrown (unhide HC).2.2.2 _ _)))))
      refine wpQuiet_nil ?_
      intro _ hw'
      obtain ⟨⟨dq, osq⟩, hw''⟩ := hw'
      subst hw''
      have hbel := below_regrown w6 dq osq
      go_wp2
      have hs := (unhide HS6).2
      refine ⟨⟨i + 1, by omega, by go_num, s', (unhide HS6).1.later hbel, hs.trans (T := fun _ => False) (Fr.of_below hbel (fun k h1 h2 => absurd h1 (by omega))) (fun _ _ t => t), (unhide HS).2.2⟩, by simp [intOf]; omega⟩
    · go_wp2
      go_ret
      exact ⟨rfl, (unhide HS).2.1⟩

end Go.Proofs.Ytdbmojiplfkniaa
