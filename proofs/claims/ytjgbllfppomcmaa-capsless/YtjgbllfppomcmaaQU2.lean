import Derived.Test.YtjgbllfppomcmaaQY
import Derived.Test.YtjgbllfppomcmaaQSX
/- Which tariffs may be: Right, with the closure that catches what a look gave up with. -/
namespace Go.Proofs.Ytjgbllfppomcmaa
open Go.RowKit

/-- The first thing wrong, or 0. -/
def rightE (t : Tf) : Int :=
  if stationsOk t.st then (if zonesOk t then (if pricesOk t then (if withinOk t.sp then (if bandsOk t.bd then (if rate t.off then (if minutesOk t then 0 else 70) else 51) else 70) else 70) else 50) else 70) else 70

theorem assert_errnoT (x : Int) (w : World) : (Instr.typeAssert (.iface 38 (.int .i64 x)) 20 38 true).run Try.prog w = .ok (.tuple #[.int .i64 x, .bool true]) w := by kernel_rfl
theorem assert_nilT (w : World) : (Instr.typeAssert .nilIface 20 38 true).run Try.prog w = .ok (.tuple #[.int .i64 0, .bool false]) w := by kernel_rfl

theorem catch22 (p : Nat) (x v : Int) (older : List PanicEntry) (w : World) (hc : w.cell? ⟨p, 0, none⟩ = some (.int .i64 v)) (hz : w.frozen? ⟨p, 0, none⟩ = false) :
    CallsD Try.prog 19 #[.pointer (some ⟨p, 0, none⟩)] (.panicking ({ v := .iface 38 (.int .i64 x), recovered := false } :: older)) w fun e u' w' =>
      e = .returned (.tuple #[]) ∧ u' = .panicking ({ v := .iface 38 (.int .i64 x), recovered := true } :: older) ∧ w' = w.setCell ⟨p, 0, none⟩ (.int .i64 x) := by
  refine callsD_of_wpS Try.func19 rfl fun c₀ cs hu => ?_
  apply wpS_seq
  apply wpS_region
  simp [wpOpsS, go_sem, recoverD, hu, Try.ntmps19, Exit.thenS, assert_errnoT]
  refine wpS_of_wp ?_
  rw [show (#[Value.pointer (some ⟨p, 0, none⟩)] ++ (((((((Array.replicate 9 undef).setIfInBounds 3 (.iface 38 (.int .i64 x))).setIfInBounds 4 (.tuple #[.int .i64 x, .bool true])).setIfInBounds 2 (.tuple #[.int .i64 x, .bool true])).setIfInBounds 5 (.int .i64 x)).setIfInBounds 6 (.bool true)).setIfInBounds 0 (.int .i64 x)).setIfInBounds 1 (.bool true)) =
    #[.pointer (some ⟨p, 0, none⟩), .int .i64 x, .bool true, .tuple #[.int .i64 x, .bool true], .iface 38 (.int .i64 x), .tuple #[.int .i64 x, .bool true], .int .i64 x, .bool true, undef, undef] by kernel_rfl]
  go_wp2
  exact ⟨rfl, _, rfl, .tuple #[], by simp [results, Try.results19], rfl, rfl, rfl⟩

theorem idle22 (p : Nat) (w : World) :
    CallsD Try.prog 19 #[.pointer (some ⟨p, 0, none⟩)] .returning w fun e u' w' => e = .returned (.tuple #[]) ∧ u' = .returning ∧ w' = w := by
  refine callsD_of_wpS Try.func19 rfl fun c₀ cs hu => ?_
  apply wpS_seq
  apply wpS_region
  simp [wpOpsS, go_sem, recoverD, hu, Try.ntmps19, Exit.thenS, assert_nilT]
  refine wpS_of_wp ?_
  rw [show (#[Value.pointer (some ⟨p, 0, none⟩)] ++ (((((((Array.replicate 9 undef).setIfInBounds 3 .nilIface).setIfInBounds 4 (.tuple #[.int .i64 0, .bool false])).setIfInBounds 2 (.tuple #[.int .i64 0, .bool false])).setIfInBounds 5 (.int .i64 0)).setIfInBounds 6 (.bool false)).setIfInBounds 0 (.int .i64 0)).setIfInBounds 1 (.bool false)) =
    #[.pointer (some ⟨p, 0, none⟩), .int .i64 0, .bool false, .tuple #[.int .i64 0, .bool false], .nilIface, .tuple #[.int .i64 0, .bool false], .int .i64 0, .bool false, undef, undef] by kernel_rfl]
  go_wp2
  cases c₀
  simp_all [bodyPostS, results, Try.results19]

/-- What the frame of Right holds: the tariff's box, the result's cell. -/
structure RF (w : World) (A : Ad) (t : Tf) (w1 : World) : Prop where
  fr : Fr (fun _ => False) w w1
  box : ∀ k v, (tc A t)[k]? = some v → w1.cell? ⟨w.heap.size, k, none⟩ = some v
  res : w1.cell? ⟨w.heap.size + 1, 0, none⟩ = some (.int .i64 0)
  fz : w1.frozen? ⟨w.heap.size + 1, 0, none⟩ = false

theorem RF.start (w : World) (A : Ad) (t : Tf) : RF w A t ((w.alloc (.cells (tc A t) 27)).alloc (.cells #[.int .i64 0] 38)) := by
  have e : w.heap.size + 1 = (w.alloc (.cells (tc A t) 27)).heap.size := (heap_alloc _ _).symm
  refine ⟨((Fr.refl _ w).alloc _).alloc _, fun k v hv => ?_, ?_, ?_⟩
  · rw [World.cell?_alloc_lt _ _ _ (show w.heap.size < (w.alloc (.cells (tc A t) 27)).heap.size by rw [← e]; exact Nat.lt_succ_self _), World.cell?_alloc_new]
    exact hv
  · rw [e, World.cell?_alloc_new]; rfl
  · rw [e]; exact World.frozen?_alloc_new _ _ _ _

theorem RF.lt {w : World} {A : Ad} {t : Tf} {w1 : World} (h : RF w A t w1) : w.heap.size + 1 < w1.heap.size := World.block_lt_of_cell? _ _ h.res
theorem RF.keep {w : World} {A : Ad} {t : Tf} {w1 w2 : World} (h : RF w A t w1) (hf : Fr (fun _ => False) w1 w2) : RF w A t w2 := by
  have h1 := h.lt
  refine ⟨h.fr.trans hf (fun _ _ t => t), fun k v hv => ?_, ?_, ?_⟩
  · exact (hf.cell (a := ⟨w.heap.size, k, none⟩) (by simp only []; omega) (fun t => t)).trans (h.box k v hv)
  · exact (hf.cell (a := ⟨w.heap.size + 1, 0, none⟩) h1 (fun t => t)).trans h.res
  · exact (hf.frozen (a := ⟨w.heap.size + 1, 0, none⟩) h1 (fun t => t)).trans h.fz

theorem makesT (fn : Fn) (first cap : Array Value) (w : World) : (Instr.makeFunc fn first cap).run Try.prog w = .ok (.func fn first cap) w := rfl

theorem right_walk (w : World) (A : Ad) (t : Tf) (h : TAt w A t) : Calls Try.prog 11 #[tv A t] w fun e w' => e = .returned (.int .i64 (rightE t)) ∧ Fr (fun _ => False) w w' := by
  have hmf := makesT
  obtain ⟨w0, hw0⟩ : ∃ w0, w0 = (w.alloc (.cells (tc A t) 27)).alloc (.cells #[.int .i64 0] 38) := ⟨_, rfl⟩
  have S0 : RF w A t w0 := by rw [hw0]; exact RF.start w A t
  unfold tv tc
  unfold tc at hw0
  cases hb1 : stationsOk t.st with
  | false =>
    have R := lookStations_any w0 A.aS A.cS t.st (h.st.keep S0.fr) h.lS
    rw [hb1, look_false] at R
    go_enter_defers Try.func11, Try.ntmps11
    have b0 : w0.cell? ⟨w.heap.size, 0, none⟩ = some (.slice A.aS t.st.length A.cS) := S0.box 0 _ rfl
    have b1 : w0.cell? ⟨w.heap.size, 1, none⟩ = some (.slice A.aP t.sp.length A.cP) := S0.box 1 _ rfl
    have b2 : w0.cell? ⟨w.heap.size, 2, none⟩ = some (.slice A.aB t.bd.length A.cB) := S0.box 2 _ rfl
    have b3 : w0.cell? ⟨w.heap.size, 3, none⟩ = some (.float .f64 t.off) := S0.box 3 _ rfl
    have b4 : w0.cell? ⟨w.heap.size, 4, none⟩ = some (.int .i64 t.bus) := S0.box 4 _ rfl
    have b5 : w0.cell? ⟨w.heap.size, 5, none⟩ = some (.int .i64 t.busDaily) := S0.box 5 _ rfl
    have b6 : w0.cell? ⟨w.heap.size, 6, none⟩ = some (.int .i64 t.busWeekly) := S0.box 6 _ rfl
    have b7 : w0.cell? ⟨w.heap.size, 7, none⟩ = some (.int .i64 t.hopper) := S0.box 7 _ rfl
    have b8 : w0.cell? ⟨w.heap.size, 8, none⟩ = some (.int .i64 t.most) := S0.box 8 _ rfl
    have b9 : w0.cell? ⟨w.heap.size, 9, none⟩ = some (.int .i64 t.longest) := S0.box 9 _ rfl
    have b10 : w0.cell? ⟨w.heap.size, 10, none⟩ = some (.int .i64 t.change) := S0.box 10 _ rfl
    have b11 : w0.cell? ⟨w.heap.size, 11, none⟩ = some (.int .i64 t.passback) := S0.box 11 _ rfl
    have b12 : w0.cell? ⟨w.heap.size, 12, none⟩ = some (.int .i64 t.delay) := S0.box 12 _ rfl
    have b13 : w0.cell? ⟨w.heap.size, 13, none⟩ = some (.int .i64 t.threshold) := S0.box 13 _ rfl
    go_wp2_with fail
    rw [← hw0]
    refine R.mono ?_
    rintro e w1 ⟨rfl, hF⟩
    have S1 := S0.keep hF
    clear R hF S0 b0 b1 b2 b3 b4 b5 b6 b7 b8 b9 b10 b11 b12 b13
    have HS := hide S1
    have HR : Hid (rightE t = 70) := hide (by simp [rightE, hb1])
    clear h S1 hb1
    go_wp2
    refine leaves_cons (f := 19) (args := #[.pointer (some ⟨w.heap.size + 1, 0, none⟩)]) (by simp) (by simp [go_sem]) ?_
    refine (catch22 (w.heap.size + 1) 70 0 [] _ (unhide HS).res (unhide HS).fz).mono ?_
    rintro e u' w'' ⟨rfl, rfl, rfl⟩
    have hx := World.cell?_setCell_same _ _ (.int .i64 70) (unhide HS).res
    simp [Leaves, settle, results, Try.results11, go_sem, hx]
    exact ⟨(unhide HR).symm, (unhide HS).fr.setCell (p := ⟨w.heap.size + 1, 0, none⟩) (fun t => absurd t (by simp only []; omega)) _⟩
  | true =>
    have R := lookStations_any w0 A.aS A.cS t.st (h.st.keep S0.fr) h.lS
    rw [hb1, look_true] at R
    go_enter_defers Try.func11, Try.ntmps11
    have b0 : w0.cell? ⟨w.heap.size, 0, none⟩ = some (.slice A.aS t.st.length A.cS) := S0.box 0 _ rfl
    have b1 : w0.cell? ⟨w.heap.size, 1, none⟩ = some (.slice A.aP t.sp.length A.cP) := S0.box 1 _ rfl
    have b2 : w0.cell? ⟨w.heap.size, 2, none⟩ = some (.slice A.aB t.bd.length A.cB) := S0.box 2 _ rfl
    have b3 : w0.cell? ⟨w.heap.size, 3, none⟩ = some (.float .f64 t.off) := S0.box 3 _ rfl
    have b4 : w0.cell? ⟨w.heap.size, 4, none⟩ = some (.int .i64 t.bus) := S0.box 4 _ rfl
    have b5 : w0.cell? ⟨w.heap.size, 5, none⟩ = some (.int .i64 t.busDaily) := S0.box 5 _ rfl
    have b6 : w0.cell? ⟨w.heap.size, 6, none⟩ = some (.int .i64 t.busWeekly) := S0.box 6 _ rfl
    have b7 : w0.cell? ⟨w.heap.size, 7, none⟩ = some (.int .i64 t.hopper) := S0.box 7 _ rfl
    have b8 : w0.cell? ⟨w.heap.size, 8, none⟩ = some (.int .i64 t.most) := S0.box 8 _ rfl
    have b9 : w0.cell? ⟨w.heap.size, 9, none⟩ = some (.int .i64 t.longest) := S0.box 9 _ rfl
    have b10 : w0.cell? ⟨w.heap.size, 10, none⟩ = some (.int .i64 t.change) := S0.box 10 _ rfl
    have b11 : w0.cell? ⟨w.heap.size, 11, none⟩ = some (.int .i64 t.passback) := S0.box 11 _ rfl
    have b12 : w0.cell? ⟨w.heap.size, 12, none⟩ = some (.int .i64 t.delay) := S0.box 12 _ rfl
    have b13 : w0.cell? ⟨w.heap.size, 13, none⟩ = some (.int .i64 t.threshold) := S0.box 13 _ rfl
    go_wp2_with fail
    rw [← hw0]
    refine R.mono ?_
    rintro e w1 ⟨rfl, hF⟩
    have S1 := S0.keep hF
    clear R hF S0 b0 b1 b2 b3 b4 b5 b6 b7 b8 b9 b10 b11 b12 b13
    cases hb2 : zonesOk t with
    | false =>
      have R := lookZones_any w1 A t (h.keep S1.fr) hb1
      rw [hb2, look_false] at R
      unfold tv tc at R
      have b0 : w1.cell? ⟨w.heap.size, 0, none⟩ = some (.slice A.aS t.st.length A.cS) := S1.box 0 _ rfl
      have b1 : w1.cell? ⟨w.heap.size, 1, none⟩ = some (.slice A.aP t.sp.length A.cP) := S1.box 1 _ rfl
      have b2 : w1.cell? ⟨w.heap.size, 2, none⟩ = some (.slice A.aB t.bd.length A.cB) := S1.box 2 _ rfl
      have b3 : w1.cell? ⟨w.heap.size, 3, none⟩ = some (.float .f64 t.off) := S1.box 3 _ rfl
      have b4 : w1.cell? ⟨w.heap.size, 4, none⟩ = some (.int .i64 t.bus) := S1.box 4 _ rfl
      have b5 : w1.cell? ⟨w.heap.size, 5, none⟩ = some (.int .i64 t.busDaily) := S1.box 5 _ rfl
      have b6 : w1.cell? ⟨w.heap.size, 6, none⟩ = some (.int .i64 t.busWeekly) := S1.box 6 _ rfl
      have b7 : w1.cell? ⟨w.heap.size, 7, none⟩ = some (.int .i64 t.hopper) := S1.box 7 _ rfl
      have b8 : w1.cell? ⟨w.heap.size, 8, none⟩ = some (.int .i64 t.most) := S1.box 8 _ rfl
      have b9 : w1.cell? ⟨w.heap.size, 9, none⟩ = some (.int .i64 t.longest) := S1.box 9 _ rfl
      have b10 : w1.cell? ⟨w.heap.size, 10, none⟩ = some (.int .i64 t.change) := S1.box 10 _ rfl
      have b11 : w1.cell? ⟨w.heap.size, 11, none⟩ = some (.int .i64 t.passback) := S1.box 11 _ rfl
      have b12 : w1.cell? ⟨w.heap.size, 12, none⟩ = some (.int .i64 t.delay) := S1.box 12 _ rfl
      have b13 : w1.cell? ⟨w.heap.size, 13, none⟩ = some (.int .i64 t.threshold) := S1.box 13 _ rfl
      go_wp2_with fail
      refine R.mono ?_
      rintro e w2 ⟨rfl, hF⟩
      have S2 := S1.keep hF
      clear R hF S1 b0 b1 b2 b3 b4 b5 b6 b7 b8 b9 b10 b11 b12 b13
      have HS := hide S2
      have HR : Hid (rightE t = 70) := hide (by simp [rightE, hb1, hb2])
      clear h S2 hb1 hb2
      go_wp2
      refine leaves_cons (f := 19) (args := #[.pointer (some ⟨w.heap.size + 1, 0, none⟩)]) (by simp) (by simp [go_sem]) ?_
      refine (catch22 (w.heap.size + 1) 70 0 [] _ (unhide HS).res (unhide HS).fz).mono ?_
      rintro e u' w'' ⟨rfl, rfl, rfl⟩
      have hx := World.cell?_setCell_same _ _ (.int .i64 70) (unhide HS).res
      simp [Leaves, settle, results, Try.results11, go_sem, hx]
      exact ⟨(unhide HR).symm, (unhide HS).fr.setCell (p := ⟨w.heap.size + 1, 0, none⟩) (fun t => absurd t (by simp only []; omega)) _⟩
    | true =>
      have R := lookZones_any w1 A t (h.keep S1.fr) hb1
      rw [hb2, look_true] at R
      unfold tv tc at R
      have b0 : w1.cell? ⟨w.heap.size, 0, none⟩ = some (.slice A.aS t.st.length A.cS) := S1.box 0 _ rfl
      have b1 : w1.cell? ⟨w.heap.size, 1, none⟩ = some (.slice A.aP t.sp.length A.cP) := S1.box 1 _ rfl
      have b2 : w1.cell? ⟨w.heap.size, 2, none⟩ = some (.slice A.aB t.bd.length A.cB) := S1.box 2 _ rfl
      have b3 : w1.cell? ⟨w.heap.size, 3, none⟩ = some (.float .f64 t.off) := S1.box 3 _ rfl
      have b4 : w1.cell? ⟨w.heap.size, 4, none⟩ = some (.int .i64 t.bus) := S1.box 4 _ rfl
      have b5 : w1.cell? ⟨w.heap.size, 5, none⟩ = some (.int .i64 t.busDaily) := S1.box 5 _ rfl
      have b6 : w1.cell? ⟨w.heap.size, 6, none⟩ = some (.int .i64 t.busWeekly) := S1.box 6 _ rfl
      have b7 : w1.cell? ⟨w.heap.size, 7, none⟩ = some (.int .i64 t.hopper) := S1.box 7 _ rfl
      have b8 : w1.cell? ⟨w.heap.size, 8, none⟩ = some (.int .i64 t.most) := S1.box 8 _ rfl
      have b9 : w1.cell? ⟨w.heap.size, 9, none⟩ = some (.int .i64 t.longest) := S1.box 9 _ rfl
      have b10 : w1.cell? ⟨w.heap.size, 10, none⟩ = some (.int .i64 t.change) := S1.box 10 _ rfl
      have b11 : w1.cell? ⟨w.heap.size, 11, none⟩ = some (.int .i64 t.passback) := S1.box 11 _ rfl
      have b12 : w1.cell? ⟨w.heap.size, 12, none⟩ = some (.int .i64 t.delay) := S1.box 12 _ rfl
      have b13 : w1.cell? ⟨w.heap.size, 13, none⟩ = some (.int .i64 t.threshold) := S1.box 13 _ rfl
      go_wp2_with fail
      refine R.mono ?_
      rintro e w2 ⟨rfl, hF⟩
      have S2 := S1.keep hF
      clear R hF S1 b0 b1 b2 b3 b4 b5 b6 b7 b8 b9 b10 b11 b12 b13
      cases hb3 : pricesOk t with
      | false =>
        have R := lookPrices_any w2 A t (h.keep S2.fr)
        rw [hb3, look_false] at R
        unfold tv tc at R
        have b0 : w2.cell? ⟨w.heap.size, 0, none⟩ = some (.slice A.aS t.st.length A.cS) := S2.box 0 _ rfl
        have b1 : w2.cell? ⟨w.heap.size, 1, none⟩ = some (.slice A.aP t.sp.length A.cP) := S2.box 1 _ rfl
        have b2 : w2.cell? ⟨w.heap.size, 2, none⟩ = some (.slice A.aB t.bd.length A.cB) := S2.box 2 _ rfl
        have b3 : w2.cell? ⟨w.heap.size, 3, none⟩ = some (.float .f64 t.off) := S2.box 3 _ rfl
        have b4 : w2.cell? ⟨w.heap.size, 4, none⟩ = some (.int .i64 t.bus) := S2.box 4 _ rfl
        have b5 : w2.cell? ⟨w.heap.size, 5, none⟩ = some (.int .i64 t.busDaily) := S2.box 5 _ rfl
        have b6 : w2.cell? ⟨w.heap.size, 6, none⟩ = some (.int .i64 t.busWeekly) := S2.box 6 _ rfl
        have b7 : w2.cell? ⟨w.heap.size, 7, none⟩ = some (.int .i64 t.hopper) := S2.box 7 _ rfl
        have b8 : w2.cell? ⟨w.heap.size, 8, none⟩ = some (.int .i64 t.most) := S2.box 8 _ rfl
        have b9 : w2.cell? ⟨w.heap.size, 9, none⟩ = some (.int .i64 t.longest) := S2.box 9 _ rfl
        have b10 : w2.cell? ⟨w.heap.size, 10, none⟩ = some (.int .i64 t.change) := S2.box 10 _ rfl
        have b11 : w2.cell? ⟨w.heap.size, 11, none⟩ = some (.int .i64 t.passback) := S2.box 11 _ rfl
        have b12 : w2.cell? ⟨w.heap.size, 12, none⟩ = some (.int .i64 t.delay) := S2.box 12 _ rfl
        have b13 : w2.cell? ⟨w.heap.size, 13, none⟩ = some (.int .i64 t.threshold) := S2.box 13 _ rfl
        go_wp2_with fail
        refine R.mono ?_
        rintro e w3 ⟨rfl, hF⟩
        have S3 := S2.keep hF
        clear R hF S2 b0 b1 b2 b3 b4 b5 b6 b7 b8 b9 b10 b11 b12 b13
        have HS := hide S3
        have HR : Hid (rightE t = 50) := hide (by simp [rightE, hb1, hb2, hb3])
        clear h S3 hb1 hb2 hb3
        go_wp2
        refine leaves_cons (f := 19) (args := #[.pointer (some ⟨w.heap.size + 1, 0, none⟩)]) (by simp) (by simp [go_sem]) ?_
        refine (catch22 (w.heap.size + 1) 50 0 [] _ (unhide HS).res (unhide HS).fz).mono ?_
        rintro e u' w'' ⟨rfl, rfl, rfl⟩
        have hx := World.cell?_setCell_same _ _ (.int .i64 50) (unhide HS).res
        simp [Leaves, settle, results, Try.results11, go_sem, hx]
        exact ⟨(unhide HR).symm, (unhide HS).fr.setCell (p := ⟨w.heap.size + 1, 0, none⟩) (fun t => absurd t (by simp only []; omega)) _⟩
      | true =>
        have R := lookPrices_any w2 A t (h.keep S2.fr)
        rw [hb3, look_true] at R
        unfold tv tc at R
        have b0 : w2.cell? ⟨w.heap.size, 0, none⟩ = some (.slice A.aS t.st.length A.cS) := S2.box 0 _ rfl
        have b1 : w2.cell? ⟨w.heap.size, 1, none⟩ = some (.slice A.aP t.sp.length A.cP) := S2.box 1 _ rfl
        have b2 : w2.cell? ⟨w.heap.size, 2, none⟩ = some (.slice A.aB t.bd.length A.cB) := S2.box 2 _ rfl
        have b3 : w2.cell? ⟨w.heap.size, 3, none⟩ = some (.float .f64 t.off) := S2.box 3 _ rfl
        have b4 : w2.cell? ⟨w.heap.size, 4, none⟩ = some (.int .i64 t.bus) := S2.box 4 _ rfl
        have b5 : w2.cell? ⟨w.heap.size, 5, none⟩ = some (.int .i64 t.busDaily) := S2.box 5 _ rfl
        have b6 : w2.cell? ⟨w.heap.size, 6, none⟩ = some (.int .i64 t.busWeekly) := S2.box 6 _ rfl
        have b7 : w2.cell? ⟨w.heap.size, 7, none⟩ = some (.int .i64 t.hopper) := S2.box 7 _ rfl
        have b8 : w2.cell? ⟨w.heap.size, 8, none⟩ = some (.int .i64 t.most) := S2.box 8 _ rfl
        have b9 : w2.cell? ⟨w.heap.size, 9, none⟩ = some (.int .i64 t.longest) := S2.box 9 _ rfl
        have b10 : w2.cell? ⟨w.heap.size, 10, none⟩ = some (.int .i64 t.change) := S2.box 10 _ rfl
        have b11 : w2.cell? ⟨w.heap.size, 11, none⟩ = some (.int .i64 t.passback) := S2.box 11 _ rfl
        have b12 : w2.cell? ⟨w.heap.size, 12, none⟩ = some (.int .i64 t.delay) := S2.box 12 _ rfl
        have b13 : w2.cell? ⟨w.heap.size, 13, none⟩ = some (.int .i64 t.threshold) := S2.box 13 _ rfl
        go_wp2_with fail
        refine R.mono ?_
        rintro e w3 ⟨rfl, hF⟩
        have S3 := S2.keep hF
        clear R hF S2 b0 b1 b2 b3 b4 b5 b6 b7 b8 b9 b10 b11 b12 b13
        cases hb4 : withinOk t.sp with
        | false =>
          have R := lookWithin_any w3 A.aP A.cP t.sp (h.sp.keep S3.fr) h.lP
          rw [hb4, look_false] at R
          have b0 : w3.cell? ⟨w.heap.size, 0, none⟩ = some (.slice A.aS t.st.length A.cS) := S3.box 0 _ rfl
          have b1 : w3.cell? ⟨w.heap.size, 1, none⟩ = some (.slice A.aP t.sp.length A.cP) := S3.box 1 _ rfl
          have b2 : w3.cell? ⟨w.heap.size, 2, none⟩ = some (.slice A.aB t.bd.length A.cB) := S3.box 2 _ rfl
          have b3 : w3.cell? ⟨w.heap.size, 3, none⟩ = some (.float .f64 t.off) := S3.box 3 _ rfl
          have b4 : w3.cell? ⟨w.heap.size, 4, none⟩ = some (.int .i64 t.bus) := S3.box 4 _ rfl
          have b5 : w3.cell? ⟨w.heap.size, 5, none⟩ = some (.int .i64 t.busDaily) := S3.box 5 _ rfl
          have b6 : w3.cell? ⟨w.heap.size, 6, none⟩ = some (.int .i64 t.busWeekly) := S3.box 6 _ rfl
          have b7 : w3.cell? ⟨w.heap.size, 7, none⟩ = some (.int .i64 t.hopper) := S3.box 7 _ rfl
          have b8 : w3.cell? ⟨w.heap.size, 8, none⟩ = some (.int .i64 t.most) := S3.box 8 _ rfl
          have b9 : w3.cell? ⟨w.heap.size, 9, none⟩ = some (.int .i64 t.longest) := S3.box 9 _ rfl
          have b10 : w3.cell? ⟨w.heap.size, 10, none⟩ = some (.int .i64 t.change) := S3.box 10 _ rfl
          have b11 : w3.cell? ⟨w.heap.size, 11, none⟩ = some (.int .i64 t.passback) := S3.box 11 _ rfl
          have b12 : w3.cell? ⟨w.heap.size, 12, none⟩ = some (.int .i64 t.delay) := S3.box 12 _ rfl
          have b13 : w3.cell? ⟨w.heap.size, 13, none⟩ = some (.int .i64 t.threshold) := S3.box 13 _ rfl
          go_wp2_with fail
          refine R.mono ?_
          rintro e w4 ⟨rfl, hF⟩
          have S4 := S3.keep hF
          clear R hF S3 b0 b1 b2 b3 b4 b5 b6 b7 b8 b9 b10 b11 b12 b13
          have HS := hide S4
          have HR : Hid (rightE t = 70) := hide (by simp [rightE, hb1, hb2, hb3, hb4])
          clear h S4 hb1 hb2 hb3 hb4
          go_wp2
          refine leaves_cons (f := 19) (args := #[.pointer (some ⟨w.heap.size + 1, 0, none⟩)]) (by simp) (by simp [go_sem]) ?_
          refine (catch22 (w.heap.size + 1) 70 0 [] _ (unhide HS).res (unhide HS).fz).mono ?_
          rintro e u' w'' ⟨rfl, rfl, rfl⟩
          have hx := World.cell?_setCell_same _ _ (.int .i64 70) (unhide HS).res
          simp [Leaves, settle, results, Try.results11, go_sem, hx]
          exact ⟨(unhide HR).symm, (unhide HS).fr.setCell (p := ⟨w.heap.size + 1, 0, none⟩) (fun t => absurd t (by simp only []; omega)) _⟩
        | true =>
          have R := lookWithin_any w3 A.aP A.cP t.sp (h.sp.keep S3.fr) h.lP
          rw [hb4, look_true] at R
          have b0 : w3.cell? ⟨w.heap.size, 0, none⟩ = some (.slice A.aS t.st.length A.cS) := S3.box 0 _ rfl
          have b1 : w3.cell? ⟨w.heap.size, 1, none⟩ = some (.slice A.aP t.sp.length A.cP) := S3.box 1 _ rfl
          have b2 : w3.cell? ⟨w.heap.size, 2, none⟩ = some (.slice A.aB t.bd.length A.cB) := S3.box 2 _ rfl
          have b3 : w3.cell? ⟨w.heap.size, 3, none⟩ = some (.float .f64 t.off) := S3.box 3 _ rfl
          have b4 : w3.cell? ⟨w.heap.size, 4, none⟩ = some (.int .i64 t.bus) := S3.box 4 _ rfl
          have b5 : w3.cell? ⟨w.heap.size, 5, none⟩ = some (.int .i64 t.busDaily) := S3.box 5 _ rfl
          have b6 : w3.cell? ⟨w.heap.size, 6, none⟩ = some (.int .i64 t.busWeekly) := S3.box 6 _ rfl
          have b7 : w3.cell? ⟨w.heap.size, 7, none⟩ = some (.int .i64 t.hopper) := S3.box 7 _ rfl
          have b8 : w3.cell? ⟨w.heap.size, 8, none⟩ = some (.int .i64 t.most) := S3.box 8 _ rfl
          have b9 : w3.cell? ⟨w.heap.size, 9, none⟩ = some (.int .i64 t.longest) := S3.box 9 _ rfl
          have b10 : w3.cell? ⟨w.heap.size, 10, none⟩ = some (.int .i64 t.change) := S3.box 10 _ rfl
          have b11 : w3.cell? ⟨w.heap.size, 11, none⟩ = some (.int .i64 t.passback) := S3.box 11 _ rfl
          have b12 : w3.cell? ⟨w.heap.size, 12, none⟩ = some (.int .i64 t.delay) := S3.box 12 _ rfl
          have b13 : w3.cell? ⟨w.heap.size, 13, none⟩ = some (.int .i64 t.threshold) := S3.box 13 _ rfl
          go_wp2_with fail
          refine R.mono ?_
          rintro e w4 ⟨rfl, hF⟩
          have S4 := S3.keep hF
          clear R hF S3 b0 b1 b2 b3 b4 b5 b6 b7 b8 b9 b10 b11 b12 b13
          cases hb5 : bandsOk t.bd with
          | false =>
            have R := lookBands_any w4 A.aB A.cB t.bd (h.bd.keep S4.fr) h.lB
            rw [hb5, look_false] at R
            have b0 : w4.cell? ⟨w.heap.size, 0, none⟩ = some (.slice A.aS t.st.length A.cS) := S4.box 0 _ rfl
            have b1 : w4.cell? ⟨w.heap.size, 1, none⟩ = some (.slice A.aP t.sp.length A.cP) := S4.box 1 _ rfl
            have b2 : w4.cell? ⟨w.heap.size, 2, none⟩ = some (.slice A.aB t.bd.length A.cB) := S4.box 2 _ rfl
            have b3 : w4.cell? ⟨w.heap.size, 3, none⟩ = some (.float .f64 t.off) := S4.box 3 _ rfl
            have b4 : w4.cell? ⟨w.heap.size, 4, none⟩ = some (.int .i64 t.bus) := S4.box 4 _ rfl
            have b5 : w4.cell? ⟨w.heap.size, 5, none⟩ = some (.int .i64 t.busDaily) := S4.box 5 _ rfl
            have b6 : w4.cell? ⟨w.heap.size, 6, none⟩ = some (.int .i64 t.busWeekly) := S4.box 6 _ rfl
            have b7 : w4.cell? ⟨w.heap.size, 7, none⟩ = some (.int .i64 t.hopper) := S4.box 7 _ rfl
            have b8 : w4.cell? ⟨w.heap.size, 8, none⟩ = some (.int .i64 t.most) := S4.box 8 _ rfl
            have b9 : w4.cell? ⟨w.heap.size, 9, none⟩ = some (.int .i64 t.longest) := S4.box 9 _ rfl
            have b10 : w4.cell? ⟨w.heap.size, 10, none⟩ = some (.int .i64 t.change) := S4.box 10 _ rfl
            have b11 : w4.cell? ⟨w.heap.size, 11, none⟩ = some (.int .i64 t.passback) := S4.box 11 _ rfl
            have b12 : w4.cell? ⟨w.heap.size, 12, none⟩ = some (.int .i64 t.delay) := S4.box 12 _ rfl
            have b13 : w4.cell? ⟨w.heap.size, 13, none⟩ = some (.int .i64 t.threshold) := S4.box 13 _ rfl
            go_wp2_with fail
            refine R.mono ?_
            rintro e w5 ⟨rfl, hF⟩
            have S5 := S4.keep hF
            clear R hF S4 b0 b1 b2 b3 b4 b5 b6 b7 b8 b9 b10 b11 b12 b13
            have HS := hide S5
            have HR : Hid (rightE t = 70) := hide (by simp [rightE, hb1, hb2, hb3, hb4, hb5])
            clear h S5 hb1 hb2 hb3 hb4 hb5
            go_wp2
            refine leaves_cons (f := 19) (args := #[.pointer (some ⟨w.heap.size + 1, 0, none⟩)]) (by simp) (by simp [go_sem]) ?_
            refine (catch22 (w.heap.size + 1) 70 0 [] _ (unhide HS).res (unhide HS).fz).mono ?_
            rintro e u' w'' ⟨rfl, rfl, rfl⟩
            have hx := World.cell?_setCell_same _ _ (.int .i64 70) (unhide HS).res
            simp [Leaves, settle, results, Try.results11, go_sem, hx]
            exact ⟨(unhide HR).symm, (unhide HS).fr.setCell (p := ⟨w.heap.size + 1, 0, none⟩) (fun t => absurd t (by simp only []; omega)) _⟩
          | true =>
            have R := lookBands_any w4 A.aB A.cB t.bd (h.bd.keep S4.fr) h.lB
            rw [hb5, look_true] at R
            have b0 : w4.cell? ⟨w.heap.size, 0, none⟩ = some (.slice A.aS t.st.length A.cS) := S4.box 0 _ rfl
            have b1 : w4.cell? ⟨w.heap.size, 1, none⟩ = some (.slice A.aP t.sp.length A.cP) := S4.box 1 _ rfl
            have b2 : w4.cell? ⟨w.heap.size, 2, none⟩ = some (.slice A.aB t.bd.length A.cB) := S4.box 2 _ rfl
            have b3 : w4.cell? ⟨w.heap.size, 3, none⟩ = some (.float .f64 t.off) := S4.box 3 _ rfl
            have b4 : w4.cell? ⟨w.heap.size, 4, none⟩ = some (.int .i64 t.bus) := S4.box 4 _ rfl
            have b5 : w4.cell? ⟨w.heap.size, 5, none⟩ = some (.int .i64 t.busDaily) := S4.box 5 _ rfl
            have b6 : w4.cell? ⟨w.heap.size, 6, none⟩ = some (.int .i64 t.busWeekly) := S4.box 6 _ rfl
            have b7 : w4.cell? ⟨w.heap.size, 7, none⟩ = some (.int .i64 t.hopper) := S4.box 7 _ rfl
            have b8 : w4.cell? ⟨w.heap.size, 8, none⟩ = some (.int .i64 t.most) := S4.box 8 _ rfl
            have b9 : w4.cell? ⟨w.heap.size, 9, none⟩ = some (.int .i64 t.longest) := S4.box 9 _ rfl
            have b10 : w4.cell? ⟨w.heap.size, 10, none⟩ = some (.int .i64 t.change) := S4.box 10 _ rfl
            have b11 : w4.cell? ⟨w.heap.size, 11, none⟩ = some (.int .i64 t.passback) := S4.box 11 _ rfl
            have b12 : w4.cell? ⟨w.heap.size, 12, none⟩ = some (.int .i64 t.delay) := S4.box 12 _ rfl
            have b13 : w4.cell? ⟨w.heap.size, 13, none⟩ = some (.int .i64 t.threshold) := S4.box 13 _ rfl
            go_wp2_with fail
            refine R.mono ?_
            rintro e w5 ⟨rfl, hF⟩
            have S5 := S4.keep hF
            clear R hF S4 b0 b1 b2 b3 b4 b5 b6 b7 b8 b9 b10 b11 b12 b13
            cases hb6 : rate t.off with
            | false =>
              have R := rate_any w5 t.off
              rw [hb6] at R
              have b0 : w5.cell? ⟨w.heap.size, 0, none⟩ = some (.slice A.aS t.st.length A.cS) := S5.box 0 _ rfl
              have b1 : w5.cell? ⟨w.heap.size, 1, none⟩ = some (.slice A.aP t.sp.length A.cP) := S5.box 1 _ rfl
              have b2 : w5.cell? ⟨w.heap.size, 2, none⟩ = some (.slice A.aB t.bd.length A.cB) := S5.box 2 _ rfl
              have b3 : w5.cell? ⟨w.heap.size, 3, none⟩ = some (.float .f64 t.off) := S5.box 3 _ rfl
              have b4 : w5.cell? ⟨w.heap.size, 4, none⟩ = some (.int .i64 t.bus) := S5.box 4 _ rfl
              have b5 : w5.cell? ⟨w.heap.size, 5, none⟩ = some (.int .i64 t.busDaily) := S5.box 5 _ rfl
              have b6 : w5.cell? ⟨w.heap.size, 6, none⟩ = some (.int .i64 t.busWeekly) := S5.box 6 _ rfl
              have b7 : w5.cell? ⟨w.heap.size, 7, none⟩ = some (.int .i64 t.hopper) := S5.box 7 _ rfl
              have b8 : w5.cell? ⟨w.heap.size, 8, none⟩ = some (.int .i64 t.most) := S5.box 8 _ rfl
              have b9 : w5.cell? ⟨w.heap.size, 9, none⟩ = some (.int .i64 t.longest) := S5.box 9 _ rfl
              have b10 : w5.cell? ⟨w.heap.size, 10, none⟩ = some (.int .i64 t.change) := S5.box 10 _ rfl
              have b11 : w5.cell? ⟨w.heap.size, 11, none⟩ = some (.int .i64 t.passback) := S5.box 11 _ rfl
              have b12 : w5.cell? ⟨w.heap.size, 12, none⟩ = some (.int .i64 t.delay) := S5.box 12 _ rfl
              have b13 : w5.cell? ⟨w.heap.size, 13, none⟩ = some (.int .i64 t.threshold) := S5.box 13 _ rfl
              go_wp2_with fail
              refine R.mono ?_
              rintro e w6' ⟨rfl, rfl⟩
              clear R
              go_wp2_with fail
              refine (must_noT 51 _).mono ?_
              rintro e w6 ⟨rfl, rfl⟩
              clear b0 b1 b2 b3 b4 b5 b6 b7 b8 b9 b10 b11 b12 b13
              have HS := hide S5
              have HR : Hid (rightE t = 51) := hide (by simp [rightE, hb1, hb2, hb3, hb4, hb5, hb6])
              clear h S5 hb1 hb2 hb3 hb4 hb5 hb6
              go_wp2
              refine leaves_cons (f := 19) (args := #[.pointer (some ⟨w.heap.size + 1, 0, none⟩)]) (by simp) (by simp [go_sem]) ?_
              refine (catch22 (w.heap.size + 1) 51 0 [] _ (unhide HS).res (unhide HS).fz).mono ?_
              rintro e u' w'' ⟨rfl, rfl, rfl⟩
              have hx := World.cell?_setCell_same _ _ (.int .i64 51) (unhide HS).res
              simp [Leaves, settle, results, Try.results11, go_sem, hx]
              exact ⟨(unhide HR).symm, (unhide HS).fr.setCell (p := ⟨w.heap.size + 1, 0, none⟩) (fun t => absurd t (by simp only []; omega)) _⟩
            | true =>
              have R := rate_any w5 t.off
              rw [hb6] at R
              have b0 : w5.cell? ⟨w.heap.size, 0, none⟩ = some (.slice A.aS t.st.length A.cS) := S5.box 0 _ rfl
              have b1 : w5.cell? ⟨w.heap.size, 1, none⟩ = some (.slice A.aP t.sp.length A.cP) := S5.box 1 _ rfl
              have b2 : w5.cell? ⟨w.heap.size, 2, none⟩ = some (.slice A.aB t.bd.length A.cB) := S5.box 2 _ rfl
              have b3 : w5.cell? ⟨w.heap.size, 3, none⟩ = some (.float .f64 t.off) := S5.box 3 _ rfl
              have b4 : w5.cell? ⟨w.heap.size, 4, none⟩ = some (.int .i64 t.bus) := S5.box 4 _ rfl
              have b5 : w5.cell? ⟨w.heap.size, 5, none⟩ = some (.int .i64 t.busDaily) := S5.box 5 _ rfl
              have b6 : w5.cell? ⟨w.heap.size, 6, none⟩ = some (.int .i64 t.busWeekly) := S5.box 6 _ rfl
              have b7 : w5.cell? ⟨w.heap.size, 7, none⟩ = some (.int .i64 t.hopper) := S5.box 7 _ rfl
              have b8 : w5.cell? ⟨w.heap.size, 8, none⟩ = some (.int .i64 t.most) := S5.box 8 _ rfl
              have b9 : w5.cell? ⟨w.heap.size, 9, none⟩ = some (.int .i64 t.longest) := S5.box 9 _ rfl
              have b10 : w5.cell? ⟨w.heap.size, 10, none⟩ = some (.int .i64 t.change) := S5.box 10 _ rfl
              have b11 : w5.cell? ⟨w.heap.size, 11, none⟩ = some (.int .i64 t.passback) := S5.box 11 _ rfl
              have b12 : w5.cell? ⟨w.heap.size, 12, none⟩ = some (.int .i64 t.delay) := S5.box 12 _ rfl
              have b13 : w5.cell? ⟨w.heap.size, 13, none⟩ = some (.int .i64 t.threshold) := S5.box 13 _ rfl
              go_wp2_with fail
              refine R.mono ?_
              rintro e w6' ⟨rfl, rfl⟩
              clear R
              go_wp2_with fail
              refine (must_okT 51 _).mono ?_
              rintro e w6 ⟨rfl, rfl⟩
              clear b0 b1 b2 b3 b4 b5 b6 b7 b8 b9 b10 b11 b12 b13
              have S6 := S5
              clear S5
              cases hb7 : minutesOk t with
              | false =>
                have R := lookMinutes_any w6 A t
                rw [hb7, look_false] at R
                unfold tv tc at R
                have b0 : w6.cell? ⟨w.heap.size, 0, none⟩ = some (.slice A.aS t.st.length A.cS) := S6.box 0 _ rfl
                have b1 : w6.cell? ⟨w.heap.size, 1, none⟩ = some (.slice A.aP t.sp.length A.cP) := S6.box 1 _ rfl
                have b2 : w6.cell? ⟨w.heap.size, 2, none⟩ = some (.slice A.aB t.bd.length A.cB) := S6.box 2 _ rfl
                have b3 : w6.cell? ⟨w.heap.size, 3, none⟩ = some (.float .f64 t.off) := S6.box 3 _ rfl
                have b4 : w6.cell? ⟨w.heap.size, 4, none⟩ = some (.int .i64 t.bus) := S6.box 4 _ rfl
                have b5 : w6.cell? ⟨w.heap.size, 5, none⟩ = some (.int .i64 t.busDaily) := S6.box 5 _ rfl
                have b6 : w6.cell? ⟨w.heap.size, 6, none⟩ = some (.int .i64 t.busWeekly) := S6.box 6 _ rfl
                have b7 : w6.cell? ⟨w.heap.size, 7, none⟩ = some (.int .i64 t.hopper) := S6.box 7 _ rfl
                have b8 : w6.cell? ⟨w.heap.size, 8, none⟩ = some (.int .i64 t.most) := S6.box 8 _ rfl
                have b9 : w6.cell? ⟨w.heap.size, 9, none⟩ = some (.int .i64 t.longest) := S6.box 9 _ rfl
                have b10 : w6.cell? ⟨w.heap.size, 10, none⟩ = some (.int .i64 t.change) := S6.box 10 _ rfl
                have b11 : w6.cell? ⟨w.heap.size, 11, none⟩ = some (.int .i64 t.passback) := S6.box 11 _ rfl
                have b12 : w6.cell? ⟨w.heap.size, 12, none⟩ = some (.int .i64 t.delay) := S6.box 12 _ rfl
                have b13 : w6.cell? ⟨w.heap.size, 13, none⟩ = some (.int .i64 t.threshold) := S6.box 13 _ rfl
                go_wp2_with fail
                refine R.mono ?_
                rintro e w7 ⟨rfl, hF⟩
                have S7 := S6.keep hF
                clear R hF S6 b0 b1 b2 b3 b4 b5 b6 b7 b8 b9 b10 b11 b12 b13
                have HS := hide S7
                have HR : Hid (rightE t = 70) := hide (by simp [rightE, hb1, hb2, hb3, hb4, hb5, hb6, hb7])
                clear h S7 hb1 hb2 hb3 hb4 hb5 hb6 hb7
                go_wp2
                refine leaves_cons (f := 19) (args := #[.pointer (some ⟨w.heap.size + 1, 0, none⟩)]) (by simp) (by simp [go_sem]) ?_
                refine (catch22 (w.heap.size + 1) 70 0 [] _ (unhide HS).res (unhide HS).fz).mono ?_
                rintro e u' w'' ⟨rfl, rfl, rfl⟩
                have hx := World.cell?_setCell_same _ _ (.int .i64 70) (unhide HS).res
                simp [Leaves, settle, results, Try.results11, go_sem, hx]
                exact ⟨(unhide HR).symm, (unhide HS).fr.setCell (p := ⟨w.heap.size + 1, 0, none⟩) (fun t => absurd t (by simp only []; omega)) _⟩
              | true =>
                have R := lookMinutes_any w6 A t
                rw [hb7, look_true] at R
                unfold tv tc at R
                have b0 : w6.cell? ⟨w.heap.size, 0, none⟩ = some (.slice A.aS t.st.length A.cS) := S6.box 0 _ rfl
                have b1 : w6.cell? ⟨w.heap.size, 1, none⟩ = some (.slice A.aP t.sp.length A.cP) := S6.box 1 _ rfl
                have b2 : w6.cell? ⟨w.heap.size, 2, none⟩ = some (.slice A.aB t.bd.length A.cB) := S6.box 2 _ rfl
                have b3 : w6.cell? ⟨w.heap.size, 3, none⟩ = some (.float .f64 t.off) := S6.box 3 _ rfl
                have b4 : w6.cell? ⟨w.heap.size, 4, none⟩ = some (.int .i64 t.bus) := S6.box 4 _ rfl
                have b5 : w6.cell? ⟨w.heap.size, 5, none⟩ = some (.int .i64 t.busDaily) := S6.box 5 _ rfl
                have b6 : w6.cell? ⟨w.heap.size, 6, none⟩ = some (.int .i64 t.busWeekly) := S6.box 6 _ rfl
                have b7 : w6.cell? ⟨w.heap.size, 7, none⟩ = some (.int .i64 t.hopper) := S6.box 7 _ rfl
                have b8 : w6.cell? ⟨w.heap.size, 8, none⟩ = some (.int .i64 t.most) := S6.box 8 _ rfl
                have b9 : w6.cell? ⟨w.heap.size, 9, none⟩ = some (.int .i64 t.longest) := S6.box 9 _ rfl
                have b10 : w6.cell? ⟨w.heap.size, 10, none⟩ = some (.int .i64 t.change) := S6.box 10 _ rfl
                have b11 : w6.cell? ⟨w.heap.size, 11, none⟩ = some (.int .i64 t.passback) := S6.box 11 _ rfl
                have b12 : w6.cell? ⟨w.heap.size, 12, none⟩ = some (.int .i64 t.delay) := S6.box 12 _ rfl
                have b13 : w6.cell? ⟨w.heap.size, 13, none⟩ = some (.int .i64 t.threshold) := S6.box 13 _ rfl
                go_wp2_with fail
                refine R.mono ?_
                rintro e w7 ⟨rfl, hF⟩
                have S7 := S6.keep hF
                clear R hF S6 b0 b1 b2 b3 b4 b5 b6 b7 b8 b9 b10 b11 b12 b13
                have HS := hide S7
                have HR : Hid (rightE t = 0) := hide (by simp [rightE, hb1, hb2, hb3, hb4, hb5, hb6, hb7])
                have c0 := S7.res
                have f0 := S7.fz
                clear h S7 hb1 hb2 hb3 hb4 hb5 hb6 hb7
                go_wp2
                refine leaves_cons (f := 19) (args := #[.pointer (some ⟨w.heap.size + 1, 0, none⟩)]) (by simp) (by simp [go_sem]) ?_
                refine (idle22 (w.heap.size + 1) _).mono ?_
                rintro e u' w'' ⟨rfl, rfl, rfl⟩
                have hx := World.cell?_setCell_same _ _ (.int .i64 0) (unhide HS).res
                simp [Leaves, settle, results, Try.results11, go_sem, hx]
                exact ⟨(unhide HR).symm, (unhide HS).fr.setCell (p := ⟨w.heap.size + 1, 0, none⟩) (fun t => absurd t (by simp only []; omega)) _⟩

end Go.Proofs.Ytjgbllfppomcmaa

