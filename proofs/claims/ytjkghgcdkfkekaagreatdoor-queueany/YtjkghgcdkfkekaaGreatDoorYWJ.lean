import Derived.Test.YtjkghgcdkfkekaaGreatDoorYWI
/- Contract: Rewrite. -/
namespace Go.Proofs.YtjkghgcdkfkekaaGreatDoor
open Go.RowKit

/-- What Rewrite makes. -/
def RewPost (w : World) (R : Nat → Nat) (l p b : Nat) (d : Dk) (num : Nat) (rs : List Bs) (G0 h0 a0 : Nat) (e : Ending) (w' : World) : Prop :=
  ∃ G : Nat, G0 < G ∧ G ≤ G0 + 1 + hlf d.many ∧ (∀ i, i < hlf d.many → mrk (d.look (2 + (1 - h0) * hlf d.many + i)) ≠ G) ∧
    ∃ D : Dk × Bool, D = d.run (anewActs (2 + (1 - h0) * hlf d.many) G rs (1 - a0) (hsec G (1 - h0))) ∧ e = .returned (if D.2 then errV 5 else .nilIface) ∧
      ∃ R' cs', DAt w' R' b D.1 ∧ UpR w R R' ∧ Fr (fun k => DS R k ∨ k = l) w w' ∧ (D.2 = false → LogAt w' R' l cs' p (2 + (1 - h0) * hlf d.many) (hlf d.many) G rs (num + 1))

theorem mayB_many (m : Nat) (h4 : 4 ≤ m) (hm : m ≤ 1048576) : mayB (m : Int) = true := by
  unfold mayB; simp; omega

set_option maxHeartbeats 1000000 in
set_option maxRecDepth 20000 in
theorem lrewrite_any (w : World) (R : Nat → Nat) (l : Nat) (cs : Array Value) (p b : Nat) (d : Dk) (num : Nat) (hT : TabR w R) (hl : LogB w R l cs p num) (hk : Dsk w R p b d.many) (hD : DAt w R b d) (hup : d.down = false) (rs : List Bs) (hcnt : d.cnt + d.wait.length + 2 * nputs rs rs.length + 600000 < 576460752303423488 ∧ d.wait.length + 2 * nputs rs rs.length + 600000 < 2199023255552) (h4 : 4 ≤ d.many) (hm : d.many ≤ 1048576) (hnum : num < 4611686018427387904)
    (G0 h0 a0 : Nat) (hho : hold d.look = (G0, h0, a0)) (ro : Option Addr) (rc : Nat) (hR : RecsP (fun k => R k = 0) w ro rc rs) (hfit : (strm rs).length ≤ 504 * hlf d.many) :
    Calls Tryz.prog 28 #[.pointer (some ⟨l, 0, none⟩), .slice ro rs.length rc] w (RewPost w R l p b d num rs G0 h0 a0) := by
  have hb := hl.box
  have ll := hb.lt
  have k0 : w.cell? ⟨l, 0, none⟩ = some (.pointer (some ⟨p, 0, none⟩)) := (hb.cell 0).trans hl.c0
  have k9 : w.cell? ⟨l, 9, none⟩ = some (.bool false) := (hb.cell 9).trans hl.c9
  have hF1 : Fr (fun _ => False) w (w.alloc (.cells #[.nilIface] 34)) := (Fr.refl _ _).alloc _
  have hg1 := Bx.new w #[.nilIface] 34
  have hz : R w.heap.size = 0 := hD.zero _ (Nat.le_refl _)
  have hk1 := hk.frame hF1 (fun _ _ t => t) (UpR.refl _ _)
  have hR1 := hR.frame hF1 (fun _ _ t => t)
  have SE := sectors_any (w.alloc (.cells #[.nilIface] 34)) R p b d.many hk1
  have FI := fits_any (w.alloc (.cells #[.nilIface] 34)) (d.many : Int) ro rc rs hR1.recs
  have AN := anew_any (w.alloc (.cells #[.nilIface] 34)) R l cs p b d num (hT.frame hF1 (fun _ t => t.elim) (UpR.refl _ _)) (hl.frame hF1 (fun t => t) (UpR.refl _ _)) hk1 (hD.frame hF1 (fun _ t => t.elim)) hup rs hcnt h4 hm hnum G0 h0 a0 hho ro rc hR1 hfit
  have hfi : fitsF (d.many : Int) rs = true := by rw [fitsF, mayB_many _ h4 hm, Int.toNat_natCast, decide_eq_true hfit]; rfl
  rw [hfi] at FI
  have HH := hide (And.intro hl (And.intro hb (And.intro hF1 (And.intro hg1 (And.intro hz (And.intro SE (And.intro FI AN)))))))
  clear hT hl hk hD hup hcnt h4 hm hnum hho hR hfit hb hF1 hg1 hz hk1 hR1 SE FI AN hfi
  go_enter_defers Tryz.func28, Tryz.ntmps28
  go_wp2_with fail
  refine (unhide HH).2.2.2.2.2.1.mono ?_
  rintro e w2 ⟨rfl, rfl⟩
  go_wp2_with fail
  refine (unhide HH).2.2.2.2.2.2.1.mono ?_
  rintro e w2 ⟨rfl, rfl⟩
  go_wp2_with fail
  refine (unhide HH).2.2.2.2.2.2.2.mono ?_
  rintro e w3 ⟨G, g1, g2, g3, D, hDD, rfl, R3, cs3, j1, j2, j3, j4, j5⟩
  obtain ⟨hl, hb, hF1, hg1, hz, SE, FI, AN⟩ := unhide HH
  have hg3 := hg1.frame j3 (fun t => by rcases t with t | t; (· have := t.1; omega); omega)
  have hF3 : Fr (fun k => DS R k ∨ k = l) w w3 := (hF1.mono (fun _ _ t => t.elim)).trans j3 (fun _ _ t => t)
  have hU3 : UpR w R R3 := (UpR.refl w R).trans j2 hF1.size
  have hz3 : R3 w.heap.size = 0 := by rw [j2 _ hg1.lt]; exact hz
  have kg : w3.cell? ⟨w.heap.size, 0, none⟩ = some .nilIface := hg3.cell 0
  have fg : w3.frozen? ⟨w.heap.size, 0, none⟩ = false := hg3.frozen 0
  cases hr : D.2 with
  | true =>
    have hl3 := j5 hr
    have hg4 := hg3.setCell 0 (errV 5)
    have hFs : Fr (fun k => k = w.heap.size) w3 (w3.setCell ⟨w.heap.size, 0, none⟩ (errV 5)) := (Fr.refl (fun k => k = w.heap.size) w3).setCell (p := ⟨w.heap.size, 0, none⟩) (fun _ => rfl) _
    have hb4 := hl3.box.setOther (g := w.heap.size) (by omega) 0 (errV 5)
    have hF4 : Fr (fun k => DS R k ∨ k = l) w (w3.setCell ⟨w.heap.size, 0, none⟩ (errV 5)) := hF3.setCell (p := ⟨w.heap.size, 0, none⟩) (fun t => absurd t (Nat.lt_irrefl _)) _
    have hD4 : DAt (w3.setCell ⟨w.heap.size, 0, none⟩ (errV 5)) R3 b D.1 := j1.frame hFs (fun k hk => by subst hk; left; exact hz3)
    have HE := hide (And.intro hl (And.intro hU3 (And.intro hg4 (And.intro hb4 (And.intro hF4 (And.intro hD4 (And.intro hl3 (And.intro g1 (And.intro g2 (And.intro g3 hDD))))))))))
    have HRR := hide hr
    simp only [if_true]
    clear hl hb hF1 hg1 hz SE FI AN j1 j2 j3 j4 j5 hg3 hF3 hU3 hz3 hl3 hg4 hFs hb4 hF4 hD4 hr g1 g2 g3 hDD HH
    go_wp2
    obtain ⟨hl, hU3, hg4, hb4, hF4, hD4, hl3, g1, g2, g3, hDD⟩ := unhide HE
    have hr := unhide HRR
    generalize w3.setCell ⟨w.heap.size, 0, none⟩ (errV 5) = w4 at *
    have kg4 : w4.cell? ⟨w.heap.size, 0, none⟩ = some (errV 5) := hg4.cell 0
    refine leaves_cons (f := 42) (args := #[.pointer (some ⟨l, 0, none⟩), .pointer (some ⟨w.heap.size, 0, none⟩)]) (by simp) (by simp [go_sem]) ?_
    refine (notice_down .returning w4 l w.heap.size cs3 _ hb4 _ hl3.c9 kg4).mono ?_
    rintro e u' w5 ⟨rfl, rfl, rfl⟩
    have hF5 : Fr (fun k => k = l) w4 (w4.setCell ⟨l, 9, none⟩ (.bool true)) := (Fr.refl (fun k => k = l) w4).setCell (p := ⟨l, 9, none⟩) (fun _ => rfl) _
    have kg5 : (w4.setCell ⟨l, 9, none⟩ (.bool true)).cell? ⟨w.heap.size, 0, none⟩ = some (errV 5) := (hF5.cell (a := ⟨w.heap.size, 0, none⟩) hg4.lt (by show ¬ w.heap.size = l; omega)).trans kg4
    refine ⟨errV 5, by simp [results, Tryz.results28, go_sem, kg5], G, g1, g2, g3, D, hDD, by rw [hr]; rfl, R3, cs3, hD4.frame hF5 (fun k hk => by subst hk; right; rw [hU3 k ll, hl.role]; omega), hU3, hF4.trans hF5 (fun _ _ t => Or.inr t), fun h => by rw [hr] at h; cases h⟩
  | false =>
    have hl3 := j4 hr
    have hg4 := hg3.setCell 0 .nilIface
    have hFs : Fr (fun k => k = w.heap.size) w3 (w3.setCell ⟨w.heap.size, 0, none⟩ .nilIface) := (Fr.refl (fun k => k = w.heap.size) w3).setCell (p := ⟨w.heap.size, 0, none⟩) (fun _ => rfl) _
    have hF4 : Fr (fun k => DS R k ∨ k = l) w (w3.setCell ⟨w.heap.size, 0, none⟩ .nilIface) := hF3.setCell (p := ⟨w.heap.size, 0, none⟩) (fun t => absurd t (Nat.lt_irrefl _)) _
    have hD4 : DAt (w3.setCell ⟨w.heap.size, 0, none⟩ .nilIface) R3 b D.1 := j1.frame hFs (fun k hk => by subst hk; left; exact hz3)
    have hL4 : LogAt (w3.setCell ⟨w.heap.size, 0, none⟩ .nilIface) R3 l cs3 p _ _ G rs (num + 1) := hl3.frame hFs (fun k hk t => by rw [t, hz3] at hk; omega) (UpR.refl _ _)
    have HE := hide (And.intro hl (And.intro hU3 (And.intro hg4 (And.intro hF4 (And.intro hD4 (And.intro hL4 (And.intro g1 (And.intro g2 (And.intro g3 hDD)))))))))
    have HRR := hide hr
    simp only [if_false, Bool.false_eq_true]
    clear hl hb hF1 hg1 hz SE FI AN j1 j2 j3 j4 j5 hg3 hF3 hU3 hz3 hl3 hg4 hFs hF4 hD4 hL4 hr g1 g2 g3 hDD HH
    go_wp2
    obtain ⟨hl, hU3, hg4, hF4, hD4, hL4, g1, g2, g3, hDD⟩ := unhide HE
    have hr := unhide HRR
    generalize w3.setCell ⟨w.heap.size, 0, none⟩ .nilIface = w4 at *
    have kg4 : w4.cell? ⟨w.heap.size, 0, none⟩ = some .nilIface := hg4.cell 0
    refine leaves_cons (f := 42) (args := #[.pointer (some ⟨l, 0, none⟩), .pointer (some ⟨w.heap.size, 0, none⟩)]) (by simp) (by simp [go_sem]) ?_
    refine (notice_nil .returning w4 l w.heap.size kg4).mono ?_
    rintro e u' w5 ⟨rfl, rfl, rfl⟩
    exact ⟨.nilIface, by simp [results, Tryz.results28, go_sem, kg4], G, g1, g2, g3, D, hDD, by rw [hr]; rfl, R3, cs3, hD4, hU3, hF4, fun _ => hL4⟩

set_option maxHeartbeats 1000000 in
set_option maxRecDepth 20000 in
theorem lrewrite_full (w : World) (R : Nat → Nat) (l : Nat) (cs : Array Value) (p b many : Nat) (num : Nat) (hl : LogB w R l cs p num) (hk : Dsk w R p b many) (rs : List Bs) (ro : Option Addr) (rc : Nat) (hR : RecsP (fun k => R k = 0) w ro rc rs) (hfit : 504 * hlf many < (strm rs).length) :
    Calls Tryz.prog 28 #[.pointer (some ⟨l, 0, none⟩), .slice ro rs.length rc] w fun e w' => e = .returned (errV 91) ∧ Fr (fun _ => False) w w' := by
  have hb := hl.box
  have ll := hb.lt
  have k0 : w.cell? ⟨l, 0, none⟩ = some (.pointer (some ⟨p, 0, none⟩)) := (hb.cell 0).trans hl.c0
  have k9 : w.cell? ⟨l, 9, none⟩ = some (.bool false) := (hb.cell 9).trans hl.c9
  have hF1 : Fr (fun _ => False) w (w.alloc (.cells #[.nilIface] 34)) := (Fr.refl _ _).alloc _
  have hg1 := Bx.new w #[.nilIface] 34
  have SE := sectors_any (w.alloc (.cells #[.nilIface] 34)) R p b many (hk.frame hF1 (fun _ _ t => t) (UpR.refl _ _))
  have FI := fits_any (w.alloc (.cells #[.nilIface] 34)) (many : Int) ro rc rs (hR.frame hF1 (fun _ _ t => t)).recs
  have hfi : fitsF (many : Int) rs = false := by rw [fitsF, Int.toNat_natCast, decide_eq_false (by omega), Bool.and_false]
  rw [hfi] at FI
  have HH := hide (And.intro hF1 (And.intro hg1 (And.intro SE FI)))
  clear hl hk hR hfit hb hF1 hg1 SE FI hfi
  go_enter_defers Tryz.func28, Tryz.ntmps28
  go_wp2_with fail
  refine (unhide HH).2.2.1.mono ?_
  rintro e w2 ⟨rfl, rfl⟩
  go_wp2_with fail
  refine (unhide HH).2.2.2.mono ?_
  rintro e w2 ⟨rfl, rfl⟩
  go_wp2
  have hg3 : Bx (w.alloc (.cells #[.iface 67 (.int .i64 91)] 34)) w.heap.size #[errV 91] 34 := Bx.new w _ 34
  have hF3 : Fr (fun _ => False) w (w.alloc (.cells #[.iface 67 (.int .i64 91)] 34)) := (Fr.refl _ _).alloc _
  generalize w.alloc (.cells #[.iface 67 (.int .i64 91)] 34) = w3 at *
  have kg3 : w3.cell? ⟨w.heap.size, 0, none⟩ = some (errV 91) := hg3.cell 0
  refine leaves_cons (f := 42) (args := #[.pointer (some ⟨l, 0, none⟩), .pointer (some ⟨w.heap.size, 0, none⟩)]) (by simp) (by simp [go_sem]) ?_
  refine (notice_other .returning w3 l w.heap.size 91 (by decide) kg3).mono ?_
  rintro e u' w4 ⟨rfl, rfl, rfl⟩
  exact ⟨errV 91, by simp [results, Tryz.results28, go_sem, kg3], rfl, hF3⟩

end Go.Proofs.YtjkghgcdkfkekaaGreatDoor

