import Derived.Test.YtjgbllfppomcmaaCP4
import Derived.Test.YtjgbllfppomcmaaCP7
import Derived.Test.YtjgbllfppomcmaaQUX
/- The examples of days and weeks: awake. -/
namespace Go.Proofs.Ytjgbllfppomcmaa
open Go.RowKit

def exC : Tf := { plainT with bus := 175, busDaily := 400, busWeekly := 1500 }
def exW (too fare : Int) : Jn × Int := (⟨1, 1, too, 480, 500, false⟩, fare)
def exR : Jn × Int := (⟨4, 9, 9, 480, 480, false⟩, 175)
def exD1 : Dy := ⟨0, 900, 0, 700, 0, 1, 2⟩
def exD2 : Dy := ⟨0, 200, 400, 500, 0, 1, 1⟩
def exD3 : Dy := ⟨1, 0, 0, 0, 900, 0, 0⟩
theorem exc_1 : dR exC 0 [exW 2 300, exW 2 300, exW 2 300] = exD1 ∧ dE exC 0 [exW 2 300, exW 2 300, exW 2 300] = 0 := ⟨by rfl, by decide +kernel⟩
theorem exc_2 : dR exC 0 [exW 1 200, exR, exR, exR] = exD2 ∧ dE exC 0 [exW 1 200, exR, exR, exR] = 0 := ⟨by rfl, by decide +kernel⟩
theorem exc_3 : wkR exC [exD1, exD3] = 1600 ∧ wkE exC [exD1, exD3] = 0 := ⟨by decide +kernel, by decide +kernel⟩

theorem whole_anyC (w : World) (too fare : Int) : Calls Try.prog 9 #[.int .i64 too, .int .i64 fare] w fun e w' => e = .returned (.agg #[.int .i64 1, .int .i64 1, .int .i64 too, .int .i64 480, .int .i64 500, .bool false, .int .i64 fare]) ∧ Fr (fun _ => False) w w' := by
  go_enter Try.func9, Try.ntmps9
  go_wp2
  refine bodyPost_ret (v := .agg #[.int .i64 1, .int .i64 1, .int .i64 too, .int .i64 480, .int .i64 500, .bool false, .int .i64 fare]) (by simp [results, Try.results9, go_sem]) rfl ⟨rfl, ?_⟩
  repeat (with_reducible (first | exact Fr.refl _ _ | refine Fr.setN (Nat.lt_irrefl _) ?_ _ _ | refine Fr.alloc ?_ _ | refine Fr.drew ?_))
theorem ride_anyC (w : World) (fare : Int) : Calls Try.prog 10 #[.int .i64 fare] w fun e w' => e = .returned (.agg #[.int .i64 4, .int .i64 9, .int .i64 9, .int .i64 480, .int .i64 480, .bool false, .int .i64 fare]) ∧ Fr (fun _ => False) w w' := by
  go_enter Try.func10, Try.ntmps10
  go_wp2
  refine bodyPost_ret (v := .agg #[.int .i64 4, .int .i64 9, .int .i64 9, .int .i64 480, .int .i64 480, .bool false, .int .i64 fare]) (by simp [results, Try.results10, go_sem]) rfl ⟨rfl, ?_⟩
  repeat (with_reducible (first | exact Fr.refl _ _ | refine Fr.setN (Nat.lt_irrefl _) ?_ _ _ | refine Fr.alloc ?_ _ | refine Fr.drew ?_))

theorem eqD (w : World) (a0 a1 a2 a3 a4 a5 a6 : Int) : (Op.equalIn 10000 43 (.agg #[.int .i64 a0, .int .i64 a1, .int .i64 a2, .int .i64 a3, .int .i64 a4, .int .i64 a5, .int .i64 a6]) (.agg #[.int .i64 a0, .int .i64 a1, .int .i64 a2, .int .i64 a3, .int .i64 a4, .int .i64 a5, .int .i64 a6])).run Try.prog w = .ok true w := by
  have u3 := Try.underlying3
  have hS : Try.prog.underlying 43 = some (.struct (Try.prog.fieldsOf 43)) := by kernel_rfl
  have hp : Try.prog.stoodInHeld 43 = false := by kernel_rfl
  rw [show (10000 : Nat) = 9999 + 1 from rfl, run_equalIn_agg w 9999 43 _ _ hS hp]
  simp only [Program.fieldsOf, Try.underlying43]
  go_simp
theorem egD : Try.prog.eqGuardType Try.prog.depth 43 = false := by kernel_rfl

theorem day_built {w : World} {A : Ad} {t : Tf} (hT : TAt w A t) (l : List (Jn × Int)) (n : Nat) (hn : l.length = n) (d : Dy) (hd : dR t 0 l = d ∧ dE t 0 l = 0) :
    Hid (∀ (u : World) (b cap : Nat), Fr (fun _ => False) w u → CAt u (some ⟨b, 0, none⟩) (pV l) → Calls Try.prog 8 #[tv A t, .int .i64 0, .slice (some ⟨b, 0, none⟩) n cap] u fun e w' =>
      e = .returned (.tuple #[.agg (dyC d), .int .i64 0]) ∧ Fr (fun _ => False) u w') := hide (fun u b cap hu hc => by
  subst hn
  have := capsDay_any u A t (hT.keep hu) (some ⟨b, 0, none⟩) cap 0 l hc
  rw [hd.1, hd.2] at this
  exact this)

theorem cat_new2 (w : World) (o : Obj) (vs : List Value) (e : TypeId) : CAt ((w.alloc o).alloc (.cells vs.toArray e)) (some ⟨w.heap.size + 1, 0, none⟩) vs := by
  rw [← heap_alloc w o]
  exact cat_new _ _ _
theorem bxA {u Y wz : World} (hA : Fr (fun _ => False) (Y.alloc (.cells #[.int .i64 0, .int .i64 0, .int .i64 0, .int .i64 0, .int .i64 0, .int .i64 0, .int .i64 0] 43)) wz) (hu : Fr (fun _ => False) u Y) : Bx wz Y.heap.size #[.int .i64 0, .int .i64 0, .int .i64 0, .int .i64 0, .int .i64 0, .int .i64 0, .int .i64 0] 43 ∧ u.heap.size ≤ Y.heap.size := ⟨(Bx.new _ _ _).keep hA, hu.size⟩
theorem bxB {u Y wz : World} {o : Obj} (hA : Fr (fun _ => False) ((Y.alloc (.cells #[.int .i64 0, .int .i64 0, .int .i64 0, .int .i64 0, .int .i64 0, .int .i64 0, .int .i64 0] 43)).alloc o) wz) (hu : Fr (fun _ => False) u Y) : Bx wz Y.heap.size #[.int .i64 0, .int .i64 0, .int .i64 0, .int .i64 0, .int .i64 0, .int .i64 0, .int .i64 0] 43 ∧ u.heap.size ≤ Y.heap.size := ⟨((Bx.new _ _ _).alloc o).keep hA, hu.size⟩
theorem bxK {u w X wz : World} {D : Nat} (hx : Bx w D #[.int .i64 0, .int .i64 0, .int .i64 0, .int .i64 0, .int .i64 0, .int .i64 0, .int .i64 0] 43 ∧ u.heap.size ≤ D) (hf : Fr (fun _ => False) w X) (hA : Fr (fun _ => False) X wz) : Bx wz D #[.int .i64 0, .int .i64 0, .int .i64 0, .int .i64 0, .int .i64 0, .int .i64 0, .int .i64 0] 43 ∧ u.heap.size ≤ D := ⟨(hx.1.keep hf).keep hA, hx.2⟩
theorem bx7 {w : World} {D : Nat} (h : Bx w D #[.int .i64 0, .int .i64 0, .int .i64 0, .int .i64 0, .int .i64 0, .int .i64 0, .int .i64 0] 43) : (w.cell? ⟨D, 0, none⟩ = some (.int .i64 0) ∧ w.cell? ⟨D, 1, none⟩ = some (.int .i64 0) ∧ w.cell? ⟨D, 2, none⟩ = some (.int .i64 0) ∧ w.cell? ⟨D, 3, none⟩ = some (.int .i64 0) ∧ w.cell? ⟨D, 4, none⟩ = some (.int .i64 0) ∧ w.cell? ⟨D, 5, none⟩ = some (.int .i64 0) ∧ w.cell? ⟨D, 6, none⟩ = some (.int .i64 0)) ∧ (∀ k, w.frozen? ⟨D, k, none⟩ = false) := ⟨⟨h.cell 0, h.cell 1, h.cell 2, h.cell 3, h.cell 4, h.cell 5, h.cell 6⟩, fun k => h.frozen k⟩
theorem bxS {w : World} {D : Nat} (h : Bx w D #[.int .i64 0, .int .i64 0, .int .i64 0, .int .i64 0, .int .i64 0, .int .i64 0, .int .i64 0] 43) (a0 a1 a2 a3 a4 a5 a6 : Value) : Bx (((((((w.setCell ⟨D, 0, none⟩ a0).setCell ⟨D, 1, none⟩ a1).setCell ⟨D, 2, none⟩ a2).setCell ⟨D, 3, none⟩ a3).setCell ⟨D, 4, none⟩ a4).setCell ⟨D, 5, none⟩ a5).setCell ⟨D, 6, none⟩ a6) D #[a0, a1, a2, a3, a4, a5, a6] 43 := ((((((h.setCell 0 a0).setCell 1 a1).setCell 2 a2).setCell 3 a3).setCell 4 a4).setCell 5 a5).setCell 6 a6
theorem Fr.put7 {u w : World} {D : Nat} (h : Fr (fun _ => False) u w) (hD : u.heap.size ≤ D) (k : Nat) (x : Value) : Fr (fun _ => False) u (w.setCell ⟨D, k, none⟩ x) := h.setCell (p := ⟨D, k, none⟩) (fun q => by have : D < u.heap.size := q; omega) x

set_option maxHeartbeats 2000000 in
set_option maxRecDepth 20000 in
theorem awake_anyC (w : World) : Calls Try.prog 4 #[] w fun e w' => e = .returned (.bool true) ∧ Fr (fun _ => False) w w' := by
  go_enter Try.func4, Try.ntmps4
  go_wp2_with fail
  refine (plain_any _).mono ?_
  rintro e w1 ⟨A, rfl, hT, hF1⟩
  have HG : Hid ((w1.alloc (.cells #[.slice none 0 0, .slice none 0 0, .slice none 0 0, .float .f64 0, .int .i64 0, .int .i64 0, .int .i64 0, .int .i64 0, .int .i64 0, .int .i64 0, .int .i64 0, .int .i64 0, .int .i64 0, .int .i64 0] 27)).heap[w1.heap.size]? = some (.cells #[.slice none 0 0, .slice none 0 0, .slice none 0 0, .float .f64 0, .int .i64 0, .int .i64 0, .int .i64 0, .int .i64 0, .int .i64 0, .int .i64 0, .int .i64 0, .int .i64 0, .int .i64 0, .int .i64 0] 27 (0, 0))) := hide (heap_new _ _)
  obtain ⟨v, hv⟩ : ∃ v, v = (w1.alloc (.cells #[.slice none 0 0, .slice none 0 0, .slice none 0 0, .float .f64 0, .int .i64 0, .int .i64 0, .int .i64 0, .int .i64 0, .int .i64 0, .int .i64 0, .int .i64 0, .int .i64 0, .int .i64 0, .int .i64 0] 27)).setRow w1.heap.size (tc A plainT) := ⟨_, rfl⟩
  have hB : TB v w1.heap.size A plainT := by rw [hv]; exact TB.set (unhide HG) A plainT
  have hFv : Fr (fun _ => False) w1 v := by rw [hv]; exact ((Fr.refl _ w1).alloc _).setRow (fun h => absurd h (Nat.lt_irrefl _)) _
  have HV := hide hv
  have HTB := hide hB
  have HT1 := hide hT
  have HW1 := hide hF1
  have HFA := hide hFv
  have hle : w1.heap.size < v.heap.size := hB.lt
  clear hv hB hFv hF1 hT
  go_upto_region 2 with (refine wpList_store_tariff rfl (.tmp 1) (.tmp 8) rfl (g := w1.heap.size) (A := A) (t := plainT) rfl rfl _ (unhide HG) rfl ?_)
  rw [← unhide HV]
  obtain ⟨B, hBB⟩ : ∃ B, B = w1.heap.size := ⟨_, rfl⟩
  rw [← hBB] at HTB hle ⊢
  have c4 : v.cell? ⟨B, 4, none⟩ = some (.int .i64 plainT.bus) := (unhide HTB).cell 4
  have c5 : v.cell? ⟨B, 5, none⟩ = some (.int .i64 plainT.busDaily) := (unhide HTB).cell 5
  have c6 : v.cell? ⟨B, 6, none⟩ = some (.int .i64 plainT.busWeekly) := (unhide HTB).cell 6
  have f0 : ∀ k, v.frozen? ⟨B, k, none⟩ = false := fun k => (unhide HTB).frozen k
  have HBB := hide hBB
  clear HV HG hBB
  go_upto_region 5 with (fail)
  obtain ⟨u, hu⟩ : ∃ u, u = ((v.setCell ⟨B, 4, none⟩ (.int .i64 175)).setCell ⟨B, 5, none⟩ (.int .i64 400)).setCell ⟨B, 6, none⟩ (.int .i64 1500) := ⟨_, rfl⟩
  have hBn : ¬ B < w1.heap.size := by rw [unhide HBB]; exact Nat.lt_irrefl _
  have hFu : Fr (fun _ => False) w1 u := by rw [hu]; exact ((((unhide HFA).setCell (fun h => absurd h hBn) _).setCell (fun h => absurd h hBn) _).setCell (fun h => absurd h hBn) _)
  have hTBu : TB u B A exC := by
    rw [hu]
    exact ((((unhide HTB).setCell (A' := A) (t' := { plainT with bus := 175 }) 4 _ rfl).setCell (A' := A) (t' := { plainT with bus := 175, busDaily := 400 }) 5 _ rfl).setCell (A' := A) (t' := exC) 6 _ rfl)
  have hTu : TAt u A exC := by
    have k := (unhide HT1).keep hFu
    exact ⟨k.st, k.sp, k.bd, k.lS, k.lP, k.lB, k.off⟩
  rw [← hu]
  have HF := hide ((unhide HW1).trans hFu (fun _ _ t => t))
  have HTU := hide hTBu
  have RD1 := day_built hTu [exW 2 300, exW 2 300, exW 2 300] 3 rfl exD1 exc_1
  have RD2 := day_built hTu [exW 1 200, exR, exR, exR] 4 rfl exD2 exc_2
  have RW := hide (fun (u' : World) (hf : Fr (fun _ => False) u u') (b : Nat) (hc : CAt u' (some ⟨b, 0, none⟩) (dyV [exD1, exD3])) => (by
    have := capsWeek_any u' A exC (hTu.keep hf) (some ⟨b, 0, none⟩) 2 [exD1, exD3] hc
    rw [exc_3.1, exc_3.2] at this
    exact this : Calls Try.prog 6 #[tv A exC, .slice (some ⟨b, 0, none⟩) 2 2] u' fun e w' => e = .returned (.tuple #[.int .i64 1600, .int .i64 0]) ∧ Fr (fun _ => False) u' w'))
  have HCB : Hid (∀ u', Fr (fun _ => False) u u' → u'.cell? ⟨B, 0, none⟩ = some (.slice A.aS exC.st.length A.cS) ∧ u'.cell? ⟨B, 1, none⟩ = some (.slice A.aP exC.sp.length A.cP) ∧ u'.cell? ⟨B, 2, none⟩ = some (.slice A.aB exC.bd.length A.cB) ∧ u'.cell? ⟨B, 3, none⟩ = some (.float .f64 exC.off) ∧ u'.cell? ⟨B, 4, none⟩ = some (.int .i64 exC.bus) ∧ u'.cell? ⟨B, 5, none⟩ = some (.int .i64 exC.busDaily) ∧ u'.cell? ⟨B, 6, none⟩ = some (.int .i64 exC.busWeekly) ∧ u'.cell? ⟨B, 7, none⟩ = some (.int .i64 exC.hopper) ∧ u'.cell? ⟨B, 8, none⟩ = some (.int .i64 exC.most) ∧ u'.cell? ⟨B, 9, none⟩ = some (.int .i64 exC.longest) ∧ u'.cell? ⟨B, 10, none⟩ = some (.int .i64 exC.change) ∧ u'.cell? ⟨B, 11, none⟩ = some (.int .i64 exC.passback) ∧ u'.cell? ⟨B, 12, none⟩ = some (.int .i64 exC.delay) ∧ u'.cell? ⟨B, 13, none⟩ = some (.int .i64 exC.threshold)) := hide (fun u' hf => by
    have h1 := (unhide HTU).keep hf
    exact ⟨h1.cell 0, h1.cell 1, h1.cell 2, h1.cell 3, h1.cell 4, h1.cell 5, h1.cell 6, h1.cell 7, h1.cell 8, h1.cell 9, h1.cell 10, h1.cell 11, h1.cell 12, h1.cell 13⟩)
  clear hu hFu hTBu hTu hBn hle c4 c5 c6 f0 HTB HT1 HW1 HFA HBB
  unfold tv tc at RD1 RD2
  simp only [dyC, exD1, exD2] at RD1 RD2
  generalize exC = T0 at *
  obtain ⟨d0, d1, d2, d3, d4, d5, d6, d7, d8, d9, d10, d11, d12, d13⟩ := unhide HCB u (Fr.refl _ _)
  have HACC := hide (Fr.refl (fun _ => False) u)
  go_cut [2, 3] from 12 to 20 (fun bv ev wc => ∃ D, bv = .pointer (some ⟨D, 0, none⟩) ∧ ev = .int .i64 0 ∧ Hid (Bx wc D #[.int .i64 0, .int .i64 900, .int .i64 0, .int .i64 700, .int .i64 0, .int .i64 1, .int .i64 2] 43 ∧ Fr (fun _ => False) u wc))
  case first =>
    go_region_held3 (fun u => u.cell? ⟨B, 0, none⟩ = some (.slice A.aS T0.st.length A.cS) ∧ u.cell? ⟨B, 1, none⟩ = some (.slice A.aP T0.sp.length A.cP) ∧ u.cell? ⟨B, 2, none⟩ = some (.slice A.aB T0.bd.length A.cB) ∧ u.cell? ⟨B, 3, none⟩ = some (.float .f64 T0.off) ∧ u.cell? ⟨B, 4, none⟩ = some (.int .i64 T0.bus) ∧ u.cell? ⟨B, 5, none⟩ = some (.int .i64 T0.busDaily) ∧ u.cell? ⟨B, 6, none⟩ = some (.int .i64 T0.busWeekly) ∧ u.cell? ⟨B, 7, none⟩ = some (.int .i64 T0.hopper) ∧ u.cell? ⟨B, 8, none⟩ = some (.int .i64 T0.most) ∧ u.cell? ⟨B, 9, none⟩ = some (.int .i64 T0.longest) ∧ u.cell? ⟨B, 10, none⟩ = some (.int .i64 T0.change) ∧ u.cell? ⟨B, 11, none⟩ = some (.int .i64 T0.passback) ∧ u.cell? ⟨B, 12, none⟩ = some (.int .i64 T0.delay) ∧ u.cell? ⟨B, 13, none⟩ = some (.int .i64 T0.threshold))
      ((refine unhide HCB _ ?_; repeat (first | (with_reducible exact unhide HACC) | (with_reducible exact Fr.refl _ _) | (with_reducible refine Fr.drew ?_) | (with_reducible refine Fr.alloc ?_ _) | (with_reducible refine Fr.put7 ?_ (by have q := (unhide HX).2; (try simp only [heap_alloc] at q); exact q) _ _))))
      (first | (go_at_call 9; refine (whole_anyC _ 2 300).mono ?_; rintro e wa ⟨rfl, hA⟩; have hB : Fr (fun _ => False) u wa := Fr.trans (by repeat (first | (with_reducible exact unhide HACC) | (with_reducible exact Fr.refl _ _) | (with_reducible refine Fr.drew ?_) | (with_reducible refine Fr.alloc ?_ _) | (with_reducible refine Fr.put7 ?_ (by have q := (unhide HX).2; (try simp only [heap_alloc] at q); exact q) _ _))) hA (fun _ _ t => t); (repeat (replace hA := Fr.of_drew hA)); (first | (have hx := bxA (u := u) hA (by repeat (first | (with_reducible exact unhide HACC) | (with_reducible exact Fr.refl _ _) | (with_reducible refine Fr.drew ?_) | (with_reducible refine Fr.alloc ?_ _) | (with_reducible refine Fr.put7 ?_ (by have q := (unhide HX).2; (try simp only [heap_alloc] at q); exact q) _ _))); have HX := hide hx; obtain ⟨⟨x0, x1, x2, x3, x4, x5, x6⟩, y0⟩ := bx7 hx.1; clear hx; try (simp only [heap_alloc] at x0 x1 x2 x3 x4 x5 x6 y0)) | (have hx := bxB (u := u) hA (by repeat (first | (with_reducible exact unhide HACC) | (with_reducible exact Fr.refl _ _) | (with_reducible refine Fr.drew ?_) | (with_reducible refine Fr.alloc ?_ _) | (with_reducible refine Fr.put7 ?_ (by have q := (unhide HX).2; (try simp only [heap_alloc] at q); exact q) _ _))); have HX := hide hx; obtain ⟨⟨x0, x1, x2, x3, x4, x5, x6⟩, y0⟩ := bx7 hx.1; clear hx; try (simp only [heap_alloc] at x0 x1 x2 x3 x4 x5 x6 y0)) | (have hx := bxK (unhide HX) (by repeat (first | (with_reducible exact Fr.refl _ _) | (with_reducible refine Fr.drew ?_) | (with_reducible refine Fr.alloc ?_ _))) hA; have HX := hide hx; obtain ⟨⟨x0, x1, x2, x3, x4, x5, x6⟩, y0⟩ := bx7 hx.1; clear hx; try (simp only [heap_alloc] at x0 x1 x2 x3 x4 x5 x6 y0)) | skip); have HACC := hide hB; clear hA hB) | (go_at_call 8; refine (unhide RD1 _ _ _ (by repeat (first | (with_reducible exact unhide HACC) | (with_reducible exact Fr.refl _ _) | (with_reducible refine Fr.drew ?_) | (with_reducible refine Fr.alloc ?_ _) | (with_reducible refine Fr.put7 ?_ (by have q := (unhide HX).2; (try simp only [heap_alloc] at q); exact q) _ _))) (by first | exact cat_new _ _ _ | exact cat_new2 _ _ _ _ | exact (cat_new2 _ _ _ _).keep ((Fr.refl _ _).drew) | exact (cat_new _ _ _).keep ((Fr.refl _ _).drew) | exact (cat_new _ _ _).keep ((Fr.refl _ _).alloc _) | exact (cat_new _ _ _).keep (((Fr.refl _ _).alloc _).drew) | exact (cat_new _ _ _).keep (((Fr.refl _ _).drew).drew) | exact (cat_new _ _ _).keep ((((Fr.refl _ _).alloc _).drew).drew))).mono ?_; rintro e wz ⟨rfl, hA⟩; have hB : Fr (fun _ => False) u wz := Fr.trans (by repeat (first | (with_reducible exact unhide HACC) | (with_reducible exact Fr.refl _ _) | (with_reducible refine Fr.drew ?_) | (with_reducible refine Fr.alloc ?_ _) | (with_reducible refine Fr.put7 ?_ (by have q := (unhide HX).2; (try simp only [heap_alloc] at q); exact q) _ _))) hA (fun _ _ t => t); (repeat (replace hA := Fr.of_drew hA)); (first | (have hx := bxA (u := u) hA (by repeat (first | (with_reducible exact unhide HACC) | (with_reducible exact Fr.refl _ _) | (with_reducible refine Fr.drew ?_) | (with_reducible refine Fr.alloc ?_ _) | (with_reducible refine Fr.put7 ?_ (by have q := (unhide HX).2; (try simp only [heap_alloc] at q); exact q) _ _))); have HX := hide hx; obtain ⟨⟨x0, x1, x2, x3, x4, x5, x6⟩, y0⟩ := bx7 hx.1; clear hx; try (simp only [heap_alloc] at x0 x1 x2 x3 x4 x5 x6 y0)) | (have hx := bxB (u := u) hA (by repeat (first | (with_reducible exact unhide HACC) | (with_reducible exact Fr.refl _ _) | (with_reducible refine Fr.drew ?_) | (with_reducible refine Fr.alloc ?_ _) | (with_reducible refine Fr.put7 ?_ (by have q := (unhide HX).2; (try simp only [heap_alloc] at q); exact q) _ _))); have HX := hide hx; obtain ⟨⟨x0, x1, x2, x3, x4, x5, x6⟩, y0⟩ := bx7 hx.1; clear hx; try (simp only [heap_alloc] at x0 x1 x2 x3 x4 x5 x6 y0)) | (have hx := bxK (unhide HX) (by repeat (first | (with_reducible exact Fr.refl _ _) | (with_reducible refine Fr.drew ?_) | (with_reducible refine Fr.alloc ?_ _))) hA; have HX := hide hx; obtain ⟨⟨x0, x1, x2, x3, x4, x5, x6⟩, y0⟩ := bx7 hx.1; clear hx; try (simp only [heap_alloc] at x0 x1 x2 x3 x4 x5 x6 y0)) | skip); have HACC := hide hB; clear hA hB))
    all_goals
      go_wp2_with fail
      go_meet
      refine ⟨_, rfl, rfl, hide ⟨?_, ?_⟩⟩
      · first
          | ((repeat (with_reducible refine Bx.drew ?_)); with_reducible exact Bx.new _ _ _)
          | (have q := (unhide HX).1; (try simp only [heap_alloc] at q); (repeat (with_reducible refine Bx.drew ?_)); with_reducible exact bxS q _ _ _ _ _ _ _)
      · repeat (first | (with_reducible exact unhide HACC) | (with_reducible exact Fr.refl _ _) | (with_reducible refine Fr.drew ?_) | (with_reducible refine Fr.alloc ?_ _) | (with_reducible refine Fr.put7 ?_ (by have q := (unhide HX).2; (try simp only [heap_alloc] at q); exact q) _ _))
  case rest =>
    obtain ⟨D1, rfl, rfl, HC1⟩ := hcut
    have HB1 := hide (unhide HC1).1
    have HFW := hide (unhide HC1).2
    have HCB2 : Hid (∀ u', Fr (fun _ => False) wc u' → u'.cell? ⟨B, 0, none⟩ = some (.slice A.aS T0.st.length A.cS) ∧ u'.cell? ⟨B, 1, none⟩ = some (.slice A.aP T0.sp.length A.cP) ∧ u'.cell? ⟨B, 2, none⟩ = some (.slice A.aB T0.bd.length A.cB) ∧ u'.cell? ⟨B, 3, none⟩ = some (.float .f64 T0.off) ∧ u'.cell? ⟨B, 4, none⟩ = some (.int .i64 T0.bus) ∧ u'.cell? ⟨B, 5, none⟩ = some (.int .i64 T0.busDaily) ∧ u'.cell? ⟨B, 6, none⟩ = some (.int .i64 T0.busWeekly) ∧ u'.cell? ⟨B, 7, none⟩ = some (.int .i64 T0.hopper) ∧ u'.cell? ⟨B, 8, none⟩ = some (.int .i64 T0.most) ∧ u'.cell? ⟨B, 9, none⟩ = some (.int .i64 T0.longest) ∧ u'.cell? ⟨B, 10, none⟩ = some (.int .i64 T0.change) ∧ u'.cell? ⟨B, 11, none⟩ = some (.int .i64 T0.passback) ∧ u'.cell? ⟨B, 12, none⟩ = some (.int .i64 T0.delay) ∧ u'.cell? ⟨B, 13, none⟩ = some (.int .i64 T0.threshold)) := hide (fun u' hf => unhide HCB u' ((unhide HFW).trans hf (fun _ _ t => t)))
    clear d0 d1 d2 d3 d4 d5 d6 d7 d8 d9 d10 d11 d12 d13 HC1 HACC RD1
    obtain ⟨d0, d1, d2, d3, d4, d5, d6, d7, d8, d9, d10, d11, d12, d13⟩ := unhide HCB2 wc (Fr.refl _ _)
    have RD2 := hide (fun (u' : World) (b cap : Nat) (hu : Fr (fun _ => False) wc u') => unhide RD2 u' b cap ((unhide HFW).trans hu (fun _ _ t => t)))
    have HACC := hide (Fr.refl (fun _ => False) wc)
    go_upto_region 6 with (fail)
    go_cut [4, 5] from 21 to 30 (fun bv ev wd => ∃ D, bv = .pointer (some ⟨D, 0, none⟩) ∧ ev = .int .i64 0 ∧ Hid (Bx wd D #[.int .i64 0, .int .i64 200, .int .i64 400, .int .i64 500, .int .i64 0, .int .i64 1, .int .i64 1] 43 ∧ Fr (fun _ => False) wc wd))
    case first =>
      go_region_held3 (fun u => u.cell? ⟨B, 0, none⟩ = some (.slice A.aS T0.st.length A.cS) ∧ u.cell? ⟨B, 1, none⟩ = some (.slice A.aP T0.sp.length A.cP) ∧ u.cell? ⟨B, 2, none⟩ = some (.slice A.aB T0.bd.length A.cB) ∧ u.cell? ⟨B, 3, none⟩ = some (.float .f64 T0.off) ∧ u.cell? ⟨B, 4, none⟩ = some (.int .i64 T0.bus) ∧ u.cell? ⟨B, 5, none⟩ = some (.int .i64 T0.busDaily) ∧ u.cell? ⟨B, 6, none⟩ = some (.int .i64 T0.busWeekly) ∧ u.cell? ⟨B, 7, none⟩ = some (.int .i64 T0.hopper) ∧ u.cell? ⟨B, 8, none⟩ = some (.int .i64 T0.most) ∧ u.cell? ⟨B, 9, none⟩ = some (.int .i64 T0.longest) ∧ u.cell? ⟨B, 10, none⟩ = some (.int .i64 T0.change) ∧ u.cell? ⟨B, 11, none⟩ = some (.int .i64 T0.passback) ∧ u.cell? ⟨B, 12, none⟩ = some (.int .i64 T0.delay) ∧ u.cell? ⟨B, 13, none⟩ = some (.int .i64 T0.threshold))
        ((refine unhide HCB2 _ ?_; repeat (first | (with_reducible exact unhide HACC) | (with_reducible exact Fr.refl _ _) | (with_reducible refine Fr.drew ?_) | (with_reducible refine Fr.alloc ?_ _) | (with_reducible refine Fr.put7 ?_ (by have q := (unhide HX).2; (try simp only [heap_alloc] at q); exact q) _ _))))
        (first | (go_at_call 9; refine (whole_anyC _ 1 200).mono ?_; rintro e wa ⟨rfl, hA⟩; have hB : Fr (fun _ => False) wc wa := Fr.trans (by repeat (first | (with_reducible exact unhide HACC) | (with_reducible exact Fr.refl _ _) | (with_reducible refine Fr.drew ?_) | (with_reducible refine Fr.alloc ?_ _) | (with_reducible refine Fr.put7 ?_ (by have q := (unhide HX).2; (try simp only [heap_alloc] at q); exact q) _ _))) hA (fun _ _ t => t); (repeat (replace hA := Fr.of_drew hA)); (first | (have hx := bxA (u := wc) hA (by repeat (first | (with_reducible exact unhide HACC) | (with_reducible exact Fr.refl _ _) | (with_reducible refine Fr.drew ?_) | (with_reducible refine Fr.alloc ?_ _) | (with_reducible refine Fr.put7 ?_ (by have q := (unhide HX).2; (try simp only [heap_alloc] at q); exact q) _ _))); have HX := hide hx; obtain ⟨⟨x0, x1, x2, x3, x4, x5, x6⟩, y0⟩ := bx7 hx.1; clear hx; try (simp only [heap_alloc] at x0 x1 x2 x3 x4 x5 x6 y0)) | (have hx := bxB (u := wc) hA (by repeat (first | (with_reducible exact unhide HACC) | (with_reducible exact Fr.refl _ _) | (with_reducible refine Fr.drew ?_) | (with_reducible refine Fr.alloc ?_ _) | (with_reducible refine Fr.put7 ?_ (by have q := (unhide HX).2; (try simp only [heap_alloc] at q); exact q) _ _))); have HX := hide hx; obtain ⟨⟨x0, x1, x2, x3, x4, x5, x6⟩, y0⟩ := bx7 hx.1; clear hx; try (simp only [heap_alloc] at x0 x1 x2 x3 x4 x5 x6 y0)) | (have hx := bxK (unhide HX) (by repeat (first | (with_reducible exact Fr.refl _ _) | (with_reducible refine Fr.drew ?_) | (with_reducible refine Fr.alloc ?_ _))) hA; have HX := hide hx; obtain ⟨⟨x0, x1, x2, x3, x4, x5, x6⟩, y0⟩ := bx7 hx.1; clear hx; try (simp only [heap_alloc] at x0 x1 x2 x3 x4 x5 x6 y0)) | skip); have HACC := hide hB; clear hA hB) | (go_at_call 10; refine (ride_anyC _ 175).mono ?_; rintro e wa ⟨rfl, hA⟩; have hB : Fr (fun _ => False) wc wa := Fr.trans (by repeat (first | (with_reducible exact unhide HACC) | (with_reducible exact Fr.refl _ _) | (with_reducible refine Fr.drew ?_) | (with_reducible refine Fr.alloc ?_ _) | (with_reducible refine Fr.put7 ?_ (by have q := (unhide HX).2; (try simp only [heap_alloc] at q); exact q) _ _))) hA (fun _ _ t => t); (repeat (replace hA := Fr.of_drew hA)); (first | (have hx := bxA (u := wc) hA (by repeat (first | (with_reducible exact unhide HACC) | (with_reducible exact Fr.refl _ _) | (with_reducible refine Fr.drew ?_) | (with_reducible refine Fr.alloc ?_ _) | (with_reducible refine Fr.put7 ?_ (by have q := (unhide HX).2; (try simp only [heap_alloc] at q); exact q) _ _))); have HX := hide hx; obtain ⟨⟨x0, x1, x2, x3, x4, x5, x6⟩, y0⟩ := bx7 hx.1; clear hx; try (simp only [heap_alloc] at x0 x1 x2 x3 x4 x5 x6 y0)) | (have hx := bxB (u := wc) hA (by repeat (first | (with_reducible exact unhide HACC) | (with_reducible exact Fr.refl _ _) | (with_reducible refine Fr.drew ?_) | (with_reducible refine Fr.alloc ?_ _) | (with_reducible refine Fr.put7 ?_ (by have q := (unhide HX).2; (try simp only [heap_alloc] at q); exact q) _ _))); have HX := hide hx; obtain ⟨⟨x0, x1, x2, x3, x4, x5, x6⟩, y0⟩ := bx7 hx.1; clear hx; try (simp only [heap_alloc] at x0 x1 x2 x3 x4 x5 x6 y0)) | (have hx := bxK (unhide HX) (by repeat (first | (with_reducible exact Fr.refl _ _) | (with_reducible refine Fr.drew ?_) | (with_reducible refine Fr.alloc ?_ _))) hA; have HX := hide hx; obtain ⟨⟨x0, x1, x2, x3, x4, x5, x6⟩, y0⟩ := bx7 hx.1; clear hx; try (simp only [heap_alloc] at x0 x1 x2 x3 x4 x5 x6 y0)) | skip); have HACC := hide hB; clear hA hB) | (go_at_call 8; refine (unhide RD2 _ _ _ (by repeat (first | (with_reducible exact unhide HACC) | (with_reducible exact Fr.refl _ _) | (with_reducible refine Fr.drew ?_) | (with_reducible refine Fr.alloc ?_ _) | (with_reducible refine Fr.put7 ?_ (by have q := (unhide HX).2; (try simp only [heap_alloc] at q); exact q) _ _))) (by first | exact cat_new _ _ _ | exact cat_new2 _ _ _ _ | exact (cat_new2 _ _ _ _).keep ((Fr.refl _ _).drew) | exact (cat_new _ _ _).keep ((Fr.refl _ _).drew) | exact (cat_new _ _ _).keep ((Fr.refl _ _).alloc _) | exact (cat_new _ _ _).keep (((Fr.refl _ _).alloc _).drew) | exact (cat_new _ _ _).keep (((Fr.refl _ _).drew).drew) | exact (cat_new _ _ _).keep ((((Fr.refl _ _).alloc _).drew).drew))).mono ?_; rintro e wz ⟨rfl, hA⟩; have hB : Fr (fun _ => False) wc wz := Fr.trans (by repeat (first | (with_reducible exact unhide HACC) | (with_reducible exact Fr.refl _ _) | (with_reducible refine Fr.drew ?_) | (with_reducible refine Fr.alloc ?_ _) | (with_reducible refine Fr.put7 ?_ (by have q := (unhide HX).2; (try simp only [heap_alloc] at q); exact q) _ _))) hA (fun _ _ t => t); (repeat (replace hA := Fr.of_drew hA)); (first | (have hx := bxA (u := wc) hA (by repeat (first | (with_reducible exact unhide HACC) | (with_reducible exact Fr.refl _ _) | (with_reducible refine Fr.drew ?_) | (with_reducible refine Fr.alloc ?_ _) | (with_reducible refine Fr.put7 ?_ (by have q := (unhide HX).2; (try simp only [heap_alloc] at q); exact q) _ _))); have HX := hide hx; obtain ⟨⟨x0, x1, x2, x3, x4, x5, x6⟩, y0⟩ := bx7 hx.1; clear hx; try (simp only [heap_alloc] at x0 x1 x2 x3 x4 x5 x6 y0)) | (have hx := bxB (u := wc) hA (by repeat (first | (with_reducible exact unhide HACC) | (with_reducible exact Fr.refl _ _) | (with_reducible refine Fr.drew ?_) | (with_reducible refine Fr.alloc ?_ _) | (with_reducible refine Fr.put7 ?_ (by have q := (unhide HX).2; (try simp only [heap_alloc] at q); exact q) _ _))); have HX := hide hx; obtain ⟨⟨x0, x1, x2, x3, x4, x5, x6⟩, y0⟩ := bx7 hx.1; clear hx; try (simp only [heap_alloc] at x0 x1 x2 x3 x4 x5 x6 y0)) | (have hx := bxK (unhide HX) (by repeat (first | (with_reducible exact Fr.refl _ _) | (with_reducible refine Fr.drew ?_) | (with_reducible refine Fr.alloc ?_ _))) hA; have HX := hide hx; obtain ⟨⟨x0, x1, x2, x3, x4, x5, x6⟩, y0⟩ := bx7 hx.1; clear hx; try (simp only [heap_alloc] at x0 x1 x2 x3 x4 x5 x6 y0)) | skip); have HACC := hide hB; clear hA hB))
      all_goals
        go_wp2_with fail
        go_meet
        refine ⟨_, rfl, rfl, hide ⟨?_, ?_⟩⟩
        · first
            | ((repeat (with_reducible refine Bx.drew ?_)); with_reducible exact Bx.new _ _ _)
            | (have q := (unhide HX).1; (try simp only [heap_alloc] at q); (repeat (with_reducible refine Bx.drew ?_)); with_reducible exact bxS q _ _ _ _ _ _ _)
        · repeat (first | (with_reducible exact unhide HACC) | (with_reducible exact Fr.refl _ _) | (with_reducible refine Fr.drew ?_) | (with_reducible refine Fr.alloc ?_ _) | (with_reducible refine Fr.put7 ?_ (by have q := (unhide HX).2; (try simp only [heap_alloc] at q); exact q) _ _))
    case rest =>
      obtain ⟨D2, rfl, rfl, HC2⟩ := hcut
      have HB2 := hide (unhide HC2).1
      have HB1 := hide ((unhide HB1).keep (unhide HC2).2)
      have HFX := hide ((unhide HFW).trans (unhide HC2).2 (fun _ _ t => t))
      have HTX := hide ((unhide HTU).keep (unhide HFX))
      clear d0 d1 d2 d3 d4 d5 d6 d7 d8 d9 d10 d11 d12 d13 HC2 HACC RD2 HCB2 HCB HFW
      have a0 : wc.cell? ⟨D1, 0, none⟩ = some (.int .i64 0) := (unhide HB1).cell 0
      have a1 : wc.cell? ⟨D1, 1, none⟩ = some (.int .i64 900) := (unhide HB1).cell 1
      have a2 : wc.cell? ⟨D1, 2, none⟩ = some (.int .i64 0) := (unhide HB1).cell 2
      have a3 : wc.cell? ⟨D1, 3, none⟩ = some (.int .i64 700) := (unhide HB1).cell 3
      have a4 : wc.cell? ⟨D1, 4, none⟩ = some (.int .i64 0) := (unhide HB1).cell 4
      have a5 : wc.cell? ⟨D1, 5, none⟩ = some (.int .i64 1) := (unhide HB1).cell 5
      have a6 : wc.cell? ⟨D1, 6, none⟩ = some (.int .i64 2) := (unhide HB1).cell 6
      go_wp2_with (refine wpList_load_tariff rfl (.tmp 1) rfl (g := B) (A := A) (t := T0) rfl (unhide HTX) ?_)
      refine (unhide RW _ ((unhide HFX).alloc _) _ (cat_new wc (dyV [exD1, exD3]) 43)).mono ?_
      rintro e we ⟨rfl, hF⟩
      have hall : Fr (fun _ => False) wc we := Fr.trans ((Fr.refl _ wc).alloc _) hF (fun _ _ t => t)
      have HFY := hide (((unhide HF).trans (unhide HFX) (fun _ _ t => t)).trans hall (fun _ _ t => t))
      have HB1' := (unhide HB1).keep hall
      have HB2' := (unhide HB2).keep hall
      clear a0 a1 a2 a3 a4 a5 a6 hF hall
      have a0 : we.cell? ⟨D1, 0, none⟩ = some (.int .i64 0) := HB1'.cell 0
      have a1 : we.cell? ⟨D1, 1, none⟩ = some (.int .i64 900) := HB1'.cell 1
      have a2 : we.cell? ⟨D1, 2, none⟩ = some (.int .i64 0) := HB1'.cell 2
      have a3 : we.cell? ⟨D1, 3, none⟩ = some (.int .i64 700) := HB1'.cell 3
      have a4 : we.cell? ⟨D1, 4, none⟩ = some (.int .i64 0) := HB1'.cell 4
      have a5 : we.cell? ⟨D1, 5, none⟩ = some (.int .i64 1) := HB1'.cell 5
      have a6 : we.cell? ⟨D1, 6, none⟩ = some (.int .i64 2) := HB1'.cell 6
      have b0 : we.cell? ⟨D2, 0, none⟩ = some (.int .i64 0) := HB2'.cell 0
      have b1 : we.cell? ⟨D2, 1, none⟩ = some (.int .i64 200) := HB2'.cell 1
      have b2 : we.cell? ⟨D2, 2, none⟩ = some (.int .i64 400) := HB2'.cell 2
      have b3 : we.cell? ⟨D2, 3, none⟩ = some (.int .i64 500) := HB2'.cell 3
      have b4 : we.cell? ⟨D2, 4, none⟩ = some (.int .i64 0) := HB2'.cell 4
      have b5 : we.cell? ⟨D2, 5, none⟩ = some (.int .i64 1) := HB2'.cell 5
      have b6 : we.cell? ⟨D2, 6, none⟩ = some (.int .i64 1) := HB2'.cell 6
      have q1 := egD
      have q2 := eqD
      clear HB1' HB2' HB1 HB2 HFX HTX RW
      go_wp2
      go_ret
      exact ⟨rfl, unhide HFY⟩

end Go.Proofs.Ytjgbllfppomcmaa

