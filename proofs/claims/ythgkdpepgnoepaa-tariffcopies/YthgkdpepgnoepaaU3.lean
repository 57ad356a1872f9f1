/- The document's examples: Plain, awake. -/
import Derived.Test.YthgkdpepgnoepaaU1
import Derived.Test.YthgkdpepgnoepaaU2
import Derived.Test.YthgkdpepgnoepaaU0
namespace Go.Proofs.Ythgkdpepgnoepaa
open Go.RowKit

def plainT : Tf := { st := [⟨1, 1, 0⟩, ⟨2, 2, 7⟩], sp := [⟨1, 1, 200, 500, 2000⟩, ⟨1, 2, 300, 700, 2800⟩, ⟨2, 2, 150, 500, 2000⟩], bd := [], off := 4602678819172646912, bus := 0, busDaily := 0, busWeekly := 0, hopper := 0, most := 0, longest := 120, change := 0, passback := 0, delay := 0, threshold := 0 }

theorem plain_right : rightE plainT = 0 := by decide +kernel
theorem plain_right0 : rightE { plainT with longest := 0 } = 70 := by decide +kernel
theorem plain_station : stationOf plainT 2 = some ⟨2, 2, 7⟩ := by rfl
theorem plain_single : singleR plainT 2 1 false = (150, 0) := by decide +kernel

theorem cat_new (w : World) (vs : List Value) (e : TypeId) : CAt (w.alloc (.cells vs.toArray e)) (some ⟨w.heap.size, 0, none⟩) vs := fun _ =>
  ⟨_, _, rfl, fun j hj => by rw [World.cell?_alloc_new, Nat.zero_add, List.getElem?_toArray, List.getElem?_eq_getElem hj]⟩

def plainA (N : Nat) : Ad := ⟨some ⟨N + 1, 0, none⟩, 2, some ⟨N + 1 + 1, 0, none⟩, 3, none, 0⟩

theorem plain_any (w : World) : Calls Try.prog 21 #[] w fun e w' => ∃ A, e = .returned (tv A plainT) ∧ TAt w' A plainT ∧ Fr (fun _ => False) w w' := by
  go_enter Try.func21, Try.ntmps21
  have hg : (((w.alloc (.cells #[.slice none 0 0, .slice none 0 0, .slice none 0 0, .float .f64 0, .int .i64 0, .int .i64 0, .int .i64 0, .int .i64 0, .int .i64 0, .int .i64 0, .int .i64 0, .int .i64 0, .int .i64 0, .int .i64 0] 27)).alloc (.cells (stV plainT.st).toArray 35)).alloc (.cells (spV plainT.sp).toArray 39)).heap[w.heap.size]? = some (.cells #[.slice none 0 0, .slice none 0 0, .slice none 0 0, .float .f64 0, .int .i64 0, .int .i64 0, .int .i64 0, .int .i64 0, .int .i64 0, .int .i64 0, .int .i64 0, .int .i64 0, .int .i64 0, .int .i64 0] 27 (0, 0)) := by
    rw [Below.heap_alloc _ _ _ (by simp; omega), Below.heap_alloc _ _ _ (by simp)]
    exact heap_new w _
  have HG := hide hg
  clear hg
  go_wp2_with (refine wpList_store_tariff rfl (.tmp 0) (.tmp 8) rfl (g := w.heap.size) (A := plainA w.heap.size) (t := plainT) rfl rfl _ (unhide HG) rfl ?_)
  refine bodyPost_ret (results_tariff rfl _ _ (g := w.heap.size) (A := plainA w.heap.size) (t := plainT) rfl (TB.set (unhide HG) _ _)) rfl ⟨_, rfl, ?_, ?_⟩
  · have h1 := cat_new (w.alloc (.cells #[.slice none 0 0, .slice none 0 0, .slice none 0 0, .float .f64 0, .int .i64 0, .int .i64 0, .int .i64 0, .int .i64 0, .int .i64 0, .int .i64 0, .int .i64 0, .int .i64 0, .int .i64 0, .int .i64 0] 27)) (stV plainT.st) 35
    have h2 := cat_new ((w.alloc (.cells #[.slice none 0 0, .slice none 0 0, .slice none 0 0, .float .f64 0, .int .i64 0, .int .i64 0, .int .i64 0, .int .i64 0, .int .i64 0, .int .i64 0, .int .i64 0, .int .i64 0, .int .i64 0, .int .i64 0] 27)).alloc (.cells (stV plainT.st).toArray 35)) (spV plainT.sp) 39
    rw [heap_alloc] at h1
    rw [heap_alloc, heap_alloc] at h2
    have f3 := (Fr.refl (fun k => k = w.heap.size) (((w.alloc (.cells #[.slice none 0 0, .slice none 0 0, .slice none 0 0, .float .f64 0, .int .i64 0, .int .i64 0, .int .i64 0, .int .i64 0, .int .i64 0, .int .i64 0, .int .i64 0, .int .i64 0, .int .i64 0, .int .i64 0] 27)).alloc (.cells (stV plainT.st).toArray 35)).alloc (.cells (spV plainT.sp).toArray 39))).setRow (g := w.heap.size) (fun _ => rfl) (tc (plainA w.heap.size) plainT)
    refine ⟨(h1.keep ((Fr.refl _ _).alloc _)).frame f3 (fun b off e _ t => ?_), h2.frame f3 (fun b off e _ t => ?_), CAt.nil _ _, by decide, by decide, by decide, by decide⟩
    · injection e with e
      injection e with e1 _
      omega
    · injection e with e
      injection e with e1 _
      omega
  · exact ((((Fr.refl _ w).alloc _).alloc _).alloc _).setRow (fun h => absurd h (Nat.lt_irrefl _)) _

theorem TB.setCell {w : World} {g : Nat} {A A' : Ad} {t t' : Tf} (h : TB w g A t) (k : Nat) (v : Value) (e : (tc A t).setIfInBounds k v = tc A' t') : TB (w.setCell ⟨g, k, none⟩ v) g A' t' := by
  have h' : w.heap[g]? = some (.cells (tc A t) 27 (0, 0)) := h
  rw [setCell_eq_setRow w g k _ _ _ v h', e]
  exact setRow_heap _ _ _ _ _ _ h'

theorem awake_any (w : World) : Calls Try.prog 8 #[] w fun e w' => e = .returned (.bool true) ∧ Fr (fun _ => False) w w' := by
  go_enter Try.func8, Try.ntmps8
  go_wp2_with fail
  refine (plain_any _).mono ?_
  rintro e w1 ⟨A, rfl, hT, hF1⟩
  have HG : Hid ((w1.alloc (.cells #[.slice none 0 0, .slice none 0 0, .slice none 0 0, .float .f64 0, .int .i64 0, .int .i64 0, .int .i64 0, .int .i64 0, .int .i64 0, .int .i64 0, .int .i64 0, .int .i64 0, .int .i64 0, .int .i64 0] 27)).heap[w1.heap.size]? = some (.cells #[.slice none 0 0, .slice none 0 0, .slice none 0 0, .float .f64 0, .int .i64 0, .int .i64 0, .int .i64 0, .int .i64 0, .int .i64 0, .int .i64 0, .int .i64 0, .int .i64 0, .int .i64 0, .int .i64 0] 27 (0, 0))) := hide (heap_new _ _)
  have HB0 := hide (TB.set (unhide HG) A plainT)
  have HF0 : Hid (Fr (fun _ => False) w1 ((w1.alloc (.cells #[.slice none 0 0, .slice none 0 0, .slice none 0 0, .float .f64 0, .int .i64 0, .int .i64 0, .int .i64 0, .int .i64 0, .int .i64 0, .int .i64 0, .int .i64 0, .int .i64 0, .int .i64 0, .int .i64 0] 27)).setRow w1.heap.size (tc A plainT))) := hide (((Fr.refl _ w1).alloc _).setRow (fun h => absurd h (Nat.lt_irrefl _)) _)
  have HT := hide hT
  have HF1 := hide hF1
  have R1 := right_walk ((w1.alloc (.cells #[.slice none 0 0, .slice none 0 0, .slice none 0 0, .float .f64 0, .int .i64 0, .int .i64 0, .int .i64 0, .int .i64 0, .int .i64 0, .int .i64 0, .int .i64 0, .int .i64 0, .int .i64 0, .int .i64 0] 27)).setRow w1.heap.size (tc A plainT)) A plainT (hT.keep (unhide HF0))
  rw [plain_right] at R1
  clear hT hF1
  go_wp2_with (first | refine wpList_store_tariff rfl (.tmp 1) (.tmp 8) rfl (g := w1.heap.size) (A := A) (t := plainT) rfl rfl _ (unhide HG) rfl ?_ | refine wpList_load_tariff rfl (.tmp 1) rfl (g := w1.heap.size) (A := A) (t := plainT) rfl (unhide HB0) ?_)
  refine R1.mono ?_
  rintro e w2 ⟨rfl, hF2⟩
  have HB2 := hide ((unhide HB0).keep hF2)
  have HF2 := hide ((unhide HF0).trans hF2 (fun _ _ t => t))
  clear R1 hF2 HB0 HF0 HG
  have R2 := station_any w2 A plainT ((unhide HT).keep (unhide HF2)) 2
  rw [plain_station] at R2
  go_wp2_with (refine wpList_load_tariff rfl (.tmp 1) rfl (g := w1.heap.size) (A := A) (t := plainT) rfl (unhide HB2) ?_)
  refine R2.mono ?_
  rintro e w3 ⟨rfl, hF3⟩
  have HB3 := hide (((unhide HB2).keep hF3).keep ((Fr.refl _ w3).alloc (.cells #[.int .i64 2, .int .i64 2, .int .i64 7] 35)))
  have HF3 := hide (((unhide HF2).trans hF3 (fun _ _ t => t)).alloc (.cells #[.int .i64 2, .int .i64 2, .int .i64 7] 35))
  have HC : Hid ((w3.alloc (.cells #[.int .i64 2, .int .i64 2, .int .i64 7] 35)).cell? ⟨w3.heap.size, 2, none⟩ = some (.int .i64 7)) := hide (by rw [World.cell?_alloc_new]; rfl)
  have HN := hide ((unhide HB2).keep hF3).lt
  clear R2 hF3 HB2 HF2
  have R3 := single_any (w3.alloc (.cells #[.int .i64 2, .int .i64 2, .int .i64 7] 35)) A plainT ((unhide HT).keep (unhide HF3)) 2 1 false
  rw [plain_single] at R3
  go_wp2_with (refine wpList_load_tariff rfl (.tmp 1) rfl (g := w1.heap.size) (A := A) (t := plainT) rfl (unhide HB3) ?_)
  refine R3.mono ?_
  rintro e w4 ⟨rfl, hF4⟩
  have HB4 := hide ((unhide HB3).keep hF4)
  have HF4 := hide ((unhide HF3).trans hF4 (fun _ _ t => t))
  have HC4 := hide ((hF4.cell (World.block_lt_of_cell? _ _ (unhide HC)) (fun t => t)).trans (unhide HC))
  clear R3 hF4 HB3 HF3 HC
  have c9 : w4.cell? ⟨w1.heap.size, 9, none⟩ = some (.int .i64 120) := (unhide HB4).cell 9
  have f9 := (unhide HB4).frozen 9
  have HB5 : Hid (TB (w4.setCell ⟨w1.heap.size, 9, none⟩ (.int .i64 0)) w1.heap.size A { plainT with longest := 0 }) := hide ((unhide HB4).setCell 9 _ rfl)
  have HF5 := hide ((unhide HF4).setCell (p := ⟨w1.heap.size, 9, none⟩) (fun h => absurd h (Nat.lt_irrefl _)) (.int .i64 0))
  have hT5 := (unhide HT).keep (unhide HF5)
  have R4 := right_walk (w4.setCell ⟨w1.heap.size, 9, none⟩ (.int .i64 0)) A { plainT with longest := 0 } ⟨hT5.st, hT5.sp, hT5.bd, hT5.lS, hT5.lP, hT5.lB, hT5.off⟩
  rw [plain_right0] at R4
  clear hT5
  go_wp2_with (refine wpList_load_tariff rfl (.tmp 1) rfl (g := w1.heap.size) (A := A) (t := { plainT with longest := 0 }) rfl (unhide HB5) ?_)
  refine R4.mono ?_
  rintro e w5 ⟨rfl, hF6⟩
  have hc : (w4.setCell ⟨w1.heap.size, 9, none⟩ (.int .i64 0)).cell? ⟨w3.heap.size, 2, none⟩ = some (.int .i64 7) := by
    rw [World.cell?_setCell_other _ _ _ _ (by intro h; injection h with h1 _; have := unhide HN; omega)]
    exact unhide HC4
  have c2 := (hF6.cell (World.block_lt_of_cell? _ _ hc) (fun t => t)).trans hc
  have HF7 := hide ((unhide HF1).trans ((unhide HF5).trans hF6 (fun _ _ t => t)) (fun _ _ t => t))
  clear R4 hF6 HF5 HB5 HC4 hc c9 f9 HB4 HF4 HF1 HN HT
  go_wp2
  go_ret
  exact ⟨rfl, unhide HF7⟩

end Go.Proofs.Ythgkdpepgnoepaa
