/- The first station, the first span that is as wanted: first, Station, Span. -/
import Derived.Test.YthgkdpepgnoepaaT8
namespace Go.Proofs.Ythgkdpepgnoepaa
open Go.RowKit

theorem firstSp_any (w : World) (x : Spn) (k : Nat) (d0 : w.cell? ⟨k, 0, none⟩ = some (.int .i64 x.fr)) (d1 : w.cell? ⟨k, 1, none⟩ = some (.int .i64 x.to)) (d2 : w.cell? ⟨k, 2, none⟩ = some (.int .i64 x.single)) (d3 : w.cell? ⟨k, 3, none⟩ = some (.int .i64 x.daily)) (d4 : w.cell? ⟨k, 4, none⟩ = some (.int .i64 x.weekly)) (ao : Option Addr) (cap : Nat) (l : List Spn) (h : CAt w ao (spV l)) (hl : (l.length + 1) * 40 ≤ 140737488355328) :
    Calls Try.prog 40 #[.slice ao l.length cap, .func (.func 41) #[] #[.pointer (some ⟨k, 0, none⟩)]] w fun e w' => e = .returned (.tuple #[spA ((l.find? (wants x)).getD ⟨0, 0, 0, 0, 0⟩), .bool (l.find? (wants x)).isSome]) ∧ Fr (fun _ => False) w w' := by
  have HR := hide (fun (w' : World) (hf : Fr (fun _ => False) w w') => indexSp_any w' _ k ((hf.cell (a := ⟨k, 0, none⟩) (World.block_lt_of_cell? _ _ d0) (fun t => t)).trans d0) ((hf.cell (a := ⟨k, 1, none⟩) (World.block_lt_of_cell? _ _ d1) (fun t => t)).trans d1) ((hf.cell (a := ⟨k, 2, none⟩) (World.block_lt_of_cell? _ _ d2) (fun t => t)).trans d2) ((hf.cell (a := ⟨k, 3, none⟩) (World.block_lt_of_cell? _ _ d3) (fun t => t)).trans d3) ((hf.cell (a := ⟨k, 4, none⟩) (World.block_lt_of_cell? _ _ d4) (fun t => t)).trans d4) ao cap l (h.keep hf) hl)
  have HX := hide (ixF_find (wants x) l 0)
  have H := hide h
  obtain ⟨r, hr⟩ : ∃ r, l.find? (wants x) = r := ⟨_, rfl⟩
  rw [hr] at HX ⊢
  generalize ixF (wants x) l 0 = x at *
  clear h hr d0 d1 d2 d3 d4
  rcases unhide HX with ⟨rfl, rfl⟩ | ⟨j, hj, hx, rfl⟩
  · clear HX H
    go_enter Try.func40, Try.ntmps40
    go_wp2_with fail
    refine (unhide HR _ ((Fr.refl _ w).alloc _)).mono ?_
    rintro e w1 ⟨rfl, hF⟩
    have HF := hide (((Fr.refl (fun _ => False) w).alloc _).trans hF (fun _ _ t => t))
    have hlt : w.heap.size < (w.alloc (.cells #[.int .i64 0, .int .i64 0, .int .i64 0, .int .i64 0, .int .i64 0] 39)).heap.size := by rw [heap_alloc]; exact Nat.lt_succ_self _
    have z0 : w1.cell? ⟨w.heap.size, 0, none⟩ = some (.int .i64 0) := by rw [hF.cell (a := ⟨w.heap.size, 0, none⟩) hlt (fun t => t), World.cell?_alloc_new]; rfl
    have z1 : w1.cell? ⟨w.heap.size, 1, none⟩ = some (.int .i64 0) := by rw [hF.cell (a := ⟨w.heap.size, 1, none⟩) hlt (fun t => t), World.cell?_alloc_new]; rfl
    have z2 : w1.cell? ⟨w.heap.size, 2, none⟩ = some (.int .i64 0) := by rw [hF.cell (a := ⟨w.heap.size, 2, none⟩) hlt (fun t => t), World.cell?_alloc_new]; rfl
    have z3 : w1.cell? ⟨w.heap.size, 3, none⟩ = some (.int .i64 0) := by rw [hF.cell (a := ⟨w.heap.size, 3, none⟩) hlt (fun t => t), World.cell?_alloc_new]; rfl
    have z4 : w1.cell? ⟨w.heap.size, 4, none⟩ = some (.int .i64 0) := by rw [hF.cell (a := ⟨w.heap.size, 4, none⟩) hlt (fun t => t), World.cell?_alloc_new]; rfl
    have f0 : ∀ j, w1.frozen? ⟨w.heap.size, j, none⟩ = false := fun j => by rw [hF.frozen (a := ⟨w.heap.size, j, none⟩) hlt (fun t => t)]; exact World.frozen?_alloc_new _ _ _ _
    clear hF hlt HR
    go_wp2
    refine bodyPost_ret (v := .tuple #[spA ⟨0, 0, 0, 0, 0⟩, .bool false]) (by simp [results, Try.results40, go_sem, z0, z1, z2, z3, z4]) rfl ⟨rfl, ?_⟩
    exact (((((unhide HF).setCell (p := ⟨w.heap.size, 0, none⟩) (fun t => absurd t (Nat.lt_irrefl _)) _).setCell (p := ⟨w.heap.size, 1, none⟩) (fun t => absurd t (Nat.lt_irrefl _)) _).setCell (p := ⟨w.heap.size, 2, none⟩) (fun t => absurd t (Nat.lt_irrefl _)) _).setCell (p := ⟨w.heap.size, 3, none⟩) (fun t => absurd t (Nat.lt_irrefl _)) _).setCell (p := ⟨w.heap.size, 4, none⟩) (fun t => absurd t (Nat.lt_irrefl _)) _
  · have hjl := hj
    obtain ⟨b, off, rfl, c0, c1, c2, c3, c4⟩ := (unhide H).sp hj
    have HB := hide (And.intro (World.block_lt_of_cell? _ _ c0) (And.intro (World.block_lt_of_cell? _ _ c1) c0))
    generalize l[j] = s at *
    have hx' : x = (j : Int) := by omega
    clear hx
    subst hx'
    have HC0 := hide c0
    have HC1 := hide c1
    have HC2 := hide c2
    have HC3 := hide c3
    have HC4 := hide c4
    clear HX H HB c0 c1 c2 c3 c4
    go_enter Try.func40, Try.ntmps40
    go_wp2_with fail
    refine (unhide HR _ ((Fr.refl _ w).alloc _)).mono ?_
    rintro e w1 ⟨rfl, hF⟩
    have HF := hide (((Fr.refl (fun _ => False) w).alloc _).trans hF (fun _ _ t => t))
    have hlt : w.heap.size < (w.alloc (.cells #[.int .i64 0, .int .i64 0, .int .i64 0, .int .i64 0, .int .i64 0] 39)).heap.size := by rw [heap_alloc]; exact Nat.lt_succ_self _
    have z0 : w1.cell? ⟨w.heap.size, 0, none⟩ = some (.int .i64 0) := by rw [hF.cell (a := ⟨w.heap.size, 0, none⟩) hlt (fun t => t), World.cell?_alloc_new]; rfl
    have z1 : w1.cell? ⟨w.heap.size, 1, none⟩ = some (.int .i64 0) := by rw [hF.cell (a := ⟨w.heap.size, 1, none⟩) hlt (fun t => t), World.cell?_alloc_new]; rfl
    have z2 : w1.cell? ⟨w.heap.size, 2, none⟩ = some (.int .i64 0) := by rw [hF.cell (a := ⟨w.heap.size, 2, none⟩) hlt (fun t => t), World.cell?_alloc_new]; rfl
    have z3 : w1.cell? ⟨w.heap.size, 3, none⟩ = some (.int .i64 0) := by rw [hF.cell (a := ⟨w.heap.size, 3, none⟩) hlt (fun t => t), World.cell?_alloc_new]; rfl
    have z4 : w1.cell? ⟨w.heap.size, 4, none⟩ = some (.int .i64 0) := by rw [hF.cell (a := ⟨w.heap.size, 4, none⟩) hlt (fun t => t), World.cell?_alloc_new]; rfl
    have f0 : ∀ j, w1.frozen? ⟨w.heap.size, j, none⟩ = false := fun j => by rw [hF.frozen (a := ⟨w.heap.size, j, none⟩) hlt (fun t => t)]; exact World.frozen?_alloc_new _ _ _ _
    have c0 := ((unhide HF).cell (World.block_lt_of_cell? _ _ (unhide HC0)) (fun t => t)).trans (unhide HC0)
    have c1 := ((unhide HF).cell (World.block_lt_of_cell? _ _ (unhide HC1)) (fun t => t)).trans (unhide HC1)
    have c2 := ((unhide HF).cell (World.block_lt_of_cell? _ _ (unhide HC2)) (fun t => t)).trans (unhide HC2)
    have c3 := ((unhide HF).cell (World.block_lt_of_cell? _ _ (unhide HC3)) (fun t => t)).trans (unhide HC3)
    have c4 := ((unhide HF).cell (World.block_lt_of_cell? _ _ (unhide HC4)) (fun t => t)).trans (unhide HC4)
    clear hF hlt HR HC0 HC1 HC2 HC3 HC4
    go_wp2
    refine bodyPost_ret (v := .tuple #[spA s, .bool true]) (by simp [results, Try.results40, go_sem, z0, z1, z2, z3, z4]) rfl ⟨rfl, ?_⟩
    exact (((((unhide HF).setCell (p := ⟨w.heap.size, 0, none⟩) (fun t => absurd t (Nat.lt_irrefl _)) _).setCell (p := ⟨w.heap.size, 1, none⟩) (fun t => absurd t (Nat.lt_irrefl _)) _).setCell (p := ⟨w.heap.size, 2, none⟩) (fun t => absurd t (Nat.lt_irrefl _)) _).setCell (p := ⟨w.heap.size, 3, none⟩) (fun t => absurd t (Nat.lt_irrefl _)) _).setCell (p := ⟨w.heap.size, 4, none⟩) (fun t => absurd t (Nat.lt_irrefl _)) _

theorem firstSt_any (w : World) (id : Int) (k : Nat) (d0 : w.cell? ⟨k, 0, none⟩ = some (.int .i64 id)) (ao : Option Addr) (cap : Nat) (l : List Stn) (h : CAt w ao (stV l)) (hl : (l.length + 1) * 24 ≤ 140737488355328) :
    Calls Try.prog 38 #[.slice ao l.length cap, .func (.func 39) #[] #[.pointer (some ⟨k, 0, none⟩)]] w fun e w' => e = .returned (.tuple #[stA ((l.find? (hasId id)).getD ⟨0, 0, 0⟩), .bool (l.find? (hasId id)).isSome]) ∧ Fr (fun _ => False) w w' := by
  have HR := hide (fun (w' : World) (hf : Fr (fun _ => False) w w') => indexSt_any w' _ k ((hf.cell (a := ⟨k, 0, none⟩) (World.block_lt_of_cell? _ _ d0) (fun t => t)).trans d0) ao cap l (h.keep hf) hl)
  have HX := hide (ixF_find (hasId id) l 0)
  have H := hide h
  obtain ⟨r, hr⟩ : ∃ r, l.find? (hasId id) = r := ⟨_, rfl⟩
  rw [hr] at HX ⊢
  generalize ixF (hasId id) l 0 = x at *
  clear h hr d0
  rcases unhide HX with ⟨rfl, rfl⟩ | ⟨j, hj, hx, rfl⟩
  · clear HX H
    go_enter Try.func38, Try.ntmps38
    go_wp2_with fail
    refine (unhide HR _ ((Fr.refl _ w).alloc _)).mono ?_
    rintro e w1 ⟨rfl, hF⟩
    have HF := hide (((Fr.refl (fun _ => False) w).alloc _).trans hF (fun _ _ t => t))
    have hlt : w.heap.size < (w.alloc (.cells #[.int .i64 0, .int .i64 0, .int .i64 0] 35)).heap.size := by rw [heap_alloc]; exact Nat.lt_succ_self _
    have z0 : w1.cell? ⟨w.heap.size, 0, none⟩ = some (.int .i64 0) := by rw [hF.cell (a := ⟨w.heap.size, 0, none⟩) hlt (fun t => t), World.cell?_alloc_new]; rfl
    have z1 : w1.cell? ⟨w.heap.size, 1, none⟩ = some (.int .i64 0) := by rw [hF.cell (a := ⟨w.heap.size, 1, none⟩) hlt (fun t => t), World.cell?_alloc_new]; rfl
    have z2 : w1.cell? ⟨w.heap.size, 2, none⟩ = some (.int .i64 0) := by rw [hF.cell (a := ⟨w.heap.size, 2, none⟩) hlt (fun t => t), World.cell?_alloc_new]; rfl
    have f0 : ∀ j, w1.frozen? ⟨w.heap.size, j, none⟩ = false := fun j => by rw [hF.frozen (a := ⟨w.heap.size, j, none⟩) hlt (fun t => t)]; exact World.frozen?_alloc_new _ _ _ _
    clear hF hlt HR
    go_wp2
    refine bodyPost_ret (v := .tuple #[stA ⟨0, 0, 0⟩, .bool false]) (by simp [results, Try.results38, go_sem, z0, z1, z2]) rfl ⟨rfl, ?_⟩
    exact (((unhide HF).setCell (p := ⟨w.heap.size, 0, none⟩) (fun t => absurd t (Nat.lt_irrefl _)) _).setCell (p := ⟨w.heap.size, 1, none⟩) (fun t => absurd t (Nat.lt_irrefl _)) _).setCell (p := ⟨w.heap.size, 2, none⟩) (fun t => absurd t (Nat.lt_irrefl _)) _
  · have hjl := hj
    obtain ⟨b, off, rfl, c0, c1, c2⟩ := (unhide H).st hj
    have HB := hide (And.intro (World.block_lt_of_cell? _ _ c0) (And.intro (World.block_lt_of_cell? _ _ c1) c0))
    generalize l[j] = s at *
    have hx' : x = (j : Int) := by omega
    clear hx
    subst hx'
    have HC0 := hide c0
    have HC1 := hide c1
    have HC2 := hide c2
    clear HX H HB c0 c1 c2
    go_enter Try.func38, Try.ntmps38
    go_wp2_with fail
    refine (unhide HR _ ((Fr.refl _ w).alloc _)).mono ?_
    rintro e w1 ⟨rfl, hF⟩
    have HF := hide (((Fr.refl (fun _ => False) w).alloc _).trans hF (fun _ _ t => t))
    have hlt : w.heap.size < (w.alloc (.cells #[.int .i64 0, .int .i64 0, .int .i64 0] 35)).heap.size := by rw [heap_alloc]; exact Nat.lt_succ_self _
    have z0 : w1.cell? ⟨w.heap.size, 0, none⟩ = some (.int .i64 0) := by rw [hF.cell (a := ⟨w.heap.size, 0, none⟩) hlt (fun t => t), World.cell?_alloc_new]; rfl
    have z1 : w1.cell? ⟨w.heap.size, 1, none⟩ = some (.int .i64 0) := by rw [hF.cell (a := ⟨w.heap.size, 1, none⟩) hlt (fun t => t), World.cell?_alloc_new]; rfl
    have z2 : w1.cell? ⟨w.heap.size, 2, none⟩ = some (.int .i64 0) := by rw [hF.cell (a := ⟨w.heap.size, 2, none⟩) hlt (fun t => t), World.cell?_alloc_new]; rfl
    have f0 : ∀ j, w1.frozen? ⟨w.heap.size, j, none⟩ = false := fun j => by rw [hF.frozen (a := ⟨w.heap.size, j, none⟩) hlt (fun t => t)]; exact World.frozen?_alloc_new _ _ _ _
    have c0 := ((unhide HF).cell (World.block_lt_of_cell? _ _ (unhide HC0)) (fun t => t)).trans (unhide HC0)
    have c1 := ((unhide HF).cell (World.block_lt_of_cell? _ _ (unhide HC1)) (fun t => t)).trans (unhide HC1)
    have c2 := ((unhide HF).cell (World.block_lt_of_cell? _ _ (unhide HC2)) (fun t => t)).trans (unhide HC2)
    clear hF hlt HR HC0 HC1 HC2
    go_wp2
    refine bodyPost_ret (v := .tuple #[stA s, .bool true]) (by simp [results, Try.results38, go_sem, z0, z1, z2]) rfl ⟨rfl, ?_⟩
    exact (((unhide HF).setCell (p := ⟨w.heap.size, 0, none⟩) (fun t => absurd t (Nat.lt_irrefl _)) _).setCell (p := ⟨w.heap.size, 1, none⟩) (fun t => absurd t (Nat.lt_irrefl _)) _).setCell (p := ⟨w.heap.size, 2, none⟩) (fun t => absurd t (Nat.lt_irrefl _)) _

/-- What a tariff says of two zones, of a station. -/
def spanOf (t : Tf) (a b : Int) : Option Spn := t.sp.find? (wants ⟨min a b, max a b, 0, 0, 0⟩)
def stationOf (t : Tf) (id : Int) : Option Stn := t.st.find? (hasId id)

theorem station_any (w : World) (A : Ad) (t : Tf) (h : TAt w A t) (id : Int) :
    Calls Try.prog 13 #[tv A t, .int .i64 id] w fun e w' => e = .returned (.tuple #[stA ((stationOf t id).getD ⟨0, 0, 0⟩), .bool (stationOf t id).isSome]) ∧ Fr (fun _ => False) w w' := by
  have HR := hide (fun (w' : World) (k : Nat) (hf : Fr (fun _ => False) w w') (d0 : w'.cell? ⟨k, 0, none⟩ = some (.int .i64 id)) => firstSt_any w' id k d0 A.aS A.cS t.st (h.st.keep hf) h.lS)
  have HX : Hid (stationOf t id = t.st.find? (hasId id)) := rfl
  rw [unhide HX]
  generalize t.st.find? (hasId id) = r at *
  generalize r.isSome = rb at *
  generalize r.getD ⟨0, 0, 0⟩ = rs at *
  clear HX h
  unfold tv tc
  go_enter Try.func13, Try.ntmps13
  go_wp2_with fail
  refine (unhide HR _ (w.heap.size + 1) (((Fr.refl _ w).alloc _).alloc _ |>.alloc _) (by simp [go_sem])).mono ?_
  rintro e w1 ⟨rfl, hF⟩
  have HF := hide (Fr.trans (S := fun _ => False) (b := _) ((((Fr.refl (fun _ => False) w).alloc _).alloc _).alloc _) hF (fun _ _ t => t))
  have z0 : w1.cell? ⟨w.heap.size + 1 + 1, 0, none⟩ = some (.int .i64 0) := (hF.cell (a := ⟨w.heap.size + 1 + 1, 0, none⟩) (by simp) (fun t => t)).trans (by simp [go_sem])
  have z1 : w1.cell? ⟨w.heap.size + 1 + 1, 1, none⟩ = some (.int .i64 0) := (hF.cell (a := ⟨w.heap.size + 1 + 1, 1, none⟩) (by simp) (fun t => t)).trans (by simp [go_sem])
  have z2 : w1.cell? ⟨w.heap.size + 1 + 1, 2, none⟩ = some (.int .i64 0) := (hF.cell (a := ⟨w.heap.size + 1 + 1, 2, none⟩) (by simp) (fun t => t)).trans (by simp [go_sem])
  have f0 : ∀ j, w1.frozen? ⟨w.heap.size + 1 + 1, j, none⟩ = false := fun j => (hF.frozen (a := ⟨w.heap.size + 1 + 1, j, none⟩) (by simp) (fun t => t)).trans (by simp [go_sem])
  clear hF HR
  go_wp2
  refine bodyPost_ret (v := .tuple #[stA rs, .bool rb]) (by simp [results, Try.results13, go_sem, z0, z1, z2]) rfl ⟨rfl, ?_⟩
  exact (((unhide HF).setCell (p := ⟨w.heap.size + 1 + 1, 0, none⟩) (fun t => absurd t (by simp only []; omega)) _).setCell (p := ⟨w.heap.size + 1 + 1, 1, none⟩) (fun t => absurd t (by simp only []; omega)) _).setCell (p := ⟨w.heap.size + 1 + 1, 2, none⟩) (fun t => absurd t (by simp only []; omega)) _

theorem span_any (w : World) (A : Ad) (t : Tf) (h : TAt w A t) (a b : Int) :
    Calls Try.prog 14 #[tv A t, .int .i64 a, .int .i64 b] w fun e w' => e = .returned (.tuple #[spA ((spanOf t a b).getD ⟨0, 0, 0, 0, 0⟩), .bool (spanOf t a b).isSome]) ∧ Fr (fun _ => False) w w' := by
  have HR0 := hide (fun (lo hi : Int) (w' : World) (k : Nat) (hf : Fr (fun _ => False) w w') (d0 : w'.cell? ⟨k, 0, none⟩ = some (.int .i64 lo)) (d1 : w'.cell? ⟨k, 1, none⟩ = some (.int .i64 hi)) (d2 : w'.cell? ⟨k, 2, none⟩ = some (.int .i64 0)) (d3 : w'.cell? ⟨k, 3, none⟩ = some (.int .i64 0)) (d4 : w'.cell? ⟨k, 4, none⟩ = some (.int .i64 0)) => firstSp_any w' ⟨lo, hi, 0, 0, 0⟩ k d0 d1 d2 d3 d4 A.aP A.cP t.sp (h.sp.keep hf) h.lP)
  have HX : Hid (spanOf t a b = t.sp.find? (wants ⟨min a b, max a b, 0, 0, 0⟩)) := rfl
  rw [unhide HX]
  clear HX h
  rcases Int.lt_trichotomy a b with hab | hab | hab
  · rw [Int.min_eq_left (by omega), Int.max_eq_right (by omega)]
    have HR := hide (unhide HR0 a b)
    clear HR0
    generalize t.sp.find? (wants ⟨a, b, 0, 0, 0⟩) = r at *
    generalize r.isSome = rb at *
    generalize r.getD ⟨0, 0, 0, 0, 0⟩ = rs at *
    unfold tv tc
    go_enter Try.func14, Try.ntmps14
    go_wp2_with fail
    refine (unhide HR _ (w.heap.size + 1 + 1) (((Fr.refl _ w).alloc _).alloc _ |>.alloc _) (by simp [go_sem]) (by simp [go_sem]) (by simp [go_sem]) (by simp [go_sem]) (by simp [go_sem])).mono ?_
    rintro e w1 ⟨rfl, hF⟩
    have HF := hide (Fr.trans (S := fun _ => False) (b := _) ((((Fr.refl (fun _ => False) w).alloc _).alloc _).alloc _) hF (fun _ _ t => t))
    have z0 : w1.cell? ⟨w.heap.size + 1, 0, none⟩ = some (.int .i64 0) := (hF.cell (a := ⟨w.heap.size + 1, 0, none⟩) (by simp) (fun t => t)).trans (by simp [go_sem])
    have z1 : w1.cell? ⟨w.heap.size + 1, 1, none⟩ = some (.int .i64 0) := (hF.cell (a := ⟨w.heap.size + 1, 1, none⟩) (by simp) (fun t => t)).trans (by simp [go_sem])
    have z2 : w1.cell? ⟨w.heap.size + 1, 2, none⟩ = some (.int .i64 0) := (hF.cell (a := ⟨w.heap.size + 1, 2, none⟩) (by simp) (fun t => t)).trans (by simp [go_sem])
    have z3 : w1.cell? ⟨w.heap.size + 1, 3, none⟩ = some (.int .i64 0) := (hF.cell (a := ⟨w.heap.size + 1, 3, none⟩) (by simp) (fun t => t)).trans (by simp [go_sem])
    have z4 : w1.cell? ⟨w.heap.size + 1, 4, none⟩ = some (.int .i64 0) := (hF.cell (a := ⟨w.heap.size + 1, 4, none⟩) (by simp) (fun t => t)).trans (by simp [go_sem])
    have f0 : ∀ j, w1.frozen? ⟨w.heap.size + 1, j, none⟩ = false := fun j => (hF.frozen (a := ⟨w.heap.size + 1, j, none⟩) (by simp) (fun t => t)).trans (by simp [go_sem])
    clear hF HR
    go_wp2
    refine bodyPost_ret (v := .tuple #[spA rs, .bool rb]) (by simp [results, Try.results14, go_sem, z0, z1, z2, z3, z4]) rfl ⟨rfl, ?_⟩
    exact (((((unhide HF).setCell (p := ⟨w.heap.size + 1, 0, none⟩) (fun t => absurd t (by simp only []; omega)) _).setCell (p := ⟨w.heap.size + 1, 1, none⟩) (fun t => absurd t (by simp only []; omega)) _).setCell (p := ⟨w.heap.size + 1, 2, none⟩) (fun t => absurd t (by simp only []; omega)) _).setCell (p := ⟨w.heap.size + 1, 3, none⟩) (fun t => absurd t (by simp only []; omega)) _).setCell (p := ⟨w.heap.size + 1, 4, none⟩) (fun t => absurd t (by simp only []; omega)) _
  · subst hab
    rw [Int.min_self, Int.max_self]
    have HR := hide (unhide HR0 a a)
    clear HR0
    generalize t.sp.find? (wants ⟨a, a, 0, 0, 0⟩) = r at *
    generalize r.isSome = rb at *
    generalize r.getD ⟨0, 0, 0, 0, 0⟩ = rs at *
    unfold tv tc
    go_enter Try.func14, Try.ntmps14
    go_wp2_with fail
    refine (unhide HR _ (w.heap.size + 1 + 1) (((Fr.refl _ w).alloc _).alloc _ |>.alloc _) (by simp [go_sem]) (by simp [go_sem]) (by simp [go_sem]) (by simp [go_sem]) (by simp [go_sem])).mono ?_
    rintro e w1 ⟨rfl, hF⟩
    have HF := hide (Fr.trans (S := fun _ => False) (b := _) ((((Fr.refl (fun _ => False) w).alloc _).alloc _).alloc _) hF (fun _ _ t => t))
    have z0 : w1.cell? ⟨w.heap.size + 1, 0, none⟩ = some (.int .i64 0) := (hF.cell (a := ⟨w.heap.size + 1, 0, none⟩) (by simp) (fun t => t)).trans (by simp [go_sem])
    have z1 : w1.cell? ⟨w.heap.size + 1, 1, none⟩ = some (.int .i64 0) := (hF.cell (a := ⟨w.heap.size + 1, 1, none⟩) (by simp) (fun t => t)).trans (by simp [go_sem])
    have z2 : w1.cell? ⟨w.heap.size + 1, 2, none⟩ = some (.int .i64 0) := (hF.cell (a := ⟨w.heap.size + 1, 2, none⟩) (by simp) (fun t => t)).trans (by simp [go_sem])
    have z3 : w1.cell? ⟨w.heap.size + 1, 3, none⟩ = some (.int .i64 0) := (hF.cell (a := ⟨w.heap.size + 1, 3, none⟩) (by simp) (fun t => t)).trans (by simp [go_sem])
    have z4 : w1.cell? ⟨w.heap.size + 1, 4, none⟩ = some (.int .i64 0) := (hF.cell (a := ⟨w.heap.size + 1, 4, none⟩) (by simp) (fun t => t)).trans (by simp [go_sem])
    have f0 : ∀ j, w1.frozen? ⟨w.heap.size + 1, j, none⟩ = false := fun j => (hF.frozen (a := ⟨w.heap.size + 1, j, none⟩) (by simp) (fun t => t)).trans (by simp [go_sem])
    clear hF HR
    go_wp2
    refine bodyPost_ret (v := .tuple #[spA rs, .bool rb]) (by simp [results, Try.results14, go_sem, z0, z1, z2, z3, z4]) rfl ⟨rfl, ?_⟩
    exact (((((unhide HF).setCell (p := ⟨w.heap.size + 1, 0, none⟩) (fun t => absurd t (by simp only []; omega)) _).setCell (p := ⟨w.heap.size + 1, 1, none⟩) (fun t => absurd t (by simp only []; omega)) _).setCell (p := ⟨w.heap.size + 1, 2, none⟩) (fun t => absurd t (by simp only []; omega)) _).setCell (p := ⟨w.heap.size + 1, 3, none⟩) (fun t => absurd t (by simp only []; omega)) _).setCell (p := ⟨w.heap.size + 1, 4, none⟩) (fun t => absurd t (by simp only []; omega)) _
  · rw [Int.min_eq_right (by omega), Int.max_eq_left (by omega)]
    have HR := hide (unhide HR0 b a)
    clear HR0
    generalize t.sp.find? (wants ⟨b, a, 0, 0, 0⟩) = r at *
    generalize r.isSome = rb at *
    generalize r.getD ⟨0, 0, 0, 0, 0⟩ = rs at *
    unfold tv tc
    go_enter Try.func14, Try.ntmps14
    go_wp2_with fail
    refine (unhide HR _ (w.heap.size + 1 + 1) (((Fr.refl _ w).alloc _).alloc _ |>.alloc _) (by simp [go_sem]) (by simp [go_sem]) (by simp [go_sem]) (by simp [go_sem]) (by simp [go_sem])).mono ?_
    rintro e w1 ⟨rfl, hF⟩
    have HF := hide (Fr.trans (S := fun _ => False) (b := _) ((((Fr.refl (fun _ => False) w).alloc _).alloc _).alloc _) hF (fun _ _ t => t))
    have z0 : w1.cell? ⟨w.heap.size + 1, 0, none⟩ = some (.int .i64 0) := (hF.cell (a := ⟨w.heap.size + 1, 0, none⟩) (by simp) (fun t => t)).trans (by simp [go_sem])
    have z1 : w1.cell? ⟨w.heap.size + 1, 1, none⟩ = some (.int .i64 0) := (hF.cell (a := ⟨w.heap.size + 1, 1, none⟩) (by simp) (fun t => t)).trans (by simp [go_sem])
    have z2 : w1.cell? ⟨w.heap.size + 1, 2, none⟩ = some (.int .i64 0) := (hF.cell (a := ⟨w.heap.size + 1, 2, none⟩) (by simp) (fun t => t)).trans (by simp [go_sem])
    have z3 : w1.cell? ⟨w.heap.size + 1, 3, none⟩ = some (.int .i64 0) := (hF.cell (a := ⟨w.heap.size + 1, 3, none⟩) (by simp) (fun t => t)).trans (by simp [go_sem])
    have z4 : w1.cell? ⟨w.heap.size + 1, 4, none⟩ = some (.int .i64 0) := (hF.cell (a := ⟨w.heap.size + 1, 4, none⟩) (by simp) (fun t => t)).trans (by simp [go_sem])
    have f0 : ∀ j, w1.frozen? ⟨w.heap.size + 1, j, none⟩ = false := fun j => (hF.frozen (a := ⟨w.heap.size + 1, j, none⟩) (by simp) (fun t => t)).trans (by simp [go_sem])
    clear hF HR
    go_wp2
    refine bodyPost_ret (v := .tuple #[spA rs, .bool rb]) (by simp [results, Try.results14, go_sem, z0, z1, z2, z3, z4]) rfl ⟨rfl, ?_⟩
    exact (((((unhide HF).setCell (p := ⟨w.heap.size + 1, 0, none⟩) (fun t => absurd t (by simp only []; omega)) _).setCell (p := ⟨w.heap.size + 1, 1, none⟩) (fun t => absurd t (by simp only []; omega)) _).setCell (p := ⟨w.heap.size + 1, 2, none⟩) (fun t => absurd t (by simp only []; omega)) _).setCell (p := ⟨w.heap.size + 1, 3, none⟩) (fun t => absurd t (by simp only []; omega)) _).setCell (p := ⟨w.heap.size + 1, 4, none⟩) (fun t => absurd t (by simp only []; omega)) _

end Go.Proofs.Ythgkdpepgnoepaa
