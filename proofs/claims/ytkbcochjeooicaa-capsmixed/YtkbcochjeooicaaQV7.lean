import Derived.Test.YtkbcochjeooicaaQUX
import Derived.Test.YtkbcochjeooicaaQM3
import Derived.Test.YtkbcochjeooicaaQRY
/- The document's own Station, Span and Single. -/
namespace Go.Proofs.Ytkbcochjeooicaa
open Go.RowKit

theorem run_min (ts : Array TypeId) (t : TypeId) (x y : Int) (w : World) : (Builtin.min_ ts t #[.int .i64 x, .int .i64 y]).run Try.prog w = .ok (.int .i64 (imin x y)) w := run_min_int2 w ts t .i64 .i64 x y
theorem run_max (ts : Array TypeId) (t : TypeId) (x y : Int) (w : World) : (Builtin.max_ ts t #[.int .i64 x, .int .i64 y]).run Try.prog w = .ok (.int .i64 (imax x y)) w := run_max_int2 w ts t .i64 .i64 x y

theorem heap_alloc' {w : World} {o : Obj} {B : Nat} (h : Hid (B = w.heap.size)) : (w.alloc o).heap.size = B + 1 := by rw [heap_alloc, unhide h]

theorem find_step {α : Type} (l : List α) (p : α → Bool) (i : Nat) (hi : i < l.length) : (l.drop i).find? p = if p l[i] then some l[i] else (l.drop (i + 1)).find? p := by
  rw [List.drop_eq_getElem_cons hi, List.find?_cons]
  cases p l[i] <;> rfl

set_option maxRecDepth 100000 in
theorem rstation_any (w : World) (A : Ad) (t : Tf) (h : TAt w A t) (id : Int) :
    Calls Try.prog 27 #[tv A t, .int .i64 id] w fun e w' => e = .returned (.tuple #[stA ((stationOf t id).getD ⟨0, 0, 0⟩), .bool (stationOf t id).isSome]) ∧ Fr (fun _ => False) w w' := by
  obtain ⟨r, HR⟩ : ∃ r, Hid (stationOf t id = r) := ⟨_, rfl⟩
  rw [unhide HR]
  obtain ⟨B, HBE⟩ : ∃ B, Hid (B = w.heap.size) := ⟨_, rfl⟩
  obtain ⟨W0, hW0⟩ : ∃ W0, W0 = (w.alloc (.cells (tc A t) 27)).alloc (.cells #[.int .i64 0, .int .i64 0, .int .i64 0] 62) := ⟨_, rfl⟩
  have HF : Hid (Fr (fun _ => False) w W0) := hide (by rw [hW0]; exact ((Fr.refl _ w).alloc _).alloc _)
  have hb : TB W0 B A t := by rw [hW0, unhide HBE]; exact (TB.new w A t).keep ((Fr.refl _ _).alloc _)
  have cB : W0.cell? ⟨B, 0, none⟩ = some (.slice A.aS t.st.length A.cS) := hb.cell 0
  have z0 : W0.cell? ⟨B + 1, 0, none⟩ = some (.int .i64 0) := by rw [hW0, ← heap_alloc' HBE, World.cell?_alloc_new]; rfl
  have z1 : W0.cell? ⟨B + 1, 1, none⟩ = some (.int .i64 0) := by rw [hW0, ← heap_alloc' HBE, World.cell?_alloc_new]; rfl
  have z2 : W0.cell? ⟨B + 1, 2, none⟩ = some (.int .i64 0) := by rw [hW0, ← heap_alloc' HBE, World.cell?_alloc_new]; rfl
  have f0 : ∀ j, W0.frozen? ⟨B + 1, j, none⟩ = false := fun j => by rw [hW0, ← heap_alloc' HBE]; exact World.frozen?_alloc_new _ _ _ _
  have H := hide (h.st.keep (unhide HF))
  have hl := h.lS
  clear h hb
  unfold tc at hW0
  unfold tv tc
  go_enter Try.func27, Try.ntmps27
  go_wp2
  rw [← hW0, ← unhide HBE]
  clear hW0
  go_loopw [6] (fun iv wr => ∃ (i : Nat), i ≤ t.st.length ∧ iv = .int .i64 i ∧ wr = W0 ∧ Hid ((t.st.drop i).find? (hasId id) = r)) (fun iv _ => t.st.length - (intOf iv).toNat)
  case atStart => exact ⟨0, Nat.zero_le _, rfl, rfl, hide (by rw [List.drop_zero]; exact unhide HR)⟩
  case round =>
    obtain ⟨i, hi, rfl, rfl, HI⟩ := hrel
    by_cases hil : i < t.st.length
    · obtain ⟨bb, off, eA, c0, c1, c2⟩ := (unhide H).st hil
      have ht := unhide HI
      rw [find_step _ _ _ hil] at ht
      have HT := hide ht
      rw [eA] at cB
      rw [eA]
      clear ht HI eA
      generalize t.st[i] = s at *
      by_cases g0 : s.id = id
      · have q0 : (s.id == id) = true := by simp [g0]
        have HE : Hid (r = some s) := hide (by rw [← unhide HT]; simp [hasId, g0])
        clear HT HR g0
        go_wp2
        refine bodyPost_ret (v := .tuple #[stA s, .bool true]) (by simp [results, Try.results27, go_sem, z0, z1, z2]) rfl ⟨by rw [unhide HE]; rfl, ?_⟩
        exact (((unhide HF).setCell (p := ⟨B + 1, 0, none⟩) (fun t => absurd t (by have := unhide HBE; simp only []; omega)) _).setCell (p := ⟨B + 1, 1, none⟩) (fun t => absurd t (by have := unhide HBE; simp only []; omega)) _).setCell (p := ⟨B + 1, 2, none⟩) (fun t => absurd t (by have := unhide HBE; simp only []; omega)) _
      · have q0 : (s.id == id) = false := by simp [g0]
        have HE : Hid ((t.st.drop (i + 1)).find? (hasId id) = r) := hide (by rw [← unhide HT]; simp [hasId, g0])
        clear HT HR g0
        go_wp2
        exact ⟨⟨i + 1, by omega, by go_num, (by first | rfl | trivial), unhide HE⟩, by simp [intOf]; omega⟩
    · obtain rfl : i = t.st.length := by omega
      have HE : Hid (r = none) := hide (by rw [← unhide HI, List.drop_length]; rfl)
      clear HI HR H
      go_wp2
      refine bodyPost_ret (v := .tuple #[stA ⟨0, 0, 0⟩, .bool false]) (by simp [results, Try.results27, go_sem, z0, z1, z2]) rfl ⟨by rw [unhide HE]; rfl, ?_⟩
      exact (((unhide HF).setCell (p := ⟨B + 1, 0, none⟩) (fun t => absurd t (by have := unhide HBE; simp only []; omega)) _).setCell (p := ⟨B + 1, 1, none⟩) (fun t => absurd t (by have := unhide HBE; simp only []; omega)) _).setCell (p := ⟨B + 1, 2, none⟩) (fun t => absurd t (by have := unhide HBE; simp only []; omega)) _

set_option maxRecDepth 100000 in
theorem rspan_any (w : World) (A : Ad) (t : Tf) (h : TAt w A t) (a b : Int) :
    Calls Try.prog 28 #[tv A t, .int .i64 a, .int .i64 b] w fun e w' => e = .returned (.tuple #[spA ((spanOf t a b).getD ⟨0, 0, 0, 0, 0⟩), .bool (spanOf t a b).isSome]) ∧ Fr (fun _ => False) w w' := by
  obtain ⟨r, HR⟩ : ∃ r, Hid (spanOf t a b = r) := ⟨_, rfl⟩
  rw [unhide HR]
  obtain ⟨B, HBE⟩ : ∃ B, Hid (B = w.heap.size) := ⟨_, rfl⟩
  obtain ⟨W0, hW0⟩ : ∃ W0, W0 = (w.alloc (.cells (tc A t) 27)).alloc (.cells #[.int .i64 0, .int .i64 0, .int .i64 0, .int .i64 0, .int .i64 0] 50) := ⟨_, rfl⟩
  have HF : Hid (Fr (fun _ => False) w W0) := hide (by rw [hW0]; exact ((Fr.refl _ w).alloc _).alloc _)
  have hb : TB W0 B A t := by rw [hW0, unhide HBE]; exact (TB.new w A t).keep ((Fr.refl _ _).alloc _)
  have cB : W0.cell? ⟨B, 1, none⟩ = some (.slice A.aP t.sp.length A.cP) := hb.cell 1
  have z0 : W0.cell? ⟨B + 1, 0, none⟩ = some (.int .i64 0) := by rw [hW0, ← heap_alloc' HBE, World.cell?_alloc_new]; rfl
  have z1 : W0.cell? ⟨B + 1, 1, none⟩ = some (.int .i64 0) := by rw [hW0, ← heap_alloc' HBE, World.cell?_alloc_new]; rfl
  have z2 : W0.cell? ⟨B + 1, 2, none⟩ = some (.int .i64 0) := by rw [hW0, ← heap_alloc' HBE, World.cell?_alloc_new]; rfl
  have z3 : W0.cell? ⟨B + 1, 3, none⟩ = some (.int .i64 0) := by rw [hW0, ← heap_alloc' HBE, World.cell?_alloc_new]; rfl
  have z4 : W0.cell? ⟨B + 1, 4, none⟩ = some (.int .i64 0) := by rw [hW0, ← heap_alloc' HBE, World.cell?_alloc_new]; rfl
  have f0 : ∀ j, W0.frozen? ⟨B + 1, j, none⟩ = false := fun j => by rw [hW0, ← heap_alloc' HBE]; exact World.frozen?_alloc_new _ _ _ _
  have H := hide (h.sp.keep (unhide HF))
  have hl := h.lP
  have k1 := run_min
  have k2 := run_max
  clear h hb
  unfold tc at hW0
  unfold tv tc
  go_enter Try.func28, Try.ntmps28
  go_wp2
  rw [← hW0, ← unhide HBE]
  clear hW0
  go_loopw [8] (fun iv wr => ∃ (i : Nat), i ≤ t.sp.length ∧ iv = .int .i64 i ∧ wr = W0 ∧ Hid ((t.sp.drop i).find? (wants ⟨min a b, max a b, 0, 0, 0⟩) = r)) (fun iv _ => t.sp.length - (intOf iv).toNat)
  case atStart => exact ⟨0, Nat.zero_le _, rfl, rfl, hide (by rw [List.drop_zero]; exact unhide HR)⟩
  case round =>
    obtain ⟨i, hi, rfl, rfl, HI⟩ := hrel
    by_cases hil : i < t.sp.length
    · obtain ⟨bb, off, eA, c0, c1, c2, c3, c4⟩ := (unhide H).sp hil
      have ht := unhide HI
      rw [find_step _ _ _ hil] at ht
      have HT := hide ht
      rw [eA] at cB
      rw [eA]
      clear ht HI eA
      generalize t.sp[i] = s at *
      have hmi := imin_eq a b
      have hma := imax_eq a b
      by_cases g0 : s.fr = imin a b
      · have q0 : (s.fr == imin a b) = true := by simp [g0]
        by_cases g1 : s.to = imax a b
        · have q1 : (s.to == imax a b) = true := by simp [g1]
          have hw : wants ⟨min a b, max a b, 0, 0, 0⟩ s = true := by rw [← hmi, ← hma]; simp [wants, sameB, g0, g1]
          clear hmi hma g0 g1
          have HE : Hid (r = some s) := hide (by rw [← unhide HT]; simp [hw])
          clear HT HR hw
          go_wp2
          refine bodyPost_ret (v := .tuple #[spA s, .bool true]) (by simp [results, Try.results28, go_sem, z0, z1, z2, z3, z4]) rfl ⟨by rw [unhide HE]; rfl, ?_⟩
          exact (((((unhide HF).setCell (p := ⟨B + 1, 0, none⟩) (fun t => absurd t (by have := unhide HBE; simp only []; omega)) _).setCell (p := ⟨B + 1, 1, none⟩) (fun t => absurd t (by have := unhide HBE; simp only []; omega)) _).setCell (p := ⟨B + 1, 2, none⟩) (fun t => absurd t (by have := unhide HBE; simp only []; omega)) _).setCell (p := ⟨B + 1, 3, none⟩) (fun t => absurd t (by have := unhide HBE; simp only []; omega)) _).setCell (p := ⟨B + 1, 4, none⟩) (fun t => absurd t (by have := unhide HBE; simp only []; omega)) _
        · have q1 : (s.to == imax a b) = false := by simp [g1]
          have hw : wants ⟨min a b, max a b, 0, 0, 0⟩ s = false := by rw [← hmi, ← hma]; simp [wants, sameB, g1]
          clear hmi hma g0 g1
          have HE : Hid ((t.sp.drop (i + 1)).find? (wants ⟨min a b, max a b, 0, 0, 0⟩) = r) := hide (by rw [← unhide HT]; simp [hw])
          clear HT HR hw
          go_wp2
          exact ⟨⟨i + 1, by omega, by go_num, (by first | rfl | trivial), unhide HE⟩, by simp [intOf]; omega⟩
      · have q0 : (s.fr == imin a b) = false := by simp [g0]
        have hw : wants ⟨min a b, max a b, 0, 0, 0⟩ s = false := by rw [← hmi, ← hma]; simp [wants, sameB, g0]
        clear hmi hma g0
        have HE : Hid ((t.sp.drop (i + 1)).find? (wants ⟨min a b, max a b, 0, 0, 0⟩) = r) := hide (by rw [← unhide HT]; simp [hw])
        clear HT HR hw
        go_wp2
        exact ⟨⟨i + 1, by omega, by go_num, (by first | rfl | trivial), unhide HE⟩, by simp [intOf]; omega⟩
    · obtain rfl : i = t.sp.length := by omega
      have HE : Hid (r = none) := hide (by rw [← unhide HI, List.drop_length]; rfl)
      clear HI HR H
      go_wp2
      refine bodyPost_ret (v := .tuple #[spA ⟨0, 0, 0, 0, 0⟩, .bool false]) (by simp [results, Try.results28, go_sem, z0, z1, z2, z3, z4]) rfl ⟨by rw [unhide HE]; rfl, ?_⟩
      exact (((((unhide HF).setCell (p := ⟨B + 1, 0, none⟩) (fun t => absurd t (by have := unhide HBE; simp only []; omega)) _).setCell (p := ⟨B + 1, 1, none⟩) (fun t => absurd t (by have := unhide HBE; simp only []; omega)) _).setCell (p := ⟨B + 1, 2, none⟩) (fun t => absurd t (by have := unhide HBE; simp only []; omega)) _).setCell (p := ⟨B + 1, 3, none⟩) (fun t => absurd t (by have := unhide HBE; simp only []; omega)) _).setCell (p := ⟨B + 1, 4, none⟩) (fun t => absurd t (by have := unhide HBE; simp only []; omega)) _

end Go.Proofs.Ytkbcochjeooicaa

