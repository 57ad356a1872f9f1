import Derived.Test.YtjgbllfppomcmaaQY
/- The first station, the first span that is as wanted: IndexFunc, first, Station, Span. -/
namespace Go.Proofs.Ytjgbllfppomcmaa
open Go.RowKit

def wants (x s : Spn) : Bool := sameB s x
def hasId (id : Int) (s : Stn) : Bool := s.id == id

/-- The first index, or -1. -/
def ixF {α : Type} (p : α → Bool) : List α → Nat → Int
  | [], _ => -1
  | b :: r, i => if p b then (i : Int) else ixF p r (i + 1)

theorem ixF_cons {α : Type} (p : α → Bool) (b : α) (r : List α) (i : Nat) : ixF p (b :: r) i = if p b then (i : Int) else ixF p r (i + 1) := rfl

theorem ixF_find {α : Type} (p : α → Bool) : ∀ (l : List α) (i : Nat), (ixF p l i = -1 ∧ l.find? p = none) ∨ (∃ k, ∃ hk : k < l.length, ixF p l i = (i : Int) + k ∧ l.find? p = some l[k])
  | [], _ => .inl ⟨rfl, rfl⟩
  | b :: r, i => by
    rw [ixF_cons, List.find?_cons]
    cases h : p b with
    | true => exact .inr ⟨0, by simp, by simp, rfl⟩
    | false =>
      rcases ixF_find p r (i + 1) with ⟨e1, e2⟩ | ⟨k, hk, e1, e2⟩
      · exact .inl ⟨by simpa using e1, e2⟩
      · refine .inr ⟨k + 1, by simpa using hk, ?_, ?_⟩
        · simp only [Bool.false_eq_true, if_false]
          rw [e1]
          omega
        · simpa using e2

theorem indexSp_any (w : World) (x : Spn) (k : Nat) (d0 : w.cell? ⟨k, 0, none⟩ = some (.int .i64 x.fr)) (d1 : w.cell? ⟨k, 1, none⟩ = some (.int .i64 x.to)) (d2 : w.cell? ⟨k, 2, none⟩ = some (.int .i64 x.single)) (d3 : w.cell? ⟨k, 3, none⟩ = some (.int .i64 x.daily)) (d4 : w.cell? ⟨k, 4, none⟩ = some (.int .i64 x.weekly)) (ao : Option Addr) (cap : Nat) (l : List Spn) (h : CAt w ao (spV l)) (hl : (l.length + 1) * 40 ≤ 140737488355328) :
    Calls Try.prog 53 #[.slice ao l.length cap, .func (.func 48) #[] #[.pointer (some ⟨k, 0, none⟩)]] w fun e w' => e = .returned (.int .i64 (ixF (wants x) l 0)) ∧ Fr (fun _ => False) w w' := by
  have HC := hide (fun (w' : World) (hf : Fr (fun _ => False) w w') (s : Spn) => (span1_any w' s x k ((hf.cell (a := ⟨k, 0, none⟩) (World.block_lt_of_cell? _ _ d0) (fun t => t)).trans d0) ((hf.cell (a := ⟨k, 1, none⟩) (World.block_lt_of_cell? _ _ d1) (fun t => t)).trans d1) ((hf.cell (a := ⟨k, 2, none⟩) (World.block_lt_of_cell? _ _ d2) (fun t => t)).trans d2) ((hf.cell (a := ⟨k, 3, none⟩) (World.block_lt_of_cell? _ _ d3) (fun t => t)).trans d3) ((hf.cell (a := ⟨k, 4, none⟩) (World.block_lt_of_cell? _ _ d4) (fun t => t)).trans d4) : Calls Try.prog 48 #[spA s, .pointer (some ⟨k, 0, none⟩)] w' fun e w'' => e = .returned (.bool ((wants x) s)) ∧ Fr (fun _ => False) w' w''))
  have H := hide h
  generalize hp : (wants x) = p at *
  have HC' : Hid (∀ (w' : World) (hf : Fr (fun _ => False) w w') (s : Spn), Calls Try.prog 48 #[spA s, .pointer (some ⟨k, 0, none⟩)] w' fun e w'' => e = .returned (.bool (p s)) ∧ Fr (fun _ => False) w' w'') := hide (fun w' hf s => by rw [← hp]; exact unhide HC w' hf s)
  clear h d0 d1 d2 d3 d4 hp HC
  go_enter Try.func53, Try.ntmps53
  go_wp2
  go_loopw [5, 8] (fun _ iv wr => ∃ (i : Nat), i ≤ l.length ∧ iv = .int .i64 i ∧ Hid (Fr (fun _ => False) w wr ∧ ixF p (l.drop i) i = ixF p l 0)) (fun _ iv _ => l.length - (intOf iv).toNat)
  case atStart => exact ⟨0, Nat.zero_le _, rfl, Fr.refl _ _, by simp⟩
  case round =>
    obtain ⟨i, hi, rfl, HI⟩ := hrel
    by_cases hil : i < l.length
    · obtain ⟨b, off, rfl, c0, c1, c2, c3, c4⟩ := ((unhide H).keep (unhide HI).1).sp hil
      have ht := (unhide HI).2
      rw [List.drop_eq_getElem_cons hil, ixF_cons] at ht
      have R := unhide HC' wr (unhide HI).1 l[i]
      generalize l[i] = x at *
      have HT := hide ht
      clear ht
      cases hx : p x with
      | true =>
        rw [hx] at R HT
        clear hx
        have HT' : Hid (ixF p l 0 = (i : Int)) := hide (by have := unhide HT; simpa using this.symm)
        clear HT
        go_wp2_with fail
        refine R.mono ?_
        rintro e w1 ⟨rfl, hF⟩
        have HF := hide ((unhide HI).1.trans hF (fun _ _ t => t))
        clear hF R
        go_wp2
        go_ret
        exact ⟨by rw [unhide HT']; rfl, unhide HF⟩
      | false =>
        rw [hx] at R HT
        clear hx
        have HT' : Hid (ixF p (l.drop (i + 1)) (i + 1) = ixF p l 0) := hide (by have := unhide HT; simpa using this)
        clear HT
        go_wp2_with fail
        refine R.mono ?_
        rintro e w1 ⟨rfl, hF⟩
        have HF := hide ((unhide HI).1.trans hF (fun _ _ t => t))
        clear hF R
        go_wp2
        exact ⟨⟨i + 1, by omega, by go_num, unhide HF, unhide HT'⟩, by simp [intOf]; omega⟩
    · obtain rfl : i = l.length := by omega
      have ht := (unhide HI).2
      rw [List.drop_length] at ht
      have HN := hide ht
      have HF := hide (unhide HI).1
      clear ht HI H
      go_wp2
      go_ret
      exact ⟨by rw [← unhide HN]; rfl, unhide HF⟩

theorem indexSt_any (w : World) (id : Int) (k : Nat) (d0 : w.cell? ⟨k, 0, none⟩ = some (.int .i64 id)) (ao : Option Addr) (cap : Nat) (l : List Stn) (h : CAt w ao (stV l)) (hl : (l.length + 1) * 24 ≤ 140737488355328) :
    Calls Try.prog 55 #[.slice ao l.length cap, .func (.func 51) #[] #[.pointer (some ⟨k, 0, none⟩)]] w fun e w' => e = .returned (.int .i64 (ixF (hasId id) l 0)) ∧ Fr (fun _ => False) w w' := by
  have HC := hide (fun (w' : World) (hf : Fr (fun _ => False) w w') (s : Stn) => (station1_any w' s id k ((hf.cell (a := ⟨k, 0, none⟩) (World.block_lt_of_cell? _ _ d0) (fun t => t)).trans d0) : Calls Try.prog 51 #[stA s, .pointer (some ⟨k, 0, none⟩)] w' fun e w'' => e = .returned (.bool ((hasId id) s)) ∧ Fr (fun _ => False) w' w''))
  have H := hide h
  generalize hp : (hasId id) = p at *
  have HC' : Hid (∀ (w' : World) (hf : Fr (fun _ => False) w w') (s : Stn), Calls Try.prog 51 #[stA s, .pointer (some ⟨k, 0, none⟩)] w' fun e w'' => e = .returned (.bool (p s)) ∧ Fr (fun _ => False) w' w'') := hide (fun w' hf s => by rw [← hp]; exact unhide HC w' hf s)
  clear h d0 hp HC
  go_enter Try.func55, Try.ntmps55
  go_wp2
  go_loopw [5, 8] (fun _ iv wr => ∃ (i : Nat), i ≤ l.length ∧ iv = .int .i64 i ∧ Hid (Fr (fun _ => False) w wr ∧ ixF p (l.drop i) i = ixF p l 0)) (fun _ iv _ => l.length - (intOf iv).toNat)
  case atStart => exact ⟨0, Nat.zero_le _, rfl, Fr.refl _ _, by simp⟩
  case round =>
    obtain ⟨i, hi, rfl, HI⟩ := hrel
    by_cases hil : i < l.length
    · obtain ⟨b, off, rfl, c0, c1, c2⟩ := ((unhide H).keep (unhide HI).1).st hil
      have ht := (unhide HI).2
      rw [List.drop_eq_getElem_cons hil, ixF_cons] at ht
      have R := unhide HC' wr (unhide HI).1 l[i]
      generalize l[i] = x at *
      have HT := hide ht
      clear ht
      cases hx : p x with
      | true =>
        rw [hx] at R HT
        clear hx
        have HT' : Hid (ixF p l 0 = (i : Int)) := hide (by have := unhide HT; simpa using this.symm)
        clear HT
        go_wp2_with fail
        refine R.mono ?_
        rintro e w1 ⟨rfl, hF⟩
        have HF := hide ((unhide HI).1.trans hF (fun _ _ t => t))
        clear hF R
        go_wp2
        go_ret
        exact ⟨by rw [unhide HT']; rfl, unhide HF⟩
      | false =>
        rw [hx] at R HT
        clear hx
        have HT' : Hid (ixF p (l.drop (i + 1)) (i + 1) = ixF p l 0) := hide (by have := unhide HT; simpa using this)
        clear HT
        go_wp2_with fail
        refine R.mono ?_
        rintro e w1 ⟨rfl, hF⟩
        have HF := hide ((unhide HI).1.trans hF (fun _ _ t => t))
        clear hF R
        go_wp2
        exact ⟨⟨i + 1, by omega, by go_num, unhide HF, unhide HT'⟩, by simp [intOf]; omega⟩
    · obtain rfl : i = l.length := by omega
      have ht := (unhide HI).2
      rw [List.drop_length] at ht
      have HN := hide ht
      have HF := hide (unhide HI).1
      clear ht HI H
      go_wp2
      go_ret
      exact ⟨by rw [← unhide HN]; rfl, unhide HF⟩


end Go.Proofs.Ytjgbllfppomcmaa

/- The first station, the first span that is as wanted: first, Station, Span. -/
namespace Go.Proofs.Ytjgbllfppomcmaa
open Go.RowKit

theorem firstSp_any (w : World) (x : Spn) (k : Nat) (d0 : w.cell? ⟨k, 0, none⟩ = some (.int .i64 x.fr)) (d1 : w.cell? ⟨k, 1, none⟩ = some (.int .i64 x.to)) (d2 : w.cell? ⟨k, 2, none⟩ = some (.int .i64 x.single)) (d3 : w.cell? ⟨k, 3, none⟩ = some (.int .i64 x.daily)) (d4 : w.cell? ⟨k, 4, none⟩ = some (.int .i64 x.weekly)) (ao : Option Addr) (cap : Nat) (l : List Spn) (h : CAt w ao (spV l)) (hl : (l.length + 1) * 40 ≤ 140737488355328) :
    Calls Try.prog 47 #[.slice ao l.length cap, .func (.func 48) #[] #[.pointer (some ⟨k, 0, none⟩)]] w fun e w' => e = .returned (.tuple #[spA ((l.find? (wants x)).getD ⟨0, 0, 0, 0, 0⟩), .bool (l.find? (wants x)).isSome]) ∧ Fr (fun _ => False) w w' := by
  have HR := hide (fun (w' : World) (hf : Fr (fun _ => False) w w') => indexSp_any w' _ k ((hf.cell (a := ⟨k, 0, none⟩) (World.block_lt_of_cell? _ _ d0) (fun t => t)).trans d0) ((hf.cell (a := ⟨k, 1, none⟩) (World.block_lt_of_cell? _ _ d1) (fun t => t)).trans d1) ((hf.cell (a := ⟨k, 2, none⟩) (World.block_lt_of_cell? _ _ d2) (fun t => t)).trans d2) ((hf.cell (a := ⟨k, 3, none⟩) (World.block_lt_of_cell? _ _ d3) (fun t => t)).trans d3) ((hf.cell (a := ⟨k, 4, none⟩) (World.block_lt_of_cell? _ _ d4) (fun t => t)).trans d4) ao cap l (h.keep hf) hl)
  have HX := hide (ixF_find (wants x) l 0)
  have H := hide h
  obtain ⟨r, hr⟩ : ∃ r, l.find? (wants x) = r := ⟨_, rfl⟩
  rw [hr] at HX ⊢
  generalize ixF (wants x) l 0 = x at *
  clear h hr d0 d1 d2 d3 d4
  rcases unhide HX with ⟨rfl, rfl⟩ | ⟨j, hj, hx, rfl⟩
  · clear HX H
    go_enter Try.func47, Try.ntmps47
    go_wp2_with fail
    refine (unhide HR _ ((Fr.refl _ w).alloc _)).mono ?_
    rintro e w1 ⟨rfl, hF⟩
    have HF := hide (((Fr.refl (fun _ => False) w).alloc _).trans hF (fun _ _ t => t))
    have hlt : w.heap.size < (w.alloc (.cells #[.int .i64 0, .int .i64 0, .int .i64 0, .int .i64 0, .int .i64 0] 57)).heap.size := by rw [heap_alloc]; exact Nat.lt_succ_self _
    have z0 : w1.cell? ⟨w.heap.size, 0, none⟩ = some (.int .i64 0) := by rw [hF.cell (a := ⟨w.heap.size, 0, none⟩) hlt (fun t => t), World.cell?_alloc_new]; rfl
    have z1 : w1.cell? ⟨w.heap.size, 1, none⟩ = some (.int .i64 0) := by rw [hF.cell (a := ⟨w.heap.size, 1, none⟩) hlt (fun t => t), World.cell?_alloc_new]; rfl
    have z2 : w1.cell? ⟨w.heap.size, 2, none⟩ = some (.int .i64 0) := by rw [hF.cell (a := ⟨w.heap.size, 2, none⟩) hlt (fun t => t), World.cell?_alloc_new]; rfl
    have z3 : w1.cell? ⟨w.heap.size, 3, none⟩ = some (.int .i64 0) := by rw [hF.cell (a := ⟨w.heap.size, 3, none⟩) hlt (fun t => t), World.cell?_alloc_new]; rfl
    have z4 : w1.cell? ⟨w.heap.size, 4, none⟩ = some (.int .i64 0) := by rw [hF.cell (a := ⟨w.heap.size, 4, none⟩) hlt (fun t => t), World.cell?_alloc_new]; rfl
    have f0 : ∀ j, w1.frozen? ⟨w.heap.size, j, none⟩ = false := fun j => by rw [hF.frozen (a := ⟨w.heap.size, j, none⟩) hlt (fun t => t)]; exact World.frozen?_alloc_new _ _ _ _
    clear hF hlt HR
    go_wp2
    refine bodyPost_ret (v := .tuple #[spA ⟨0, 0, 0, 0, 0⟩, .bool false]) (by simp [results, Try.results47, go_sem, z0, z1, z2, z3, z4]) rfl ⟨rfl, ?_⟩
    exact (((((unhide HF).setCell (p := ⟨w.heap.size, 0, none⟩) (fun t => absurd t (Nat.lt_irrefl _)) _).setCell (p := ⟨w.heap.size, 1, none⟩) (fun t => absurd t (Nat.lt_irrefl _)) _).setCell (p := ⟨w.heap.size, 2, none⟩) (fun t => absurd t (Nat.lt_irrefl _)) _).setCell (p := ⟨w.heap.size, 3, none⟩) (fun t => absurd t (Nat.lt_irrefl _)) _).setCell (p := ⟨w.heap.size, 4, none⟩) (fun t => absurd t (Nat.lt_irrefl _)) _
  · have hjl := hj
    obtain ⟨b, off, rfl, c0, c1, c2, c3, c4⟩ := (unhide H).sp hj
    have HB := hide (And.intro (World.block_lt_of_cell? _ _ c0) (And.intro (World.block_lt_of_cell? _ _ c1) c0))
    generalize l[j] = s at *
    have hx' : x = (j : Int) := by omega
    clear hx
    subst hx'
    have HC0 := hide c0
    have HC1 := hide c1
    have HC2 := hide c2
    have HC3 := hide c3
    have HC4 := hide c4
    clear HX H HB c0 c1 c2 c3 c4
    go_enter Try.func47, Try.ntmps47
    go_wp2_with fail
    refine (unhide HR _ ((Fr.refl _ w).alloc _)).mono ?_
    rintro e w1 ⟨rfl, hF⟩
    have HF := hide (((Fr.refl (fun _ => False) w).alloc _).trans hF (fun _ _ t => t))
    have hlt : w.heap.size < (w.alloc (.cells #[.int .i64 0, .int .i64 0, .int .i64 0, .int .i64 0, .int .i64 0] 57)).heap.size := by rw [heap_alloc]; exact Nat.lt_succ_self _
    have z0 : w1.cell? ⟨w.heap.size, 0, none⟩ = some (.int .i64 0) := by rw [hF.cell (a := ⟨w.heap.size, 0, none⟩) hlt (fun t => t), World.cell?_alloc_new]; rfl
    have z1 : w1.cell? ⟨w.heap.size, 1, none⟩ = some (.int .i64 0) := by rw [hF.cell (a := ⟨w.heap.size, 1, none⟩) hlt (fun t => t), World.cell?_alloc_new]; rfl
    have z2 : w1.cell? ⟨w.heap.size, 2, none⟩ = some (.int .i64 0) := by rw [hF.cell (a := ⟨w.heap.size, 2, none⟩) hlt (fun t => t), World.cell?_alloc_new]; rfl
    have z3 : w1.cell? ⟨w.heap.size, 3, none⟩ = some (.int .i64 0) := by rw [hF.cell (a := ⟨w.heap.size, 3, none⟩) hlt (fun t => t), World.cell?_alloc_new]; rfl
    have z4 : w1.cell? ⟨w.heap.size, 4, none⟩ = some (.int .i64 0) := by rw [hF.cell (a := ⟨w.heap.size, 4, none⟩) hlt (fun t => t), World.cell?_alloc_new]; rfl
    have f0 : ∀ j, w1.frozen? ⟨w.heap.size, j, none⟩ = false := fun j => by rw [hF.frozen (a := ⟨w.heap.size, j, none⟩) hlt (fun t => t)]; exact World.frozen?_alloc_new _ _ _ _
    have c0 := ((unhide HF).cell (World.block_lt_of_cell? _ _ (unhide HC0)) (fun t => t)).trans (unhide HC0)
    have c1 := ((unhide HF).cell (World.block_lt_of_cell? _ _ (unhide HC1)) (fun t => t)).trans (unhide HC1)
    have c2 := ((unhide HF).cell (World.block_lt_of_cell? _ _ (unhide HC2)) (fun t => t)).trans (unhide HC2)
    have c3 := ((unhide HF).cell (World.block_lt_of_cell? _ _ (unhide HC3)) (fun t => t)).trans (unhide HC3)
    have c4 := ((unhide HF).cell (World.block_lt_of_cell? _ _ (unhide HC4)) (fun t => t)).trans (unhide HC4)
    clear hF hlt HR HC0 HC1 HC2 HC3 HC4
    go_wp2
    refine bodyPost_ret (v := .tuple #[spA s, .bool true]) (by simp [results, Try.results47, go_sem, z0, z1, z2, z3, z4]) rfl ⟨rfl, ?_⟩
    exact (((((unhide HF).setCell (p := ⟨w.heap.size, 0, none⟩) (fun t => absurd t (Nat.lt_irrefl _)) _).setCell (p := ⟨w.heap.size, 1, none⟩) (fun t => absurd t (Nat.lt_irrefl _)) _).setCell (p := ⟨w.heap.size, 2, none⟩) (fun t => absurd t (Nat.lt_irrefl _)) _).setCell (p := ⟨w.heap.size, 3, none⟩) (fun t => absurd t (Nat.lt_irrefl _)) _).setCell (p := ⟨w.heap.size, 4, none⟩) (fun t => absurd t (Nat.lt_irrefl _)) _

theorem firstSt_any (w : World) (id : Int) (k : Nat) (d0 : w.cell? ⟨k, 0, none⟩ = some (.int .i64 id)) (ao : Option Addr) (cap : Nat) (l : List Stn) (h : CAt w ao (stV l)) (hl : (l.length + 1) * 24 ≤ 140737488355328) :
    Calls Try.prog 50 #[.slice ao l.length cap, .func (.func 51) #[] #[.pointer (some ⟨k, 0, none⟩)]] w fun e w' => e = .returned (.tuple #[stA ((l.find? (hasId id)).getD ⟨0, 0, 0⟩), .bool (l.find? (hasId id)).isSome]) ∧ Fr (fun _ => False) w w' := by
  have HR := hide (fun (w' : World) (hf : Fr (fun _ => False) w w') => indexSt_any w' _ k ((hf.cell (a := ⟨k, 0, none⟩) (World.block_lt_of_cell? _ _ d0) (fun t => t)).trans d0) ao cap l (h.keep hf) hl)
  have HX := hide (ixF_find (hasId id) l 0)
  have H := hide h
  obtain ⟨r, hr⟩ : ∃ r, l.find? (hasId id) = r := ⟨_, rfl⟩
  rw [hr] at HX ⊢
  generalize ixF (hasId id) l 0 = x at *
  clear h hr d0
  rcases unhide HX with ⟨rfl, rfl⟩ | ⟨j, hj, hx, rfl⟩
  · clear HX H
    go_enter Try.func50, Try.ntmps50
    go_wp2_with fail
    refine (unhide HR _ ((Fr.refl _ w).alloc _)).mono ?_
    rintro e w1 ⟨rfl, hF⟩
    have HF := hide (((Fr.refl (fun _ => False) w).alloc _).trans hF (fun _ _ t => t))
    have hlt : w.heap.size < (w.alloc (.cells #[.int .i64 0, .int .i64 0, .int .i64 0] 60)).heap.size := by rw [heap_alloc]; exact Nat.lt_succ_self _
    have z0 : w1.cell? ⟨w.heap.size, 0, none⟩ = some (.int .i64 0) := by rw [hF.cell (a := ⟨w.heap.size, 0, none⟩) hlt (fun t => t), World.cell?_alloc_new]; rfl
    have z1 : w1.cell? ⟨w.heap.size, 1, none⟩ = some (.int .i64 0) := by rw [hF.cell (a := ⟨w.heap.size, 1, none⟩) hlt (fun t => t), World.cell?_alloc_new]; rfl
    have z2 : w1.cell? ⟨w.heap.size, 2, none⟩ = some (.int .i64 0) := by rw [hF.cell (a := ⟨w.heap.size, 2, none⟩) hlt (fun t => t), World.cell?_alloc_new]; rfl
    have f0 : ∀ j, w1.frozen? ⟨w.heap.size, j, none⟩ = false := fun j => by rw [hF.frozen (a := ⟨w.heap.size, j, none⟩) hlt (fun t => t)]; exact World.frozen?_alloc_new _ _ _ _
    clear hF hlt HR
    go_wp2
    refine bodyPost_ret (v := .tuple #[stA ⟨0, 0, 0⟩, .bool false]) (by simp [results, Try.results50, go_sem, z0, z1, z2]) rfl ⟨rfl, ?_⟩
    exact (((unhide HF).setCell (p := ⟨w.heap.size, 0, none⟩) (fun t => absurd t (Nat.lt_irrefl _)) _).setCell (p := ⟨w.heap.size, 1, none⟩) (fun t => absurd t (Nat.lt_irrefl _)) _).setCell (p := ⟨w.heap.size, 2, none⟩) (fun t => absurd t (Nat.lt_irrefl _)) _
  · have hjl := hj
    obtain ⟨b, off, rfl, c0, c1, c2⟩ := (unhide H).st hj
    have HB := hide (And.intro (World.block_lt_of_cell? _ _ c0) (And.intro (World.block_lt_of_cell? _ _ c1) c0))
    generalize l[j] = s at *
    have hx' : x = (j : Int) := by omega
    clear hx
    subst hx'
    have HC0 := hide c0
    have HC1 := hide c1
    have HC2 := hide c2
    clear HX H HB c0 c1 c2
    go_enter Try.func50, Try.ntmps50
    go_wp2_with fail
    refine (unhide HR _ ((Fr.refl _ w).alloc _)).mono ?_
    rintro e w1 ⟨rfl, hF⟩
    have HF := hide (((Fr.refl (fun _ => False) w).alloc _).trans hF (fun _ _ t => t))
    have hlt : w.heap.size < (w.alloc (.cells #[.int .i64 0, .int .i64 0, .int .i64 0] 60)).heap.size := by rw [heap_alloc]; exact Nat.lt_succ_self _
    have z0 : w1.cell? ⟨w.heap.size, 0, none⟩ = some (.int .i64 0) := by rw [hF.cell (a := ⟨w.heap.size, 0, none⟩) hlt (fun t => t), World.cell?_alloc_new]; rfl
    have z1 : w1.cell? ⟨w.heap.size, 1, none⟩ = some (.int .i64 0) := by rw [hF.cell (a := ⟨w.heap.size, 1, none⟩) hlt (fun t => t), World.cell?_alloc_new]; rfl
    have z2 : w1.cell? ⟨w.heap.size, 2, none⟩ = some (.int .i64 0) := by rw [hF.cell (a := ⟨w.heap.size, 2, none⟩) hlt (fun t => t), World.cell?_alloc_new]; rfl
    have f0 : ∀ j, w1.frozen? ⟨w.heap.size, j, none⟩ = false := fun j => by rw [hF.frozen (a := ⟨w.heap.size, j, none⟩) hlt (fun t => t)]; exact World.frozen?_alloc_new _ _ _ _
    have c0 := ((unhide HF).cell (World.block_lt_of_cell? _ _ (unhide HC0)) (fun t => t)).trans (unhide HC0)
    have c1 := ((unhide HF).cell (World.block_lt_of_cell? _ _ (unhide HC1)) (fun t => t)).trans (unhide HC1)
    have c2 := ((unhide HF).cell (World.block_lt_of_cell? _ _ (unhide HC2)) (fun t => t)).trans (unhide HC2)
    clear hF hlt HR HC0 HC1 HC2
    go_wp2
    refine bodyPost_ret (v := .tuple #[stA s, .bool true]) (by simp [results, Try.results50, go_sem, z0, z1, z2]) rfl ⟨rfl, ?_⟩
    exact (((unhide HF).setCell (p := ⟨w.heap.size, 0, none⟩) (fun t => absurd t (Nat.lt_irrefl _)) _).setCell (p := ⟨w.heap.size, 1, none⟩) (fun t => absurd t (Nat.lt_irrefl _)) _).setCell (p := ⟨w.heap.size, 2, none⟩) (fun t => absurd t (Nat.lt_irrefl _)) _

/-- What a tariff says of two zones, of a station. -/
def spanOf (t : Tf) (a b : Int) : Option Spn := t.sp.find? (wants ⟨min a b, max a b, 0, 0, 0⟩)
def stationOf (t : Tf) (id : Int) : Option Stn := t.st.find? (hasId id)

theorem station_any (w : World) (A : Ad) (t : Tf) (h : TAt w A t) (id : Int) :
    Calls Try.prog 35 #[tv A t, .int .i64 id] w fun e w' => e = .returned (.tuple #[stA ((stationOf t id).getD ⟨0, 0, 0⟩), .bool (stationOf t id).isSome]) ∧ Fr (fun _ => False) w w' := by
  have HR := hide (fun (w' : World) (k : Nat) (hf : Fr (fun _ => False) w w') (d0 : w'.cell? ⟨k, 0, none⟩ = some (.int .i64 id)) => firstSt_any w' id k d0 A.aS A.cS t.st (h.st.keep hf) h.lS)
  have HX : Hid (stationOf t id = t.st.find? (hasId id)) := rfl
  rw [unhide HX]
  generalize t.st.find? (hasId id) = r at *
  generalize r.isSome = rb at *
  generalize r.getD ⟨0, 0, 0⟩ = rs at *
  clear HX h
  unfold tv tc
  go_enter Try.func35, Try.ntmps35
  go_wp2_with fail
  refine (unhide HR _ (w.heap.size + 1) (((Fr.refl _ w).alloc _).alloc _ |>.alloc _) (by simp [go_sem])).mono ?_
  rintro e w1 ⟨rfl, hF⟩
  have HF := hide (Fr.trans (S := fun _ => False) (b := _) ((((Fr.refl (fun _ => False) w).alloc _).alloc _).alloc _) hF (fun _ _ t => t))
  have z0 : w1.cell? ⟨w.heap.size + 1 + 1, 0, none⟩ = some (.int .i64 0) := (hF.cell (a := ⟨w.heap.size + 1 + 1, 0, none⟩) (by simp) (fun t => t)).trans (by simp [go_sem])
  have z1 : w1.cell? ⟨w.heap.size + 1 + 1, 1, none⟩ = some (.int .i64 0) := (hF.cell (a := ⟨w.heap.size + 1 + 1, 1, none⟩) (by simp) (fun t => t)).trans (by simp [go_sem])
  have z2 : w1.cell? ⟨w.heap.size + 1 + 1, 2, none⟩ = some (.int .i64 0) := (hF.cell (a := ⟨w.heap.size + 1 + 1, 2, none⟩) (by simp) (fun t => t)).trans (by simp [go_sem])
  have f0 : ∀ j, w1.frozen? ⟨w.heap.size + 1 + 1, j, none⟩ = false := fun j => (hF.frozen (a := ⟨w.heap.size + 1 + 1, j, none⟩) (by simp) (fun t => t)).trans (by simp [go_sem])
  clear hF HR
  go_wp2
  refine bodyPost_ret (v := .tuple #[stA rs, .bool rb]) (by simp [results, Try.results35, go_sem, z0, z1, z2]) rfl ⟨rfl, ?_⟩
  exact (((unhide HF).setCell (p := ⟨w.heap.size + 1 + 1, 0, none⟩) (fun t => absurd t (by simp only []; omega)) _).setCell (p := ⟨w.heap.size + 1 + 1, 1, none⟩) (fun t => absurd t (by simp only []; omega)) _).setCell (p := ⟨w.heap.size + 1 + 1, 2, none⟩) (fun t => absurd t (by simp only []; omega)) _

theorem span_any (w : World) (A : Ad) (t : Tf) (h : TAt w A t) (a b : Int) :
    Calls Try.prog 31 #[tv A t, .int .i64 a, .int .i64 b] w fun e w' => e = .returned (.tuple #[spA ((spanOf t a b).getD ⟨0, 0, 0, 0, 0⟩), .bool (spanOf t a b).isSome]) ∧ Fr (fun _ => False) w w' := by
  have HR0 := hide (fun (lo hi : Int) (w' : World) (k : Nat) (hf : Fr (fun _ => False) w w') (d0 : w'.cell? ⟨k, 0, none⟩ = some (.int .i64 lo)) (d1 : w'.cell? ⟨k, 1, none⟩ = some (.int .i64 hi)) (d2 : w'.cell? ⟨k, 2, none⟩ = some (.int .i64 0)) (d3 : w'.cell? ⟨k, 3, none⟩ = some (.int .i64 0)) (d4 : w'.cell? ⟨k, 4, none⟩ = some (.int .i64 0)) => firstSp_any w' ⟨lo, hi, 0, 0, 0⟩ k d0 d1 d2 d3 d4 A.aP A.cP t.sp (h.sp.keep hf) h.lP)
  have HX : Hid (spanOf t a b = t.sp.find? (wants ⟨min a b, max a b, 0, 0, 0⟩)) := rfl
  rw [unhide HX]
  clear HX h
  rcases Int.lt_trichotomy a b with hab | hab | hab
  · rw [Int.min_eq_left (by omega), Int.max_eq_right (by omega)]
    have HR := hide (unhide HR0 a b)
    clear HR0
    generalize t.sp.find? (wants ⟨a, b, 0, 0, 0⟩) = r at *
    generalize r.isSome = rb at *
    generalize r.getD ⟨0, 0, 0, 0, 0⟩ = rs at *
    unfold tv tc
    go_enter Try.func31, Try.ntmps31
    go_wp2_with fail
    refine (unhide HR _ (w.heap.size + 1 + 1) (((Fr.refl _ w).alloc _).alloc _ |>.alloc _) (by simp [go_sem]) (by simp [go_sem]) (by simp [go_sem]) (by simp [go_sem]) (by simp [go_sem])).mono ?_
    rintro e w1 ⟨rfl, hF⟩
    have HF := hide (Fr.trans (S := fun _ => False) (b := _) ((((Fr.refl (fun _ => False) w).alloc _).alloc _).alloc _) hF (fun _ _ t => t))
    have z0 : w1.cell? ⟨w.heap.size + 1, 0, none⟩ = some (.int .i64 0) := (hF.cell (a := ⟨w.heap.size + 1, 0, none⟩) (by simp) (fun t => t)).trans (by simp [go_sem])
    have z1 : w1.cell? ⟨w.heap.size + 1, 1, none⟩ = some (.int .i64 0) := (hF.cell (a := ⟨w.heap.size + 1, 1, none⟩) (by simp) (fun t => t)).trans (by simp [go_sem])
    have z2 : w1.cell? ⟨w.heap.size + 1, 2, none⟩ = some (.int .i64 0) := (hF.cell (a := ⟨w.heap.size + 1, 2, none⟩) (by simp) (fun t => t)).trans (by simp [go_sem])
    have z3 : w1.cell? ⟨w.heap.size + 1, 3, none⟩ = some (.int .i64 0) := (hF.cell (a := ⟨w.heap.size + 1, 3, none⟩) (by simp) (fun t => t)).trans (by simp [go_sem])
    have z4 : w1.cell? ⟨w.heap.size + 1, 4, none⟩ = some (.int .i64 0) := (hF.cell (a := ⟨w.heap.size + 1, 4, none⟩) (by simp) (fun t => t)).trans (by simp [go_sem])
    have f0 : ∀ j, w1.frozen? ⟨w.heap.size + 1, j, none⟩ = false := fun j => (hF.frozen (a := ⟨w.heap.size + 1, j, none⟩) (by simp) (fun t => t)).trans (by simp [go_sem])
    clear hF HR
    go_wp2
    refine bodyPost_ret (v := .tuple #[spA rs, .bool rb]) (by simp [results, Try.results31, go_sem, z0, z1, z2, z3, z4]) rfl ⟨rfl, ?_⟩
    exact (((((unhide HF).setCell (p := ⟨w.heap.size + 1, 0, none⟩) (fun t => absurd t (by simp only []; omega)) _).setCell (p := ⟨w.heap.size + 1, 1, none⟩) (fun t => absurd t (by simp only []; omega)) _).setCell (p := ⟨w.heap.size + 1, 2, none⟩) (fun t => absurd t (by simp only []; omega)) _).setCell (p := ⟨w.heap.size + 1, 3, none⟩) (fun t => absurd t (by simp only []; omega)) _).setCell (p := ⟨w.heap.size + 1, 4, none⟩) (fun t => absurd t (by simp only []; omega)) _
  · subst hab
    rw [Int.min_self, Int.max_self]
    have HR := hide (unhide HR0 a a)
    clear HR0
    generalize t.sp.find? (wants ⟨a, a, 0, 0, 0⟩) = r at *
    generalize r.isSome = rb at *
    generalize r.getD ⟨0, 0, 0, 0, 0⟩ = rs at *
    unfold tv tc
    go_enter Try.func31, Try.ntmps31
    go_wp2_with fail
    refine (unhide HR _ (w.heap.size + 1 + 1) (((Fr.refl _ w).alloc _).alloc _ |>.alloc _) (by simp [go_sem]) (by simp [go_sem]) (by simp [go_sem]) (by simp [go_sem]) (by simp [go_sem])).mono ?_
    rintro e w1 ⟨rfl, hF⟩
    have HF := hide (Fr.trans (S := fun _ => False) (b := _) ((((Fr.refl (fun _ => False) w).alloc _).alloc _).alloc _) hF (fun _ _ t => t))
    have z0 : w1.cell? ⟨w.heap.size + 1, 0, none⟩ = some (.int .i64 0) := (hF.cell (a := ⟨w.heap.size + 1, 0, none⟩) (by simp) (fun t => t)).trans (by simp [go_sem])
    have z1 : w1.cell? ⟨w.heap.size + 1, 1, none⟩ = some (.int .i64 0) := (hF.cell (a := ⟨w.heap.size + 1, 1, none⟩) (by simp) (fun t => t)).trans (by simp [go_sem])
    have z2 : w1.cell? ⟨w.heap.size + 1, 2, none⟩ = some (.int .i64 0) := (hF.cell (a := ⟨w.heap.size + 1, 2, none⟩) (by simp) (fun t => t)).trans (by simp [go_sem])
    have z3 : w1.cell? ⟨w.heap.size + 1, 3, none⟩ = some (.int .i64 0) := (hF.cell (a := ⟨w.heap.size + 1, 3, none⟩) (by simp) (fun t => t)).trans (by simp [go_sem])
    have z4 : w1.cell? ⟨w.heap.size + 1, 4, none⟩ = some (.int .i64 0) := (hF.cell (a := ⟨w.heap.size + 1, 4, none⟩) (by simp) (fun t => t)).trans (by simp [go_sem])
    have f0 : ∀ j, w1.frozen? ⟨w.heap.size + 1, j, none⟩ = false := fun j => (hF.frozen (a := ⟨w.heap.size + 1, j, none⟩) (by simp) (fun t => t)).trans (by simp [go_sem])
    clear hF HR
    go_wp2
    refine bodyPost_ret (v := .tuple #[spA rs, .bool rb]) (by simp [results, Try.results31, go_sem, z0, z1, z2, z3, z4]) rfl ⟨rfl, ?_⟩
    exact (((((unhide HF).setCell (p := ⟨w.heap.size + 1, 0, none⟩) (fun t => absurd t (by simp only []; omega)) _).setCell (p := ⟨w.heap.size + 1, 1, none⟩) (fun t => absurd t (by simp only []; omega)) _).setCell (p := ⟨w.heap.size + 1, 2, none⟩) (fun t => absurd t (by simp only []; omega)) _).setCell (p := ⟨w.heap.size + 1, 3, none⟩) (fun t => absurd t (by simp only []; omega)) _).setCell (p := ⟨w.heap.size + 1, 4, none⟩) (fun t => absurd t (by simp only []; omega)) _
  · rw [Int.min_eq_right (by omega), Int.max_eq_left (by omega)]
    have HR := hide (unhide HR0 b a)
    clear HR0
    generalize t.sp.find? (wants ⟨b, a, 0, 0, 0⟩) = r at *
    generalize r.isSome = rb at *
    generalize r.getD ⟨0, 0, 0, 0, 0⟩ = rs at *
    unfold tv tc
    go_enter Try.func31, Try.ntmps31
    go_wp2_with fail
    refine (unhide HR _ (w.heap.size + 1 + 1) (((Fr.refl _ w).alloc _).alloc _ |>.alloc _) (by simp [go_sem]) (by simp [go_sem]) (by simp [go_sem]) (by simp [go_sem]) (by simp [go_sem])).mono ?_
    rintro e w1 ⟨rfl, hF⟩
    have HF := hide (Fr.trans (S := fun _ => False) (b := _) ((((Fr.refl (fun _ => False) w).alloc _).alloc _).alloc _) hF (fun _ _ t => t))
    have z0 : w1.cell? ⟨w.heap.size + 1, 0, none⟩ = some (.int .i64 0) := (hF.cell (a := ⟨w.heap.size + 1, 0, none⟩) (by simp) (fun t => t)).trans (by simp [go_sem])
    have z1 : w1.cell? ⟨w.heap.size + 1, 1, none⟩ = some (.int .i64 0) := (hF.cell (a := ⟨w.heap.size + 1, 1, none⟩) (by simp) (fun t => t)).trans (by simp [go_sem])
    have z2 : w1.cell? ⟨w.heap.size + 1, 2, none⟩ = some (.int .i64 0) := (hF.cell (a := ⟨w.heap.size + 1, 2, none⟩) (by simp) (fun t => t)).trans (by simp [go_sem])
    have z3 : w1.cell? ⟨w.heap.size + 1, 3, none⟩ = some (.int .i64 0) := (hF.cell (a := ⟨w.heap.size + 1, 3, none⟩) (by simp) (fun t => t)).trans (by simp [go_sem])
    have z4 : w1.cell? ⟨w.heap.size + 1, 4, none⟩ = some (.int .i64 0) := (hF.cell (a := ⟨w.heap.size + 1, 4, none⟩) (by simp) (fun t => t)).trans (by simp [go_sem])
    have f0 : ∀ j, w1.frozen? ⟨w.heap.size + 1, j, none⟩ = false := fun j => (hF.frozen (a := ⟨w.heap.size + 1, j, none⟩) (by simp) (fun t => t)).trans (by simp [go_sem])
    clear hF HR
    go_wp2
    refine bodyPost_ret (v := .tuple #[spA rs, .bool rb]) (by simp [results, Try.results31, go_sem, z0, z1, z2, z3, z4]) rfl ⟨rfl, ?_⟩
    exact (((((unhide HF).setCell (p := ⟨w.heap.size + 1, 0, none⟩) (fun t => absurd t (by simp only []; omega)) _).setCell (p := ⟨w.heap.size + 1, 1, none⟩) (fun t => absurd t (by simp only []; omega)) _).setCell (p := ⟨w.heap.size + 1, 2, none⟩) (fun t => absurd t (by simp only []; omega)) _).setCell (p := ⟨w.heap.size + 1, 3, none⟩) (fun t => absurd t (by simp only []; omega)) _).setCell (p := ⟨w.heap.size + 1, 4, none⟩) (fun t => absurd t (by simp only []; omega)) _

end Go.Proofs.Ytjgbllfppomcmaa

