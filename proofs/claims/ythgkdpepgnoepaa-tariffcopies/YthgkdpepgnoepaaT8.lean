/- The first station, the first span that is as wanted: IndexFunc, first, Station, Span. -/
import Derived.Test.YthgkdpepgnoepaaT6
namespace Go.Proofs.Ythgkdpepgnoepaa
open Go.RowKit

def wants (x s : Spn) : Bool := sameB s x
def hasId (id : Int) (s : Stn) : Bool := s.id == id

/-- The first index, or -1. -/
def ixF {α : Type} (p : α → Bool) : List α → Nat → Int
  | [], _ => -1
  | b :: r, i => if p b then (i : Int) else ixF p r (i + 1)

theorem ixF_cons {α : Type} (p : α → Bool) (b : α) (r : List α) (i : Nat) : ixF p (b :: r) i = if p b then (i : Int) else ixF p r (i + 1) := rfl

theorem ixF_find {α : Type} (p : α → Bool) : ∀ (l : List α) (i : Nat), (ixF p l i = -1 ∧ l.find? p = none) ∨ (∃ k, ∃ hk : k < l.length, ixF p l i = (i : Int) + k ∧ l.find? p = some l[k])
  | [], _ => .inl ⟨rfl, rfl⟩
  | b :: r, i => by
    rw [ixF_cons, List.find?_cons]
    cases h : p b with
    | true => exact .inr ⟨0, by simp, by simp, rfl⟩
    | false =>
      rcases ixF_find p r (i + 1) with ⟨e1, e2⟩ | ⟨k, hk, e1, e2⟩
      · exact .inl ⟨by simpa using e1, e2⟩
      · refine .inr ⟨k + 1, by simpa using hk, ?_, ?_⟩
        · simp only [Bool.false_eq_true, if_false]
          rw [e1]
          omega
        · simpa using e2

theorem indexSp_any (w : World) (x : Spn) (k : Nat) (d0 : w.cell? ⟨k, 0, none⟩ = some (.int .i64 x.fr)) (d1 : w.cell? ⟨k, 1, none⟩ = some (.int .i64 x.to)) (d2 : w.cell? ⟨k, 2, none⟩ = some (.int .i64 x.single)) (d3 : w.cell? ⟨k, 3, none⟩ = some (.int .i64 x.daily)) (d4 : w.cell? ⟨k, 4, none⟩ = some (.int .i64 x.weekly)) (ao : Option Addr) (cap : Nat) (l : List Spn) (h : CAt w ao (spV l)) (hl : (l.length + 1) * 40 ≤ 140737488355328) :
    Calls Try.prog 62 #[.slice ao l.length cap, .func (.func 41) #[] #[.pointer (some ⟨k, 0, none⟩)]] w fun e w' => e = .returned (.int .i64 (ixF (wants x) l 0)) ∧ Fr (fun _ => False) w w' := by
  have HC := hide (fun (w' : World) (hf : Fr (fun _ => False) w w') (s : Spn) => (span1_any w' s x k ((hf.cell (a := ⟨k, 0, none⟩) (World.block_lt_of_cell? _ _ d0) (fun t => t)).trans d0) ((hf.cell (a := ⟨k, 1, none⟩) (World.block_lt_of_cell? _ _ d1) (fun t => t)).trans d1) ((hf.cell (a := ⟨k, 2, none⟩) (World.block_lt_of_cell? _ _ d2) (fun t => t)).trans d2) ((hf.cell (a := ⟨k, 3, none⟩) (World.block_lt_of_cell? _ _ d3) (fun t => t)).trans d3) ((hf.cell (a := ⟨k, 4, none⟩) (World.block_lt_of_cell? _ _ d4) (fun t => t)).trans d4) : Calls Try.prog 41 #[spA s, .pointer (some ⟨k, 0, none⟩)] w' fun e w'' => e = .returned (.bool ((wants x) s)) ∧ Fr (fun _ => False) w' w''))
  have H := hide h
  generalize hp : (wants x) = p at *
  have HC' : Hid (∀ (w' : World) (hf : Fr (fun _ => False) w w') (s : Spn), Calls Try.prog 41 #[spA s, .pointer (some ⟨k, 0, none⟩)] w' fun e w'' => e = .returned (.bool (p s)) ∧ Fr (fun _ => False) w' w'') := hide (fun w' hf s => by rw [← hp]; exact unhide HC w' hf s)
  clear h d0 d1 d2 d3 d4 hp HC
  go_enter Try.func62, Try.ntmps62
  go_wp2
  go_loopw [5, 8] (fun _ iv wr => ∃ (i : Nat), i ≤ l.length ∧ iv = .int .i64 i ∧ Hid (Fr (fun _ => False) w wr ∧ ixF p (l.drop i) i = ixF p l 0)) (fun _ iv _ => l.length - (intOf iv).toNat)
  case atStart => exact ⟨0, Nat.zero_le _, rfl, Fr.refl _ _, by simp⟩
  case round =>
    obtain ⟨i, hi, rfl, HI⟩ := hrel
    by_cases hil : i < l.length
    · obtain ⟨b, off, rfl, c0, c1, c2, c3, c4⟩ := ((unhide H).keep (unhide HI).1).sp hil
      have ht := (unhide HI).2
      rw [List.drop_eq_getElem_cons hil, ixF_cons] at ht
      have R := unhide HC' wr (unhide HI).1 l[i]
      generalize l[i] = x at *
      have HT := hide ht
      clear ht
      cases hx : p x with
      | true =>
        rw [hx] at R HT
        clear hx
        have HT' : Hid (ixF p l 0 = (i : Int)) := hide (by have := unhide HT; simpa using this.symm)
        clear HT
        go_wp2_with fail
        refine R.mono ?_
        rintro e w1 ⟨rfl, hF⟩
        have HF := hide ((unhide HI).1.trans hF (fun _ _ t => t))
        clear hF R
        go_wp2
        go_ret
        exact ⟨by rw [unhide HT']; rfl, unhide HF⟩
      | false =>
        rw [hx] at R HT
        clear hx
        have HT' : Hid (ixF p (l.drop (i + 1)) (i + 1) = ixF p l 0) := hide (by have := unhide HT; simpa using this)
        clear HT
        go_wp2_with fail
        refine R.mono ?_
        rintro e w1 ⟨rfl, hF⟩
        have HF := hide ((unhide HI).1.trans hF (fun _ _ t => t))
        clear hF R
        go_wp2
        exact ⟨⟨i + 1, by omega, by go_num, unhide HF, unhide HT'⟩, by simp [intOf]; omega⟩
    · obtain rfl : i = l.length := by omega
      have ht := (unhide HI).2
      rw [List.drop_length] at ht
      have HN := hide ht
      have HF := hide (unhide HI).1
      clear ht HI H
      go_wp2
      go_ret
      exact ⟨by rw [← unhide HN]; rfl, unhide HF⟩

theorem indexSt_any (w : World) (id : Int) (k : Nat) (d0 : w.cell? ⟨k, 0, none⟩ = some (.int .i64 id)) (ao : Option Addr) (cap : Nat) (l : List Stn) (h : CAt w ao (stV l)) (hl : (l.length + 1) * 24 ≤ 140737488355328) :
    Calls Try.prog 61 #[.slice ao l.length cap, .func (.func 39) #[] #[.pointer (some ⟨k, 0, none⟩)]] w fun e w' => e = .returned (.int .i64 (ixF (hasId id) l 0)) ∧ Fr (fun _ => False) w w' := by
  have HC := hide (fun (w' : World) (hf : Fr (fun _ => False) w w') (s : Stn) => (station1_any w' s id k ((hf.cell (a := ⟨k, 0, none⟩) (World.block_lt_of_cell? _ _ d0) (fun t => t)).trans d0) : Calls Try.prog 39 #[stA s, .pointer (some ⟨k, 0, none⟩)] w' fun e w'' => e = .returned (.bool ((hasId id) s)) ∧ Fr (fun _ => False) w' w''))
  have H := hide h
  generalize hp : (hasId id) = p at *
  have HC' : Hid (∀ (w' : World) (hf : Fr (fun _ => False) w w') (s : Stn), Calls Try.prog 39 #[stA s, .pointer (some ⟨k, 0, none⟩)] w' fun e w'' => e = .returned (.bool (p s)) ∧ Fr (fun _ => False) w' w'') := hide (fun w' hf s => by rw [← hp]; exact unhide HC w' hf s)
  clear h d0 hp HC
  go_enter Try.func61, Try.ntmps61
  go_wp2
  go_loopw [5, 8] (fun _ iv wr => ∃ (i : Nat), i ≤ l.length ∧ iv = .int .i64 i ∧ Hid (Fr (fun _ => False) w wr ∧ ixF p (l.drop i) i = ixF p l 0)) (fun _ iv _ => l.length - (intOf iv).toNat)
  case atStart => exact ⟨0, Nat.zero_le _, rfl, Fr.refl _ _, by simp⟩
  case round =>
    obtain ⟨i, hi, rfl, HI⟩ := hrel
    by_cases hil : i < l.length
    · obtain ⟨b, off, rfl, c0, c1, c2⟩ := ((unhide H).keep (unhide HI).1).st hil
      have ht := (unhide HI).2
      rw [List.drop_eq_getElem_cons hil, ixF_cons] at ht
      have R := unhide HC' wr (unhide HI).1 l[i]
      generalize l[i] = x at *
      have HT := hide ht
      clear ht
      cases hx : p x with
      | true =>
        rw [hx] at R HT
        clear hx
        have HT' : Hid (ixF p l 0 = (i : Int)) := hide (by have := unhide HT; simpa using this.symm)
        clear HT
        go_wp2_with fail
        refine R.mono ?_
        rintro e w1 ⟨rfl, hF⟩
        have HF := hide ((unhide HI).1.trans hF (fun _ _ t => t))
        clear hF R
        go_wp2
        go_ret
        exact ⟨by rw [unhide HT']; rfl, unhide HF⟩
      | false =>
        rw [hx] at R HT
        clear hx
        have HT' : Hid (ixF p (l.drop (i + 1)) (i + 1) = ixF p l 0) := hide (by have := unhide HT; simpa using this)
        clear HT
        go_wp2_with fail
        refine R.mono ?_
        rintro e w1 ⟨rfl, hF⟩
        have HF := hide ((unhide HI).1.trans hF (fun _ _ t => t))
        clear hF R
        go_wp2
        exact ⟨⟨i + 1, by omega, by go_num, unhide HF, unhide HT'⟩, by simp [intOf]; omega⟩
    · obtain rfl : i = l.length := by omega
      have ht := (unhide HI).2
      rw [List.drop_length] at ht
      have HN := hide ht
      have HF := hide (unhide HI).1
      clear ht HI H
      go_wp2
      go_ret
      exact ⟨by rw [← unhide HN]; rfl, unhide HF⟩


end Go.Proofs.Ythgkdpepgnoepaa
