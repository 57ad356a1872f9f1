/- Contract: Open. -/
import Derived.Test.YtgbaofdbdpopnaaDoorS3
namespace Go.Proofs.YtgbaofdbdpopnaaDoor
open Go.RowKit

/-- The bytes of which these are the frame. -/
def openF (bs : List UInt8) : Option (List UInt8) := if bs.length < 4 then none else if bs.drop (bs.length - 4) = le4 (sumF (bs.take (bs.length - 4))) then some (bs.take (bs.length - 4)) else none

theorem openF_short {bs : List UInt8} (h : bs.length < 4) : openF bs = none := by simp [openF, h]

theorem openF_parts (body tl : List UInt8) (h : tl.length = 4) : openF (body ++ tl) = if tl = le4 (sumF body) then some body else none := by
  have e : (body ++ tl).length - 4 = body.length := by rw [List.length_append]; omega
  unfold openF
  rw [if_neg (by rw [List.length_append]; omega), e, List.drop_left, List.take_left]

theorem BAt.left {w : World} {ao : Option Addr} {cap : Nat} {x y : List UInt8} (h : BAt w ao cap (x ++ y)) : BAt w ao cap x := by
  refine ⟨fun e => ?_, fun h0 => ?_, ?_⟩
  · have := h.1 e; rw [List.length_append] at this; exact ⟨by omega, this.2⟩
  · obtain ⟨b, off, e, hc⟩ := h.2.1 (by rw [List.length_append]; omega)
    refine ⟨b, off, e, fun j hj => ?_⟩
    have := hc j (by rw [List.length_append]; omega)
    rw [List.getElem_append_left hj] at this
    exact this
  · have := h.2.2; rw [List.length_append] at this; omega

theorem BAt.right {w : World} {b off cap : Nat} {x y : List UInt8} (h : BAt w (some ⟨b, off, none⟩) cap (x ++ y)) (c2 : Nat) : BAt w (some ⟨b, off + x.length, none⟩) c2 y := by
  refine ⟨fun e => (by cases e), fun h0 => ?_, ?_⟩
  · obtain ⟨b', off', e, hc⟩ := h.2.1 (by rw [List.length_append]; omega)
    injection e with e
    injection e with e1 e2
    subst e1 e2
    refine ⟨b, _, rfl, fun j hj => ?_⟩
    have := hc (x.length + j) (by rw [List.length_append]; omega)
    rw [List.getElem_append_right (by omega)] at this
    rw [Nat.add_assoc, this]
    simp
  · have := h.2.2; rw [List.length_append] at this; omega

theorem open_short (w : World) (ao : Option Addr) (n cap : Nat) (hn : n < 4) :
    Calls Tryd.prog 19 #[.slice ao n cap] w fun e w' => e = .returned (.tuple #[.slice none 0 0, .bool false]) ∧ w' = w := by
  have hd : decide ((n : Int) < 4) = true := by simp; omega
  go_enter Tryd.func19, Tryd.ntmps19
  go_wp2
  go_ret2
  exact ⟨rfl, rfl⟩

theorem open_yes (w : World) (hT : TabAt w) (b off cap : Nat) (body tl : List UInt8) (htl : tl.length = 4) (hB : BAt w (some ⟨b, off, none⟩) cap (body ++ tl)) (hlc : body.length + 4 ≤ cap) (HQ : (tl == le4 (sumF body)) = true) :
    Calls Tryd.prog 19 #[.slice (some ⟨b, off, none⟩) (body.length + 4) cap] w fun e w' => ∃ v, e = .returned (.tuple #[v, .bool true]) ∧ New w body v w' := by
  have HT := hide hT
  have HB := hide hB
  have hsm := hB.2.2
  rw [List.length_append] at hsm
  clear hT hB
  go_enter Tryd.func19, Tryd.ntmps19
  go_wp2_with fail
  go_quiet (fail)
  go_wp2_with fail
  have HT1 := hide ((unhide HT).later ((Fr.refl (fun _ => False) w).drewN nq))
  have HB1 := hide ((unhide HB).later ((Fr.refl (fun _ => False) w).drewN nq))
  have HF1 := hide ((Fr.refl (fun _ => False) w).drewN nq)
  generalize w.drewN nq = w0 at *
  refine (sumbytes_any _ (unhide HT1) _ cap body (unhide HB1).left).mono ?_
  rintro e w1 ⟨v, rfl, g, hrow, hF, hg⟩
  obtain ⟨so, sc, rfl, _⟩ := hrow.shape
  have hF2 := (unhide HF1).trans hF (fun _ _ t => t)
  have hbr := ((unhide HB1).later hF).right (cap - body.length)
  have HR := hide (And.intro (hrow.bat (by simp [le4])).2 (And.intro hF2 (And.intro hbr ((unhide HB1).left.later hF))))
  clear hrow hF hg hF2 hbr
  go_wp2_with fail
  have heq := equal_any w1 _ _ tl (unhide HR).2.2.1 _ _ (le4 (sumF body)) (unhide HR).1
  rw [htl, HQ] at heq
  refine heq.mono ?_
  rintro e w2 ⟨rfl, rfl⟩
  clear heq
  go_wp2_with fail
  refine (clone_any _ _ cap body (unhide HR).2.2.2).mono ?_
  rintro e w3 ⟨v, rfl, g3, k1, k2, k3⟩
  have hF3 := (unhide HR).2.1.trans k2 (fun _ _ t => t)
  have HQ := hide (And.intro k1 (And.intro hF3 (Nat.le_trans (unhide HR).2.1.size k3)))
  clear k1 k2 k3 hF3
  go_wp2
  go_ret2
  exact ⟨_, rfl, g3, unhide HQ⟩

theorem open_no (w : World) (hT : TabAt w) (b off cap : Nat) (body tl : List UInt8) (htl : tl.length = 4) (hB : BAt w (some ⟨b, off, none⟩) cap (body ++ tl)) (hlc : body.length + 4 ≤ cap) (HQ : (tl == le4 (sumF body)) = false) :
    Calls Tryd.prog 19 #[.slice (some ⟨b, off, none⟩) (body.length + 4) cap] w fun e w' => ∃ v, e = .returned (.tuple #[v, .bool false]) ∧ New w [] v w' := by
  have HT := hide hT
  have HB := hide hB
  have hsm := hB.2.2
  rw [List.length_append] at hsm
  clear hT hB
  go_enter Tryd.func19, Tryd.ntmps19
  go_wp2_with fail
  go_quiet (fail)
  go_wp2_with fail
  have HT1 := hide ((unhide HT).later ((Fr.refl (fun _ => False) w).drewN nq))
  have HB1 := hide ((unhide HB).later ((Fr.refl (fun _ => False) w).drewN nq))
  have HF1 := hide ((Fr.refl (fun _ => False) w).drewN nq)
  generalize w.drewN nq = w0 at *
  refine (sumbytes_any _ (unhide HT1) _ cap body (unhide HB1).left).mono ?_
  rintro e w1 ⟨v, rfl, g, hrow, hF, hg⟩
  obtain ⟨so, sc, rfl, _⟩ := hrow.shape
  have hF2 := (unhide HF1).trans hF (fun _ _ t => t)
  have hbr := ((unhide HB1).later hF).right (cap - body.length)
  have HR := hide (And.intro (hrow.bat (by simp [le4])).2 (And.intro hF2 (And.intro hbr ((unhide HB1).left.later hF))))
  clear hrow hF hg hF2 hbr
  go_wp2_with fail
  have heq := equal_any w1 _ _ tl (unhide HR).2.2.1 _ _ (le4 (sumF body)) (unhide HR).1
  rw [htl, HQ] at heq
  refine heq.mono ?_
  rintro e w2 ⟨rfl, rfl⟩
  clear heq
  go_wp2
  go_ret2
  exact ⟨_, rfl, w.heap.size, Row.nil _ _, (unhide HR).2.1, Nat.le_refl _⟩

/-- Any bytes. -/
theorem open_any (w : World) (hT : TabAt w) (ao : Option Addr) (cap : Nat) (bs : List UInt8) (hB : BAt w ao cap bs) (hlc : bs.length ≤ cap) :
    Calls Tryd.prog 19 #[.slice ao bs.length cap] w fun e w' => ∃ v, e = .returned (.tuple #[v, .bool (openF bs).isSome]) ∧ New w ((openF bs).getD []) v w' := by
  by_cases h4 : bs.length < 4
  · rw [openF_short h4]
    refine (open_short w ao bs.length cap h4).mono ?_
    rintro e w' ⟨rfl, rfl⟩
    exact ⟨_, rfl, w'.heap.size, Row.nil _ _, Fr.refl _ _, Nat.le_refl _⟩
  · obtain ⟨body, tl, rfl, htl⟩ : ∃ body tl, bs = body ++ tl ∧ tl.length = 4 := ⟨bs.take (bs.length - 4), bs.drop (bs.length - 4), (List.take_append_drop _ _).symm, by rw [List.length_drop]; omega⟩
    obtain ⟨b, off, rfl, _⟩ := hB.2.1 (by omega)
    rw [openF_parts body tl htl, List.length_append, htl]
    rw [List.length_append, htl] at hlc
    by_cases hq : tl = le4 (sumF body)
    · rw [if_pos hq]
      exact open_yes w hT b off cap body tl htl hB hlc (by simp [hq])
    · rw [if_neg hq]
      exact open_no w hT b off cap body tl htl hB hlc (by simp [hq])

end Go.Proofs.YtgbaofdbdpopnaaDoor
