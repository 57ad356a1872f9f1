/- The contract of Open. -/
import Derived.Test.YtgklgbomfipagaaDoorS7
namespace Go.Proofs.YtgklgbomfipagaaDoor
open Go.RowKit

theorem open_long (w : World) (s : List UInt8) (hs : 200 < s.length) (bv : Value) :
    Calls Tryd.prog 21 #[.string ⟨s.toArray⟩, bv] w fun e w' => e = .returned (.tuple #[.slice none 0 0, .int .i64 2]) ∧ w' = w := by
  go_enter Tryd.func21, Tryd.ntmps21
  go_wp2_with fail
  refine (islong_any w s).mono ?_
  rintro e w1 ⟨rfl, rfl⟩
  rw [decide_eq_true hs]
  go_wp2
  go_ret2
  exact ⟨rfl, rfl⟩

theorem open_short (w : World) (s : List UInt8) (hs : s.length ≤ 200) (ro : Option Addr) (n rc : Nat) (hn : n < 16) :
    Calls Tryd.prog 21 #[.string ⟨s.toArray⟩, .slice ro n rc] w fun e w' => e = .returned (.tuple #[.slice none 0 0, .int .i64 40]) ∧ w' = w := by
  go_enter Tryd.func21, Tryd.ntmps21
  go_wp2_with fail
  refine (islong_any w s).mono ?_
  rintro e w1 ⟨rfl, rfl⟩
  rw [decide_eq_false (by omega)]
  have h1 : decide ((n : Int) - 16 < 0) = true := decide_eq_true (by omega)
  go_wp2
  go_ret2
  exact ⟨rfl, rfl⟩

theorem BAt.parts {w : World} {ro : Option Addr} {rc : Nat} {x y : List UInt8} (h : BAt w ro rc (x ++ y)) (hy : 0 < y.length) : ∃ b off, ro = some ⟨b, off, none⟩ ∧ BAt w (some ⟨b, off, none⟩) rc x ∧ BAt w (some ⟨b, off + x.length, none⟩) (rc - x.length) y := by
  have h3 := h.2.2
  rw [List.length_append] at h3
  obtain ⟨b, off, rfl, hc⟩ := h.2.1 (by rw [List.length_append]; omega)
  refine ⟨b, off, rfl, ⟨fun e => (by cases e), fun _ => ⟨b, off, rfl, fun j hj => ?_⟩, by omega⟩, ⟨fun e => (by cases e), fun _ => ⟨b, off + x.length, rfl, fun j hj => ?_⟩, by omega⟩⟩
  · have := hc j (by rw [List.length_append]; omega)
    rw [List.getElem_append_left hj] at this
    exact this
  · have := hc (x.length + j) (by rw [List.length_append]; omega)
    rw [List.getElem_append_right (by omega)] at this
    simpa [Nat.add_assoc] using this

theorem open_bad (w : World) (hT : TabP w) (s : List UInt8) (hs : s.length ≤ 200) (ro : Option Addr) (rc : Nat) (x y : List UInt8) (m : Nat) (hm : x.length = m) (hy : y.length = 16) (hB : BAt w ro rc (x ++ y)) (hcap : m + 16 ≤ rc) (hne : ¬ (hmac s x).take 16 = y) :
    Calls Tryd.prog 21 #[.string ⟨s.toArray⟩, .slice ro (m + 16) rc] w fun e w' => e = .returned (.tuple #[.slice none 0 0, .int .i64 41]) ∧ Fr (fun _ => False) w w' := by
  have hsm := hB.2.2
  rw [List.length_append] at hsm
  obtain ⟨b, off, rfl, hX, hY⟩ := hB.parts (by omega)
  rw [hm] at hY
  have HT := hide hT
  have HX := hide (And.intro hX hY)
  have HM := hide (And.intro hm (And.intro hy hne))
  clear hT hX hY hB hne
  go_enter Tryd.func21, Tryd.ntmps21
  go_wp2_with fail
  refine (islong_any w s).mono ?_
  rintro e w1 ⟨rfl, rfl⟩
  rw [decide_eq_false (by omega)]
  go_wp2
  refine op6_any w1 (unhide HT) s hs b off m rc x y hm hy (unhide HX).1 (unhide HX).2 hcap (by omega) _ _ _ _ _ _ _ _ _ _ _ _ _ _ _ _ _ _ _ _ _ _ _ _ _ (fun _ _ _ _ _ h => h) ?_
  intro w9 so sc hF
  rw [decide_eq_false (unhide HM).2.2]
  have HF := hide hF
  clear hF
  go_wp2
  go_ret2
  exact ⟨rfl, unhide HF⟩

set_option maxHeartbeats 1000000 in
theorem open_ok (w : World) (hT : TabP w) (s : List UInt8) (hs : s.length ≤ 200) (ro : Option Addr) (rc : Nat) (x y : List UInt8) (m : Nat) (hm : x.length = m) (hy : y.length = 16) (hB : BAt w ro rc (x ++ y)) (hcap : m + 16 ≤ rc) (he : (hmac s x).take 16 = y) :
    Calls Tryd.prog 21 #[.string ⟨s.toArray⟩, .slice ro (m + 16) rc] w fun e w' => ∃ ao cap, e = .returned (.tuple #[.slice ao m cap, .int .i64 0]) ∧ New w x (.slice ao m cap) w' := by
  have hsm := hB.2.2
  rw [List.length_append] at hsm
  obtain ⟨b, off, rfl, hX, hY⟩ := hB.parts (by omega)
  rw [hm] at hY
  have HT := hide hT
  have HX := hide (And.intro hX hY)
  have HE := hide he
  obtain ⟨i0, hi, hz0, hz1, hz2⟩ := info_parts Tryd.info5
  have HI := hide hi
  clear hT hX hY hB he hi
  go_enter Tryd.func21, Tryd.ntmps21
  go_wp2_with fail
  refine (islong_any w s).mono ?_
  rintro e w1 ⟨rfl, rfl⟩
  rw [decide_eq_false (by omega)]
  go_wp2
  refine op6_any w1 (unhide HT) s hs b off m rc x y hm hy (unhide HX).1 (unhide HX).2 hcap (by omega) _ _ _ _ _ _ _ _ _ _ _ _ _ _ _ _ _ _ _ _ _ _ _ _ _ (fun _ _ _ _ _ h => h) ?_
  intro w9 so sc hF
  rw [decide_eq_true (unhide HE)]
  have HF := hide hF
  clear hF
  have HS : Hid (Src Tryd.prog 1 22 (.slice (some ⟨b, off, none⟩) m rc) x.length (bytesV x) w9) := by
    have := src_slice Tryd.underlying22 w9 (some ⟨b, off, none⟩) rc x ((unhide HX).1.later (unhide HF)).2.1
    rw [hm] at this ⊢
    exact this
  go_wp2_with (at_builtin; refine wpList_append_row _ rfl (.const (.slice none 0 0)) (.tmp 26) 22 22 rfl 5 i0 Tryd.underlying22 (unhide HI) hz0 hz1 hz2 (ao := none) (cap := 0) (g := w9.heap.size) (bs := []) rfl ?hr _ x rfl ?hs ?hf ?nx)
  case hr => exact Row.nil _ _
  case hs => exact unhide HS
  case hf => simp; omega
  intro ao cap w5 g5 hrow hF5 hg
  have HN : Hid (New w1 x (.slice ao m cap) w5) := ⟨g5, hrow, (unhide HF).trans hF5 (fun _ _ t => t.elim), by have := (unhide HF).size; omega⟩
  clear hrow hF5 hg
  go_wp2
  go_ret2
  exact ⟨_, _, rfl, unhide HN⟩

end Go.Proofs.YtgklgbomfipagaaDoor
