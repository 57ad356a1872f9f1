/- The document's own Seal and Open. -/
import Derived.Test.YtgklgbomfipagaaDoorV2
import Derived.Test.YtgklgbomfipagaaDoorS8
namespace Go.Proofs.YtgklgbomfipagaaDoor
open Go.RowKit

theorem rseal_long (w : World) (s : List UInt8) (hs : 200 < s.length) (bv : Value) :
    Calls Tryd.prog 22 #[.string ⟨s.toArray⟩, bv] w fun e w' => e = .returned (.tuple #[.slice none 0 0, .int .i64 2]) ∧ w' = w := by
  go_enter Tryd.func22, Tryd.ntmps22
  go_wp2_with fail
  refine (rmac_long w s hs _).mono ?_
  rintro e w1 ⟨rfl, rfl⟩
  go_wp2
  go_ret2
  exact ⟨rfl, rfl⟩

set_option maxHeartbeats 1000000 in
theorem rseal_any (w : World) (hT : TabR w) (s : List UInt8) (hs : s.length ≤ 200) (bo : Option Addr) (bcap : Nat) (bs : List UInt8) (hB : BAt w bo bcap bs) (hfit : bs.length + 136 ≤ 140737488355328) :
    Calls Tryd.prog 22 #[.string ⟨s.toArray⟩, .slice bo bs.length bcap] w fun e w' => ∃ ao cap, e = .returned (.tuple #[.slice ao (bs.length + 16) cap, .int .i64 0]) ∧ New w (sealed s bs) (.slice ao (bs.length + 16) cap) w' := by
  have HM := hide (rmac_any w hT s hs bo bcap bs hB hfit)
  have HB := hide hB
  clear hT hB
  obtain ⟨i0, hi, hz0, hz1, hz2⟩ := info_parts Tryd.info5
  have HI := hide hi
  clear hi
  go_enter Tryd.func22, Tryd.ntmps22
  go_wp2_with fail
  refine (unhide HM).mono ?_
  rintro e w1 ⟨mo, mc, rfl, g1, r1, r2, r3⟩
  have h32 : 32 ≤ mc := (r1.batn (by omega)).2.2
  have H1 := hide (And.intro ((r1.front 16 (by omega)).batn (by omega)).1 r2)
  clear r1 r2 r3 HM
  go_wp2_with (at_builtin; refine wpList_append_n _ rfl (.tmp 18) (.tmp 19) 22 22 rfl 5 i0 Tryd.underlying22 (unhide HI) hz0 hz1 hz2 (ao := none) (n := 0) (cap := 0) (g := w1.heap.size) (bs := []) rfl (Row.nil _ _) _ bs bs.length rfl rfl ?hs (by omega) ?nx)
  case hs => exact src_slice Tryd.underlying22 _ _ _ bs ((unhide HB).later (unhide H1).2).2.1
  intro ao2 cap2 w2 g2 hrow hF hg
  have hF2 : Fr (fun _ => False) w1 w2 := hF.mono (fun i _ t => by omega)
  have hge : w.heap.size ≤ g2 := by have := (unhide H1).2.size; omega
  have hrow2 : Row w2 (.slice ao2 bs.length cap2) g2 bs := by simpa using hrow
  have hsrc := src_slice Tryd.underlying22 w2 mo mc ((hmac s bs).take 16) ((unhide H1).1.later hF2).2.1
  rw [take16] at hsrc
  have H2 := hide (And.intro hrow2 (And.intro ((unhide H1).2.trans hF2 (fun _ _ t => t)) hsrc))
  clear hrow hrow2 hF hg hF2 hsrc H1
  go_wp2_with (at_builtin; refine wpList_append_n _ rfl (.tmp 21) (.tmp 23) 22 22 rfl 5 i0 Tryd.underlying22 (unhide HI) hz0 hz1 hz2 (ao := ao2) (n := bs.length) (cap := cap2) (g := g2) (bs := bs) rfl (unhide H2).1 _ ((hmac s bs).take 16) 16 rfl (take16 _ _) (unhide H2).2.2 (by omega) ?nx2)
  intro ao4 cap4 w4 g4 hrow4 hF4 hg4
  have HN : Hid (New w (sealed s bs) (.slice ao4 (bs.length + 16) cap4) w4) := by
    refine ⟨g4, hrow4, (unhide H2).2.1.trans hF4 (fun i hi t => by omega), ?_⟩
    rcases hg4 with e | e
    · omega
    · have := (unhide H2).2.1.size; omega
  clear hrow4 hF4 hg4 H2
  go_wp2
  go_ret2
  exact ⟨_, _, rfl, unhide HN⟩

theorem ropen_long (w : World) (s : List UInt8) (hs : 200 < s.length) (bv : Value) :
    Calls Tryd.prog 23 #[.string ⟨s.toArray⟩, bv] w fun e w' => e = .returned (.tuple #[.slice none 0 0, .int .i64 2]) ∧ w' = w := by
  have hd : decide ((200 : Int) < (s.length : Int)) = true := by simp; omega
  go_enter Tryd.func23, Tryd.ntmps23
  go_wp2
  go_ret2
  exact ⟨rfl, rfl⟩

theorem ropen_short (w : World) (s : List UInt8) (hs : s.length ≤ 200) (ro : Option Addr) (n rc : Nat) (hn : n < 16) :
    Calls Tryd.prog 23 #[.string ⟨s.toArray⟩, .slice ro n rc] w fun e w' => e = .returned (.tuple #[.slice none 0 0, .int .i64 40]) ∧ w' = w := by
  have hd : decide ((200 : Int) < (s.length : Int)) = false := by simp; omega
  have h1 : decide ((n : Int) < 16) = true := decide_eq_true (by omega)
  go_enter Tryd.func23, Tryd.ntmps23
  go_wp2
  go_ret2
  exact ⟨rfl, rfl⟩

set_option maxHeartbeats 1000000 in
theorem ropen_any (w : World) (hT : TabR w) (s : List UInt8) (hs : s.length ≤ 200) (ro : Option Addr) (rc : Nat) (x y : List UInt8) (m : Nat) (hm : x.length = m) (hy : y.length = 16) (hB : BAt w ro rc (x ++ y)) (hcap : m + 16 ≤ rc) (hfit : m + 136 ≤ 140737488355328) :
    Calls Tryd.prog 23 #[.string ⟨s.toArray⟩, .slice ro (m + 16) rc] w fun e w' =>
      ((hmac s x).take 16 = y → ∃ ao cap, e = .returned (.tuple #[.slice ao m cap, .int .i64 0]) ∧ New w x (.slice ao m cap) w') ∧ (¬ (hmac s x).take 16 = y → e = .returned (.tuple #[.slice none 0 0, .int .i64 41]) ∧ Fr (fun _ => False) w w') := by
  have hsm := hB.2.2
  rw [List.length_append] at hsm
  obtain ⟨b, off, rfl, hX, _⟩ := hB.parts (by omega)
  have HT := hide hT
  have HX := hide hX
  have HB := hide hB
  have hd : decide ((200 : Int) < (s.length : Int)) = false := by simp; omega
  have h1 : decide ((m : Int) + 16 < 16) = false := decide_eq_false (by omega)
  obtain ⟨i0, hi, hz0, hz1, hz2⟩ := info_parts Tryd.info5
  have HI := hide hi
  clear hT hX hB hi
  go_enter Tryd.func23, Tryd.ntmps23
  have HS : Hid (Src Tryd.prog 1 22 (.slice (some ⟨b, off, none⟩) m rc) m (bytesV x) (w.alloc (.cells #[] 5))) := by
    have := src_slice Tryd.underlying22 (w.alloc (.cells #[] 5)) (some ⟨b, off, none⟩) rc x ((unhide HX).later ((Fr.refl _ w).alloc _)).2.1
    rw [hm] at this
    exact this
  go_wp2_with (at_builtin; refine wpList_append_n _ rfl (.tmp 15) (.tmp 20) 22 22 rfl 5 i0 Tryd.underlying22 (unhide HI) hz0 hz1 hz2 (ao := some ⟨w.heap.size, 0, none⟩) (n := 0) (cap := 0) (g := w.heap.size) (bs := []) rfl ?hr _ x m rfl hm ?hs (by omega) ?nx)
  case hr => exact Row.empty (Nat.zero_le _) (fun j hj => absurd hj (by omega))
  case hs => exact unhide HS
  intro ao2 cap2 w2 g2 hrow hF hg
  have hF2 : Fr (fun _ => False) w w2 := ((Fr.refl (fun _ => False) w).alloc (.cells #[] 5)).trans hF (fun i hi t => by omega)
  have hge : w.heap.size ≤ g2 := by
    have := World.size_alloc_le w (.cells #[] 5)
    omega
  have hrow2 : Row w2 (.slice ao2 m cap2) g2 x := by simpa using hrow
  have hb2 := hrow2.batn (by omega)
  have HSe := hide (rseal_any w2 ((unhide HT).later hF2) s hs ao2 cap2 x hb2.1 (by omega))
  rw [hm] at HSe
  have H2 := hide (And.intro hrow2 hF2)
  clear hrow hrow2 hF hg hF2 hb2 HS
  go_wp2_with fail
  refine (unhide HSe).mono ?_
  rintro e w3 ⟨so, sc, rfl, g3, r1, r2, r3⟩
  have hb3 := r1.batn (by omega)
  have cvs := conv_bytes hb3.1
  rw [hb3.2.1] at cvs
  have hF3 := (unhide H2).2.trans r2 (fun _ _ t => t)
  have cvb := conv_bytes ((unhide HB).later hF3)
  rw [List.length_append, hm, hy] at cvb
  have HN := hide (And.intro ((unhide H2).1.frame r2 (fun t => t)) (And.intro hF3 hge))
  clear r1 r2 r3 hb3 hF3 HSe H2
  by_cases he : (hmac s x).take 16 = y
  · have hse : sealed s x = x ++ y := by unfold sealed; rw [he]
    rw [hse] at cvs
    have HE := hide he
    clear he hse
    generalize x ++ y = R at *
    go_wp2
    go_ret2
    exact ⟨fun _ => ⟨_, _, rfl, g2, unhide HN⟩, fun t => absurd (unhide HE) t⟩
  · have hse : ¬ sealed s x = x ++ y := by unfold sealed; intro t; exact he (List.append_cancel_left t)
    have HE := hide he
    have hne : (sealed s x == x ++ y) = false := by simpa using hse
    clear he hse
    generalize x ++ y = R at *
    generalize sealed s x = Z at *
    go_wp2
    go_ret2
    exact ⟨fun t => absurd t (unhide HE), fun _ => ⟨rfl, (unhide HN).2.1⟩⟩

end Go.Proofs.YtgklgbomfipagaaDoor
