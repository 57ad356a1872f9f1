/- The contract of Seal. -/
import Derived.Test.YtgklgbomfipagaaDoorS5
namespace Go.Proofs.YtgklgbomfipagaaDoor
open Go.RowKit

/-- What is sealed. -/
def sealed (s b : List UInt8) : List UInt8 := b ++ (hmac s b).take 16

theorem take16 (s b : List UInt8) : ((hmac s b).take 16).length = 16 := by rw [List.length_take, hmac_length]; rfl
theorem sealed_length (s b : List UInt8) : (sealed s b).length = b.length + 16 := by unfold sealed; rw [List.length_append, take16]

theorem seal_long (w : World) (s : List UInt8) (hs : 200 < s.length) (bv : Value) :
    Calls Tryd.prog 20 #[.string ⟨s.toArray⟩, bv] w fun e w' => e = .returned (.tuple #[.slice none 0 0, .int .i64 2]) ∧ w' = w := by
  go_enter Tryd.func20, Tryd.ntmps20
  go_wp2_with fail
  refine (islong_any w s).mono ?_
  rintro e w1 ⟨rfl, rfl⟩
  rw [decide_eq_true hs]
  go_wp2
  go_ret2
  exact ⟨rfl, rfl⟩

set_option maxHeartbeats 1000000 in
theorem seal_any (w : World) (hT : TabP w) (s : List UInt8) (hs : s.length ≤ 200) (bo : Option Addr) (bcap : Nat) (bs : List UInt8) (hB : BAt w bo bcap bs) (hcap : bs.length ≤ bcap) (hfit : bs.length + 16 ≤ 140737488355328) :
    Calls Tryd.prog 20 #[.string ⟨s.toArray⟩, .slice bo bs.length bcap] w fun e w' => ∃ ao cap, e = .returned (.tuple #[.slice ao (bs.length + 16) cap, .int .i64 0]) ∧ New w (sealed s bs) (.slice ao (bs.length + 16) cap) w' := by
  have HT := hide hT
  have HB := hide hB
  clear hT hB
  obtain ⟨i0, hi, hz0, hz1, hz2⟩ := info_parts Tryd.info5
  have hmk : ∀ w, (Instr.makeSlice 22 (.int .i64 0) (.int .i64 ((bs.length : Int) + 16))).run Tryd.prog w = .ok (.slice (some ⟨w.heap.size, 0, none⟩) 0 (bs.length + 16)) (w.alloc (.cells (madeCells #[.int .u8 0] (bs.length + 16)) 5)) := by
    intro w
    have := run_make (P := Tryd.prog) w 22 5 i0 (.int .u8 0) Tryd.underlying22 hi hz0 .i64 .i64 0 (bs.length + 16) (by omega) (by omega) (by rw [hz2]; omega) (by omega)
    rw [hz1, Nat.mul_one] at this
    exact this
  have hrow0 : Row (w.alloc (.cells (madeCells #[.int .u8 0] (bs.length + 16)) 5)) (.slice (some ⟨w.heap.size, 0, none⟩) 0 (bs.length + 16)) w.heap.size [] := by
    refine Row.empty (by simp only [maxLen]; omega) (fun j hj => ⟨?_, World.frozen?_alloc_new _ _ _ _⟩)
    rw [World.cell?_alloc_new, Array.getElem?_eq_getElem (by rw [size_madeCells]; exact hj)]; rfl
  have HI := hide hi
  have H0 := hide (And.intro hrow0 ((Fr.refl (fun _ => False) w).alloc (.cells (madeCells #[.int .u8 0] (bs.length + 16)) 5)))
  clear hi hrow0
  go_enter Tryd.func20, Tryd.ntmps20
  go_wp2_with fail
  refine (islong_any w s).mono ?_
  rintro e w1 ⟨rfl, rfl⟩
  rw [decide_eq_false (by omega)]
  go_wp2_with (at_builtin; refine wpList_append_row _ rfl (.tmp 13) (.tmp 14) 22 22 rfl 5 i0 Tryd.underlying22 (unhide HI) hz0 hz1 hz2 (ao := some ⟨w1.heap.size, 0, none⟩) (cap := bs.length + 16) (g := w1.heap.size) (bs := []) rfl ?hr _ bs rfl ?hs ?hf ?nx)
  case hr => exact (unhide H0).1
  case hs => exact src_slice Tryd.underlying22 _ _ _ bs ((unhide HB).later (unhide H0).2).2.1
  case hf => simp; omega
  intro ao cap w2 g hrow hF hg
  have hF2 : Fr (fun _ => False) w1 w2 := (unhide H0).2.trans hF (fun i hi t => by omega)
  have hrow2 : Row w2 (.slice ao bs.length cap) g bs := by simpa using hrow
  have hge : w1.heap.size ≤ g := by
    rcases hg with e | e
    · omega
    · have := (unhide H0).2.size; omega
  have HM := hide (sealof_any w2 ((unhide HT).later hF2) s hs bo bcap bs ((unhide HB).later hF2) hcap)
  have HR := hide (And.intro hrow2 hF2)
  clear hrow hrow2 hF hg hF2 hmk
  go_wp2_with fail
  refine (unhide HM).mono ?_
  rintro e w3 ⟨mo, mc, rfl, g3, r1, r2, r3⟩
  have hb3 := r1.batn (by omega)
  have hrow3 := (unhide HR).1.frame r2 (fun t => t)
  have hF3 := (unhide HR).2.trans r2 (fun _ _ t => t)
  have hsrc := src_slice Tryd.underlying22 w3 mo mc ((hmac s bs).take 16) hb3.1.2.1
  rw [hb3.2.1] at hsrc
  have H3 := hide (And.intro hrow3 (And.intro hF3 hsrc))
  clear hb3 hrow3 hF3 hsrc r1 r2 r3 HM HR
  go_wp2_with (at_builtin; refine wpList_append_row _ rfl (.tmp 16) (.tmp 19) 22 22 rfl 5 i0 Tryd.underlying22 (unhide HI) hz0 hz1 hz2 (ao := ao) (cap := cap) (g := g) (bs := bs) rfl ?hr2 _ ((hmac s bs).take 16) rfl ?hs2 ?hf2 ?nx2)
  case hr2 => exact (unhide H3).1
  case hs2 => rw [take16]; exact (unhide H3).2.2
  case hf2 => rw [take16]; exact hfit
  intro ao4 cap4 w4 g4 hrow4 hF4 hg4
  rw [show min 16 (hmac s bs).length = 16 by rw [hmac_length]; rfl] at hrow4 ⊢
  have HN : Hid (New w1 (sealed s bs) (.slice ao4 (bs.length + 16) cap4) w4) := by
    refine ⟨g4, hrow4, (unhide H3).2.1.trans hF4 (fun i hi t => by omega), ?_⟩
    rcases hg4 with e | e
    · omega
    · have := (unhide H3).2.1.size; omega
  clear hrow4 hF4 hg4 H3
  go_wp2
  go_ret2
  exact ⟨_, _, rfl, unhide HN⟩

end Go.Proofs.YtgklgbomfipagaaDoor
