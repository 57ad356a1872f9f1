/- A fare from a zone to another one: Single. -/
import Derived.Test.YthgkdpepgnoepaaT9
import Derived.Test.YthgkdpepgnoepaaT4
import Derived.Test.YthgkdpepgnoepaaS2
namespace Go.Proofs.Ythgkdpepgnoepaa
open Go.RowKit

/-- The fare, and the error. -/
def singleR (t : Tf) (a b : Int) (pk : Bool) : Int × Int :=
  match spanOf t a b with
  | none => (0, 1)
  | some s => if price s.single then (if pk then (s.single, 0) else (rv (scaled s.single t.off), scaleE s.single t.off)) else (0, 50)

theorem single_any (w : World) (A : Ad) (t : Tf) (h : TAt w A t) (a b : Int) (pk : Bool) :
    Calls Try.prog 15 #[tv A t, .int .i64 a, .int .i64 b, .bool pk] w fun e w' => e = .returned (.tuple #[.int .i64 (singleR t a b pk).1, .int .i64 (singleR t a b pk).2]) ∧ Fr (fun _ => False) w w' := by
  have HR := hide (fun (w' : World) (hf : Fr (fun _ => False) w w') => span_any w' A t (h.keep hf) a b)
  have HX : Hid (singleR t a b pk = match spanOf t a b with | none => (0, 1) | some s => if price s.single then (if pk then (s.single, 0) else (rv (scaled s.single t.off), scaleE s.single t.off)) else (0, 50)) := rfl
  have hoff := h.off
  generalize singleR t a b pk = z at *
  generalize spanOf t a b = r at *
  clear h
  obtain ⟨W, hW⟩ : ∃ W, W = w.alloc (.cells (tc A t) 27) := ⟨_, rfl⟩
  have hF0 : Fr (fun _ => False) w W := by rw [hW]; exact (Fr.refl _ w).alloc _
  have hlt : w.heap.size < W.heap.size := by rw [hW, heap_alloc]; exact Nat.lt_succ_self _
  have c3 : W.cell? ⟨w.heap.size, 3, none⟩ = some (.float .f64 t.off) := by rw [hW, World.cell?_alloc_new]; rfl
  have RS := unhide HR W hF0
  have HF0 := hide (And.intro hF0 hlt)
  clear HR hF0 hlt
  unfold tc at hW
  unfold tv tc at *
  cases r with
  | none =>
    have HZ : Hid (z = (0, 1)) := hide (unhide HX)
    clear HX
    go_enter Try.func15, Try.ntmps15
    go_wp2_with fail
    rw [← hW]
    refine RS.mono ?_
    rintro e w1 ⟨rfl, hF⟩
    have HF := hide ((unhide HF0).1.trans hF (fun _ _ t => t))
    clear hF RS HF0 c3 hW
    go_wp2
    go_ret2
    exact ⟨by rw [unhide HZ]; rfl, (unhide HF).alloc _⟩
  | some s =>
    obtain ⟨s0, s1, s2, s3, s4⟩ := s
    have HX2 : Hid (z = if price s2 = true then (if pk = true then (s2, 0) else (rv (scaled s2 t.off), scaleE s2 t.off)) else (0, 50)) := unhide HX
    clear HX
    have RP := fun w => isPrice_any w s2
    have RC := fun w => scale_any w s2 t.off hoff
    have hpr := price_cases s2
    generalize price s2 = p at *
    cases p with
    | false =>
      have HZ : Hid (z = (0, 50)) := hide (by have := unhide HX2; simpa using this)
      clear HX2
      go_enter Try.func15, Try.ntmps15
      go_wp2_with fail
      rw [← hW]
      refine RS.mono ?_
      rintro e w1 ⟨rfl, hF⟩
      have HF := hide ((unhide HF0).1.trans hF (fun _ _ t => t))
      clear hF RS HF0 c3 hW
      go_wp2_with fail
      refine (RP _).mono ?_
      rintro e w2 ⟨rfl, rfl⟩
      go_wp2
      go_ret2
      exact ⟨by rw [unhide HZ]; rfl, (unhide HF).alloc _⟩
    | true =>
      cases pk with
      | true =>
        have HZ : Hid (z = (s2, 0)) := hide (by have := unhide HX2; simpa using this)
        clear HX2
        go_enter Try.func15, Try.ntmps15
        go_wp2_with fail
        rw [← hW]
        refine RS.mono ?_
        rintro e w1 ⟨rfl, hF⟩
        have HF := hide ((unhide HF0).1.trans hF (fun _ _ t => t))
        clear hF RS HF0 c3 hW
        go_wp2_with fail
        refine (RP _).mono ?_
        rintro e w2 ⟨rfl, rfl⟩
        go_wp2
        go_ret2
        exact ⟨by rw [unhide HZ]; rfl, (unhide HF).alloc _⟩
      | false =>
        have HZ : Hid (z = (rv (scaled s2 t.off), scaleE s2 t.off)) := hide (by have := unhide HX2; simpa using this)
        clear HX2
        generalize rv (scaled s2 t.off) = v1 at *
        generalize scaleE s2 t.off = v2 at *
        go_enter Try.func15, Try.ntmps15
        go_wp2_with fail
        rw [← hW]
        refine RS.mono ?_
        rintro e w1 ⟨rfl, hF⟩
        have HF := hide ((unhide HF0).1.trans hF (fun _ _ t => t))
        have c3' := (hF.cell (a := ⟨w.heap.size, 3, none⟩) (unhide HF0).2 (fun t => t)).trans c3
        have hlt2 := World.block_lt_of_cell? _ _ c3'
        simp only at hlt2
        clear hF RS HF0 c3 hW
        go_wp2_with fail
        refine (RP _).mono ?_
        rintro e w2 ⟨rfl, rfl⟩
        go_wp2_with fail
        refine (RC _).mono ?_
        rintro e w2 ⟨rfl, rfl⟩
        go_wp2
        go_ret2
        exact ⟨by rw [unhide HZ]; rfl, (unhide HF).alloc _⟩

end Go.Proofs.Ythgkdpepgnoepaa
