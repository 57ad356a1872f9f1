/- The document's reader: Text, End. -/
import Derived.Test.YtkjoojamkbpfcaaF4
namespace Go.Proofs.Ytkjoojamkbpfcaa
open Go.RowKit

section
variable {w : World} {p : Nat} {ao : Option Addr} {cap : Nat} {bs : List UInt8} {s : RS}

theorem XAt.setOther (h : XAt w p ao cap bs s) {b o : Nat} (hp : b ≠ p) (hg : ∀ b' off, ao = some ⟨b', off, none⟩ → 0 < bs.length → b ≠ b') (v : Value) : XAt (w.setCell ⟨b, o, none⟩ v) p ao cap bs s :=
  h.stay (Below.heap_setCell _ _ _ _ (fun e => hp e.symm)) fun b' off e h0 _ => Below.heap_setCell _ _ _ _ (fun t => hg b' off e h0 t.symm)

theorem XAt.rowlt (h : XAt w p ao cap bs s) {b' off : Nat} (e : ao = some ⟨b', off, none⟩) (h0 : 0 < bs.length) : b' < w.heap.size := by
  obtain ⟨b, o, e1, _, hc⟩ := h.row h0
  rw [e] at e1
  injection e1 with e1
  injection e1 with e1 e2
  subst e1
  exact World.block_lt_of_cell? _ _ (hc 0 h0)

theorem xEnd (h : XAt w p ao cap bs s) :
    Calls Try.prog 100 #[.pointer (some ⟨p, 0, none⟩)] w fun e w' => e = .returned (.agg #[.int .i64 (endR s bs.length).c, .int .i64 (endR s bs.length).f]) ∧ XAt w' p ao cap bs (endR s bs.length) ∧ Fr (· = p) w w' := by
  have H := hide h
  have hlt := h.lt
  have hsm := h.small
  have c0 := h.c0
  have c1 := h.c1
  have c3 := h.c3
  have c4 := h.c4
  clear h
  have hnp : w.heap.size ≠ p := by omega
  by_cases ha : s.a < bs.length
  · obtain ⟨s', Hs'⟩ : ∃ s', Hid (badR s 13 = s') := ⟨_, rfl⟩
    rw [show endR s bs.length = s' by rw [← unhide Hs']; unfold endR badR; simp [ha]]
    have hd : decide ((s.a : Int) < (bs.length : Int)) = true := by simp; omega
    go_enter Try.func100, Try.ntmps100
    go_wp2
    go_quiet (fail)
    go_wp2_with fail
    refine (xbad (XAt.drewN (XAt.alloc (unhide H) (.cells #[.int .i64 0, .int .i64 0] 31)) nq) 13).mono ?_
    rw [unhide Hs']
    rintro e w2 ⟨rfl, hX, hF⟩
    have d3 := hX.c3
    have d4 := hX.c4
    have hF0 := (((Fr.refl (· = p) w).alloc (.cells #[.int .i64 0, .int .i64 0] 31)).drewN nq)
    have m0 : w2.cell? ⟨w.heap.size, 0, none⟩ = some (.int .i64 0) := (hF.cell (a := ⟨w.heap.size, 0, none⟩) (by simp) hnp).trans (by simp [go_sem])
    have m1 : w2.cell? ⟨w.heap.size, 1, none⟩ = some (.int .i64 0) := (hF.cell (a := ⟨w.heap.size, 1, none⟩) (by simp) hnp).trans (by simp [go_sem])
    have g0 : w2.frozen? ⟨w.heap.size, 0, none⟩ = false := (hF.frozen (a := ⟨w.heap.size, 0, none⟩) (by simp) hnp).trans (by simp [go_sem])
    have g1 : w2.frozen? ⟨w.heap.size, 1, none⟩ = false := (hF.frozen (a := ⟨w.heap.size, 1, none⟩) (by simp) hnp).trans (by simp [go_sem])
    have hng : ∀ b' off, ao = some ⟨b', off, none⟩ → 0 < bs.length → w.heap.size ≠ b' := fun b' off e h0 => by have := XAt.rowlt (unhide H) e h0; omega
    have HR := hide ((hX.setOther (o := 0) hnp hng (.int .i64 s'.c)).setOther (o := 1) hnp hng (.int .i64 s'.f))
    have HF := hide (((hF0.trans hF (fun _ _ t => t)).setCell (p := ⟨w.heap.size, 0, none⟩) (fun t => absurd t (Nat.lt_irrefl _)) (.int .i64 s'.c)).setCell (p := ⟨w.heap.size, 1, none⟩) (fun t => absurd t (Nat.lt_irrefl _)) (.int .i64 s'.f))
    have hpw := hX.lt
    have hwl : w.heap.size < w2.heap.size := World.block_lt_of_cell? _ _ m0
    clear hX hF hF0 hng
    go_wp2
    exact bodyPost_ret (v := .agg #[.int .i64 s'.c, .int .i64 s'.f]) (by simp [results, Try.results100, go_sem, m0, m1]) rfl ⟨rfl, unhide HR, unhide HF⟩
  · rw [show endR s bs.length = s by simp [endR, ha]]
    have hd : decide ((s.a : Int) < (bs.length : Int)) = false := by simp; omega
    have hng : ∀ b' off, ao = some ⟨b', off, none⟩ → 0 < bs.length → w.heap.size ≠ b' := fun b' off e h0 => by have := XAt.rowlt (unhide H) e h0; omega
    have Hng := hide hng
    clear hng
    go_enter Try.func100, Try.ntmps100
    go_wp2
    go_quiet (fail)
    have HR := hide ((((XAt.alloc (unhide H) (.cells #[.int .i64 0, .int .i64 0] 31)).drewN nq).setOther (o := 0) hnp (unhide Hng) (.int .i64 s.c)).setOther (o := 1) hnp (unhide Hng) (.int .i64 s.f))
    have HF := hide (((((Fr.refl (· = p) w).alloc (.cells #[.int .i64 0, .int .i64 0] 31)).drewN nq).setCell (p := ⟨w.heap.size, 0, none⟩) (fun t => absurd t (Nat.lt_irrefl _)) (.int .i64 s.c)).setCell (p := ⟨w.heap.size, 1, none⟩) (fun t => absurd t (Nat.lt_irrefl _)) (.int .i64 s.f))
    go_wp2
    exact bodyPost_ret (v := .agg #[.int .i64 s.c, .int .i64 s.f]) (by simp [results, Try.results100, go_sem]) rfl ⟨rfl, unhide HR, unhide HF⟩

end
end Go.Proofs.Ytkjoojamkbpfcaa
