import Derived.Test.YtphkjeeblihfgaaDoorZCG
/- The document's receiver: Take, Ack; which frames may be. -/
namespace Go.Proofs.YtphkjeeblihfgaaDoor
open Go.RowKit Go.Maps

/-- The document's receiver in memory. -/
def RB (w : World) (p : Nat) (n : Int) : Prop := Bx w p #[.int .i64 n] 32

set_option maxHeartbeats 1000000 in
set_option maxRecDepth 20000 in
theorem rtake_any {w : World} {p : Nat} {n : Int} (h : RB w p n) (q : Int) : Calls Tryd.prog 18 #[.pointer (some ⟨p, 0, none⟩), .int .i64 q] w fun e w' => e = .returned (.tuple #[]) ∧ RB w' p (takeF n q) ∧ Fr (· = p) w w' ∧ w'.heap.size = w.heap.size := by
  have c0 : w.cell? ⟨p, 0, none⟩ = some (.int .i64 n) := Bx.cell h 0
  have f0 : w.frozen? ⟨p, 0, none⟩ = false := Bx.frozen h 0
  have H := hide h
  unfold takeF
  clear h
  by_cases h1 : 0 < n
  · have d1 : decide (n > 0) = true := by simp; omega
    have d1b : decide (0 < n) = true := d1
    by_cases h2 : n ≤ q
    · have d2 : decide (q ≥ n) = true := by simp; omega
      have d2b : decide (n ≤ q) = true := d2
      by_cases h3 : q ≤ 4294967295
      · have d3 : decide (q ≤ 4294967295) = true := by simp; omega
        rw [if_pos ⟨h1, h2, h3⟩]
        have hq0 : 0 ≤ q := by omega
        clear h1 h2
        go_enter Tryd.func18, Tryd.ntmps18
        go_wp2
        go_end0
        exact ⟨rfl, by have := Bx.setCell (unhide H) 0 (.int .i64 (q + 1)); exact this, Fr.setCell (S := fun k => k = p) (Fr.refl _ _) (p := ⟨p, 0, none⟩) (fun _ => rfl) _, by simp⟩
      · have d3 : decide (q ≤ 4294967295) = false := by simp; omega
        rw [if_neg (fun t => h3 t.2.2)]
        clear h1 h2 h3
        go_enter Tryd.func18, Tryd.ntmps18
        go_wp2
        go_end0
        exact ⟨rfl, unhide H, Fr.refl _ _, rfl⟩
    · have d2 : decide (q ≥ n) = false := by simp; omega
      have d2b : decide (n ≤ q) = false := d2
      rw [if_neg (fun t => h2 t.2.1)]
      clear h1 h2
      go_enter Tryd.func18, Tryd.ntmps18
      go_wp2
      go_end0
      exact ⟨rfl, unhide H, Fr.refl _ _, rfl⟩
  · have d1 : decide (n > 0) = false := by simp; omega
    have d1b : decide (0 < n) = false := d1
    rw [if_neg (fun t => h1 t.1)]
    clear h1
    go_enter Tryd.func18, Tryd.ntmps18
    go_wp2
    go_end0
    exact ⟨rfl, unhide H, Fr.refl _ _, rfl⟩

theorem rack_some {w : World} {p : Nat} {n : Int} (h : RB w p n) (hn : 0 < n) (hn2 : n ≤ 4294967296) : Calls Tryd.prog 20 #[.pointer (some ⟨p, 0, none⟩)] w fun e w' => e = .returned (.tuple #[.agg #[.int .i64 2, .int .i64 0, .int .i64 (n - 1), .slice none 0 0, .slice none 0 0], .bool true]) ∧ Hid (Fr (fun _ => False) w w') := by
  have d1 : (n == 0) = false := by simp; omega
  have hlt := h.lt
  have c0 : (w.alloc (.cells #[.int .i64 0, .int .i64 0, .int .i64 0, .slice none 0 0, .slice none 0 0] 36)).cell? ⟨p, 0, none⟩ = some (.int .i64 n) := Bx.cell (Bx.alloc h _) 0
  clear h
  go_enter Tryd.func20, Tryd.ntmps20
  go_wp2
  exact bodyPost_ret (v := .tuple #[.agg #[.int .i64 2, .int .i64 0, .int .i64 (n - 1), .slice none 0 0, .slice none 0 0], .bool true]) (by simp [results, Tryd.results20, go_sem]) rfl ⟨rfl, hide ((Fr.refl _ _).alloc _)⟩

theorem rack_none {w : World} {p : Nat} (h : RB w p 0) : Calls Tryd.prog 20 #[.pointer (some ⟨p, 0, none⟩)] w fun e w' => e = .returned (.tuple #[.agg #[.int .i64 0, .int .i64 0, .int .i64 0, .slice none 0 0, .slice none 0 0], .bool false]) ∧ Hid (Fr (fun _ => False) w w') := by
  have hlt := h.lt
  have c0 : (w.alloc (.cells #[.int .i64 0, .int .i64 0, .int .i64 0, .slice none 0 0, .slice none 0 0] 36)).cell? ⟨p, 0, none⟩ = some (.int .i64 0) := Bx.cell (Bx.alloc h _) 0
  clear h
  go_enter Tryd.func20, Tryd.ntmps20
  go_wp2
  exact bodyPost_ret (v := .tuple #[.agg #[.int .i64 0, .int .i64 0, .int .i64 0, .slice none 0 0, .slice none 0 0], .bool false]) (by simp [results, Tryd.results20, go_sem]) rfl ⟨rfl, hide ((Fr.refl _ _).alloc _)⟩

end Go.Proofs.YtphkjeeblihfgaaDoor

