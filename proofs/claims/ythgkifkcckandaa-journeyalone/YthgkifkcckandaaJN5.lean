import Derived.Test.YthgkifkcckandaaJN4
/- A walk in memory: its box, the row of journeys; lone, putRail. -/
namespace Go.Proofs.Ythgkifkcckandaa
open Go.RowKit

def railV : Option Nat → Int
  | none => -1
  | some k => (k : Int)

/-- The walk's fields. -/
def wkC (A : Ad) (t : Tf) (s : Wk) (ao : Option Addr) (cap : Nat) : Array Value :=
  #[.slice A.aS t.st.length A.cS, .slice A.aP t.sp.length A.cP, .slice A.aB t.bd.length A.cB, .float .f64 t.off, .int .i64 t.bus, .int .i64 t.busDaily, .int .i64 t.busWeekly,
    .int .i64 t.hopper, .int .i64 t.most, .int .i64 t.longest, .int .i64 t.change, .int .i64 t.passback, .int .i64 t.delay, .int .i64 t.threshold,
    .slice ao s.made.length cap, .int .i64 (railV s.rail), .int .i64 (s.paid.getD jz).kind, .int .i64 (s.paid.getD jz).fr, .int .i64 (s.paid.getD jz).to, .int .i64 (s.paid.getD jz).st, .int .i64 (s.paid.getD jz).en, .bool (s.paid.getD jz).free,
    .int .i64 (s.opn.getD jz).kind, .int .i64 (s.opn.getD jz).fr, .int .i64 (s.opn.getD jz).to, .int .i64 (s.opn.getD jz).st, .int .i64 (s.opn.getD jz).en, .bool (s.opn.getD jz).free, .bool s.again]

/-- A walk in memory: w0 is the world ahead of it. -/
structure WM (w0 w : World) (p : Nat) (A : Ad) (t : Tf) (s : Wk) (ao : Option Addr) (cap g : Nat) : Prop where
  box : Bx w p (wkC A t s ao cap) 73
  row : KRow w ao cap g 6 (jV s.made)
  ne : 0 < cap → g ≠ p
  p0 : w0.heap.size ≤ p
  g0 : 0 < cap → w0.heap.size ≤ g
  fr : Fr (fun _ => False) w0 w

/-- What a call makes of a walk. -/
def WStep (w0 : World) (p : Nat) (A : Ad) (t : Tf) (s' : Wk) (w : World) (g cap : Nat) (w' : World) : Prop :=
  ∃ ao' cap' g', WM w0 w' p A t s' ao' cap' g' ∧ Fr (fun k => k = p ∨ (k = g ∧ 0 < cap)) w w' ∧ (0 < cap' → (g' = g ∧ 0 < cap) ∨ w.heap.size ≤ g')

theorem WM.lt {w0 w : World} {p : Nat} {A : Ad} {t : Tf} {s : Wk} {ao : Option Addr} {cap g : Nat} (h : WM w0 w p A t s ao cap g) : p < w.heap.size := h.box.lt
theorem WM.glt {w0 w : World} {p : Nat} {A : Ad} {t : Tf} {s : Wk} {ao : Option Addr} {cap g : Nat} (h : WM w0 w p A t s ao cap g) (hc : 0 < cap) : g < w.heap.size := h.row.lt (by omega) hc

theorem WM.keep {w0 w w' : World} {p : Nat} {A : Ad} {t : Tf} {s : Wk} {ao : Option Addr} {cap g : Nat} (h : WM w0 w p A t s ao cap g) (hf : Fr (fun _ => False) w w') : WM w0 w' p A t s ao cap g :=
  ⟨h.box.keep hf, h.row.keep (by omega) hf, h.ne, h.p0, h.g0, h.fr.trans hf (fun _ _ t => t)⟩

/-- Something else than the walk's own stands. -/
theorem WStep.other {w0 w w' : World} {p g cap : Nat} {A : Ad} {t : Tf} {s' : Wk} (h : WStep w0 p A t s' w g cap w') {B : Nat} {cs : Array Value} {T : TypeId} (hb : Bx w B cs T) (h1 : B ≠ p) (h2 : 0 < cap → B ≠ g) : Bx w' B cs T := by
  obtain ⟨ao', cap', g', _, hf, _⟩ := h
  exact hb.frame hf (fun t => by rcases t with t | t; (· exact h1 t); (· exact h2 t.2 t.1))

theorem WStep.of {w0 w w' w'' : World} {p g cap : Nat} {A : Ad} {t : Tf} {s' : Wk} (hf : Fr (fun _ => False) w w') (h : WStep w0 p A t s' w' g cap w'') : WStep w0 p A t s' w g cap w'' := by
  obtain ⟨ao', cap', g', h1, h2, h3⟩ := h
  exact ⟨ao', cap', g', h1, (hf.mono (fun _ _ t => t.elim)).trans h2 (fun _ _ t => t), fun hc => (h3 hc).imp id (fun t => Nat.le_trans hf.size t)⟩

theorem lone_any (w : World) (k : Int) (x : Tp) : Calls Try.prog 62 #[.int .i64 k, .agg (tpC x)] w fun e w' => e = .returned (.agg (jC (lone k x))) ∧ Fr (fun _ => False) w w' := by
  obtain ⟨dev, ctr, tok, kind, place, time⟩ := x
  simp only [tpC, jC, lone]
  go_enter Try.func62, Try.ntmps62
  go_wp2
  refine bodyPost_ret (v := .agg #[.int .i64 k, .int .i64 place, .int .i64 place, .int .i64 time, .int .i64 time, .bool false]) (by simp [results, Try.results62, go_sem]) rfl ⟨rfl, ?_⟩
  repeat (first | refine Fr.setCell ?_ (fun t => absurd t (by simp only []; omega)) _ | refine Fr.alloc ?_ _ | refine Fr.drew ?_)
  exact Fr.refl _ _

theorem jInfo : (Try.prog.info? 42).map (fun i => (i.zero, i.size, i.bytes)) = some (some (.agg #[.int .i64 0, .int .i64 0, .int .i64 0, .int .i64 0, .int .i64 0, .bool false]), 6, 48) := by kernel_rfl

/-- One more journey behind a row of them: what append comes to. -/
theorem append_jn {w : World} {ao : Option Addr} {cap g : Nat} {l : List Jn} (h : KRow w ao cap g 6 (jV l)) (hn : l.length ≤ 100000) (j : Jn) (ty : TypeId) :
    ∃ ao' cap' w' g', (Builtin.append_ #[30, 30] ty #[.slice ao l.length cap, .slice (some ⟨w.heap.size, 0, none⟩) 1 1]).run Try.prog (w.alloc (.cells (jC j) 42)) = .ok (.slice ao' (l.length + 1) cap') w' ∧
      KRow w' ao' cap' g' 6 (jV (l ++ [j])) ∧ Fr (fun k => k = g ∧ 0 < cap) w w' ∧ (0 < cap' → (g' = g ∧ 0 < cap) ∨ w.heap.size < g') := by
  obtain ⟨i, hi, hz, hs, hb⟩ : ∃ i, Try.prog.info? 42 = some i ∧ i.zero = some (.agg #[.int .i64 0, .int .i64 0, .int .i64 0, .int .i64 0, .int .i64 0, .bool false]) ∧ i.size = 6 ∧ i.bytes = 48 := by
    have := jInfo
    cases h : Try.prog.info? 42 with
    | none => rw [h] at this; simp at this
    | some i => rw [h] at this; simp at this; exact ⟨i, rfl, this.1, this.2.1, this.2.2⟩
  have hw : Fr (fun _ => False) w (w.alloc (.cells (jC j) 42)) := (Fr.refl _ _).alloc _
  have hsrc : Src Try.prog 6 30 (.slice (some ⟨w.heap.size, 0, none⟩) 1 1) 1 (jL j) (w.alloc (.cells (jC j) 42)) :=
    src_one (P := Try.prog) w (jL j) 30 42 6 Try.underlying30 rfl (jL_one j) (fun k => ((Bx.new w (jC j) 42).cell k).trans (by simp [jC, jL]))
  obtain ⟨ao', cap', w', g', h1, h2, h3⟩ := append_krow (P := Try.prog) 30 30 ty 42 i _ 6 (by omega) Try.underlying30 hi hz rfl hs (h.keep (by omega) hw) (jV_length l) _ (jL j) 1 hsrc (by rw [hb]; omega) (by omega)
  rw [← jV_snoc] at h2
  refine ⟨ao', cap', w', g', h1, h2, ?_, fun hc => ?_⟩
  · rcases h3 with ⟨_, _, f⟩ | ⟨_, _, f⟩
    · exact (hw.mono (fun _ _ t => t.elim)).trans f (fun _ _ t => t)
    · exact (hw.mono (fun _ _ t => t.elim)).trans (f.mono (fun _ _ t => t.elim)) (fun _ _ t => t)
  · rcases h3 with ⟨e, e2, _⟩ | ⟨e, _, _⟩
    · exact .inl ⟨e, by omega⟩
    · rw [heap_alloc] at e; exact .inr (by omega)

end Go.Proofs.Ythgkifkcckandaa

