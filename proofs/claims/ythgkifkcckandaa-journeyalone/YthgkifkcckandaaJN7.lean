import Derived.Test.YthgkifkcckandaaJN6
/- A walk's closeOpen. -/
namespace Go.Proofs.Ythgkifkcckandaa
open Go.RowKit

section
variable {w0 w w' : World} {p : Nat} {A : Ad} {t : Tf} {s s2 : Wk} {ao : Option Addr} {cap g : Nat}

theorem WStep.refl (h : WM w0 w p A t s ao cap g) : WStep w0 p A t s w g cap w := ⟨ao, cap, g, h, Fr.refl _ _, fun hc => .inl ⟨rfl, hc⟩⟩

/-- Other fields are written. -/
theorem WM.write (h : WM w0 w p A t s ao cap g) (hb : Bx w' p (wkC A t s2 ao cap) 73) (hf : Fr (fun k => k = p) w w') (hm : s2.made = s.made) : WM w0 w' p A t s2 ao cap g :=
  ⟨hb, by rw [hm]; exact h.row.stay (fun hc => hf.block g (h.glt hc) (h.ne hc)), h.ne, h.p0, h.g0, h.fr.trans hf (fun i hi t => by have := h.p0; omega)⟩

theorem WStep.trans {g1 cap1 : Nat} {ao1 : Option Addr} {w1 w2 : World} (_h1 : WM w0 w1 p A t s ao1 cap1 g1) (hf : Fr (fun k => k = p ∨ (k = g ∧ 0 < cap)) w w1) (hg : 0 < cap1 → (g1 = g ∧ 0 < cap) ∨ w.heap.size ≤ g1) (h2 : WStep w0 p A t s2 w1 g1 cap1 w2) : WStep w0 p A t s2 w g cap w2 := by
  obtain ⟨ao', cap', g', k1, k2, k3⟩ := h2
  refine ⟨ao', cap', g', k1, hf.trans k2 (fun i hi t => ?_), fun hc => ?_⟩
  · rcases t with t | ⟨t, t2⟩
    · exact .inl t
    · rcases hg t2 with ⟨e, e2⟩ | e
      · exact .inr ⟨by omega, e2⟩
      · omega
  · rcases k3 hc with ⟨e, e2⟩ | e
    · rcases hg e2 with ⟨f, f2⟩ | f
      · exact .inl ⟨by omega, f2⟩
      · exact .inr (by omega)
    · exact .inr (Nat.le_trans hf.size e)

theorem WStep.write {w2 : World} (h : WM w0 w p A t s ao cap g) (hb : Bx w2 p (wkC A t s2 ao cap) 73) (hf : Fr (fun k => k = p) w w2) (hm : s2.made = s.made) : WStep w0 p A t s2 w g cap w2 :=
  ⟨ao, cap, g, h.write hb hf hm, hf.mono (fun _ _ t => .inl t), fun hc => .inl ⟨rfl, hc⟩⟩
end

theorem wkC_shut (A : Ad) (t : Tf) (s : Wk) (ao : Option Addr) (cap : Nat) :
    ((((((wkC A t s ao cap).setIfInBounds 22 (.int .i64 0)).setIfInBounds 23 (.int .i64 0)).setIfInBounds 24 (.int .i64 0)).setIfInBounds 25 (.int .i64 0)).setIfInBounds 26 (.int .i64 0)).setIfInBounds 27 (.bool false) = wkC A t ⟨s.made, s.rail, s.paid, none, s.again⟩ ao cap := by
  simp [wkC, jz]

set_option maxHeartbeats 2000000 in
theorem closeOpen_any (w0 w : World) (p : Nat) (A : Ad) (t : Tf) (s : Wk) (ao : Option Addr) (cap g : Nat) (h : WM w0 w p A t s ao cap g) (hn : s.made.length ≤ 100000) (ho : ∀ j : Jn, s.opn = some j → j.kind ≠ 0) :
    Calls Try.prog 36 #[.pointer (some ⟨p, 0, none⟩)] w fun e w' => e = .returned (.tuple #[]) ∧ WStep w0 p A t s.shut w g cap w' := by
  have R := hide (fun j => putRail_any w0 w p A t s ao cap g h hn j)
  have q1 := egJ
  have q2 := eqJ
  have c22 : w.cell? ⟨p, 22, none⟩ = some (.int .i64 (s.opn.getD jz).kind) := h.box.cell 22
  have c23 : w.cell? ⟨p, 23, none⟩ = some (.int .i64 (s.opn.getD jz).fr) := h.box.cell 23
  have c24 : w.cell? ⟨p, 24, none⟩ = some (.int .i64 (s.opn.getD jz).to) := h.box.cell 24
  have c25 : w.cell? ⟨p, 25, none⟩ = some (.int .i64 (s.opn.getD jz).st) := h.box.cell 25
  have c26 : w.cell? ⟨p, 26, none⟩ = some (.int .i64 (s.opn.getD jz).en) := h.box.cell 26
  have c27 : w.cell? ⟨p, 27, none⟩ = some (.bool (s.opn.getD jz).free) := h.box.cell 27
  cases hop : s.opn with
  | none =>
    have HP : Hid (WStep w0 p A t s.shut w g cap w) := hide (by rw [show s.shut = s by unfold Wk.shut; rw [hop]]; exact WStep.refl h)
    simp only [hop, Option.getD_none, jz] at c22 c23 c24 c25 c26 c27
    clear h R hop ho
    go_enter Try.func36, Try.ntmps36
    go_wp2
    refine bodyPost_ret (results_none rfl _ _ _) rfl ⟨rfl, unhide HP⟩
  | some j =>
    have HS : Hid (s.shut = ⟨s.made ++ [j], some s.made.length, s.paid, none, s.again⟩) := hide (by unfold Wk.shut; rw [hop])
    have HO := hide hop
    simp only [hop, Option.getD_some] at c22 c23 c24 c25 c26 c27
    have hk : (j.kind == 0) = false := by simp [ho j hop]
    have R1 := hide (unhide R j)
    clear h R hop ho
    unfold jC at R1
    go_enter Try.func36, Try.ntmps36
    go_wp2_with fail
    refine (unhide R1).mono ?_
    rintro e w1 ⟨rfl, ao1, cap1, g1, hM, hF, hG⟩
    have e22 : w1.cell? ⟨p, 22, none⟩ = some (.int .i64 (s.opn.getD jz).kind) := hM.box.cell 22
    have e23 : w1.cell? ⟨p, 23, none⟩ = some (.int .i64 (s.opn.getD jz).fr) := hM.box.cell 23
    have e24 : w1.cell? ⟨p, 24, none⟩ = some (.int .i64 (s.opn.getD jz).to) := hM.box.cell 24
    have e25 : w1.cell? ⟨p, 25, none⟩ = some (.int .i64 (s.opn.getD jz).st) := hM.box.cell 25
    have e26 : w1.cell? ⟨p, 26, none⟩ = some (.int .i64 (s.opn.getD jz).en) := hM.box.cell 26
    have e27 : w1.cell? ⟨p, 27, none⟩ = some (.bool (s.opn.getD jz).free) := hM.box.cell 27
    have f22 : ∀ k, w1.frozen? ⟨p, k, none⟩ = false := fun k => hM.box.frozen k
    have HH := hide (And.intro hM (And.intro hF hG))
    clear hM hF hG R1 c22 c23 c24 c25 c26 c27
    go_wp2
    go_end0
    refine ⟨rfl, ?_⟩
    obtain ⟨hM, hF, hG⟩ := unhide HH
    refine WStep.trans hM hF hG (WStep.write hM (s2 := s.shut) ?_ ?_ (by rw [unhide HS]; rfl))
    · rw [unhide HS]
      have := wkC_shut A t (s.put j) ao1 cap1
      rw [show (Wk.mk (s.put j).made (s.put j).rail (s.put j).paid none (s.put j).again) = ⟨s.made ++ [j], some s.made.length, s.paid, none, s.again⟩ from rfl] at this
      rw [← this]
      exact (((((hM.box.setCell 22 _).setCell 23 _).setCell 24 _).setCell 25 _).setCell 26 _).setCell 27 _
    · repeat (refine Fr.setCell (S := fun k => k = p) ?_ (fun _ => rfl) _)
      exact Fr.refl _ _

end Go.Proofs.Ythgkifkcckandaa

