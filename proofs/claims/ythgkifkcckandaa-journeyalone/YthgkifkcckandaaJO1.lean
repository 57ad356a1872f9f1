import Derived.Test.YthgkifkcckandaaQO1
import Derived.Test.YthgkifkcckandaaO1
import Derived.Test.YthgkifkcckandaaJNX
/- How the laws' arguments read: taps. -/
namespace Go.Proofs.Ythgkifkcckandaa
open Go.ChangeShapes Go.WideShapes Go.ChangeAt Go.RowKit Go.Deep

section
variable {H : Type} {enc : TypeId × Value → H} {w : World} {held : Bool}

theorem tpC_list (t : Tp) : (tpC t).toList = tpL t := rfl

theorem open_taps {fuel : Nat} {a0 : Option Addr} {len cap : Nat} {x : DataW H × List MemPlace} (h : DataW.trod enc Try.prog w 0 (fun _ => true) held fuel 28 [.slice a0 len cap] = some x) :
    ∃ ps : List Tp, ps.length = len ∧ len ≤ cap ∧ CAt w a0 (tpV ps) ∧ (len = 0 ∨ ∃ elems rest, x.1 = .slice elems rest ∧ elems.length = len) := by
  rcases open_slice Try.underlying28 h with ⟨hcs, hx⟩ | ⟨a, len', cap', m, n, D, Pla, hcs, hb, hl, hm, hmm, hx, hel⟩
  · simp at hcs
    obtain ⟨rfl, rfl, rfl⟩ := hcs
    exact ⟨[], rfl, Nat.le_refl _, CAt.nil _ _, .inl rfl⟩
  · simp at hcs
    obtain ⟨rfl, rfl, rfl⟩ := hcs
    rw [cells_tap] at hel
    have hmc : m = cap := by simpa using hmm
    obtain ⟨ps, hpl, hps⟩ := list_of (Good := fun j (q : Tp) => ∀ i, i < 6 → w.cell? ((a.add (j * 6)).add i) = (tpL q)[i]?) len (fun j hj => by
      obtain ⟨cs', h1, h2⟩ := hel j (by omega)
      obtain ⟨q, e1, _⟩ := open_tap h2
      obtain ⟨_, _, h4⟩ := World.cells?_some h1
      refine ⟨q, fun i hi => ?_⟩
      rw [h4 i hi, e1]
      rfl)
    refine ⟨ps, hpl, hl, fun h0 => ?_, .inr ⟨_, _, by rw [hx], by simp⟩⟩
    have hVl := tpV_length ps
    have hpos : 0 < ps.length := by omega
    obtain ⟨b, off, spot⟩ := a
    have hc := hps 0 hpos 0 (by omega)
    have hspot : spot = none := by
      have hv : (tpL ps[0])[0]? = some (.int .i64 ps[0].dev) := rfl
      rw [hv] at hc
      simpa [Addr.add] using World.cell?_spot hc
    subst hspot
    refine ⟨b, off, rfl, fun j hj => ?_⟩
    have hjk : j / 6 < ps.length := by omega
    have h1 := hps (j / 6) hjk (j % 6) (Nat.mod_lt _ (by omega))
    rw [Addr.add_lit, Addr.add_lit, Nat.add_assoc, show j / 6 * 6 + j % 6 = j by omega] at h1
    have h2 := flat_get tpL 6 (fun _ => rfl) ps (j / 6) hjk (j % 6) (Nat.mod_lt _ (by omega))
    rw [show j / 6 * 6 + j % 6 = j by omega] at h2
    rw [h1, ← h2]
    exact List.getElem?_eq_getElem hj

/-- Taps that were handed in. -/
theorem arg_taps {ts : List TypeId} {ds : List (DataW H)} {v : Value} {d : DataW H} {p : List MemPlace} {j : Nat} (hok : ∃ a len cap, v = .slice a len cap) (h : DataW.Trod enc Try.prog w 0 (fun _ => true) held 28 v d p)
    (hsz : (DataW.weightsEach Try.prog ts ds).all (· ≤ reachBytes) = true) (ht : ts[j]? = some 28) (hd : ds[j]? = some d) : ∃ ao cap ps, v = .slice ao (List.length ps) cap ∧ CAt w ao (tpV ps) ∧ ps.length ≤ cap ∧ (ps.length + 1) * 56 ≤ 140737488355328 := by
  obtain ⟨a, len, cap, rfl⟩ := hok
  obtain ⟨fuel, hf⟩ := h
  obtain ⟨ps, rfl, h1, h2, h3⟩ := open_taps hf
  refine ⟨a, cap, ps, rfl, h2, h1, ?_⟩
  rcases h3 with h | ⟨el, re, e, hl⟩
  · rw [h]; omega
  · have hs := sized_slice hsz (t := 28) (e := 39) (elems := el) (spare := re) ht (by rw [hd]; exact congrArg some e) Try.underlying28
    have hby : Try.prog.bytesOf 39 = 56 := by kernel_rfl
    rw [hby] at hs
    unfold reachBytes at hs
    omega

end
end Go.Proofs.Ythgkifkcckandaa

