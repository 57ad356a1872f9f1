import Derived.Test.YtdbnppbfoohjjaaCO1
import Derived.Test.YtdbnppbfoohjjaaCD1
/- How the laws' arguments read: rows of priced journeys. -/
namespace Go.Proofs.Ytdbnppbfoohjjaa
open Go.ChangeShapes Go.WideShapes Go.ChangeAt Go.RowKit Go.Deep

theorem cells_priceds : Try.prog.cellsOf 49 = 1 := by kernel_rfl

section
variable {H : Type} {enc : TypeId × Value → H} {w : World} {held : Bool}

theorem shape_priceds {fuel : Nat} {cs : List Value} {x : DataW H × List MemPlace} (h : DataW.trod enc Try.prog w 0 (fun _ => true) held fuel 49 cs = some x) : ∃ a len cap, cs = [.slice a len cap] := by
  rcases open_slice Try.underlying49 h with ⟨hcs, _⟩ | ⟨a, len', cap', m, n, D, Pla, hcs, _⟩
  · exact ⟨_, _, _, hcs⟩
  · exact ⟨_, _, _, hcs⟩

/-- Rows of rows that were handed in. -/
theorem arg_pricedss {ts : List TypeId} {ds : List (DataW H)} {v : Value} {d : DataW H} {p : List MemPlace} {j : Nat} (hok : ∃ a len cap, v = .slice a len cap) (h : DataW.Trod enc Try.prog w 0 (fun _ => true) held 28 v d p)
    (hsz : (DataW.weightsEach Try.prog ts ds).all (· ≤ reachBytes) = true) (ht : ts[j]? = some 28) (hd : ds[j]? = some d) : ∃ ao cap ps, v = .slice ao (List.length ps) cap ∧ PrsAt w ao ps ∧ ps.length ≤ cap ∧ (ps.length + 100) * 24 ≤ 140737488355328 := by
  obtain ⟨a0, len, cap, rfl⟩ := hok
  obtain ⟨fuel, hf⟩ := h
  have hf' : DataW.trod enc Try.prog w 0 (fun _ => true) held fuel 28 [.slice a0 len cap] = some (d, p) := hf
  rcases open_slice Try.underlying28 hf' with ⟨hcs, hx⟩ | ⟨a, len', cap', m, n, D, Pla, hcs, hb, hl, hm, hmm, hx, hel⟩
  · simp at hcs
    obtain ⟨rfl, rfl, rfl⟩ := hcs
    exact ⟨none, 0, [], rfl, ⟨fun h0 => absurd h0 (by simp), fun x hx => by (cases hx)⟩, Nat.le_refl _, by simp⟩
  · simp at hcs
    obtain ⟨rfl, rfl, rfl⟩ := hcs
    rw [cells_priceds] at hel
    have hmc : m = cap := by simpa using hmm
    have hd' : d = .slice ((List.range len).map D) ((List.range (m - len)).map fun j => D (len + j)) := congrArg Prod.fst hx
    have hby : Try.prog.bytesOf 49 = 24 := by kernel_rfl
    have hcap : (len + 100) * 24 ≤ 140737488355328 := by
      have hs := sized_slice hsz (t := 28) (e := 49) (elems := (List.range len).map D) (spare := (List.range (m - len)).map fun j => D (len + j)) ht (by rw [hd, hd']) Try.underlying28
      rw [hby] at hs
      unfold reachBytes at hs
      simp at hs
      omega
    obtain ⟨ps, hpl, hps⟩ := list_of (Good := fun j (q : PrA) => CAt w q.io (pV q.ps) ∧ w.cell? (a.add j) = some (.slice q.io q.ps.length q.ic)) len (fun j hj => by
      obtain ⟨cs', h1, h2⟩ := hel j (by omega)
      obtain ⟨ao, ln, cp, rfl⟩ := shape_priceds h2
      obtain ⟨its, rfl, _, e2, _⟩ := open_priceds h2
      obtain ⟨_, _, h4⟩ := World.cells?_some h1
      refine ⟨⟨ao, cp, its⟩, e2, ?_⟩
      have h5 := h4 0 (by omega)
      simpa [Addr.add] using h5)
    refine ⟨some a, cap, ps, by rw [hpl], ⟨fun h0 => ?_, fun x hx => ?_⟩, by omega, by rw [hpl]; exact hcap⟩
    · obtain ⟨b, off, spot⟩ := a
      obtain ⟨_, hc0⟩ := hps 0 h0
      have hspot : spot = none := by simpa [Addr.add] using World.cell?_spot hc0
      subst hspot
      refine ⟨b, off, rfl, fun j hj => ?_⟩
      have hc := (hps j hj).2
      rw [Addr.add_lit] at hc
      exact hc
    · obtain ⟨j, hj, rfl⟩ := List.mem_iff_getElem.1 hx
      exact (hps j hj).1
end

end Go.Proofs.Ytdbnppbfoohjjaa

