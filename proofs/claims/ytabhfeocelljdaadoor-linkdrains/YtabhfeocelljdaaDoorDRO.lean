import Derived.Test.YtabhfeocelljdaaDoorZO2
import Derived.Test.YtabhfeocelljdaaDoorDR1
/- LinkDrains: how its losses read. -/
namespace Go.Proofs.YtabhfeocelljdaaDoor
open Go.ChangeShapes Go.WideShapes Go.ChangeAt Go.RowKit Go.Deep

/-- A world for the witness: the settled one, the program's tables holding what their initialisers lay. -/
def laidOverP (w : World) : World :=
  { w with heap := layTab (layTab w.heap 0 htab) 1 ktab }

theorem cells_boolD : Tryd.prog.cellsOf 4 = 1 := by kernel_rfl

section
variable {H : Type} {enc : TypeId × Value → H} {w : World} {held : Bool}

theorem part_bools {fuel : Nat} {a0 : Option Addr} {len cap : Nat} {x : DataW H × List MemPlace} (h : DataW.trod enc Tryd.prog w 0 (fun _ => true) held fuel 22 [.slice a0 len cap] = some x) (hw : ∀ n ∈ x.1.weights Tryd.prog 22, n ≤ reachBytes) :
    ∃ ks : List Bool, ks.length = len ∧ BoolsAt w a0 ks := by
  rcases open_slice Tryd.underlying22 h with ⟨hcs, hx⟩ | ⟨a, len', cap', m, n, D, Pla, hcs, hb, hl, hm, hmm, hx, hel⟩
  · simp at hcs
    obtain ⟨rfl, rfl, rfl⟩ := hcs
    exact ⟨[], rfl, ⟨fun h0 => absurd h0 (by simp), by simp⟩⟩
  · simp at hcs
    obtain ⟨rfl, rfl, rfl⟩ := hcs
    rw [cells_boolD] at hel
    have hmc : m = cap := by simpa using hmm
    have hby : Tryd.prog.bytesOf 4 = 1 := by kernel_rfl
    rw [hx] at hw
    obtain ⟨w1, w2⟩ := slice_weights Tryd.underlying22 hw
    rw [hby] at w1
    have hcap : cap ≤ 140737488351232 := by
      simp at w1
      unfold reachBytes at w1
      omega
    obtain ⟨ps, hpl, hps⟩ := list_of (Good := fun j (q : Bool) => w.cell? (a.add j) = some (.bool q)) len (fun j hj => by
      obtain ⟨cs', h1, h2⟩ := hel j (by omega)
      obtain ⟨q, rfl, _⟩ := DataW.trod_bool Tryd.underlying4 h2
      obtain ⟨_, _, h4⟩ := World.cells?_some h1
      have h5 := h4 0 (by omega)
      exact ⟨q, by simpa [Addr.add] using h5⟩)
    refine ⟨ps, hpl, ⟨fun h0 => ?_, by omega⟩⟩
    obtain ⟨b, off, spot⟩ := a
    have hc0 := hps 0 h0
    have hspot : spot = none := by simpa [Addr.add] using World.cell?_spot hc0
    subst hspot
    refine ⟨b, off, rfl, fun j hj => ?_⟩
    have hc := hps j hj
    rwa [Addr.add_lit] at hc

/-- Losses that were handed in. -/
theorem arg_bools {ts : List TypeId} {ds : List (DataW H)} {v : Value} {d : DataW H} {p : List MemPlace} {j : Nat} (hok : ∃ a len cap, v = .slice a len cap) (h : DataW.Trod enc Tryd.prog w 0 (fun _ => true) held 22 v d p)
    (hsz : (DataW.weightsEach Tryd.prog ts ds).all (· ≤ reachBytes) = true) (ht : ts[j]? = some 22) (hd : ds[j]? = some d) : ∃ ao cap ks, v = .slice ao (List.length ks) cap ∧ BoolsAt w ao ks := by
  obtain ⟨a0, len, cap, rfl⟩ := hok
  obtain ⟨fuel, hf⟩ := h
  have hw : ∀ n ∈ d.weights Tryd.prog 22, n ≤ reachBytes := fun n hn => of_decide_eq_true (List.all_eq_true.1 hsz _ (DataW.weights_mem_each ht hd n hn))
  obtain ⟨ks, rfl, hk⟩ := part_bools (x := (d, p)) hf hw
  exact ⟨a0, cap, ks, rfl, hk⟩
end

end Go.Proofs.YtabhfeocelljdaaDoor

