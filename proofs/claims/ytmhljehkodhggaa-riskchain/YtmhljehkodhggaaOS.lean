import Derived.Test.YtmhljehkodhggaaOR
import Derived.Test.YtmhljehkodhggaaV2
/- How the laws' arguments read: lists of texts in a list. -/
namespace Go.Proofs.Ytmhljehkodhggaa
open Go.ChangeShapes Go.WideShapes Go.ChangeAt Go.RowKit Go.Deep

theorem list_ofR {α : Type} {Good : Nat → α → Prop} : ∀ n, (∀ j, j < n → ∃ q, Good j q) → ∃ l : List α, l.length = n ∧ ∀ j (hj : j < l.length), Good j l[j]
  | 0, _ => ⟨[], rfl, fun j hj => absurd hj (by simp)⟩
  | n + 1, h => by
    obtain ⟨l, hl, hg⟩ := list_ofR n (fun j hj => h j (by omega))
    obtain ⟨q, hq⟩ := h n (by omega)
    refine ⟨l ++ [q], by simp [hl], fun j hj => ?_⟩
    by_cases hj2 : j < l.length
    · rw [List.getElem_append_left hj2]; exact hg j hj2
    · have : j = n := by simp at hj; omega
      subst this
      rw [List.getElem_append_right (by omega)]
      simpa using hq
theorem weightsAll_memR {H : Type} {P : Program} {e : TypeId} : ∀ {l : List (DataW H)} {d : DataW H}, d ∈ l → ∀ n ∈ d.weights P e, n ∈ DataW.weightsAll P e l
  | d' :: r, d, hd, n, hn => by
    simp only [DataW.weightsAll, List.mem_append]
    rcases List.mem_cons.1 hd with rfl | h
    · exact Or.inl hn
    · exact Or.inr (weightsAll_memR h n hn)

section
variable {H : Type} {enc : TypeId × Value → H} {w : World} {held : Bool}

theorem slice_shapeR {t e : TypeId} {fuel : Nat} {cs : List Value} {x : DataW H × List MemPlace} (ht : Try.prog.underlying t = some (.slice e)) (h : DataW.trod enc Try.prog w 0 (fun _ => true) held fuel t cs = some x) : ∃ a len cap, cs = [.slice a len cap] := by
  rcases open_slice ht h with ⟨hcs, _⟩ | ⟨a, len', cap', m, n, D, Pla, hcs, _⟩
  · exact ⟨none, 0, 0, hcs⟩
  · exact ⟨some a, len', cap', hcs⟩
theorem slice_weightsR {t e : TypeId} (ht : Try.prog.underlying t = some (.slice e)) {elems spare : List (DataW H)} (hw : ∀ n ∈ (DataW.slice elems spare).weights Try.prog t, n ≤ reachBytes) :
    (elems.length + spare.length) * Try.prog.bytesOf e ≤ reachBytes ∧ ∀ d ∈ elems, ∀ n ∈ d.weights Try.prog e, n ≤ reachBytes := by
  simp only [DataW.weights, ht] at hw
  refine ⟨hw _ (by simp), fun d hd n hn => hw n ?_⟩
  simp only [List.mem_cons, List.mem_append]
  exact Or.inr (Or.inl (weightsAll_memR hd n hn))

theorem cells_toksR : Try.prog.cellsOf 22 = 1 := by kernel_rfl

/-- Lists of texts that were handed in. -/
theorem arg_sets {ts : List TypeId} {ds : List (DataW H)} {v : Value} {d : DataW H} {p : List MemPlace} {j : Nat} (hok : ∃ a len cap, v = .slice a len cap) (h : DataW.Trod enc Try.prog w 0 (fun _ => true) held 37 v d p)
    (hsz : (DataW.weightsEach Try.prog ts ds).all (· ≤ reachBytes) = true) (ht : ts[j]? = some 37) (hd : ds[j]? = some d) : ∃ ao cap, ∃ ss : List (List ByteArray), v = .slice ao ss.length cap ∧ SetsAt w ao ss := by
  obtain ⟨a0, len, cap, rfl⟩ := hok
  obtain ⟨fuel, hf⟩ := h
  have hf' : DataW.trod enc Try.prog w 0 (fun _ => true) held fuel 37 [.slice a0 len cap] = some (d, p) := hf
  have hw : ∀ n ∈ d.weights Try.prog 37, n ≤ reachBytes := fun n hn => of_decide_eq_true (List.all_eq_true.1 hsz _ (DataW.weights_mem_each ht hd n hn))
  rcases open_slice Try.underlying37 hf' with ⟨hcs, hx⟩ | ⟨a, len', cap', m, n, D, Pla, hcs, hb, hl, hm, hmm, hx, hel⟩
  · simp at hcs
    obtain ⟨rfl, rfl, rfl⟩ := hcs
    exact ⟨none, 0, [], rfl, fun h0 => absurd h0 (by simp)⟩
  · simp at hcs
    obtain ⟨rfl, rfl, rfl⟩ := hcs
    rw [cells_toksR] at hel
    have hmc : m = cap := by simpa using hmm
    have hxd : d = _ := congrArg Prod.fst hx
    rw [hxd] at hw
    obtain ⟨_, w2⟩ := slice_weightsR Try.underlying37 hw
    obtain ⟨ps, hpl, hps⟩ := list_ofR (Good := fun j (q : List ByteArray) => ∃ ao cp, w.cell? (a.add j) = some (.slice ao q.length cp) ∧ SAt w ao q ∧ q.length * 16 ≤ 140737488355328) len (fun j hj => by
      obtain ⟨cs', h1, h2⟩ := hel j (by omega)
      obtain ⟨ao, ln, cp, rfl⟩ := slice_shapeR Try.underlying22 h2
      obtain ⟨ao', cp', q, e1, e2, e3, e4⟩ := open_toksR h2
      obtain ⟨_, _, h4⟩ := World.cells?_some h1
      refine ⟨q, ao', cp', ?_, e2, ?_⟩
      · have h5 := h4 0 (by omega)
        rw [← e1]
        simpa [Addr.add] using h5
      · rcases e4 with e | ⟨elems, rest, e, hlen⟩
        · omega
        · have hm := w2 (D j) (by simp; exact ⟨j, hj, rfl⟩) ((elems.length + rest.length) * Try.prog.bytesOf 9) (by have e' : D j = .slice elems rest := e; rw [e']; simp [DataW.weights, Try.underlying22])
          have hby : Try.prog.bytesOf 9 = 16 := by kernel_rfl
          rw [hby] at hm
          unfold reachBytes at hm
          omega)
    refine ⟨some a, cap, ps, by rw [hpl], fun h0 => ?_⟩
    obtain ⟨b, off, spot⟩ := a
    obtain ⟨ao0, cp0, hc0, _⟩ := hps 0 h0
    have hspot : spot = none := by simpa [Addr.add] using World.cell?_spot hc0
    subst hspot
    refine ⟨b, off, rfl, fun j hj => ?_⟩
    obtain ⟨ao, cp, hc, hB, hn⟩ := hps j hj
    rw [Addr.add_lit] at hc
    exact ⟨ao, cp, hc, hB, hn⟩

end
end Go.Proofs.Ytmhljehkodhggaa

