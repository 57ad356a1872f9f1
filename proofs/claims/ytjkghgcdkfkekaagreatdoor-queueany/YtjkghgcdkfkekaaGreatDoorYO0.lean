import Derived.Test.YtjkghgcdkfkekaaGreatDoorYW8
import Derived.Test.YtjkghgcdkfkekaaGreatDoorCards
import Derived.Test.YtjkghgcdkfkekaaGreatDoorTie
import Derived.ProofKit
import Derived.OpenShut
import Derived.ChangeOld
import Derived.Below
import Derived.SizedLaws
import Derived.Deep.DeepHandedRow
import Derived.Lib.LaidTab
import Derived.Deep.Slices
/- How the laws' arguments read: bytes, rows of bytes; what the listed table gives. -/
namespace Go.Proofs.YtjkghgcdkfkekaaGreatDoor
open Go.ChangeShapes Go.WideShapes Go.ChangeAt Go.RowKit Go.Deep

theorem own : ownKnob Tryz.prog.godebug = none := by kernel_rfl
theorem laidOut : laidOutB Tryz.prog = true := by kernel_rfl

theorem one_of {l : List Value} {i : Nat} {v : Value} (h : (l.drop i).take 1 = [v]) : l[i]? = some v := by
  have : ((l.drop i).take 1)[0]? = some v := by rw [h]; rfl
  simpa using this

theorem list_of {α : Type} {Good : Nat → α → Prop} : ∀ n, (∀ j, j < n → ∃ q, Good j q) → ∃ l : List α, l.length = n ∧ ∀ j (hj : j < l.length), Good j l[j]
  | 0, _ => ⟨[], rfl, fun j hj => absurd hj (by simp)⟩
  | n + 1, h => by
    obtain ⟨l, hl, hg⟩ := list_of n (fun j hj => h j (by omega))
    obtain ⟨q, hq⟩ := h n (by omega)
    refine ⟨l ++ [q], by simp [hl], fun j hj => ?_⟩
    by_cases hj2 : j < l.length
    · rw [List.getElem_append_left hj2]; exact hg j hj2
    · have : j = n := by simp at hj; omega
      subst this
      rw [List.getElem_append_right (by omega)]
      simpa using hq

theorem gTab : Tryz.prog.globalNamed "farebox/sum.fourTurns" = some 1 := by kernel_rfl
theorem gTabType : (Tryz.prog.globals[1]?).map (·.type) = some 238 := by kernel_rfl
theorem cellsTab : Tryz.prog.cellsOf 238 = 16 := by kernel_rfl
theorem cellsWord : Tryz.prog.cellsOf 213 = 1 := by kernel_rfl

/-- The table's cells hold what they are to hold. -/
theorem tab_of {W : World} {rest : List (String × DataW Unit)} (h : laidMet Tryz.prog (("farebox/sum.fourTurns", Rows.laid_farebox_sum_fourTurns) :: rest) W) : TabAt W := by
  have ht : Lib.TabIs Tryz.prog W "farebox/sum.fourTurns" .u32 (tab.map fun n : Nat => (n : Int)) :=
    Lib.tabIs_of_head (rest := rest) gTab gTabType Tryz.underlying238 Tryz.underlying213 cellsWord cellsTab h
  intro i hi
  have hc := ht.cell gTab i (by rw [List.length_map]; exact hi)
  rw [hc]
  have hg := tab_turns i hi
  simp [hg]

theorem met_tail {P : Program} {x : String × DataW Unit} {r : List (String × DataW Unit)} {w : World} (h : laidMet P (x :: r) w) : laidMet P r w := by
  obtain ⟨ps, hl, hn, hc⟩ := h
  obtain ⟨g, t, cs, fuel, p, q, h1, h2, h3, h4, h5, h6⟩ := hl
  subst h6
  exact ⟨q, h5, (List.nodup_append.1 hn).2.1, fun b off hm => hc b off (List.mem_append_right _ hm)⟩

/-- A world in which the table holds what it is to hold. -/
def laidOver (w : World) : World :=
  { w with heap := w.heap.modify 1 fun
      | .cells _ t frozen => .cells (tab.map fun n : Nat => Value.int .u32 (n : Int)).toArray t frozen
      | o => o }

theorem weightsAll_mem {H : Type} {P : Program} {e : TypeId} : ∀ {l : List (DataW H)} {d : DataW H}, d ∈ l → ∀ n ∈ d.weights P e, n ∈ DataW.weightsAll P e l
  | d' :: r, d, hd, n, hn => by
    simp only [DataW.weightsAll, List.mem_append]
    rcases List.mem_cons.1 hd with rfl | h
    · exact Or.inl hn
    · exact Or.inr (weightsAll_mem h n hn)

section
variable {H : Type} {enc : TypeId × Value → H} {w : World} {held : Bool}

theorem open_bytes {fuel : Nat} {a0 : Option Addr} {len cap : Nat} {x : DataW H × List MemPlace} (h : DataW.trod enc Tryz.prog w 0 (fun _ => true) held fuel 28 [.slice a0 len cap] = some x) :
    ∃ bs : List UInt8, bs.length = len ∧ (a0 = none → bs.length = 0 ∧ cap = 0) ∧ (0 < bs.length → ∃ b off, a0 = some ⟨b, off, none⟩ ∧ ∀ j (hj : j < bs.length), w.cell? ⟨b, off + j, none⟩ = some (.int .u8 (bs[j].toNat))) ∧
      len ≤ cap ∧ (cap = 0 ∨ ∃ elems rest, x.1 = .slice elems rest ∧ elems.length + rest.length = cap) := by
  rcases open_ints Tryz.underlying28 Tryz.underlying5 (by kernel_rfl) h with ⟨hcs, hx⟩ | ⟨a, l, c, zs, hcs, _, hl, hm, hz, hx, hcell, hwz⟩
  · simp at hcs
    obtain ⟨rfl, rfl, rfl⟩ := hcs
    exact ⟨[], rfl, fun _ => ⟨rfl, rfl⟩, fun h0 => absurd h0 (by simp), Nat.le_refl _, .inl rfl⟩
  · simp at hcs
    obtain ⟨rfl, rfl, rfl⟩ := hcs
    have hz' : zs.length = cap := by simpa using hz
    refine ⟨(zs.take len).map (fun z => UInt8.ofNat z.toNat), by simp; omega, fun e => (by cases e), fun h0 => ?_, hl, .inr ?_⟩
    · simp at h0
      obtain ⟨b, off, spot⟩ := a
      have hc := hcell 0 (by omega)
      have hspot : spot = none := by simpa [Addr.add] using World.cell?_spot hc
      subst hspot
      refine ⟨b, off, rfl, fun j hj => ?_⟩
      have hj2 : j < zs.length := by simp at hj; omega
      have h1 := hcell j hj2
      rw [Addr.add_lit] at h1
      rw [h1]
      have hw := hwz (zs.getD j 0) (by simp [List.getD, hj2])
      have hb : 0 ≤ zs.getD j 0 ∧ zs.getD j 0 ≤ 255 := by simpa [Lit.wf, IntKind.min, IntKind.max, IntKind.signed, IntKind.bits] using hw
      have e2 : zs[j]?.getD 0 = zs[j] := by simp [hj2]
      simp only [List.getD, e2] at hb ⊢
      simp
      omega
    · rw [hx]
      exact ⟨_, _, rfl, by simp [lits]; omega⟩


/-- Bytes within what was handed in: its weights are small. -/
theorem part_bytes {fuel : Nat} {a0 : Option Addr} {len cap : Nat} {x : DataW H × List MemPlace} (h : DataW.trod enc Tryz.prog w 0 (fun _ => true) held fuel 28 [.slice a0 len cap] = some x) (hw : ∀ n ∈ x.1.weights Tryz.prog 28, n ≤ reachBytes) :
    ∃ bs : List UInt8, bs.length = len ∧ BAt w a0 cap bs ∧ bs.length ≤ cap ∧ cap ≤ 140737488351232 := by
  obtain ⟨bs, h1, h2, h3, h4, h5⟩ := open_bytes h
  have hc : cap ≤ 140737488351232 := by
    rcases h5 with e | ⟨elems, rest, e, hl⟩
    · omega
    · have hm := hw ((elems.length + rest.length) * Tryz.prog.bytesOf 5) (by rw [e]; simp [DataW.weights, Tryz.underlying28])
      have hby : Tryz.prog.bytesOf 5 = 1 := by kernel_rfl
      rw [hby] at hm
      unfold reachBytes at hm
      omega
  exact ⟨bs, h1, ⟨h2, h3, by omega⟩, by omega, hc⟩

theorem cells_bytes : Tryz.prog.cellsOf 28 = 1 := by kernel_rfl

theorem slice_shape {t e : TypeId} {fuel : Nat} {cs : List Value} {x : DataW H × List MemPlace} (ht : Tryz.prog.underlying t = some (.slice e)) (h : DataW.trod enc Tryz.prog w 0 (fun _ => true) held fuel t cs = some x) : ∃ a len cap, cs = [.slice a len cap] := by
  rcases open_slice ht h with ⟨hcs, _⟩ | ⟨a, len', cap', m, n, D, Pla, hcs, _⟩
  · exact ⟨none, 0, 0, hcs⟩
  · exact ⟨some a, len', cap', hcs⟩

/-- The weights of a slice: its own, and those of what it holds. -/
theorem slice_weights {t e : TypeId} (ht : Tryz.prog.underlying t = some (.slice e)) {elems spare : List (DataW H)} (hw : ∀ n ∈ (DataW.slice elems spare).weights Tryz.prog t, n ≤ reachBytes) :
    (elems.length + spare.length) * Tryz.prog.bytesOf e ≤ reachBytes ∧ ∀ d ∈ elems, ∀ n ∈ d.weights Tryz.prog e, n ≤ reachBytes := by
  simp only [DataW.weights, ht] at hw
  refine ⟨hw _ (by simp), fun d hd n hn => hw n ?_⟩
  simp only [List.mem_cons, List.mem_append]
  exact Or.inr (Or.inl (weightsAll_mem hd n hn))

/-- Rows of bytes within what was handed in. -/
theorem part_recs {fuel : Nat} {a0 : Option Addr} {len cap : Nat} {x : DataW H × List MemPlace} (h : DataW.trod enc Tryz.prog w 0 (fun _ => true) held fuel 23 [.slice a0 len cap] = some x) (hw : ∀ n ∈ x.1.weights Tryz.prog 23, n ≤ reachBytes) :
    ∃ rs : List Bs, rs.length = len ∧ RecsP (fun _ => True) w a0 cap rs ∧ rs.length ≤ cap ∧ cap * 24 ≤ 140737488351232 := by
  rcases open_slice Tryz.underlying23 h with ⟨hcs, hx⟩ | ⟨a, len', cap', m, n, D, Pla, hcs, hb, hl, hm, hmm, hx, hel⟩
  · simp at hcs
    obtain ⟨rfl, rfl, rfl⟩ := hcs
    exact ⟨[], rfl, ⟨fun h0 => absurd h0 (by simp), by simp⟩, by simp, by omega⟩
  · simp at hcs
    obtain ⟨rfl, rfl, rfl⟩ := hcs
    rw [cells_bytes] at hel
    have hmc : m = cap := by simpa using hmm
    have hby : Tryz.prog.bytesOf 28 = 24 := by kernel_rfl
    rw [hx] at hw
    obtain ⟨w1, w2⟩ := slice_weights Tryz.underlying23 hw
    rw [hby] at w1
    have hcap : cap * 24 ≤ 140737488351232 := by
      simp at w1
      unfold reachBytes at w1
      rw [hmc] at w1
      have e : len + (cap - len) = cap := by omega
      rw [e] at w1
      exact w1
    obtain ⟨ps, hpl, hps⟩ := list_of (Good := fun j (q : Bs) => ∃ ao cp, w.cell? (a.add j) = some (.slice ao q.length cp) ∧ BAt w ao cp q) len (fun j hj => by
      obtain ⟨cs', h1, h2⟩ := hel j (by omega)
      obtain ⟨ao, ln, cp, rfl⟩ := slice_shape Tryz.underlying28 h2
      obtain ⟨bs, e1, e2, e3, e4⟩ := part_bytes h2 (w2 (D j) (by simp; exact ⟨j, hj, rfl⟩))
      obtain ⟨_, _, h4⟩ := World.cells?_some h1
      refine ⟨bs, ao, cp, ?_, e2⟩
      have h5 := h4 0 (by omega)
      rw [e1]
      simpa [Addr.add] using h5)
    refine ⟨ps, hpl, ⟨fun h0 => ?_, by omega⟩, by omega, hcap⟩
    obtain ⟨b, off, spot⟩ := a
    obtain ⟨ao0, cp0, hc0, _⟩ := hps 0 h0
    have hspot : spot = none := by simpa [Addr.add] using World.cell?_spot hc0
    subst hspot
    refine ⟨b, off, rfl, trivial, fun j hj => ?_⟩
    obtain ⟨ao, cp, hc, hB⟩ := hps j hj
    rw [Addr.add_lit] at hc
    exact ⟨ao, cp, hc, hB, fun _ _ _ _ => trivial⟩

/-- Rows of bytes that were handed in. -/
theorem arg_recs {ts : List TypeId} {ds : List (DataW H)} {v : Value} {d : DataW H} {p : List MemPlace} {j : Nat} (hok : ∃ a len cap, v = .slice a len cap) (h : DataW.Trod enc Tryz.prog w 0 (fun _ => true) held 23 v d p)
    (hsz : (DataW.weightsEach Tryz.prog ts ds).all (· ≤ reachBytes) = true) (ht : ts[j]? = some 23) (hd : ds[j]? = some d) : ∃ ao cap rs, v = .slice ao (List.length rs) cap ∧ RecsP (fun _ => True) w ao cap rs ∧ cap * 24 ≤ 140737488351232 := by
  obtain ⟨a, len, cap, rfl⟩ := hok
  obtain ⟨fuel, hf⟩ := h
  obtain ⟨rs, h1, h2, h3, h4⟩ := part_recs hf (fun n hn => of_decide_eq_true (List.all_eq_true.1 hsz _ (DataW.weights_mem_each ht hd n hn)))
  exact ⟨a, cap, rs, by rw [h1], h2, h4⟩

end

end Go.Proofs.YtjkghgcdkfkekaaGreatDoor

