import Derived.Test.YtabhfeocelljdaaGreatDoorZHB
import Derived.Test.YtabhfeocelljdaaGreatDoorZRA
import Derived.Test.YtabhfeocelljdaaGreatDoorCards
import Derived.Test.YtabhfeocelljdaaGreatDoorTie
import Derived.ProofKit
import Derived.OpenShut
import Derived.ChangeOld
import Derived.Below
import Derived.ChangeMaps5
import Derived.SizedLaws
import Derived.Deep.DeepHandedRow
import Derived.Lib.LaidTab
/- How the laws' arguments read: a slice of bytes; what the listed table gives; what the second form's bound gives. -/
namespace Go.Proofs.YtabhfeocelljdaaGreatDoor
open Go.ChangeShapes Go.WideShapes Go.ChangeAt Go.RowKit

theorem own : ownKnob Tryz.prog.godebug = none := by kernel_rfl
theorem laidOut : laidOutB Tryz.prog = true := by kernel_rfl
theorem gF : Tryz.prog.globalNamed "farebox/hash.firstWords" = some 1 := by kernel_rfl
theorem gR : Tryz.prog.globalNamed "farebox/hash.roundWords" = some 3 := by kernel_rfl
theorem gf : Tryz.prog.globalNamed "farebox/fareboxref03.first" = some 0 := by kernel_rfl
theorem gk : Tryz.prog.globalNamed "farebox/fareboxref03.k" = some 2 := by kernel_rfl
theorem tF : (Tryz.prog.globals[1]?).map (·.type) = some 133 := by kernel_rfl
theorem tR : (Tryz.prog.globals[3]?).map (·.type) = some 142 := by kernel_rfl
theorem tf : (Tryz.prog.globals[0]?).map (·.type) = some 129 := by kernel_rfl
theorem tk : (Tryz.prog.globals[2]?).map (·.type) = some 142 := by kernel_rfl
theorem cellsU48 : Tryz.prog.cellsOf 128 = 1 := by kernel_rfl
theorem cellsU49 : Tryz.prog.cellsOf 129 = 8 := by kernel_rfl
theorem cellsU51 : Tryz.prog.cellsOf 133 = 8 := by kernel_rfl
theorem cellsU62 : Tryz.prog.cellsOf 142 = 64 := by kernel_rfl

theorem met_tail {P : Program} {x : String × DataW Unit} {r : List (String × DataW Unit)} {w : World} (h : laidMet P (x :: r) w) : laidMet P r w := by
  obtain ⟨ps, hl, hn, hc⟩ := h
  obtain ⟨g, t, cs, fuel, p, q, h1, h2, h3, h4, h5, h6⟩ := hl
  subst h6
  exact ⟨q, h5, (List.nodup_append.1 hn).2.1, fun b off hm => hc b off (List.mem_append_right _ hm)⟩

theorem htab_get (i : Nat) (hi : i < 8) : (htab.map fun n : Nat => (n : Int)).getD i 0 = ((hw0 i : Nat) : Int) := by
  have : i < htab.length := hi
  simp [hw0, List.getD, this]
theorem ktab_get (i : Nat) (hi : i < 64) : (ktab.map fun n : Nat => (n : Int)).getD i 0 = ((kw i : Nat) : Int) := by
  have : i < ktab.length := hi
  simp [kw, List.getD, this]

theorem tabF_of {W : World} {rest : List (String × DataW Unit)} (h : laidMet Tryz.prog (("farebox/hash.firstWords", Rows.laid_farebox_hash_firstWords) :: rest) W) : ∀ j, j < 8 → W.cell? ⟨1, j, none⟩ = some (.int .u32 (hw0 j)) := by
  have ht : Lib.TabIs Tryz.prog W "farebox/hash.firstWords" .u32 (htab.map fun n : Nat => (n : Int)) := Lib.tabIs_of_head (rest := rest) gF tF Tryz.underlying133 Tryz.underlying128 cellsU48 cellsU51 h
  intro i hi
  rw [ht.cell gF i (by rw [List.length_map]; exact hi), htab_get i hi]
theorem tabR_of {W : World} {rest : List (String × DataW Unit)} (h : laidMet Tryz.prog (("farebox/hash.roundWords", Rows.laid_farebox_hash_roundWords) :: rest) W) : ∀ j, j < 64 → W.cell? ⟨3, j, none⟩ = some (.int .u32 (kw j)) := by
  have ht : Lib.TabIs Tryz.prog W "farebox/hash.roundWords" .u32 (ktab.map fun n : Nat => (n : Int)) := Lib.tabIs_of_head (rest := rest) gR tR Tryz.underlying142 Tryz.underlying128 cellsU48 cellsU62 h
  intro i hi
  rw [ht.cell gR i (by rw [List.length_map]; exact hi), ktab_get i hi]
theorem tabf_of {W : World} {rest : List (String × DataW Unit)} (h : laidMet Tryz.prog (("farebox/fareboxref03.first", Rows.laid_farebox_fareboxref03_first) :: rest) W) : ∀ j, j < 8 → W.cell? ⟨0, j, none⟩ = some (.int .u32 (hw0 j)) := by
  have ht : Lib.TabIs Tryz.prog W "farebox/fareboxref03.first" .u32 (htab.map fun n : Nat => (n : Int)) := Lib.tabIs_of_head (rest := rest) gf tf Tryz.underlying129 Tryz.underlying128 cellsU48 cellsU49 h
  intro i hi
  rw [ht.cell gf i (by rw [List.length_map]; exact hi), htab_get i hi]
theorem tabk_of {W : World} {rest : List (String × DataW Unit)} (h : laidMet Tryz.prog (("farebox/fareboxref03.k", Rows.laid_farebox_fareboxref03_k) :: rest) W) : ∀ j, j < 64 → W.cell? ⟨2, j, none⟩ = some (.int .u32 (kw j)) := by
  have ht : Lib.TabIs Tryz.prog W "farebox/fareboxref03.k" .u32 (ktab.map fun n : Nat => (n : Int)) := Lib.tabIs_of_head (rest := rest) gk tk Tryz.underlying142 Tryz.underlying128 cellsU48 cellsU62 h
  intro i hi
  rw [ht.cell gk i (by rw [List.length_map]; exact hi), ktab_get i hi]

/-- The program's tables, of a law that lists them alone. -/
theorem tabP_of {W : World} (h : laidMetH Tryz.prog [("farebox/hash.firstWords", Rows.laid_farebox_hash_firstWords), ("farebox/hash.roundWords", Rows.laid_farebox_hash_roundWords)] W) : TabP W := by
  have h' : laidMet Tryz.prog [("farebox/hash.firstWords", Rows.laid_farebox_hash_firstWords), ("farebox/hash.roundWords", Rows.laid_farebox_hash_roundWords)] W := h
  exact ⟨tabF_of h', tabR_of (met_tail h')⟩

section
variable {H : Type} {enc : TypeId × Value → H} {w : World} {held : Bool}

/-- A slice of bytes. -/
theorem open_bytes {fuel : Nat} {a0 : Option Addr} {len cap : Nat} {x : DataW H × List MemPlace} (h : DataW.trod enc Tryz.prog w 0 (fun _ => true) held fuel 23 [.slice a0 len cap] = some x) :
    ∃ bs : List UInt8, bs.length = len ∧ (a0 = none → bs.length = 0 ∧ cap = 0) ∧ (0 < bs.length → ∃ b off, a0 = some ⟨b, off, none⟩ ∧ ∀ j (hj : j < bs.length), w.cell? ⟨b, off + j, none⟩ = some (.int .u8 (bs[j].toNat))) ∧ bs.length ≤ cap ∧
      (cap = 0 ∨ ∃ elems rest, x.1 = .slice elems rest ∧ elems.length = bs.length ∧ elems.length + rest.length = cap) := by
  rcases open_ints Tryz.underlying23 Tryz.underlying5 (by kernel_rfl) h with ⟨hcs, hx⟩ | ⟨a, l, c, zs, hcs, _, hl, hm, hz, hx, hcell, hwz⟩
  · simp at hcs
    obtain ⟨rfl, rfl, rfl⟩ := hcs
    exact ⟨[], rfl, fun _ => ⟨rfl, rfl⟩, fun h0 => absurd h0 (by simp), Nat.le_refl _, .inl rfl⟩
  · simp at hcs
    obtain ⟨rfl, rfl, rfl⟩ := hcs
    have hz' : zs.length = cap := by simpa using hz
    refine ⟨(zs.take len).map (fun z => UInt8.ofNat z.toNat), by simp; omega, fun e => (by cases e), fun h0 => ?_, by simp; omega, .inr ?_⟩
    · simp at h0
      obtain ⟨b, off, spot⟩ := a
      have hc := hcell 0 (by omega)
      have hspot : spot = none := by simpa [Addr.add] using World.cell?_spot hc
      subst hspot
      refine ⟨b, off, rfl, fun j hj => ?_⟩
      have hj2 : j < zs.length := by simp at hj; omega
      have hjl : j < len := by simp at hj; omega
      have h1 := hcell j hj2
      rw [Addr.add_lit] at h1
      rw [h1]
      have hw := hwz (zs.getD j 0) (by simp [List.getD, hj2])
      have hb : 0 ≤ zs.getD j 0 ∧ zs.getD j 0 ≤ 255 := by simpa [Lit.wf, IntKind.min, IntKind.max, IntKind.signed, IntKind.bits] using hw
      have e2 : zs[j]?.getD 0 = zs[j] := by simp [hj2]
      simp only [List.getD, e2] at hb ⊢
      simp
      omega
    · rw [hx]
      exact ⟨_, _, rfl, by simp [lits], by simp [lits]; omega⟩

end

theorem bulk_one {H : Type} (d : DataW H) : 1 ≤ Rows.uptoBulk d := by
  cases d with
  | lit l => cases l <;> simp [Rows.uptoBulk]
  | nil => simp [Rows.uptoBulk]
  | ptr d => simp [Rows.uptoBulk]
  | slice elems spare => simp [Rows.uptoBulk]
  | agg parts => simp [Rows.uptoBulk]
  | iface t d => simp [Rows.uptoBulk]
  | map entries => simp [Rows.uptoBulk]
  | held h => simp [Rows.uptoBulk]

theorem bulk_length {H : Type} (l : List (DataW H)) : l.length ≤ Rows.uptoBulkAll l := by
  induction l with
  | nil => simp [Rows.uptoBulkAll]
  | cons x r ih => have := bulk_one x; simp only [Rows.uptoBulkAll, List.length_cons]; omega

theorem bulk_mem {H : Type} {d : DataW H} {l : List (DataW H)} (h : d ∈ l) : Rows.uptoBulk d ≤ Rows.uptoBulkAll l := by
  induction l with
  | nil => cases h
  | cons x r ih =>
    simp only [Rows.uptoBulkAll]
    cases List.mem_cons.1 h with
    | inl e => subst e; omega
    | inr e => have := ih e; omega

/-- A slice among what came in has at most so many elements. -/
theorem bulk_slice {H : Type} {l elems rest : List (DataW H)} (hk : Rows.uptoSmall H l = true) (h : DataW.slice elems rest ∈ l) : elems.length ≤ 1048576 := by
  have h1 : Rows.uptoBulkAll l ≤ 1048576 := of_decide_eq_true hk
  have h2 := bulk_mem h
  have h3 := bulk_length elems
  simp only [Rows.uptoBulk] at h2
  omega

/-- A world for the witness: the settled one, the tables holding what their initialisers lay. -/
def layTab (h : Array Obj) (g : Nat) (l : List Nat) : Array Obj := h.modify g fun
  | .cells _ t frozen => .cells (l.map fun n : Nat => Value.int .u32 (n : Int)).toArray t frozen
  | o => o
def laidOver (w : World) : World :=
  { w with heap := layTab (layTab (layTab (layTab w.heap 0 htab) 1 htab) 2 ktab) 3 ktab }

theorem tab4_of {W : World} (h : laidMetH Tryz.prog [("farebox/fareboxref03.first", Rows.laid_farebox_fareboxref03_first), ("farebox/fareboxref03.k", Rows.laid_farebox_fareboxref03_k), ("farebox/hash.firstWords", Rows.laid_farebox_hash_firstWords), ("farebox/hash.roundWords", Rows.laid_farebox_hash_roundWords)] W) : TabP W ∧ TabRZ W := by
  have h' : laidMet Tryz.prog [("farebox/fareboxref03.first", Rows.laid_farebox_fareboxref03_first), ("farebox/fareboxref03.k", Rows.laid_farebox_fareboxref03_k), ("farebox/hash.firstWords", Rows.laid_farebox_hash_firstWords), ("farebox/hash.roundWords", Rows.laid_farebox_hash_roundWords)] W := h
  exact ⟨⟨tabF_of (met_tail (met_tail h')), tabR_of (met_tail (met_tail (met_tail h')))⟩, ⟨tabf_of h', tabk_of (met_tail h')⟩⟩


end Go.Proofs.YtabhfeocelljdaaGreatDoor

