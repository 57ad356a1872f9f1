import Derived.Test.YtjgbllfppomcmaaJJ0
import Derived.Test.YtjgbllfppomcmaaQK1
import Derived.Laws.MakeOwn
/- Rows of priced journeys: 7 cells each; two of them compared. -/
namespace Go.Proofs.Ytjgbllfppomcmaa
open Go.RowKit

def pL (p : Jn × Int) : List Value := [.int .i64 p.1.kind, .int .i64 p.1.fr, .int .i64 p.1.to, .int .i64 p.1.st, .int .i64 p.1.en, .bool p.1.free, .int .i64 p.2]
def pV (l : List (Jn × Int)) : List Value := l.flatMap pL
def pz : Jn × Int := (jz, 0)
theorem pV_length (l : List (Jn × Int)) : (pV l).length = l.length * 7 := flat_length pL 7 (fun _ => rfl) l
theorem pL_one (p : Jn × Int) : ∀ u ∈ pL p, u.oneCell' = true := fun u hu => by simp only [pL, List.mem_cons, List.not_mem_nil, or_false] at hu; rcases hu with rfl | rfl | rfl | rfl | rfl | rfl | rfl <;> rfl
theorem pV_one (l : List (Jn × Int)) : ∀ u ∈ pV l, u.oneCell' = true := flat_one _ (fun x u hu => pL_one x u hu) l
theorem pInfo : (Try.prog.info? 33).map (fun i => (i.zero.map (·.cells), i.size, i.bytes)) = some (some (pL pz).toArray, 7, 56) := by kernel_rfl

theorem KRow.madeP (w : World) (n : Nat) (hn : n ≤ 1000000) {i : TypeInfo} {z : Value} (hz : z.cells = (pL pz).toArray) (hs : i.size = 7) (e : TypeId) : KRow (w.alloc (.cells (madeCells z.cells (n * i.size)) e)) (some ⟨w.heap.size, 0, none⟩) n w.heap.size 7 (pV (List.replicate n pz)) := by
  have hl : (pV (List.replicate n pz)).length = n * 7 := by rw [pV_length, List.length_replicate]
  have hc : ∀ j, j < n * 7 → (w.alloc (.cells (madeCells z.cells (n * i.size)) e)).cell? ⟨w.heap.size, j, none⟩ = (pL pz)[j % 7]? := fun j hj => by
    rw [World.cell?_alloc_new, hs, hz]
    unfold madeCells
    simp [hj]
    have h7 : j % 7 < 7 := Nat.mod_lt _ (by omega)
    have h8 : (pL pz).length = 7 := rfl
    rw [h8, List.getElem?_eq_getElem (by omega)]
    rfl
  refine ⟨by omega, by simp only [maxLen]; omega, fun _ => rfl, fun j hj => ⟨?_, World.frozen?_alloc_new _ _ _ _⟩, fun j hj => ?_, pV_one _⟩
  · rw [hc j hj]
    have h7 : j % 7 < 7 := Nat.mod_lt _ (by omega)
    have h8 : (pL pz).length = 7 := rfl
    rw [List.getElem?_eq_getElem (by omega)]
    rfl
  · rw [hc j (by omega), ← List.getElem?_eq_getElem hj]
    have h2 := flat_get pL 7 (fun _ => rfl) (List.replicate n pz) (j / 7) (by rw [List.length_replicate]; omega) (j % 7) (Nat.mod_lt _ (by omega))
    rw [show j / 7 * 7 + j % 7 = j by omega, List.getElem_replicate] at h2
    exact h2.symm

theorem pV_set (p : Jn × Int) : ∀ (l : List (Jn × Int)) (k : Nat), k < l.length → pV (l.set k p) = ((((((((pV l).set (k * 7) (.int .i64 p.1.kind)).set (k * 7 + 1) (.int .i64 p.1.fr)).set (k * 7 + 2) (.int .i64 p.1.to)).set (k * 7 + 3) (.int .i64 p.1.st)).set (k * 7 + 4) (.int .i64 p.1.en)).set (k * 7 + 5) (.bool p.1.free)).set (k * 7 + 6) (.int .i64 p.2)) := by
  intro l
  induction l with
  | nil => intro k hk; simp at hk
  | cons x r ih =>
    intro k hk
    cases k with
    | zero => simp [pV, pL]
    | succ k =>
      have hk' : k < r.length := by simpa using hk
      have e : ∀ c, (k + 1) * 7 + c = (k * 7 + c) + 7 := fun c => by omega
      rw [List.set_cons_succ]
      show pL x ++ pV (r.set k p) = _
      rw [ih k hk', show (k + 1) * 7 = k * 7 + 7 by omega]
      simp [pV, pL, Nat.add_right_comm _ 7]

theorem KRow.setF {w : World} {ao : Option Addr} {cap g k : Nat} {vs : List Value} (h : KRow w ao cap g k vs) (j : Nat) (hj : j < vs.length) (v : Value) (hv : v.oneCell' = true) : KRow (w.setCell ⟨g, j, none⟩ v) ao cap g k (vs.set j v) := by
  refine ⟨by rw [List.length_set]; exact h.le, h.max, h.ad, fun i hi => ⟨?_, by rw [World.frozen?_setCell]; exact (h.room i hi).2⟩, fun i hi => ?_, fun u hu => ?_⟩
  · by_cases e : i = j
    · subst e
      rw [World.cell?_setCell_same _ _ _ (h.cells i hj)]; rfl
    · rw [World.cell?_setCell_other _ _ _ _ (by intro t; injection t with t1 t2; exact e t2.symm)]
      exact (h.room i hi).1
  · rw [List.length_set] at hi
    by_cases e : i = j
    · subst e
      rw [World.cell?_setCell_same _ _ _ (h.cells i hj), List.getElem_set_self]
    · rw [World.cell?_setCell_other _ _ _ _ (by intro t; injection t with t1 t2; exact e t2.symm), h.cells i hi, List.getElem_set_ne (fun t => e t.symm)]
  · rcases List.mem_or_eq_of_mem_set hu with h1 | h1
    · exact h.one u h1
    · rw [h1]; exact hv

theorem Fr.setOwn {g : Nat} {a w : World} (h : Fr (fun k => k = g) a w) (o : Nat) (u : Value) : Fr (fun k => k = g) a (w.setCell ⟨g, o, none⟩ u) := Fr.setCell h (fun _ => rfl) u

theorem KRow.setP {w : World} {ao : Option Addr} {cap g : Nat} {l : List (Jn × Int)} (h : KRow w ao cap g 7 (pV l)) {k : Nat} (hk : k < l.length) (p : Jn × Int) :
    KRow (((((((w.setCell ⟨g, k * 7, none⟩ (.int .i64 p.1.kind)).setCell ⟨g, k * 7 + 1, none⟩ (.int .i64 p.1.fr)).setCell ⟨g, k * 7 + 2, none⟩ (.int .i64 p.1.to)).setCell ⟨g, k * 7 + 3, none⟩ (.int .i64 p.1.st)).setCell ⟨g, k * 7 + 4, none⟩ (.int .i64 p.1.en)).setCell ⟨g, k * 7 + 5, none⟩ (.bool p.1.free)).setCell ⟨g, k * 7 + 6, none⟩ (.int .i64 p.2)) ao cap g 7 (pV (l.set k p)) := by
  have hl := pV_length l
  rw [pV_set p l k hk]
  exact ((((((h.setF (k * 7) (by omega) _ rfl).setF (k * 7 + 1) (by simp; omega) _ rfl).setF (k * 7 + 2) (by simp; omega) _ rfl).setF (k * 7 + 3) (by simp; omega) _ rfl).setF (k * 7 + 4) (by simp; omega) _ rfl).setF (k * 7 + 5) (by simp; omega) _ rfl).setF (k * 7 + 6) (by simp; omega) _ rfl

theorem eqP (w : World) (a0 a1 a2 a3 a4 a6 : Int) (a5 : Bool) : (Op.equalIn 10000 33 (.agg #[.int .i64 a0, .int .i64 a1, .int .i64 a2, .int .i64 a3, .int .i64 a4, .bool a5, .int .i64 a6]) (.agg #[.int .i64 a0, .int .i64 a1, .int .i64 a2, .int .i64 a3, .int .i64 a4, .bool a5, .int .i64 a6])).run Try.prog w = .ok true w := by
  have u3 := Try.underlying3
  have u4 := Try.underlying4
  have hS : Try.prog.underlying 33 = some (.struct (Try.prog.fieldsOf 33)) := by kernel_rfl
  have hp : Try.prog.stoodInHeld 33 = false := by kernel_rfl
  have hS2 : Try.prog.underlying 31 = some (.struct (Try.prog.fieldsOf 31)) := by kernel_rfl
  have hp2 : Try.prog.stoodInHeld 31 = false := by kernel_rfl
  have hj : ∀ w', (Op.equalIn 9999 31 (.agg #[.int .i64 a0, .int .i64 a1, .int .i64 a2, .int .i64 a3, .int .i64 a4, .bool a5]) (.agg #[.int .i64 a0, .int .i64 a1, .int .i64 a2, .int .i64 a3, .int .i64 a4, .bool a5])).run Try.prog w' = .ok true w' := fun w' => by
    rw [show (9999 : Nat) = 9998 + 1 from rfl, run_equalIn_agg w' 9998 31 _ _ hS2 hp2]
    simp only [Program.fieldsOf, Try.underlying31]
    go_simp
  rw [show (10000 : Nat) = 9999 + 1 from rfl, run_equalIn_agg w 9999 33 _ _ hS hp]
  simp only [Program.fieldsOf, Try.underlying33]
  go_simp
theorem egP : Try.prog.eqGuardType Try.prog.depth 33 = false := by kernel_rfl

theorem pV_cell {w : World} {ao : Option Addr} {cap g : Nat} {l : List (Jn × Int)} (h : KRow w ao cap g 7 (pV l)) {k : Nat} {b : Jn × Int} (hb : l[k]? = some b) :
    ao = some ⟨g, 0, none⟩ ∧ 0 < cap ∧ ∀ c (_ : c < 7) v, (pL b)[c]? = some v → w.cell? ⟨g, k * 7 + c, none⟩ = some v := by
  have hk := (List.getElem?_eq_some_iff.1 hb).1
  have hl := pV_length l
  have hle := h.le
  have hcap : 0 < cap := by
    rcases Nat.eq_zero_or_pos cap with rfl | h0
    · omega
    · exact h0
  refine ⟨h.ad hcap, hcap, fun c hc v hv => ?_⟩
  have h1 := h.cells (k * 7 + c) (by omega)
  have h2 := flat_get pL 7 (fun _ => rfl) l k hk c hc
  have h3 : l[k] = b := by rw [List.getElem?_eq_getElem hk] at hb; exact Option.some.inj hb
  rw [h3, hv] at h2
  rw [h1]
  have h4 : (pV l)[k * 7 + c]? = some v := h2
  rw [List.getElem?_eq_getElem (by omega)] at h4
  exact h4

theorem CAt.pj {w : World} {ao : Option Addr} {l : List (Jn × Int)} (h : CAt w ao (pV l)) {i : Nat} (hi : i < l.length) : ∃ b off, ao = some ⟨b, off, none⟩ ∧ ∀ c (_ : c < 7) v, (pL l[i])[c]? = some v → w.cell? ⟨b, off + (i * 7 + c), none⟩ = some v := by
  have hl := pV_length l
  obtain ⟨b, off, e, hc⟩ := h (by omega)
  refine ⟨b, off, e, fun c hc' v hv => ?_⟩
  have h1 := hc (i * 7 + c) (by omega)
  have h2 := flat_get pL 7 (fun _ => rfl) l i hi c hc'
  rw [hv] at h2
  rw [h1]
  have h3 : (pV l)[i * 7 + c]? = some v := h2
  rw [List.getElem?_eq_getElem (by omega)] at h3
  exact h3

end Go.Proofs.Ytjgbllfppomcmaa

