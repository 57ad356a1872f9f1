import Derived.Test.YtmgejkenpfihmaaFA2
import Derived.Test.YtmgejkenpfihmaaQK1
import Derived.Laws.MakeOwn
/- Rows of priced journeys; the program's fare.All. -/
namespace Go.Proofs.Ytmgejkenpfihmaa
open Go.RowKit

def pL (p : Jn × Int) : List Value := [.int .i64 p.1.kind, .int .i64 p.1.fr, .int .i64 p.1.to, .int .i64 p.1.st, .int .i64 p.1.en, .bool p.1.free, .int .i64 p.2]
def pV (l : List (Jn × Int)) : List Value := l.flatMap pL
def pz : Jn × Int := (jz, 0)
theorem pV_length (l : List (Jn × Int)) : (pV l).length = l.length * 7 := flat_length pL 7 (fun _ => rfl) l
theorem pL_one (p : Jn × Int) : ∀ u ∈ pL p, u.oneCell' = true := fun u hu => by simp only [pL, List.mem_cons, List.not_mem_nil, or_false] at hu; rcases hu with rfl | rfl | rfl | rfl | rfl | rfl | rfl <;> rfl
theorem pV_one (l : List (Jn × Int)) : ∀ u ∈ pV l, u.oneCell' = true := flat_one _ (fun x u hu => pL_one x u hu) l
theorem pInfo : (Try.prog.info? 42).map (fun i => (i.zero.map (·.cells), i.size, i.bytes)) = some (some (pL pz).toArray, 7, 56) := by kernel_rfl

theorem KRow.madeP (w : World) (n : Nat) (hn : n ≤ 1000000) {i : TypeInfo} {z : Value} (hz : z.cells = (pL pz).toArray) (hs : i.size = 7) (e : TypeId) : KRow (w.alloc (.cells (madeCells z.cells (n * i.size)) e)) (some ⟨w.heap.size, 0, none⟩) n w.heap.size 7 (pV (List.replicate n pz)) := by
  have hl : (pV (List.replicate n pz)).length = n * 7 := by rw [pV_length, List.length_replicate]
  have hc : ∀ j, j < n * 7 → (w.alloc (.cells (madeCells z.cells (n * i.size)) e)).cell? ⟨w.heap.size, j, none⟩ = (pL pz)[j % 7]? := fun j hj => by
    rw [World.cell?_alloc_new, hs, hz]
    unfold madeCells
    simp [hj]
    have h7 : j % 7 < 7 := Nat.mod_lt _ (by omega)
    have h8 : (pL pz).length = 7 := rfl
    rw [h8, List.getElem?_eq_getElem (by omega)]
    rfl
  refine ⟨by omega, by simp only [maxLen]; omega, fun _ => rfl, fun j hj => ⟨?_, World.frozen?_alloc_new _ _ _ _⟩, fun j hj => ?_, pV_one _⟩
  · rw [hc j hj]
    have h7 : j % 7 < 7 := Nat.mod_lt _ (by omega)
    have h8 : (pL pz).length = 7 := rfl
    rw [List.getElem?_eq_getElem (by omega)]
    rfl
  · rw [hc j (by omega), ← List.getElem?_eq_getElem hj]
    have h2 := flat_get pL 7 (fun _ => rfl) (List.replicate n pz) (j / 7) (by rw [List.length_replicate]; omega) (j % 7) (Nat.mod_lt _ (by omega))
    rw [show j / 7 * 7 + j % 7 = j by omega, List.getElem_replicate] at h2
    exact h2.symm

theorem CAt.jn {w : World} {ao : Option Addr} {l : List Jn} (h : CAt w ao (jV l)) {i : Nat} (hi : i < l.length) : ∃ b off, ao = some ⟨b, off, none⟩ ∧
    w.cell? ⟨b, off + i * 6, none⟩ = some (.int .i64 l[i].kind) ∧ w.cell? ⟨b, off + i * 6 + 1, none⟩ = some (.int .i64 l[i].fr) ∧ w.cell? ⟨b, off + i * 6 + 2, none⟩ = some (.int .i64 l[i].to) ∧
    w.cell? ⟨b, off + i * 6 + 3, none⟩ = some (.int .i64 l[i].st) ∧ w.cell? ⟨b, off + i * 6 + 4, none⟩ = some (.int .i64 l[i].en) ∧ w.cell? ⟨b, off + i * 6 + 5, none⟩ = some (.bool l[i].free) := by
  have hl := jV_length l
  obtain ⟨b, off, e, hc⟩ := h (by omega)
  have g := fun c hc' => flat_get jL 6 (fun _ => rfl) l i hi c hc'
  have q : ∀ c (hc' : c < 6) v, (jL l[i])[c]? = some v → w.cell? ⟨b, off + (i * 6 + c), none⟩ = some v := fun c hc' v hv => by
    have h1 := hc (i * 6 + c) (by omega)
    have h2 := g c hc'
    rw [hv] at h2
    rw [h1]
    have h3 : (jV l)[i * 6 + c]? = some v := h2
    rw [List.getElem?_eq_getElem (by omega)] at h3
    exact h3
  exact ⟨b, off, e, q 0 (by omega) _ rfl, q 1 (by omega) _ rfl, q 2 (by omega) _ rfl, q 3 (by omega) _ rfl, q 4 (by omega) _ rfl, q 5 (by omega) _ rfl⟩

/-- The first error of a row of journeys. -/
def firstE (t : Tf) : List Jn → Int
  | [] => 0
  | j :: r => if (costV t j).2 = 0 then firstE t r else (costV t j).2
def allE (t : Tf) (l : List Jn) : Int := if rightE t = 0 then (if 2000 < l.length then 2 else firstE t l) else rightE t
def priced (t : Tf) (l : List Jn) : List (Jn × Int) := l.map (fun j => (j, (costV t j).1))
def allL (t : Tf) (l : List Jn) : List (Jn × Int) := if allE t l = 0 then priced t l else []

theorem firstE_cons (t : Tf) (j : Jn) (r : List Jn) : firstE t (j :: r) = if (costV t j).2 = 0 then firstE t r else (costV t j).2 := rfl

/-- The row behind i journeys. -/
def prAt (t : Tf) (l : List Jn) (i : Nat) : List (Jn × Int) := priced t (l.take i) ++ List.replicate (l.length - i) pz
theorem prAt_zero (t : Tf) (l : List Jn) : prAt t l 0 = List.replicate l.length pz := by simp [prAt, priced]
theorem prAt_all (t : Tf) (l : List Jn) : prAt t l l.length = priced t l := by simp [prAt]
theorem prAt_length (t : Tf) (l : List Jn) {i : Nat} (hi : i ≤ l.length) : (prAt t l i).length = l.length := by simp [prAt, priced]; omega
theorem prAt_step (t : Tf) (l : List Jn) (i : Nat) (hi : i < l.length) : prAt t l (i + 1) = (prAt t l i).set i (l[i], (costV t l[i]).1) := by
  have h1 : l.length - i = (l.length - (i + 1)) + 1 := by omega
  have hln : (priced t (l.take i)).length = i := by simp [priced]; omega
  unfold prAt
  rw [h1, List.replicate_succ, List.set_append_right _ _ (by omega), hln, Nat.sub_self, List.set_cons_zero, List.take_succ_eq_append_getElem hi]
  simp only [priced, List.map_append, List.map_cons, List.map_nil, List.append_assoc, List.cons_append, List.nil_append]

theorem pV_set (p : Jn × Int) : ∀ (l : List (Jn × Int)) (k : Nat), k < l.length → pV (l.set k p) = ((((((((pV l).set (k * 7) (.int .i64 p.1.kind)).set (k * 7 + 1) (.int .i64 p.1.fr)).set (k * 7 + 2) (.int .i64 p.1.to)).set (k * 7 + 3) (.int .i64 p.1.st)).set (k * 7 + 4) (.int .i64 p.1.en)).set (k * 7 + 5) (.bool p.1.free)).set (k * 7 + 6) (.int .i64 p.2)) := by
  intro l
  induction l with
  | nil => intro k hk; simp at hk
  | cons x r ih =>
    intro k hk
    cases k with
    | zero => simp [pV, pL]
    | succ k =>
      have hk' : k < r.length := by simpa using hk
      have e : ∀ c, (k + 1) * 7 + c = (k * 7 + c) + 7 := fun c => by omega
      rw [List.set_cons_succ]
      show pL x ++ pV (r.set k p) = _
      rw [ih k hk', show (k + 1) * 7 = k * 7 + 7 by omega]
      simp [pV, pL, Nat.add_right_comm _ 7]

theorem KRow.setF {w : World} {ao : Option Addr} {cap g k : Nat} {vs : List Value} (h : KRow w ao cap g k vs) (j : Nat) (hj : j < vs.length) (v : Value) (hv : v.oneCell' = true) : KRow (w.setCell ⟨g, j, none⟩ v) ao cap g k (vs.set j v) := by
  refine ⟨by rw [List.length_set]; exact h.le, h.max, h.ad, fun i hi => ⟨?_, by rw [World.frozen?_setCell]; exact (h.room i hi).2⟩, fun i hi => ?_, fun u hu => ?_⟩
  · by_cases e : i = j
    · subst e
      rw [World.cell?_setCell_same _ _ _ (h.cells i hj)]; rfl
    · rw [World.cell?_setCell_other _ _ _ _ (by intro t; injection t with t1 t2; exact e t2.symm)]
      exact (h.room i hi).1
  · rw [List.length_set] at hi
    by_cases e : i = j
    · subst e
      rw [World.cell?_setCell_same _ _ _ (h.cells i hj), List.getElem_set_self]
    · rw [World.cell?_setCell_other _ _ _ _ (by intro t; injection t with t1 t2; exact e t2.symm), h.cells i hi, List.getElem_set_ne (fun t => e t.symm)]
  · rcases List.mem_or_eq_of_mem_set hu with h1 | h1
    · exact h.one u h1
    · rw [h1]; exact hv

theorem Fr.setOwn {g : Nat} {a w : World} (h : Fr (fun k => k = g) a w) (o : Nat) (u : Value) : Fr (fun k => k = g) a (w.setCell ⟨g, o, none⟩ u) := Fr.setCell h (fun _ => rfl) u

theorem KRow.setP {w : World} {ao : Option Addr} {cap g : Nat} {l : List (Jn × Int)} (h : KRow w ao cap g 7 (pV l)) {k : Nat} (hk : k < l.length) (p : Jn × Int) :
    KRow (((((((w.setCell ⟨g, k * 7, none⟩ (.int .i64 p.1.kind)).setCell ⟨g, k * 7 + 1, none⟩ (.int .i64 p.1.fr)).setCell ⟨g, k * 7 + 2, none⟩ (.int .i64 p.1.to)).setCell ⟨g, k * 7 + 3, none⟩ (.int .i64 p.1.st)).setCell ⟨g, k * 7 + 4, none⟩ (.int .i64 p.1.en)).setCell ⟨g, k * 7 + 5, none⟩ (.bool p.1.free)).setCell ⟨g, k * 7 + 6, none⟩ (.int .i64 p.2)) ao cap g 7 (pV (l.set k p)) := by
  have hl := pV_length l
  rw [pV_set p l k hk]
  exact ((((((h.setF (k * 7) (by omega) _ rfl).setF (k * 7 + 1) (by simp; omega) _ rfl).setF (k * 7 + 2) (by simp; omega) _ rfl).setF (k * 7 + 3) (by simp; omega) _ rfl).setF (k * 7 + 4) (by simp; omega) _ rfl).setF (k * 7 + 5) (by simp; omega) _ rfl).setF (k * 7 + 6) (by simp; omega) _ rfl

/-- What the program's All leaves. -/
def AllPost (t : Tf) (l : List Jn) (w : World) (e : Ending) (w' : World) : Prop :=
  ∃ ao cap g, e = .returned (.tuple #[.slice ao (allL t l).length cap, .int .i64 (allE t l)]) ∧ KRow w' ao cap g 7 (pV (allL t l)) ∧ (0 < cap → w.heap.size ≤ g) ∧ Fr (fun _ => False) w w'

theorem AllPost.fail {t : Tf} {l : List Jn} {w w' : World} {x : Int} (hf : Fr (fun _ => False) w w') (hx : allE t l = x) (h0 : x ≠ 0) : AllPost t l w (.returned (.tuple #[.slice none 0 0, .int .i64 x])) w' := by
  have e : allL t l = [] := by unfold allL; rw [if_neg (by rw [hx]; exact h0)]
  exact ⟨none, 0, 0, by rw [e, hx]; rfl, by rw [e]; exact KRow.nil _ _ _, fun h => absurd h (by omega), hf⟩

end Go.Proofs.Ytmgejkenpfihmaa

