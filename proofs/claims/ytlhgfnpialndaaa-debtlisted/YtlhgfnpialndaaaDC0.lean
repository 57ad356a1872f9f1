import Derived.Test.YtlhgfnpialndaaaDB9
import Derived.Deep.CutBlock
/- Calls as rows; what Set and Pay do to one token's account. -/
namespace Go.Proofs.Ytlhgfnpialndaaa
open Go.RowKit Go.Maps

structure Opd where
  act : Int
  n : Int
  tok : ByteArray
def opL (o : Opd) : List Value := [.int .i64 o.act, .int .i64 o.n, .string o.tok]
def opV (l : List Opd) : List Value := l.flatMap opL
theorem opV_length (l : List Opd) : (opV l).length = l.length * 3 := by
  unfold opV
  induction l with
  | nil => rfl
  | cons a r ih => rw [List.flatMap_cons, List.length_append, ih, List.length_cons]; simp [opL]; omega
theorem CAt.opK {w : World} {ao : Option Addr} {l : List Opd} (h : CAt w ao (opV l)) {i : Nat} (hi : i < l.length) : ∃ b off, ao = some ⟨b, off, none⟩ ∧
    w.cell? ⟨b, off + i * 3, none⟩ = some (.int .i64 l[i].act) ∧ w.cell? ⟨b, off + i * 3 + 1, none⟩ = some (.int .i64 l[i].n) ∧ w.cell? ⟨b, off + i * 3 + 2, none⟩ = some (.string l[i].tok) := by
  have hl := opV_length l
  obtain ⟨b, off, e, hc⟩ := h (by omega)
  have g := fun c hc' => flat_get opL 3 (fun _ => rfl) l i hi c hc'
  have q : ∀ c (hc' : c < 3) v, (opL l[i])[c]? = some v → w.cell? ⟨b, off + (i * 3 + c), none⟩ = some v := fun c hc' v hv => by
    have h1 := hc (i * 3 + c) (by omega)
    have h2 := g c hc'
    rw [hv] at h2
    rw [h1]
    have h3 : (opV l)[i * 3 + c]? = some v := h2
    rw [List.getElem?_eq_getElem (by omega)] at h3
    exact h3
  exact ⟨b, off, e, q 0 (by omega) _ rfl, q 1 (by omega) _ rfl, q 2 (by omega) _ rfl⟩

theorem getK_put {l : List Ac} (h : Rk l) (x : Ac) (t : ByteArray) : getK (putK l x) t = if eqS x.tok t then x else getK l t := by
  unfold getK
  rw [putK_at h]
  split <;> rfl
theorem setK_cases {l : List Ac} (h : Bk l) (t : ByteArray) (n : Int) : (∃ e, e ≠ 0 ∧ setK l t n = (l, 0, 0, e)) ∨
    ∃ l' m k, setK l t n = (l', m, k, 0) ∧ 0 ≤ k ∧ (getK l' t).charged = (getK l t).charged + m ∧ (getK l' t).paid = (getK l t).paid - k := by
  unfold setK
  split
  · exact Or.inl ⟨220, by decide, rfl⟩
  · split
    · exact Or.inl ⟨2, by decide, rfl⟩
    · refine Or.inr ⟨_, _, _, rfl, by omega, ?_, ?_⟩
      · rw [getK_put h.rk]
        simp only [eqS_self, if_true]
        omega
      · rw [getK_put h.rk]
        simp only [eqS_self, if_true]
        omega
theorem payK_cases {l : List Ac} (h : Bk l) (t : ByteArray) (n : Int) : payK l t n = (l, 220) ∨
    ∃ l', payK l t n = (l', 0) ∧ (getK l' t).charged = (getK l t).charged ∧ (getK l' t).paid = (getK l t).paid + n := by
  unfold payK
  split
  · exact Or.inl rfl
  · refine Or.inr ⟨_, rfl, ?_, ?_⟩
    · rw [getK_put h.rk]
      simp only [eqS_self, if_true]
    · rw [getK_put h.rk]
      simp only [eqS_self, if_true]
theorem getK_none {l : List Ac} {t : ByteArray} (h : (atK l t).isSome = false) : getK l t = zA := by
  unfold getK
  cases e : atK l t with
  | none => rfl
  | some a => rw [e] at h; cases h
end Go.Proofs.Ytlhgfnpialndaaa

