import Derived.Test.YtmhljehkodhggaaGreatE1
/- Which outages may be. -/
namespace Go.Proofs.YtmhljehkodhggaaGreat
open Go.RowKit

def outOk (o : Otg) : Bool := isIn o.fr 0 2147483648 && isIn o.to 0 2147483648 && decide (o.fr < o.to) && isIn o.st 1 65535
def outsOk (l : List Otg) : Bool := decide (l.length ≤ 100) && l.all outOk
def outsE (l : List Otg) : Int := if outsOk l then 0 else 80

theorem CAt.ot {w : World} {ao : Option Addr} {l : List Otg} (h : CAt w ao (otV l)) {i : Nat} (hi : i < l.length) : ∃ b off, ao = some ⟨b, off, none⟩ ∧
    w.cell? ⟨b, off + i * 3, none⟩ = some (.int .i64 l[i].st) ∧ w.cell? ⟨b, off + i * 3 + 1, none⟩ = some (.int .i64 l[i].fr) ∧ w.cell? ⟨b, off + i * 3 + 2, none⟩ = some (.int .i64 l[i].to) := by
  have hl := otV_length l
  obtain ⟨b, off, e, hc⟩ := h (by omega)
  have g := fun c hc' => flat_get otC 3 (fun _ => rfl) l i hi c hc'
  have q : ∀ c (hc' : c < 3) v, (otC l[i])[c]? = some v → w.cell? ⟨b, off + (i * 3 + c), none⟩ = some v := fun c hc' v hv => by
    have h1 := hc (i * 3 + c) (by omega)
    have h2 := g c hc'
    rw [hv] at h2
    rw [h1]
    have h3 : (otV l)[i * 3 + c]? = some v := h2
    rw [List.getElem?_eq_getElem (by omega)] at h3
    exact h3
  exact ⟨b, off, e, q 0 (by omega) _ rfl, q 1 (by omega) _ rfl, q 2 (by omega) _ rfl⟩

def otA (o : Otg) : Value := .agg #[.int .i64 o.st, .int .i64 o.fr, .int .i64 o.to]

/-- The first index that is as wanted, or -1. -/
def ixO (p : Otg → Bool) : List Otg → Nat → Int
  | [], _ => -1
  | b :: r, i => if p b then (i : Int) else ixO p r (i + 1)

theorem ixO_any (p : Otg → Bool) : ∀ (l : List Otg) (i : Nat), decide (0 ≤ ixO p l i) = l.any p
  | [], _ => rfl
  | b :: r, i => by
    rw [ixO, List.any_cons]
    cases p b with
    | true => simp
    | false => simpa using ixO_any p r (i + 1)

end Go.Proofs.YtmhljehkodhggaaGreat

