/- How the laws' arguments read: a slice of bytes, a slice of pieces. -/
import Derived.Test.YtdbmojiplfkniaaD1
import Derived.ProofKit
import Derived.OpenShut
import Derived.ShutString
import Derived.ChangeOld
import Derived.Below
import Derived.SizedLaws
import Derived.Deep.Slices
namespace Go.Proofs.Ytdbmojiplfkniaa
open Go.ChangeShapes Go.WideShapes Go.ChangeAt Go.RowKit Go.Deep
open Go.ChangeMaps (open_string shut_string)

/-- A piece, as data. -/
def Pc.datum {H : Type} (q : Pc) : DataW H := .agg [.lit (.int .i64 q.kind), .lit (.int .i64 q.n), .lit (.int .i64 q.size), .lit (.float .f64 q.x), .lit (.bool q.is), .lit (.string q.s.data.toList)]

/-- Its numbers fit their kinds. -/
def Pc.fits (q : Pc) : Prop := (Lit.int .i64 q.kind).wf = true ∧ (Lit.int .i64 q.n).wf = true ∧ (Lit.int .i64 q.size).wf = true ∧ (Lit.float .f64 q.x).wf = true

section
variable {H : Type} {enc : TypeId × Value → H} {w : World} {base : Nat} {spare : Nat → Bool} {held : Bool}

theorem trod_float {P : Program} {t : TypeId} {k : FloatKind} {fuel : Nat} {cs : List Value} {x : DataW H × List MemPlace} (ht : P.underlying t = some (.float k)) (h : DataW.trod enc P w base spare held fuel t cs = some x) : ∃ b, cs = [.float k b] ∧ x = (.lit (.float k b), []) ∧ (Lit.float k b).wf = true := by
  cases fuel with
  | zero => simp [DataW.trod] at h
  | succ n =>
    unfold DataW.trod at h
    rw [ht] at h
    split at h <;> simp_all

theorem Try.cells34 : Try.prog.cellsOf 34 = 6 := by kernel_rfl

theorem one_of {l : List Value} {i : Nat} {v : Value} (h : (l.drop i).take 1 = [v]) : l[i]? = some v := by
  have : ((l.drop i).take 1)[0]? = some v := by rw [h]; rfl
  simpa using this

theorem open_piece {fuel : Nat} {cs : List Value} {x : DataW H × List MemPlace} (h : DataW.trod enc Try.prog w base spare held fuel 34 cs = some x) :
    ∃ q : Pc, cs = q.vals.toList ∧ x.1 = q.datum ∧ q.fits := by
  obtain ⟨xs, n, _, rfl, hl, hlen, hf⟩ := DataW.trod_struct Try.underlying34 h
  rw [Try.cells34] at hl
  have g0 := hf 0 _ rfl
  have g1 := hf 1 _ rfl
  have g2 := hf 2 _ rfl
  have g3 := hf 3 _ rfl
  have g4 := hf 4 _ rfl
  have g5 := hf 5 _ rfl
  match xs, hlen with
  | [y0, y1, y2, y3, y4, y5], _ =>
    simp only [List.getElem?_cons_zero, List.getElem?_cons_succ] at g0 g1 g2 g3 g4 g5
    obtain ⟨a0, e0, rfl, w0⟩ := DataW.trod_int Try.underlying3 g0
    obtain ⟨a1, e1, rfl, w1⟩ := DataW.trod_int Try.underlying3 g1
    obtain ⟨a2, e2, rfl, w2⟩ := DataW.trod_int Try.underlying3 g2
    obtain ⟨a3, e3, rfl, w3⟩ := trod_float Try.underlying32 g3
    obtain ⟨a4, e4, rfl⟩ := DataW.trod_bool Try.underlying4 g4
    obtain ⟨a5, e5, rfl, w5⟩ := DataW.trod_string Try.underlying9 g5
    refine ⟨⟨a0, a1, a2, a3, a4, a5⟩, ?_, by simp [Pc.datum], w0, w1, w2, w3⟩
    match cs, hl with
    | [c0, c1, c2, c3, c4, c5], _ =>
      have f0 := one_of e0
      have f1 := one_of e1
      have f2 := one_of e2
      have f3 := one_of e3
      have f4 := one_of e4
      have f5 := one_of e5
      simp at f0 f1 f2 f3 f4 f5
      simp [Pc.vals, f0, f1, f2, f3, f4, f5]

theorem list_of {α : Type} {Good : Nat → α → Prop} : ∀ n, (∀ j, j < n → ∃ q, Good j q) → ∃ l : List α, l.length = n ∧ ∀ j (hj : j < l.length), Good j l[j]
  | 0, _ => ⟨[], rfl, fun j hj => absurd hj (by simp)⟩
  | n + 1, h => by
    obtain ⟨l, hl, hg⟩ := list_of n (fun j hj => h j (by omega))
    obtain ⟨q, hq⟩ := h n (by omega)
    refine ⟨l ++ [q], by simp [hl], fun j hj => ?_⟩
    by_cases hj2 : j < l.length
    · rw [List.getElem_append_left hj2]; exact hg j hj2
    · have : j = n := by simp at hj; omega
      subst this
      rw [List.getElem_append_right (by omega)]
      simpa using hq

theorem add_plain (b off k : Nat) : (⟨b, off, none⟩ : Addr).add k = ⟨b, off + k, none⟩ := Addr.add_lit ..

/-- A slice of pieces. -/
theorem open_pieces {fuel : Nat} {a0 : Option Addr} {len cap : Nat} {x : DataW H × List MemPlace} (h : DataW.trod enc Try.prog w 0 (fun _ => true) held fuel 22 [.slice a0 len cap] = some x) :
    ∃ ps : List Pc, ps.length = len ∧ (0 < ps.length → ∃ b off, a0 = some ⟨b, off, none⟩ ∧ ∀ j (hj : j < ps.length) i, i < 6 → w.cell? ⟨b, off + j * 6 + i, none⟩ = (ps[j].vals)[i]?) ∧ (∀ q ∈ ps, q.fits) ∧
      ((ps = [] ∧ x.1 = .nil) ∨ ∃ rest, x.1 = .slice (ps.map Pc.datum) rest) := by
  rcases open_slice Try.underlying22 h with ⟨hcs, hx⟩ | ⟨a, len', cap', m, n, D, Pl, hcs, hb, hl, hm, hmm, hx, hel⟩
  · simp at hcs
    obtain ⟨rfl, rfl, rfl⟩ := hcs
    exact ⟨[], rfl, fun h0 => absurd h0 (by simp), fun q hq => (by cases hq), .inl ⟨rfl, by rw [hx]⟩⟩
  · simp at hcs
    obtain ⟨rfl, rfl, rfl⟩ := hcs
    rw [Try.cells34] at hel
    have hmc : m = cap := by simpa using hmm
    obtain ⟨ps, hpl, hps⟩ := list_of (Good := fun j (q : Pc) => D j = q.datum ∧ q.fits ∧ ∀ i, i < 6 → w.cell? ((a.add (j * 6)).add i) = (q.vals)[i]?) len (fun j hj => by
      obtain ⟨cs', h1, h2⟩ := hel j (by omega)
      obtain ⟨q, e1, e2, e3⟩ := open_piece h2
      obtain ⟨_, _, h4⟩ := World.cells?_some h1
      refine ⟨q, e2, e3, fun i hi => ?_⟩
      rw [h4 i hi, e1]
      simp)
    refine ⟨ps, hpl, fun h0 => ?_, fun q hq => ?_, .inr ⟨(List.range (m - len)).map fun j => D (len + j), ?_⟩⟩
    · obtain ⟨b, off, spot⟩ := a
      have hc := (hps 0 (by omega)).2.2 0 (by omega)
      have hspot : spot = none := by
        have hv : (ps[0].vals)[0]? = some (.int .i64 ps[0].kind) := rfl
        rw [hv] at hc
        simpa [Addr.add] using World.cell?_spot hc
      subst hspot
      refine ⟨b, off, rfl, fun j hj i hi => ?_⟩
      have := (hps j hj).2.2 i hi
      rwa [add_plain, add_plain] at this
    · obtain ⟨j, hj, rfl⟩ := List.getElem_of_mem hq
      exact (hps j hj).2.1
    · rw [hx]
      have e : (List.range len).map D = ps.map Pc.datum := by
        apply List.ext_getElem
        · simp [hpl]
        · intro j h1 h2
          simp at h1 h2 ⊢
          exact (hps j h2).1
      rw [e]

/-- A slice of bytes. -/
theorem open_bytes {fuel : Nat} {a0 : Option Addr} {len cap : Nat} {x : DataW H × List MemPlace} (h : DataW.trod enc Try.prog w 0 (fun _ => true) held fuel 27 [.slice a0 len cap] = some x) :
    ∃ bs : List UInt8, bs.length = len ∧ (a0 = none → bs.length = 0 ∧ cap = 0) ∧ (0 < bs.length → ∃ b off, a0 = some ⟨b, off, none⟩ ∧ ∀ j (hj : j < bs.length), w.cell? ⟨b, off + j, none⟩ = some (.int .u8 (bs[j].toNat))) ∧
      ((bs = [] ∧ x.1 = .nil) ∨ ∃ elems rest, x.1 = .slice elems rest ∧ elems.length = bs.length) := by
  rcases open_ints Try.underlying27 Try.underlying5 (by kernel_rfl) h with ⟨hcs, hx⟩ | ⟨a, l, c, zs, hcs, _, hl, hm, hz, hx, hcell, hwz⟩
  · simp at hcs
    obtain ⟨rfl, rfl, rfl⟩ := hcs
    exact ⟨[], rfl, fun _ => ⟨rfl, rfl⟩, fun h0 => absurd h0 (by simp), .inl ⟨rfl, by rw [hx]⟩⟩
  · simp at hcs
    obtain ⟨rfl, rfl, rfl⟩ := hcs
    have hz' : zs.length = cap := by simpa using hz
    refine ⟨(zs.take len).map (fun z => UInt8.ofNat z.toNat), by simp; omega, fun e => (by cases e), fun h0 => ?_, .inr ?_⟩
    · simp at h0
      obtain ⟨b, off, spot⟩ := a
      have hc := hcell 0 (by omega)
      have hspot : spot = none := by simpa [Addr.add] using World.cell?_spot hc
      subst hspot
      refine ⟨b, off, rfl, fun j hj => ?_⟩
      have hj2 : j < zs.length := by simp at hj; omega
      have hjl : j < len := by simp at hj; omega
      have h1 := hcell j hj2
      rw [add_plain] at h1
      rw [h1]
      have hw := hwz (zs.getD j 0) (by simp [List.getD, hj2])
      have hb : 0 ≤ zs.getD j 0 ∧ zs.getD j 0 ≤ 255 := by simpa [Lit.wf, IntKind.min, IntKind.max, IntKind.signed, IntKind.bits] using hw
      have e2 : zs[j]?.getD 0 = zs[j] := by simp [hj2]
      simp only [List.getD, e2] at hb ⊢
      simp
      omega
    · rw [hx]
      exact ⟨_, _, rfl, by simp [lits]⟩

end
end Go.Proofs.Ytdbmojiplfkniaa
