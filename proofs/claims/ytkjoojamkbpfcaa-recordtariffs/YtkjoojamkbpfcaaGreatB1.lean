/- Contracts: bytes.Clone, NewReader, Fail, End, NewWriter. -/
import Derived.Test.YtkjoojamkbpfcaaGreatA5
import Derived.Test.YtkjoojamkbpfcaaGreatB0
namespace Go.Proofs.YtkjoojamkbpfcaaGreat
open Go.RowKit

theorem Tryz.info5 : (Tryz.prog.info? 5).map (fun i => (i.zero, i.size, i.bytes)) = some (some (.int .u8 0), 1, 1) := by kernel_rfl

/-- What a copy is. -/
def Cloned (w : World) (bs : List UInt8) (e : Ending) (w' : World) : Prop := ∃ v g, e = .returned v ∧ Row w' v g bs ∧ Fr (fun _ => False) w w' ∧ w.heap.size ≤ g

theorem clone_any (w : World) (ao : Option Addr) (cap : Nat) (bs : List UInt8) (hnil : ao = none → bs.length = 0 ∧ cap = 0)
    (hcell : 0 < bs.length → ∃ b off, ao = some ⟨b, off, none⟩ ∧ ∀ j (hj : j < bs.length), w.cell? ⟨b, off + j, none⟩ = some (.int .u8 (bs[j].toNat))) (hfit : bs.length ≤ 140737488355328) :
    Calls Tryz.prog 79 #[.slice ao bs.length cap] w (Cloned w bs) := by
  obtain ⟨i0, hi, hz0, hz1, hz2⟩ := info_parts Tryz.info5
  have heq := @Lib.run_eql_slice_nil Tryz.prog
  cases ao with
  | none =>
    obtain ⟨h1, rfl⟩ := hnil rfl
    have hb : bs = [] := List.eq_nil_of_length_eq_zero h1
    subst hb
    clear hcell
    go_enter Tryz.func79, Tryz.ntmps79
    go_wp2
    go_ret
    exact ⟨_, w.heap.size, rfl, Row.nil _ _, Fr.refl _ _, Nat.le_refl _⟩
  | some x =>
    have hsrc : ∀ w', (∀ b o v, w.cell? ⟨b, o, none⟩ = some v → w'.cell? ⟨b, o, none⟩ = some v) → Src Tryz.prog 1 28 (.slice (some x) bs.length cap) bs.length (bytesV bs) w' := by
      intro w' hw'
      refine src_slice Tryz.underlying28 w' (some x) cap bs (fun h0 => ?_)
      obtain ⟨b, off, hx, hc⟩ := hcell h0
      exact ⟨b, off, hx, fun j hj => hw' _ _ _ (hc j hj)⟩
    have HC := hide hsrc
    clear hcell hnil hsrc
    go_enter Tryz.func79, Tryz.ntmps79
    go_wp2_with (at_builtin; refine wpList_append_row _ rfl (.tmp 5) (.tmp 6) 28 28 rfl 5 i0 Tryz.underlying28 hi hz0 hz1 hz2 (g := w.heap.size) (bs := []) (cap := 0) rfl ?hrow _ bs rfl ?hsrc ?hfit ?next)
    case hrow => exact ⟨⟨_, 0, rfl, Nat.le_refl _, Nat.zero_le _, fun h => absurd h (by omega), fun j hj => absurd hj (by omega)⟩, fun j hj => absurd hj (by simp)⟩
    case hsrc => exact unhide HC _ (fun b o v hv => (World.cell?_alloc_lt _ _ _ (World.block_lt_of_cell? _ _ hv)).trans hv)
    case hfit => simpa using hfit
    case next =>
      intro ao' cap' w' g' hrow hfr hg
      have HR := hide (And.intro hrow (And.intro hfr hg))
      clear hrow hfr hg HC
      go_wp2
      go_ret
      obtain ⟨h1, h2, h3⟩ := unhide HR
      exact ⟨_, g', rfl, by simpa using h1, ((Fr.refl _ w).alloc _).trans h2 (fun i hi t => by omega), by rcases h3 with ⟨rfl, _⟩ | h3; exact Nat.le_refl _; omega⟩

/-- A new reader, over a copy of the bytes. -/
def NewR (w : World) (bs : List UInt8) (e : Ending) (w' : World) : Prop := ∃ p g, e = .returned (.pointer (some ⟨p, 0, none⟩)) ∧ (RS.mk 0 0 0 0).At w' p g bs ∧ Fr (fun _ => False) w w' ∧ w.heap.size ≤ g ∧ w.heap.size ≤ p

theorem newreader_any (w : World) (ao : Option Addr) (cap : Nat) (bs : List UInt8) (hnil : ao = none → bs.length = 0 ∧ cap = 0)
    (hcell : 0 < bs.length → ∃ b off, ao = some ⟨b, off, none⟩ ∧ ∀ j (hj : j < bs.length), w.cell? ⟨b, off + j, none⟩ = some (.int .u8 (bs[j].toNat))) (hfit : bs.length ≤ 140737488355328) :
    Calls Tryz.prog 65 #[.slice ao bs.length cap] w (NewR w bs) := by
  have HC := hide (clone_any w ao cap bs hnil hcell hfit)
  have hf2 := hfit
  clear hnil hcell hfit
  go_enter Tryz.func65, Tryz.ntmps65
  go_wp2_with fail
  refine (unhide HC).mono ?_
  rintro e w1 ⟨v, g, rfl, hrow, hfr, hg⟩
  obtain ⟨ao', cap', rfl, h1, h2, h3, h4⟩ := hrow.shape
  have HR := hide (And.intro hrow (And.intro hfr (And.intro hg (And.intro h1 (And.intro h2 h3)))))
  clear hrow hfr hg h1 h2 h3 h4 HC
  go_wp2
  go_ret
  obtain ⟨hrow, hfr, hg, h1, h2, h3⟩ := unhide HR
  refine ⟨w1.heap.size, g, rfl, ⟨⟨ao', cap', by simp, h1, h2, h3⟩, by simp, by simp, by simp, by simp, fun i _ => World.frozen?_alloc_new _ _ _ _, fun j hj => ?_, fun h0 => ?_, Nat.zero_le _, hf2⟩, hfr.alloc _, hg, hfr.size⟩
  · have hc := hrow.cells j hj
    exact (World.cell?_alloc_lt _ _ _ (World.block_lt_of_cell? _ _ hc)).trans hc
  · have := World.block_lt_of_cell? _ _ (hrow.cells 0 h0)
    exact Nat.ne_of_lt this

/-- Fail: the state behind it. -/
def failR (s : RS) (e : Int) : RS := if s.c = 0 ∧ e ≠ 0 then { s with c := e, f := s.l } else s
/-- End: the state behind it. -/
def endR (s : RS) (n : Nat) : RS := if s.c = 0 ∧ s.a < n then { s with c := 13, f := s.a } else s

section
variable {w : World} {p g : Nat} {bs : List UInt8} {s : RS}

end

/-- A new writer: nothing in it. -/
theorem newwriter_any (w : World) : Calls Tryz.prog 35 #[] w fun e w' => e = .returned (.pointer (some ⟨w.heap.size, 0, none⟩)) ∧ w' = w.alloc (.cells #[.slice none 0 0, .bool false] 130) := by
  go_enter Tryz.func35, Tryz.ntmps35
  go_wp2
  go_ret
  exact ⟨rfl, rfl⟩

end Go.Proofs.YtkjoojamkbpfcaaGreat
