import Derived.Test.YtkjoojamkbpfcaaGreatBI
import Derived.Test.YtkjoojamkbpfcaaGreatFX
import Derived.Test.YtkjoojamkbpfcaaGreatHX
/- The document's own answers: records of a fixed number of pieces, written and read. -/
namespace Go.Proofs.YtkjoojamkbpfcaaGreat
open Go.RowKit

theorem newY (w : World) (t : TypeId) : WAt (w.alloc (.cells #[.slice none 0 0, .bool false] t)) w.heap.size w.heap.size [] :=
  ⟨⟨none, 0, by simp, fun h => absurd h (by omega), Row.nil _ _⟩, by simp, by simp, by simp, by simp⟩

/-- The document's writer, and a box beside it. -/
structure YB (w : World) (p g b : Nat) (st : Option (List UInt8)) (cs : Array Value) (t : TypeId) : Prop where
  s : YSt w p g st
  x : Bx w b cs t
  np : b ≠ p
  ng : b ≠ g

theorem YB.next {w w' : World} {p g b : Nat} {st st' : Option (List UInt8)} {cs : Array Value} {t : TypeId} (h : YB w p g b st cs t) (k : YPuts p g st' w w') : ∃ g', YB w' p g' b st' cs t ∧ (g' = g ∨ w.heap.size ≤ g') ∧ Fr (fun k => k = p ∨ k = g) w w' := by
  obtain ⟨g', k1, k2, k3⟩ := k
  have := h.x.lt
  have := h.ng
  exact ⟨g', ⟨k1, h.x.frame k2 (by have := h.np; omega), h.np, by omega⟩, k3, k2⟩

theorem ybytes {w : World} {p g : Nat} {s : Option (List UInt8)} (h : YSt w p g s) (L : Nat) (hL : Most s L) (hf : L ≤ 140737488355328) : Calls Tryz.prog 24 #[.pointer (some ⟨p, 0, none⟩)] w (Wrote w (s.getD []) (codeOf s)) := by
  cases s with
  | some bs =>
    refine (ybytes_ok h (Nat.le_trans (hL bs rfl) hf)).mono ?_
    rintro e w' ⟨v, g', rfl, hr, hF, hg⟩
    obtain ⟨ao, cap, rfl, _⟩ := hr.shape
    exact ⟨ao, cap, g', rfl, hr, fun _ => hg, hF⟩
  | none =>
    refine (ybytes_bad h.1).mono ?_
    rintro e w' ⟨rfl, rfl⟩
    exact ⟨none, 0, 0, rfl, Row.nil _ _, fun h => absurd h (by omega), Fr.refl _ _⟩

/-- A fault's place is 0 where there is no fault. -/
def Clean (s : RS) : Prop := s.c = 0 → s.f = 0

theorem stepR_clean {s : RS} (h : Clean s) (z : Value) {o : Except Int (Value × Nat)} (ho : ∀ x, o = .error x → x ≠ 0) : Clean (stepR s z o).2 := by
  unfold stepR
  split
  · rename_i hc
    cases o with
    | ok va => exact fun _ => h hc
    | error x => exact fun hx => absurd hx (ho x rfl)
  · exact h

theorem kd_error (bs : List UInt8) (a : Nat) (k : Kd) (x : Int) (h : k.o bs a = .error x) : x ≠ 0 := by
  cases k <;> simp only [Kd.o, oNumber, oInt, oFloat, oBool, oFixed] at h
  · split at h
    · injection h with h; omega
    split at h
    · injection h with h; omega
    split at h
    · injection h with h; omega
    · cases h
  · split at h
    · injection h with h; omega
    · cases h
  · split at h
    · injection h with h; omega
    split at h
    · injection h with h; omega
    · cases h
  · split at h
    · injection h with h; omega
    split at h
    · injection h with h; omega
    · cases h
  · split at h
    · injection h with h; omega
    split at h
    · injection h with h; omega
    · cases h

theorem rd_clean {bs : List UInt8} {s : RS} (h : Clean s) (k : Kd) : Clean (k.rd bs s).2 := stepR_clean h _ (fun x hx => kd_error bs _ k x hx)
theorem rdL_clean {bs : List UInt8} (ks : List Kd) {s : RS} (h : Clean s) : Clean (rdL bs ks s).2 := by
  induction ks generalizing s with
  | nil => exact h
  | cons k ks ih => exact ih (rd_clean h k)
theorem count_error (bs : List UInt8) (a : Nat) (most : Int) (x : Int) (h : oCount bs a most = .error x) : x ≠ 0 := by
  unfold oCount at h
  split at h
  · injection h with h; omega
  split at h
  · injection h with h; omega
  split at h
  · injection h with h; omega
  · cases h
theorem rdN_clean {bs : List UInt8} (ks : List Kd) (n : Nat) {s : RS} (h : Clean s) : Clean (rdN bs ks n s).2 := by
  induction n generalizing s with
  | zero => exact h
  | succ n ih => exact ih (rdL_clean ks h)
theorem rdM_clean {bs : List UInt8} (most : Nat) (ks : List Kd) {s : RS} (h : Clean s) : Clean (rdM bs most ks s).2 := rdN_clean ks _ (stepR_clean h _ (fun x hx => count_error bs _ _ x hx))
theorem endR_clean {s : RS} (h : Clean s) (n : Nat) : Clean (endR s n) := by
  unfold endR
  split
  · intro hx; simp at hx
  · exact h
theorem clean0 : Clean s00 := fun _ => rfl

/-- The document's reader, and a box beside it. -/
structure XB (w : World) (p : Nat) (ao : Option Addr) (cap : Nat) (bs : List UInt8) (s : RS) (b : Nat) (cs : Array Value) (t : TypeId) : Prop where
  r : XAt w p ao cap bs s
  x : Bx w b cs t
  np : b ≠ p
  ng : ∀ b' off, ao = some ⟨b', off, none⟩ → 0 < bs.length → b ≠ b'

theorem XB.step {w w' : World} {p b : Nat} {ao : Option Addr} {cap : Nat} {bs : List UInt8} {s s' : RS} {cs : Array Value} {t : TypeId} (h : XB w p ao cap bs s b cs t) (hr : XAt w' p ao cap bs s') (hf : Fr (· = p) w w') (o : Nat) (v : Value) :
    XB (w'.setCell ⟨b, o, none⟩ v) p ao cap bs s' b (cs.setIfInBounds o v) t :=
  ⟨XAt.setOther hr h.np h.ng v, (h.x.frame hf h.np).setCell o v, h.np, h.ng⟩

/-- The fault behind the last piece. -/
def endF (z : RS) (ok : Bool) : Int × Int := if z.c = 0 ∧ ok = false then (80, -1) else (z.c, z.f)

end Go.Proofs.YtkjoojamkbpfcaaGreat

/- The document's own readings: records of a fixed number of pieces. -/
namespace Go.Proofs.YtkjoojamkbpfcaaGreat
open Go.RowKit

theorem newX (w : World) (ao : Option Addr) (cap : Nat) (bs : List UInt8) (h : BIn w ao cap bs) (hc : bs.length ≤ cap) (hm : cap ≤ 9223372036854775807) (t : TypeId) : XAt (w.alloc (.cells #[.slice ao bs.length cap, .int .i64 0, .int .i64 0, .int .i64 0, .int .i64 0] t)) w.heap.size ao cap bs s00 := by
  have hb := Bx.new w #[.slice ao bs.length cap, .int .i64 0, .int .i64 0, .int .i64 0, .int .i64 0] t
  refine ⟨hb.cell 0, hb.cell 1, hb.cell 2, hb.cell 3, hb.cell 4, fun i _ => hb.frozen i, fun h0 => ?_, Nat.zero_le _, h.fit, hc, hm⟩
  obtain ⟨b, off, e, hcell⟩ := h.cell h0
  exact ⟨b, off, e, Nat.ne_of_lt (World.block_lt_of_cell? _ _ (hcell 0 h0)), fun j hj => (World.cell?_alloc_lt _ _ _ (World.block_lt_of_cell? _ _ (hcell j hj))).trans (hcell j hj)⟩

theorem Fr.ofX {w w' : World} {p : Nat} (h : Fr (· = p) w w') (hp : ¬ p < w.heap.size) : Fr (fun _ => False) w w' := h.mono (fun _ hi t => hp (t ▸ hi))

theorem XAt.frameF {w w' : World} {p : Nat} {ao : Option Addr} {cap : Nat} {bs : List UInt8} {s : RS} (h : XAt w p ao cap bs s) (hf : Fr (fun _ => False) w w') : XAt w' p ao cap bs s :=
  h.stay (hf.block p h.lt (fun t => t)) (fun b _ _ _ hb => hf.block b hb (fun t => t))

end Go.Proofs.YtkjoojamkbpfcaaGreat

