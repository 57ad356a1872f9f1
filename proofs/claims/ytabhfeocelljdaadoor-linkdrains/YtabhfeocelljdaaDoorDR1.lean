import Derived.Test.YtabhfeocelljdaaDoorDR0
import Derived.Test.YtabhfeocelljdaaDoorZCG
import Derived.Test.YtabhfeocelljdaaDoorZG7
/- LinkDrains: its memory. -/
namespace Go.Proofs.YtabhfeocelljdaaDoor
open Go.RowKit Go.Maps

/-- The items' bytes. -/
def byL (n : Nat) : List (List UInt8) := (List.range n).map (fun i => [UInt8.ofNat (i + 1)])
theorem byL_length (n : Nat) : (byL n).length = n := by simp [byL]
theorem byL_succ (n : Nat) : byL (n + 1) = byL n ++ [[UInt8.ofNat (n + 1)]] := by simp [byL, List.range_succ]
theorem byL_small (n : Nat) : ∀ b ∈ byL n, b.length = 1 := by
  intro b hb
  simp [byL] at hb
  obtain ⟨_, _, rfl⟩ := hb
  rfl

/-- A byte in a block of its own. -/
theorem row_byte (w : World) (i : Nat) (hi : i < 256) : Row (w.alloc (.cells #[.int .u8 (i : Int)] 5)) (.slice (some ⟨w.heap.size, 0, none⟩) 1 1) w.heap.size [UInt8.ofNat i] := by
  have hb := Bx.new w #[.int .u8 (i : Int)] 5
  refine ⟨⟨some ⟨w.heap.size, 0, none⟩, 1, rfl, by simp, by simp [maxLen], fun _ => rfl, fun j hj => ?_⟩, fun j hj => ?_⟩
  · have hj0 : j = 0 := by omega
    subst hj0
    exact ⟨by rw [hb.cell 0]; rfl, hb.frozen 0⟩
  · have hj0 : j = 0 := by simpa using hj
    subst hj0
    rw [hb.cell 0]
    simp
    omega

/-- Items that lie apart from all that changes. -/
theorem QL.far {M : Nat} {wI u : World} {io : Option Addr} {ic ib : Nat} {es : List (Int × RD)} {xs : List Itm} (h : QL M wI io ic ib es xs) (k : Fr (fun k => k < M ∨ wI.heap.size ≤ k) wI u) : QL M u io ic ib es xs :=
  h.stay (S := fun k => k < M) (k.mono (fun i hi t => by have t : i < M ∨ wI.heap.size ≤ i := t; show i < M; omega)) (fun i t => t)
theorem QL.from_ {M : Nat} {wk : World} {io : Option Addr} {ic ib : Nat} {es : List (Int × RD)} {xs : List Itm} (h : QL M wk io ic ib es xs) (hs : xs.length ≤ 140737488355328) {g : Nat} (hg : g < xs.length) : io = some ⟨ib, 0, none⟩ ∧ ItsAt wk (some ⟨ib, g * 2, none⟩) (xs.drop g) := by
  have hi := h.its hs
  obtain ⟨b, off, e, hc⟩ := hi.cells (by omega)
  have hle := h.row.le
  rw [flat2_len, h.n1] at hle
  have e2 := h.row.ad (by omega)
  rw [e2] at e
  injection e with e
  injection e with e3 e4 _
  subst e3 e4
  refine ⟨e2, ⟨fun _ => ⟨ib, g * 2, rfl, fun i hi => ?_⟩, by rw [List.length_drop]; omega⟩⟩
  have hi' : g + i < xs.length := by rw [List.length_drop] at hi; omega
  obtain ⟨c1, ao, cap, c2, c3⟩ := hc (g + i) hi'
  rw [List.getElem_drop]
  refine ⟨?_, ao, cap, ?_, c3⟩
  · rw [show g * 2 + i * 2 = 0 + (g + i) * 2 by omega]; exact c1
  · rw [show g * 2 + i * 2 + 1 = 0 + (g + i) * 2 + 1 by omega]; exact c2

/-- What the law holds in memory. -/
structure DM (w wI : World) (M p b q mb : Nat) (s : Snd) (R : Int) (ms : List Int) (wr : World) : Prop where
  fr : Fr (fun _ => False) w wr
  fi : Fr (fun k => k < M ∨ wI.heap.size ≤ k) wI wr
  sn : SN wr p b s
  rv : RV wr q R
  bx : Bx wr mb (ms.map (Value.int .i64)).toArray 3
  lo : w.heap.size ≤ p ∧ w.heap.size ≤ b ∧ w.heap.size ≤ q ∧ w.heap.size ≤ mb
  hi : p < M ∧ b < M ∧ q < M ∧ wI.heap.size ≤ mb ∧ M ≤ wI.heap.size
  ne : q ≠ p ∧ q ≠ b
section
variable {w wI : World} {M p b q mb : Nat} {s : Snd} {R : Int} {ms : List Int} {wr w' : World}
theorem DM.keep (h : DM w wI M p b q mb s R ms wr) (k : Fr (fun _ => False) wr w') : DM w wI M p b q mb s R ms w' :=
  ⟨h.fr.trans k (fun _ _ t => t), h.fi.trans k (fun _ _ t => t.elim), h.sn.frame k (fun t => t) (fun t => t), Bx.keep h.rv k, h.bx.keep k, h.lo, h.hi, h.ne⟩
theorem DM.tick (h : DM w wI M p b q mb s R ms wr) {s' : Snd} (k : Fr (fun k => k = p ∨ k = b) wr w') (hs : SN w' p b s') : DM w wI M p b q mb s' R ms w' := by
  obtain ⟨l1, l2, l3, l4⟩ := h.lo
  obtain ⟨a1, a2, a3, a4, a5⟩ := h.hi
  obtain ⟨n1, n2⟩ := h.ne
  exact ⟨h.fr.trans k (fun i hi t => by have t : i = p ∨ i = b := t; omega), h.fi.trans k (fun i hi t => by have t : i = p ∨ i = b := t; show i < M ∨ _; omega), hs, Bx.frame h.rv k (fun t => by have t : q = p ∨ q = b := t; omega), h.bx.frame k (fun t => by have t : mb = p ∨ mb = b := t; omega), h.lo, h.hi, h.ne⟩
theorem DM.recv (h : DM w wI M p b q mb s R ms wr) {R' : Int} (k : Fr (fun k => k = q) wr w') (hr : RV w' q R') : DM w wI M p b q mb s R' ms w' := by
  obtain ⟨l1, l2, l3, l4⟩ := h.lo
  obtain ⟨a1, a2, a3, a4, a5⟩ := h.hi
  obtain ⟨n1, n2⟩ := h.ne
  exact ⟨h.fr.trans k (fun i hi t => by have t : i = q := t; omega), h.fi.trans k (fun i hi t => by have t : i = q := t; show i < M ∨ _; omega), h.sn.frame k (fun t => n1 t.symm) (fun t => n2 t.symm), hr, h.bx.frame k (fun t => by have t : mb = q := t; omega), h.lo, h.hi, h.ne⟩
theorem DM.cell (h : DM w wI M p b q mb s R ms wr) (j : Nat) (hj : j < ms.length) : wr.cell? ⟨mb, j, none⟩ = some (.int .i64 (ms.getD j 0)) ∧ wr.frozen? ⟨mb, j, none⟩ = false := by
  refine ⟨?_, h.bx.frozen j⟩
  rw [h.bx.cell j]
  simp [hj]
theorem DM.put (h : DM w wI M p b q mb s R ms wr) (j : Nat) (v : Int) : DM w wI M p b q mb s R (ms.set j v) (wr.setCell ⟨mb, j, none⟩ (.int .i64 v)) := by
  obtain ⟨l1, l2, l3, l4⟩ := h.lo
  obtain ⟨a1, a2, a3, a4, a5⟩ := h.hi
  have k : Fr (fun k => k = mb) wr (wr.setCell ⟨mb, j, none⟩ (.int .i64 v)) := Fr.setCell (S := fun k => k = mb) (Fr.refl _ _) (p := ⟨mb, j, none⟩) (fun _ => rfl) _
  refine ⟨h.fr.trans k (fun i hi t => by have t : i = mb := t; omega), h.fi.trans k (fun i hi t => by have t : i = mb := t; show i < M ∨ _; omega), h.sn.frame k (fun t => by have t : p = mb := t; omega) (fun t => by have t : b = mb := t; omega), Bx.frame h.rv k (fun t => by have t : q = mb := t; omega), ?_, h.lo, h.hi, h.ne⟩
  have := h.bx.setCell j (.int .i64 v)
  rw [List.map_set]
  simpa using this
end

/-- Losses, in memory. -/
structure BoolsAt (w : World) (ko : Option Addr) (ks : List Bool) : Prop where
  cells : 0 < ks.length → ∃ b off, ko = some ⟨b, off, none⟩ ∧ ∀ j (hj : j < ks.length), w.cell? ⟨b, off + j, none⟩ = some (.bool ks[j])
  small : ks.length ≤ 140737488355328

/-- What a receiver takes of a frame. -/
theorem got_recv {R : Int} {f : Fm} (hk : f.kind = 1) (hm : f.may = true) (hR : 0 ≤ R) (hb : 1 ≤ f.base) (hs : f.seq + f.items.length ≤ 4294967296) : (gotF R f).1 = max R f.base ∧
    ((gotF R f).2 = [] → recvF R f.base f.seq f.items.length = max R f.base) ∧ (∀ x, (gotF R f).2.getLast? = some x → takeF (max R f.base) x.seq = recvF R f.base f.seq f.items.length) := by
  have hg : gotF R f = (max R f.base, if max R f.base < f.seq then [] else gotL (max R f.base) f.seq f.items) := by unfold gotF; rw [if_pos ⟨hk, hm⟩]
  rw [hg]
  refine ⟨rfl, ?_, ?_⟩
  · intro h
    simp only at h
    unfold recvF
    by_cases t : max R f.base < f.seq
    · rw [if_pos t]
    · rw [if_neg t] at h ⊢
      rw [gotL_from _ _ _ (by omega)] at h
      have h2 := congrArg List.length h
      rw [numI_length, List.length_drop] at h2
      simp only [List.length_nil] at h2
      omega
  · intro x hx
    simp only at hx
    unfold recvF
    by_cases t : max R f.base < f.seq
    · rw [if_pos t] at hx
      simp at hx
    · rw [if_neg t] at hx ⊢
      rw [gotL_from _ _ _ (by omega), List.getLast?_eq_getElem?] at hx
      obtain ⟨h1, h2⟩ := List.getElem?_eq_some_iff.1 hx
      have h3 := numI_length (max R f.base) (f.items.drop (max R f.base - f.seq).toNat)
      rw [numI_get _ _ _ (by omega)] at h2
      rw [List.length_drop] at h3
      rw [← h2]
      unfold takeF
      simp only
      rw [h3] at h1 ⊢
      rw [if_pos (by omega)]
      omega

end Go.Proofs.YtabhfeocelljdaaDoor

