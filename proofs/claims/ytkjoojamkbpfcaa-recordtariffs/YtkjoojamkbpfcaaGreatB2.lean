/- A writer in memory ('WAt'); contracts of its digits and its Bytes. -/
import Derived.Test.YtkjoojamkbpfcaaGreatB1
import Derived.Deep.RegionLaw
namespace Go.Proofs.YtkjoojamkbpfcaaGreat
open Go.RowKit

/-- A writer in block p, its bytes in block g (where there are any). -/
structure WAt (w : World) (p g : Nat) (bs : List UInt8) : Prop where
  c0 : ∃ ao cap, w.cell? ⟨p, 0, none⟩ = some (.slice ao bs.length cap) ∧ (0 < cap → g ≠ p) ∧ Row w (.slice ao bs.length cap) g bs
  c1 : w.cell? ⟨p, 1, none⟩ = some (.bool false)
  f0 : w.frozen? ⟨p, 0, none⟩ = false
  f1 : w.frozen? ⟨p, 1, none⟩ = false
  glt : g < w.heap.size

theorem WAt.lt {w : World} {p g : Nat} {bs : List UInt8} (h : WAt w p g bs) : p < w.heap.size := World.block_lt_of_cell? _ _ h.c1

theorem lt_of_same {w w' : World} {g : Nat} (h : g < w.heap.size) (e : w'.heap[g]? = w.heap[g]?) : g < w'.heap.size := by
  rw [Array.getElem?_eq_getElem h] at e
  exact (Array.getElem?_eq_some_iff.1 e).1

theorem WAt.stay {w w' : World} {p g : Nat} {bs : List UInt8} (h : WAt w p g bs) (hb : ∀ k, k = p ∨ k = g → k < w.heap.size → w'.heap[k]? = w.heap[k]?) : WAt w' p g bs := by
  have hp := hb p (.inl rfl) h.lt
  have e : ∀ i, w'.cell? ⟨p, i, none⟩ = w.cell? ⟨p, i, none⟩ := fun i => World.cell?_of_block (a := ⟨p, i, none⟩) hp
  have e' : ∀ i, w'.frozen? ⟨p, i, none⟩ = w.frozen? ⟨p, i, none⟩ := fun i => World.frozen?_of_block (a := ⟨p, i, none⟩) hp
  obtain ⟨ao, cap, h0, h1, h2⟩ := h.c0
  exact ⟨⟨ao, cap, (e 0).trans h0, h1, h2.stay (hb g (.inr rfl))⟩, (e 1).trans h.c1, (e' 0).trans h.f0, (e' 1).trans h.f1, lt_of_same h.glt (hb g (.inr rfl) h.glt)⟩

theorem WAt.frame {S : Nat → Prop} {w w' : World} {p g : Nat} {bs : List UInt8} (h : WAt w p g bs) (hf : Fr S w w') (hp : ¬ S p) (hg : ¬ S g) : WAt w' p g bs :=
  h.stay fun k hk hlt => hf.block k hlt (by rcases hk with rfl | rfl <;> assumption)

theorem WAt.alloc {w : World} {p g : Nat} {bs : List UInt8} (h : WAt w p g bs) (o : Obj) : WAt (w.alloc o) p g bs := h.stay fun _ _ hlt => Below.heap_alloc _ _ _ hlt

/-- Behind what is put: the bytes; what else may have turned; where the bytes lie now. -/
def Puts (p g : Nat) (bs : List UInt8) (w w' : World) : Prop := ∃ g', WAt w' p g' bs ∧ Fr (fun k => k = p ∨ k = g) w w' ∧ (g' = g ∨ w.heap.size ≤ g')

theorem Puts.after {p g g' : Nat} {cs : List UInt8} {w w1 w2 : World} (h2 : Fr (fun k => k = p ∨ k = g) w w1) (h3 : g' = g ∨ w.heap.size ≤ g') (k : Puts p g' cs w1 w2) : Puts p g cs w w2 := by
  obtain ⟨g'', k1, k2, k3⟩ := k
  refine ⟨g'', k1, h2.trans k2 (fun i hi t => ?_), ?_⟩
  · rcases t with t | t
    · exact .inl t
    · rcases h3 with h3 | h3
      · exact .inr (t.trans h3)
      · omega
  · have := h2.size
    rcases k3 with rfl | k3
    · exact h3
    · exact .inr (by omega)

theorem Puts.trans {p g : Nat} {bs cs : List UInt8} {w w1 w2 : World} (h : Puts p g bs w w1) (k : ∀ g', WAt w1 p g' bs → Puts p g' cs w1 w2) : Puts p g cs w w2 := by
  obtain ⟨g', h1, h2, h3⟩ := h
  exact Puts.after h2 h3 (k g' h1)

/-- One byte of a number. -/
def byteAt (n left : Nat) : UInt8 := UInt8.ofNat (n / 256 ^ left % 256)

/-- A number's lowest bytes, the highest first. -/
def digs (n : Nat) : Nat → List UInt8
  | 0 => []
  | k + 1 => byteAt n k :: digs n k

theorem digs_length (n k : Nat) : (digs n k).length = k := by
  induction k with
  | zero => rfl
  | succ k ih => simp [digs, ih]

section
variable {w : World} {p g : Nat} {bs : List UInt8}

/-- The store of the appended row. -/
theorem WAt.store {w1 : World} {ao : Option Addr} {cap g' : Nat} {ms : List UInt8} (h : WAt w p g bs) {ao0 : Option Addr} {cap0 : Nat} (h0 : w.cell? ⟨p, 0, none⟩ = some (.slice ao0 bs.length cap0)) (hne : 0 < cap0 → g ≠ p)
    (hrow : Row w1 (.slice ao (bs.length + ms.length) cap) g' (bs ++ ms)) (hfr : Fr (fun k => k = g ∧ 0 < cap0) w w1) (hg : (g' = g ∧ cap = cap0) ∨ w.heap.size ≤ g') :
    Puts p g (bs ++ ms) w (w1.setCell ⟨p, 0, none⟩ (.slice ao (bs.length + ms.length) cap)) := by
  have hlt := h.lt
  have hnp : ¬ (p = g ∧ 0 < cap0) := fun ⟨e, hc⟩ => hne hc e.symm
  have e : ∀ i, w1.cell? ⟨p, i, none⟩ = w.cell? ⟨p, i, none⟩ := fun i => hfr.cell (a := ⟨p, i, none⟩) hlt hnp
  have e' : ∀ i, w1.frozen? ⟨p, i, none⟩ = w.frozen? ⟨p, i, none⟩ := fun i => hfr.frozen (a := ⟨p, i, none⟩) hlt hnp
  have hgp : 0 < cap → g' ≠ p := by
    intro hc
    rcases hg with ⟨rfl, rfl⟩ | hg
    · exact hne hc
    · omega
  have hfr2 := (hfr.mono (T := fun k => k = p ∨ k = g) (fun i _ t => .inr t.1)).setCell (p := ⟨p, 0, none⟩) (fun _ => .inl rfl) (.slice ao (bs.length + ms.length) cap)
  have q0 : (w1.setCell ⟨p, 0, none⟩ (.slice ao (bs.length + ms.length) cap)).cell? ⟨p, 0, none⟩ = some (.slice ao (bs ++ ms).length cap) := by rw [List.length_append]; exact World.cell?_setCell_same _ _ _ ((e 0).trans h0)
  have q1 : (w1.setCell ⟨p, 0, none⟩ (.slice ao (bs.length + ms.length) cap)).cell? ⟨p, 1, none⟩ = some (.bool false) := (World.cell?_setCell_other _ _ _ _ (by simp)).trans ((e 1).trans h.c1)
  have q2 : (w1.setCell ⟨p, 0, none⟩ (.slice ao (bs.length + ms.length) cap)).frozen? ⟨p, 0, none⟩ = false := by rw [World.frozen?_setCell]; exact (e' 0).trans h.f0
  have q3 : (w1.setCell ⟨p, 0, none⟩ (.slice ao (bs.length + ms.length) cap)).frozen? ⟨p, 1, none⟩ = false := by rw [World.frozen?_setCell]; exact (e' 1).trans h.f1
  by_cases hc : 0 < cap
  · refine ⟨g', ⟨⟨ao, cap, q0, hgp, ?_⟩, q1, q2, q3, ?_⟩, hfr2, hg.imp (fun t => t.1) id⟩
    · rw [List.length_append]; exact hrow.elsewhere (fun hc => Below.heap_setCell _ _ _ _ (hgp hc))
    · obtain ⟨ao0, cap0, hv, _, _, _, h4⟩ := hrow.shape
      injection hv with e1 e2 e3
      subst e3
      obtain ⟨u, hu⟩ := Option.isSome_iff_exists.1 (h4 0 hc).1
      rw [World.size_setCell]
      exact World.block_lt_of_cell? _ _ hu
  · refine ⟨g, ⟨⟨ao, cap, q0, fun t => absurd t hc, ?_⟩, q1, q2, q3, Nat.lt_of_lt_of_le h.glt hfr2.size⟩, hfr2, .inl rfl⟩
    obtain ⟨ao0, cap0, hv, h1, h2, h3, h4⟩ := hrow.shape
    injection hv with e1 e2 e3
    subst e1 e3
    rw [List.length_append] at h1
    exact ⟨⟨_, _, rfl, by rw [List.length_append]; exact h1, h2, fun t => absurd t hc, fun j hj => absurd hj (by omega)⟩, fun j hj => by rw [List.length_append] at hj; omega⟩

end

theorem WAt.drew {w : World} {p g : Nat} {bs : List UInt8} (h : WAt w p g bs) : WAt w.drew p g bs := h.stay fun _ _ _ => rfl

theorem Puts.later {p g : Nat} {bs : List UInt8} {w w1 w2 : World} (hf : Fr (fun _ => False) w w1) (h : Puts p g bs w1 w2) : Puts p g bs w w2 := by
  obtain ⟨g', h1, h2, h3⟩ := h
  exact ⟨g', h1, (hf.mono (fun _ _ t => t.elim)).trans h2 (fun _ _ t => t), h3.imp id (fun t => Nat.le_trans hf.size t)⟩

theorem round_puts {w wr w1 : World} {p g g1 g2 : Nat} {cs ms : List UInt8} {ao ao' : Option Addr} {cap cap' : Nat} (o : Obj)
    (hw : WAt wr p g1 cs ∧ Fr (fun k => k = p ∨ k = g) w wr ∧ (g1 = g ∨ w.heap.size ≤ g1) ∧ (0 < cap → g1 ≠ p) ∧ Row wr (.slice ao cs.length cap) g1 cs) (c0 : wr.cell? ⟨p, 0, none⟩ = some (.slice ao cs.length cap))
    (hr : Row w1 (.slice ao' (cs.length + ms.length) cap') g2 (cs ++ ms) ∧ Fr (fun k => k = g1 ∧ 0 < cap) (wr.alloc o).drew w1 ∧ ((g2 = g1 ∧ cap' = cap) ∨ (wr.alloc o).drew.heap.size ≤ g2)) :
    Puts p g (cs ++ ms) w (w1.setCell ⟨p, 0, none⟩ (.slice ao' (cs.length + ms.length) cap')) := by
  obtain ⟨h1, h2, h3, h4, h5⟩ := hw
  obtain ⟨r1, r2, r3⟩ := hr
  have hst := ((h1.alloc o).drew).store (ao := ao') (cap := cap') (ms := ms) (((World.cell?_alloc_lt wr _ _ h1.lt).trans c0 : (wr.alloc o).drew.cell? ⟨p, 0, none⟩ = some (.slice ao cs.length cap))) h4 r1 r2 r3
  exact Puts.after h2 h3 (Puts.later ((Fr.refl _ wr).alloc o).drew hst)

theorem shift_byte (n j : Nat) (hj : j ≤ 7) : Op.shift .shr .u64 (n : Int) .i64 (IntKind.i64.wrap (8 * (j : Int))) = pure (.int .u64 ((n / 256 ^ j : Nat) : Int)) := by
  have e : IntKind.i64.wrap (8 * (j : Int)) = ((8 * j : Nat) : Int) := by
    rw [show (8 * (j : Int)) = ((8 * j : Nat) : Int) by omega]
    simp [IntKind.wrap, IntKind.bits, IntKind.signed]; omega
  rw [e, shift_shr_any _ _ _ _ (by omega)]
  have e2 : min ((8 * j : Nat) : Int).toNat IntKind.u64.bits = 8 * j := by rw [Int.toNat_natCast]; simp [IntKind.bits]; omega
  have e3 : (2 : Int) ^ (8 * j) = ((256 ^ j : Nat) : Int) := by rw [Int.pow_mul]; simp
  rw [e2, e3, ← Int.natCast_ediv]

theorem wrap_byte (M : Nat) : IntKind.u8.wrap (M : Int) = ((UInt8.ofNat (M % 256)).toNat : Int) := by
  simp [IntKind.wrap, IntKind.bits, IntKind.signed]

theorem lt_alloc {w : World} {p : Nat} (h : p < w.heap.size) (o : Obj) : p < (w.alloc o).drew.heap.size := by simp; omega

theorem one_byte (w : World) (M i : Nat) (hi : i < [UInt8.ofNat (M % 256)].length) : (w.alloc (.cells #[.int .u8 (IntKind.u8.wrap (M : Int))] 5)).drew.cell? ⟨w.heap.size, 0 + i, none⟩ = some (.int .u8 ([UInt8.ofNat (M % 256)][i].toNat)) := by
  have : i = 0 := by simpa using hi
  subst this
  rw [wrap_byte]
  simp

set_option maxHeartbeats 1000000 in
theorem wdigits_any {w : World} {p g : Nat} {bs : List UInt8} (h : WAt w p g bs) (n k : Nat) (hk : k ≤ 8) (hfit : bs.length + k ≤ 140737488355328) :
    Calls Tryz.prog 109 #[.pointer (some ⟨p, 0, none⟩), .int .u64 n, .int .i64 k] w fun e w' => e = .returned (.tuple #[]) ∧ Puts p g (bs ++ digs n k) w w' := by
  obtain ⟨i0, hi, hz0, hz1, hz2⟩ := info_parts Tryz.info5
  have H := hide h
  clear h
  go_enter Tryz.func109, Tryz.ntmps109
  go_wp2
  go_loopw [6] (fun lv wl => ∃ j : Nat, j ≤ k ∧ lv = .int .i64 ((j : Int) - 1) ∧ ∃ l, Hid (digs n k = l ++ digs n j) ∧ Hid (l.length + j = k) ∧ Hid (Puts p g (bs ++ l) w wl)) (fun lv _ => ((intOf lv) + 1).toNat)
  case atStart => exact ⟨k, Nat.le_refl _, rfl, [], rfl, by simp [Hid], ⟨g, by simpa using unhide H, Fr.refl _ _, .inl rfl⟩⟩
  case round =>
    obtain ⟨j, hj, rfl, l, hl, hlen, hp⟩ := hrel
    by_cases hlt : 0 < j
    · obtain ⟨j, rfl⟩ : ∃ i, j = i + 1 := ⟨j - 1, by omega⟩
      have hge : decide ((0 : Int) ≤ ((j + 1 : Nat) : Int) - 1) = true := by simp
      rw [show ((j + 1 : Nat) : Int) - 1 = (j : Int) by omega] at hge ⊢
      obtain ⟨cs, Hcs⟩ : ∃ cs, Hid (bs ++ l = cs) := ⟨_, rfl⟩
      have hcl : cs.length + (j + 1) = bs.length + k := by rw [← unhide Hcs, List.length_append]; have := unhide hlen; omega
      have HCL := hide hcl
      have hcfit : cs.length + 1 ≤ 140737488355328 := by omega
      clear hcl
      obtain ⟨g1, hw, hf, hg1⟩ := unhide hp
      rw [unhide Hcs] at hw
      obtain ⟨ao, cap, c0, hne, hrow⟩ := hw.c0
      have f0 := hw.f0
      have hj7 : (j : Int) ≤ 7 := by omega
      have HW := hide (And.intro hw (And.intro hf (And.intro hg1 (And.intro hne hrow))))
      clear hw hf hg1 hne hrow
      obtain ⟨M, HM⟩ : ∃ M, Hid (n / 256 ^ j = M) := ⟨_, rfl⟩
      have hsh := shift_byte n j (by omega)
      have hpl := (unhide HW).1.lt
      rw [unhide HM] at hsh
      go_wp2
      go_region_law (refine step_append_row rfl (.tmp 17) (.tmp 23) 28 28 rfl 5 i0 Tryz.underlying28 hi hz0 hz1 hz2 (ao := ao) (cap := cap) (g := g1) (bs := cs) rfl ((unhide HW).2.2.2.2.stay (fun hx => Below.heap_alloc wr _ _ hx)) _ [UInt8.ofNat (M % 256)] rfl (src_slice Tryz.underlying28 _ _ 1 [UInt8.ofNat (M % 256)] (fun _ => ⟨wr.heap.size, 0, rfl, fun i hi1 => one_byte wr M i hi1⟩)) hcfit ?_; intro ao' cap' w1 g2 hr hf hg; have k0 := (hf.cell (a := ⟨p, 0, none⟩) (lt_alloc hpl _) (fun t => (unhide HW).2.2.2.1 t.2 t.1.symm)); have k1 := (hf.frozen (a := ⟨p, 0, none⟩) (lt_alloc hpl _) (fun t => (unhide HW).2.2.2.1 t.2 t.1.symm)); have HR := hide (And.intro hr (And.intro hf hg)); clear hr hf hg)
      all_goals
        have HP2 := hide (round_puts (ms := [UInt8.ofNat (M % 256)]) _ (unhide HW) c0 (unhide HR))
        clear HR HW hsh k0 k1 c0 f0
        go_wp2
        refine ⟨⟨j, by omega, rfl, l ++ [byteAt n j], ?_, ?_, ?_⟩, by simp [intOf]⟩
        · show _ = _; rw [unhide hl]; simp [digs]
        · show _ = _; have := unhide hlen; simp; omega
        · have hb : byteAt n j = UInt8.ofNat (M % 256) := by unfold byteAt; rw [unhide HM]
          rw [hb, ← List.append_assoc, unhide Hcs]
          exact unhide HP2
    · obtain rfl : j = 0 := by omega
      have hge : decide ((0 : Int) ≤ ((0 : Nat) : Int) - 1) = false := by simp
      go_wp2
      go_end0
      have e1 : digs n k = l := by rw [unhide hl]; simp [digs]
      rw [e1]
      exact ⟨rfl, unhide hp⟩

/-- Bytes of a writer at which nothing was wrong: a copy. -/
def Bytesd (w : World) (bs : List UInt8) (e : Ending) (w' : World) : Prop := ∃ v g, e = .returned (.tuple #[v, .int .i64 0]) ∧ Row w' v g bs ∧ Fr (fun _ => False) w w' ∧ w.heap.size ≤ g

theorem bytes_ok {w : World} {p g : Nat} {bs : List UInt8} (h : WAt w p g bs) (hfit : bs.length ≤ 140737488355328) :
    Calls Tryz.prog 36 #[.pointer (some ⟨p, 0, none⟩)] w (Bytesd w bs) := by
  obtain ⟨ao, cap, c0, hne, hrow⟩ := h.c0
  obtain ⟨ao0, cap0, hv0, h1, h2, h3, h4⟩ := hrow.shape
  injection hv0 with e1 e2 e3
  subst e1 e3
  have c1 := h.c1
  have HC := hide (clone_any w ao cap bs (fun e => by
    have : ¬ 0 < cap := fun hc => by rw [h3 hc] at e; cases e
    omega) (fun h0 => ⟨g, 0, h3 (by omega), fun j hj => by rw [Nat.zero_add]; exact hrow.cells j hj⟩) hfit)
  clear h hne hrow h1 h2 h3 h4 e2
  go_enter Tryz.func36, Tryz.ntmps36
  go_wp2_with fail
  refine (unhide HC).mono ?_
  rintro e w1 ⟨v, g', rfl, hr⟩
  have HR := hide hr
  clear hr HC
  go_wp2
  go_ret2
  exact ⟨v, g', rfl, unhide HR⟩

theorem bytes_bad {w : World} {p : Nat} (c1 : w.cell? ⟨p, 1, none⟩ = some (.bool true)) :
    Calls Tryz.prog 36 #[.pointer (some ⟨p, 0, none⟩)] w fun e w' => e = .returned (.tuple #[.slice none 0 0, .int .i64 1]) ∧ w = w' := by
  go_enter Tryz.func36, Tryz.ntmps36
  go_wp2
  go_ret2
  exact ⟨rfl, rfl⟩

end Go.Proofs.YtkjoojamkbpfcaaGreat
