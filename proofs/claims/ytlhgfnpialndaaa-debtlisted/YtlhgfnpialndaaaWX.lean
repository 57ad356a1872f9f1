import Derived.Test.YtlhgfnpialndaaaRX
import Derived.Test.YtlhgfnpialndaaaB0
import Derived.Test.YtlhgfnpialndaaaD0
import Derived.Deep.RegionLaw
/- Contracts: bytes.Clone, NewReader, Fail, End, NewWriter. -/
namespace Go.Proofs.Ytlhgfnpialndaaa
open Go.RowKit

theorem Try.info5 : (Try.prog.info? 5).map (fun i => (i.zero, i.size, i.bytes)) = some (some (.int .u8 0), 1, 1) := by kernel_rfl

/-- What a copy is. -/
def Cloned (w : World) (bs : List UInt8) (e : Ending) (w' : World) : Prop := ∃ v g, e = .returned v ∧ Row w' v g bs ∧ Fr (fun _ => False) w w' ∧ w.heap.size ≤ g

theorem clone_any (w : World) (ao : Option Addr) (cap : Nat) (bs : List UInt8) (hnil : ao = none → bs.length = 0 ∧ cap = 0)
    (hcell : 0 < bs.length → ∃ b off, ao = some ⟨b, off, none⟩ ∧ ∀ j (hj : j < bs.length), w.cell? ⟨b, off + j, none⟩ = some (.int .u8 (bs[j].toNat))) (hfit : bs.length ≤ 140737488355328) :
    Calls Try.prog 55 #[.slice ao bs.length cap] w (Cloned w bs) := by
  obtain ⟨i0, hi, hz0, hz1, hz2⟩ := info_parts Try.info5
  have heq := @Lib.run_eql_slice_nil Try.prog
  cases ao with
  | none =>
    obtain ⟨h1, rfl⟩ := hnil rfl
    have hb : bs = [] := List.eq_nil_of_length_eq_zero h1
    subst hb
    clear hcell
    go_enter Try.func55, Try.ntmps55
    go_wp2
    go_ret
    exact ⟨_, w.heap.size, rfl, Row.nil _ _, Fr.refl _ _, Nat.le_refl _⟩
  | some x =>
    have hsrc : ∀ w', (∀ b o v, w.cell? ⟨b, o, none⟩ = some v → w'.cell? ⟨b, o, none⟩ = some v) → Src Try.prog 1 64 (.slice (some x) bs.length cap) bs.length (bytesV bs) w' := by
      intro w' hw'
      refine src_slice Try.underlying64 w' (some x) cap bs (fun h0 => ?_)
      obtain ⟨b, off, hx, hc⟩ := hcell h0
      exact ⟨b, off, hx, fun j hj => hw' _ _ _ (hc j hj)⟩
    have HC := hide hsrc
    clear hcell hnil hsrc
    go_enter Try.func55, Try.ntmps55
    go_wp2_with (at_builtin; refine wpList_append_row _ rfl (.tmp 5) (.tmp 6) 64 64 rfl 5 i0 Try.underlying64 hi hz0 hz1 hz2 (g := w.heap.size) (bs := []) (cap := 0) rfl ?hrow _ bs rfl ?hsrc ?hfit ?next)
    case hrow => exact ⟨⟨_, 0, rfl, Nat.le_refl _, Nat.zero_le _, fun h => absurd h (by omega), fun j hj => absurd hj (by omega)⟩, fun j hj => absurd hj (by simp)⟩
    case hsrc => exact unhide HC _ (fun b o v hv => (World.cell?_alloc_lt _ _ _ (World.block_lt_of_cell? _ _ hv)).trans hv)
    case hfit => simpa using hfit
    case next =>
      intro ao' cap' w' g' hrow hfr hg
      have HR := hide (And.intro hrow (And.intro hfr hg))
      clear hrow hfr hg HC
      go_wp2
      go_ret
      obtain ⟨h1, h2, h3⟩ := unhide HR
      exact ⟨_, g', rfl, by simpa using h1, ((Fr.refl _ w).alloc _).trans h2 (fun i hi t => by omega), by rcases h3 with ⟨rfl, _⟩ | h3; exact Nat.le_refl _; omega⟩

/-- A new reader, over a copy of the bytes. -/
def NewR (w : World) (bs : List UInt8) (e : Ending) (w' : World) : Prop := ∃ p g, e = .returned (.pointer (some ⟨p, 0, none⟩)) ∧ (RS.mk 0 0 0 0).At w' p g bs ∧ Fr (fun _ => False) w w' ∧ w.heap.size ≤ g ∧ w.heap.size ≤ p

/-- Fail: the state behind it. -/
def failR (s : RS) (e : Int) : RS := if s.c = 0 ∧ e ≠ 0 then { s with c := e, f := s.l } else s
/-- End: the state behind it. -/
def endR (s : RS) (n : Nat) : RS := if s.c = 0 ∧ s.a < n then { s with c := 13, f := s.a } else s

section
variable {w : World} {p g : Nat} {bs : List UInt8} {s : RS}

end

/-- A new writer: nothing in it. -/
theorem newwriter_any (w : World) : Calls Try.prog 45 #[] w fun e w' => e = .returned (.pointer (some ⟨w.heap.size, 0, none⟩)) ∧ w' = w.alloc (.cells #[.slice none 0 0, .bool false] 98) := by
  go_enter Try.func45, Try.ntmps45
  go_wp2
  go_ret
  exact ⟨rfl, rfl⟩

end Go.Proofs.Ytlhgfnpialndaaa

/- A writer in memory ('WAt'); contracts of its digits and its Bytes. -/
namespace Go.Proofs.Ytlhgfnpialndaaa
open Go.RowKit

/-- A writer in block p, its bytes in block g (where there are any). -/
structure WAt (w : World) (p g : Nat) (bs : List UInt8) : Prop where
  c0 : ∃ ao cap, w.cell? ⟨p, 0, none⟩ = some (.slice ao bs.length cap) ∧ (0 < cap → g ≠ p) ∧ Row w (.slice ao bs.length cap) g bs
  c1 : w.cell? ⟨p, 1, none⟩ = some (.bool false)
  f0 : w.frozen? ⟨p, 0, none⟩ = false
  f1 : w.frozen? ⟨p, 1, none⟩ = false
  glt : g < w.heap.size

theorem WAt.lt {w : World} {p g : Nat} {bs : List UInt8} (h : WAt w p g bs) : p < w.heap.size := World.block_lt_of_cell? _ _ h.c1

theorem lt_of_same {w w' : World} {g : Nat} (h : g < w.heap.size) (e : w'.heap[g]? = w.heap[g]?) : g < w'.heap.size := by
  rw [Array.getElem?_eq_getElem h] at e
  exact (Array.getElem?_eq_some_iff.1 e).1

theorem WAt.stay {w w' : World} {p g : Nat} {bs : List UInt8} (h : WAt w p g bs) (hb : ∀ k, k = p ∨ k = g → k < w.heap.size → w'.heap[k]? = w.heap[k]?) : WAt w' p g bs := by
  have hp := hb p (.inl rfl) h.lt
  have e : ∀ i, w'.cell? ⟨p, i, none⟩ = w.cell? ⟨p, i, none⟩ := fun i => World.cell?_of_block (a := ⟨p, i, none⟩) hp
  have e' : ∀ i, w'.frozen? ⟨p, i, none⟩ = w.frozen? ⟨p, i, none⟩ := fun i => World.frozen?_of_block (a := ⟨p, i, none⟩) hp
  obtain ⟨ao, cap, h0, h1, h2⟩ := h.c0
  exact ⟨⟨ao, cap, (e 0).trans h0, h1, h2.stay (hb g (.inr rfl))⟩, (e 1).trans h.c1, (e' 0).trans h.f0, (e' 1).trans h.f1, lt_of_same h.glt (hb g (.inr rfl) h.glt)⟩

theorem WAt.frame {S : Nat → Prop} {w w' : World} {p g : Nat} {bs : List UInt8} (h : WAt w p g bs) (hf : Fr S w w') (hp : ¬ S p) (hg : ¬ S g) : WAt w' p g bs :=
  h.stay fun k hk hlt => hf.block k hlt (by rcases hk with rfl | rfl <;> assumption)

theorem WAt.alloc {w : World} {p g : Nat} {bs : List UInt8} (h : WAt w p g bs) (o : Obj) : WAt (w.alloc o) p g bs := h.stay fun _ _ hlt => Below.heap_alloc _ _ _ hlt

/-- Behind what is put: the bytes; what else may have turned; where the bytes lie now. -/
def Puts (p g : Nat) (bs : List UInt8) (w w' : World) : Prop := ∃ g', WAt w' p g' bs ∧ Fr (fun k => k = p ∨ k = g) w w' ∧ (g' = g ∨ w.heap.size ≤ g')

theorem Puts.after {p g g' : Nat} {cs : List UInt8} {w w1 w2 : World} (h2 : Fr (fun k => k = p ∨ k = g) w w1) (h3 : g' = g ∨ w.heap.size ≤ g') (k : Puts p g' cs w1 w2) : Puts p g cs w w2 := by
  obtain ⟨g'', k1, k2, k3⟩ := k
  refine ⟨g'', k1, h2.trans k2 (fun i hi t => ?_), ?_⟩
  · rcases t with t | t
    · exact .inl t
    · rcases h3 with h3 | h3
      · exact .inr (t.trans h3)
      · omega
  · have := h2.size
    rcases k3 with rfl | k3
    · exact h3
    · exact .inr (by omega)

theorem Puts.trans {p g : Nat} {bs cs : List UInt8} {w w1 w2 : World} (h : Puts p g bs w w1) (k : ∀ g', WAt w1 p g' bs → Puts p g' cs w1 w2) : Puts p g cs w w2 := by
  obtain ⟨g', h1, h2, h3⟩ := h
  exact Puts.after h2 h3 (k g' h1)

section
variable {w : World} {p g : Nat} {bs : List UInt8}

/-- The store of the appended row. -/
theorem WAt.store {w1 : World} {ao : Option Addr} {cap g' : Nat} {ms : List UInt8} (h : WAt w p g bs) {ao0 : Option Addr} {cap0 : Nat} (h0 : w.cell? ⟨p, 0, none⟩ = some (.slice ao0 bs.length cap0)) (hne : 0 < cap0 → g ≠ p)
    (hrow : Row w1 (.slice ao (bs.length + ms.length) cap) g' (bs ++ ms)) (hfr : Fr (fun k => k = g ∧ 0 < cap0) w w1) (hg : (g' = g ∧ cap = cap0) ∨ w.heap.size ≤ g') :
    Puts p g (bs ++ ms) w (w1.setCell ⟨p, 0, none⟩ (.slice ao (bs.length + ms.length) cap)) := by
  have hlt := h.lt
  have hnp : ¬ (p = g ∧ 0 < cap0) := fun ⟨e, hc⟩ => hne hc e.symm
  have e : ∀ i, w1.cell? ⟨p, i, none⟩ = w.cell? ⟨p, i, none⟩ := fun i => hfr.cell (a := ⟨p, i, none⟩) hlt hnp
  have e' : ∀ i, w1.frozen? ⟨p, i, none⟩ = w.frozen? ⟨p, i, none⟩ := fun i => hfr.frozen (a := ⟨p, i, none⟩) hlt hnp
  have hgp : 0 < cap → g' ≠ p := by
    intro hc
    rcases hg with ⟨rfl, rfl⟩ | hg
    · exact hne hc
    · omega
  have hfr2 := (hfr.mono (T := fun k => k = p ∨ k = g) (fun i _ t => .inr t.1)).setCell (p := ⟨p, 0, none⟩) (fun _ => .inl rfl) (.slice ao (bs.length + ms.length) cap)
  have q0 : (w1.setCell ⟨p, 0, none⟩ (.slice ao (bs.length + ms.length) cap)).cell? ⟨p, 0, none⟩ = some (.slice ao (bs ++ ms).length cap) := by rw [List.length_append]; exact World.cell?_setCell_same _ _ _ ((e 0).trans h0)
  have q1 : (w1.setCell ⟨p, 0, none⟩ (.slice ao (bs.length + ms.length) cap)).cell? ⟨p, 1, none⟩ = some (.bool false) := (World.cell?_setCell_other _ _ _ _ (by simp)).trans ((e 1).trans h.c1)
  have q2 : (w1.setCell ⟨p, 0, none⟩ (.slice ao (bs.length + ms.length) cap)).frozen? ⟨p, 0, none⟩ = false := by rw [World.frozen?_setCell]; exact (e' 0).trans h.f0
  have q3 : (w1.setCell ⟨p, 0, none⟩ (.slice ao (bs.length + ms.length) cap)).frozen? ⟨p, 1, none⟩ = false := by rw [World.frozen?_setCell]; exact (e' 1).trans h.f1
  by_cases hc : 0 < cap
  · refine ⟨g', ⟨⟨ao, cap, q0, hgp, ?_⟩, q1, q2, q3, ?_⟩, hfr2, hg.imp (fun t => t.1) id⟩
    · rw [List.length_append]; exact hrow.elsewhere (fun hc => Below.heap_setCell _ _ _ _ (hgp hc))
    · obtain ⟨ao0, cap0, hv, _, _, _, h4⟩ := hrow.shape
      injection hv with e1 e2 e3
      subst e3
      obtain ⟨u, hu⟩ := Option.isSome_iff_exists.1 (h4 0 hc).1
      rw [World.size_setCell]
      exact World.block_lt_of_cell? _ _ hu
  · refine ⟨g, ⟨⟨ao, cap, q0, fun t => absurd t hc, ?_⟩, q1, q2, q3, Nat.lt_of_lt_of_le h.glt hfr2.size⟩, hfr2, .inl rfl⟩
    obtain ⟨ao0, cap0, hv, h1, h2, h3, h4⟩ := hrow.shape
    injection hv with e1 e2 e3
    subst e1 e3
    rw [List.length_append] at h1
    exact ⟨⟨_, _, rfl, by rw [List.length_append]; exact h1, h2, fun t => absurd t hc, fun j hj => absurd hj (by omega)⟩, fun j hj => by rw [List.length_append] at hj; omega⟩

end

theorem WAt.drew {w : World} {p g : Nat} {bs : List UInt8} (h : WAt w p g bs) : WAt w.drew p g bs := h.stay fun _ _ _ => rfl

theorem Puts.later {p g : Nat} {bs : List UInt8} {w w1 w2 : World} (hf : Fr (fun _ => False) w w1) (h : Puts p g bs w1 w2) : Puts p g bs w w2 := by
  obtain ⟨g', h1, h2, h3⟩ := h
  exact ⟨g', h1, (hf.mono (fun _ _ t => t.elim)).trans h2 (fun _ _ t => t), h3.imp id (fun t => Nat.le_trans hf.size t)⟩

theorem round_puts {w wr w1 : World} {p g g1 g2 : Nat} {cs ms : List UInt8} {ao ao' : Option Addr} {cap cap' : Nat} (o : Obj)
    (hw : WAt wr p g1 cs ∧ Fr (fun k => k = p ∨ k = g) w wr ∧ (g1 = g ∨ w.heap.size ≤ g1) ∧ (0 < cap → g1 ≠ p) ∧ Row wr (.slice ao cs.length cap) g1 cs) (c0 : wr.cell? ⟨p, 0, none⟩ = some (.slice ao cs.length cap))
    (hr : Row w1 (.slice ao' (cs.length + ms.length) cap') g2 (cs ++ ms) ∧ Fr (fun k => k = g1 ∧ 0 < cap) (wr.alloc o).drew w1 ∧ ((g2 = g1 ∧ cap' = cap) ∨ (wr.alloc o).drew.heap.size ≤ g2)) :
    Puts p g (cs ++ ms) w (w1.setCell ⟨p, 0, none⟩ (.slice ao' (cs.length + ms.length) cap')) := by
  obtain ⟨h1, h2, h3, h4, h5⟩ := hw
  obtain ⟨r1, r2, r3⟩ := hr
  have hst := ((h1.alloc o).drew).store (ao := ao') (cap := cap') (ms := ms) (((World.cell?_alloc_lt wr _ _ h1.lt).trans c0 : (wr.alloc o).drew.cell? ⟨p, 0, none⟩ = some (.slice ao cs.length cap))) h4 r1 r2 r3
  exact Puts.after h2 h3 (Puts.later ((Fr.refl _ wr).alloc o).drew hst)

theorem shift_byte (n j : Nat) (hj : j ≤ 7) : Op.shift .shr .u64 (n : Int) .i64 (IntKind.i64.wrap (8 * (j : Int))) = pure (.int .u64 ((n / 256 ^ j : Nat) : Int)) := by
  have e : IntKind.i64.wrap (8 * (j : Int)) = ((8 * j : Nat) : Int) := by
    rw [show (8 * (j : Int)) = ((8 * j : Nat) : Int) by omega]
    simp [IntKind.wrap, IntKind.bits, IntKind.signed]; omega
  rw [e, shift_shr_any _ _ _ _ (by omega)]
  have e2 : min ((8 * j : Nat) : Int).toNat IntKind.u64.bits = 8 * j := by rw [Int.toNat_natCast]; simp [IntKind.bits]; omega
  have e3 : (2 : Int) ^ (8 * j) = ((256 ^ j : Nat) : Int) := by rw [Int.pow_mul]; simp
  rw [e2, e3, ← Int.natCast_ediv]

theorem wrap_byte (M : Nat) : IntKind.u8.wrap (M : Int) = ((UInt8.ofNat (M % 256)).toNat : Int) := by
  simp [IntKind.wrap, IntKind.bits, IntKind.signed]

theorem lt_alloc {w : World} {p : Nat} (h : p < w.heap.size) (o : Obj) : p < (w.alloc o).drew.heap.size := by simp; omega

theorem one_byte (w : World) (M i : Nat) (hi : i < [UInt8.ofNat (M % 256)].length) : (w.alloc (.cells #[.int .u8 (IntKind.u8.wrap (M : Int))] 5)).drew.cell? ⟨w.heap.size, 0 + i, none⟩ = some (.int .u8 ([UInt8.ofNat (M % 256)][i].toNat)) := by
  have : i = 0 := by simpa using hi
  subst this
  rw [wrap_byte]
  simp

set_option maxHeartbeats 1000000 in
theorem wdigits_any {w : World} {p g : Nat} {bs : List UInt8} (h : WAt w p g bs) (n k : Nat) (hk : k ≤ 8) (hfit : bs.length + k ≤ 140737488355328) :
    Calls Try.prog 80 #[.pointer (some ⟨p, 0, none⟩), .int .u64 n, .int .i64 k] w fun e w' => e = .returned (.tuple #[]) ∧ Puts p g (bs ++ digs n k) w w' := by
  obtain ⟨i0, hi, hz0, hz1, hz2⟩ := info_parts Try.info5
  have H := hide h
  clear h
  go_enter Try.func80, Try.ntmps80
  go_wp2
  go_loopw [6] (fun lv wl => ∃ j : Nat, j ≤ k ∧ lv = .int .i64 ((j : Int) - 1) ∧ ∃ l, Hid (digs n k = l ++ digs n j) ∧ Hid (l.length + j = k) ∧ Hid (Puts p g (bs ++ l) w wl)) (fun lv _ => ((intOf lv) + 1).toNat)
  case atStart => exact ⟨k, Nat.le_refl _, rfl, [], rfl, by simp [Hid], ⟨g, by simpa using unhide H, Fr.refl _ _, .inl rfl⟩⟩
  case round =>
    obtain ⟨j, hj, rfl, l, hl, hlen, hp⟩ := hrel
    by_cases hlt : 0 < j
    · obtain ⟨j, rfl⟩ : ∃ i, j = i + 1 := ⟨j - 1, by omega⟩
      have hge : decide ((0 : Int) ≤ ((j + 1 : Nat) : Int) - 1) = true := by simp
      rw [show ((j + 1 : Nat) : Int) - 1 = (j : Int) by omega] at hge ⊢
      obtain ⟨cs, Hcs⟩ : ∃ cs, Hid (bs ++ l = cs) := ⟨_, rfl⟩
      have hcl : cs.length + (j + 1) = bs.length + k := by rw [← unhide Hcs, List.length_append]; have := unhide hlen; omega
      have HCL := hide hcl
      have hcfit : cs.length + 1 ≤ 140737488355328 := by omega
      clear hcl
      obtain ⟨g1, hw, hf, hg1⟩ := unhide hp
      rw [unhide Hcs] at hw
      obtain ⟨ao, cap, c0, hne, hrow⟩ := hw.c0
      have f0 := hw.f0
      have hj7 : (j : Int) ≤ 7 := by omega
      have HW := hide (And.intro hw (And.intro hf (And.intro hg1 (And.intro hne hrow))))
      clear hw hf hg1 hne hrow
      obtain ⟨M, HM⟩ : ∃ M, Hid (n / 256 ^ j = M) := ⟨_, rfl⟩
      have hsh := shift_byte n j (by omega)
      have hpl := (unhide HW).1.lt
      rw [unhide HM] at hsh
      go_wp2
      go_region_law (refine step_append_row rfl (.tmp 17) (.tmp 23) 64 64 rfl 5 i0 Try.underlying64 hi hz0 hz1 hz2 (ao := ao) (cap := cap) (g := g1) (bs := cs) rfl ((unhide HW).2.2.2.2.stay (fun hx => Below.heap_alloc wr _ _ hx)) _ [UInt8.ofNat (M % 256)] rfl (src_slice Try.underlying64 _ _ 1 [UInt8.ofNat (M % 256)] (fun _ => ⟨wr.heap.size, 0, rfl, fun i hi1 => one_byte wr M i hi1⟩)) hcfit ?_; intro ao' cap' w1 g2 hr hf hg; have k0 := (hf.cell (a := ⟨p, 0, none⟩) (lt_alloc hpl _) (fun t => (unhide HW).2.2.2.1 t.2 t.1.symm)); have k1 := (hf.frozen (a := ⟨p, 0, none⟩) (lt_alloc hpl _) (fun t => (unhide HW).2.2.2.1 t.2 t.1.symm)); have HR := hide (And.intro hr (And.intro hf hg)); clear hr hf hg)
      all_goals
        have HP2 := hide (round_puts (ms := [UInt8.ofNat (M % 256)]) _ (unhide HW) c0 (unhide HR))
        clear HR HW hsh k0 k1 c0 f0
        go_wp2
        refine ⟨⟨j, by omega, rfl, l ++ [byteAt n j], ?_, ?_, ?_⟩, by simp [intOf]⟩
        · show _ = _; rw [unhide hl]; simp [digs]
        · show _ = _; have := unhide hlen; simp; omega
        · have hb : byteAt n j = UInt8.ofNat (M % 256) := by unfold byteAt; rw [unhide HM]
          rw [hb, ← List.append_assoc, unhide Hcs]
          exact unhide HP2
    · obtain rfl : j = 0 := by omega
      have hge : decide ((0 : Int) ≤ ((0 : Nat) : Int) - 1) = false := by simp
      go_wp2
      go_end0
      have e1 : digs n k = l := by rw [unhide hl]; simp [digs]
      rw [e1]
      exact ⟨rfl, unhide hp⟩

/-- Bytes of a writer at which nothing was wrong: a copy. -/
def Bytesd (w : World) (bs : List UInt8) (e : Ending) (w' : World) : Prop := ∃ v g, e = .returned (.tuple #[v, .int .i64 0]) ∧ Row w' v g bs ∧ Fr (fun _ => False) w w' ∧ w.heap.size ≤ g

theorem bytes_ok {w : World} {p g : Nat} {bs : List UInt8} (h : WAt w p g bs) (hfit : bs.length ≤ 140737488355328) :
    Calls Try.prog 46 #[.pointer (some ⟨p, 0, none⟩)] w (Bytesd w bs) := by
  obtain ⟨ao, cap, c0, hne, hrow⟩ := h.c0
  obtain ⟨ao0, cap0, hv0, h1, h2, h3, h4⟩ := hrow.shape
  injection hv0 with e1 e2 e3
  subst e1 e3
  have c1 := h.c1
  have HC := hide (clone_any w ao cap bs (fun e => by
    have : ¬ 0 < cap := fun hc => by rw [h3 hc] at e; cases e
    omega) (fun h0 => ⟨g, 0, h3 (by omega), fun j hj => by rw [Nat.zero_add]; exact hrow.cells j hj⟩) hfit)
  clear h hne hrow h1 h2 h3 h4 e2
  go_enter Try.func46, Try.ntmps46
  go_wp2_with fail
  refine (unhide HC).mono ?_
  rintro e w1 ⟨v, g', rfl, hr⟩
  have HR := hide hr
  clear hr HC
  go_wp2
  go_ret2
  exact ⟨v, g', rfl, unhide HR⟩

theorem bytes_bad {w : World} {p : Nat} (c1 : w.cell? ⟨p, 1, none⟩ = some (.bool true)) :
    Calls Try.prog 46 #[.pointer (some ⟨p, 0, none⟩)] w fun e w' => e = .returned (.tuple #[.slice none 0 0, .int .i64 1]) ∧ w = w' := by
  go_enter Try.func46, Try.ntmps46
  go_wp2
  go_ret2
  exact ⟨rfl, rfl⟩

end Go.Proofs.Ytlhgfnpialndaaa

/- Contracts of what the writer's calls hand to put, one a kind of piece. -/
namespace Go.Proofs.Ytlhgfnpialndaaa
open Go.RowKit

/-- How a piece comes out: its bytes are put; or it is given up, and nothing has turned. -/
def Put (p g : Nat) (bs : List UInt8) (w : World) (o : Option (List UInt8)) (e : Ending) (w' : World) : Prop :=
  match o with
  | some ms => e = .returned (.tuple #[]) ∧ Puts p g (bs ++ ms) w w'
  | none => e = gave 1 ∧ w = w'

def wNumber (n size : Int) : Option (List UInt8) := if 1 ≤ size ∧ size ≤ 8 ∧ 0 ≤ n ∧ n < 256 ^ size.toNat then some (digs n.toNat size.toNat) else none
def wInt (n : Int) : Option (List UInt8) := some (digs (IntKind.u64.wrap n).toNat 8)
def wFloat (b : Nat) : Option (List UInt8) := some (digs (if nanB b then 9221120237041090560 else b) 8)
def wBool (is : Bool) : Option (List UInt8) := some (digs (if is then 1 else 0) 1)
def wText (s : ByteArray) : Option (List UInt8) := if s.size ≤ 65535 then some (digs s.size 2 ++ s.data.toList) else none
def wFixed (s : ByteArray) (size : Int) : Option (List UInt8) := if 0 ≤ size ∧ size ≤ 65535 ∧ (s.size : Int) = size then some s.data.toList else none
def wCount (n : Int) : Option (List UInt8) := if 0 ≤ n ∧ n ≤ 65535 then some (digs n.toNat 2) else none

section
variable {w : World} {p g : Nat} {bs : List UInt8}

theorem number_put (h : WAt w p g bs) (hfit : bs.length + 8 ≤ 140737488355328) (n size : Int) (hn : n ≤ 9223372036854775807) (sb nb rb : Nat) (hs : w.cell? ⟨sb, 0, none⟩ = some (.int .i64 size)) (hnb : w.cell? ⟨nb, 0, none⟩ = some (.int .i64 n)) (hr : w.cell? ⟨rb, 0, none⟩ = some (.pointer (some ⟨p, 0, none⟩))) :
    Calls Try.prog 79 #[.pointer (some ⟨sb, 0, none⟩), .pointer (some ⟨nb, 0, none⟩), .pointer (some ⟨rb, 0, none⟩)] w (Put p g bs w (wNumber n size)) := by
  have H := hide h
  clear h
  by_cases h1 : 1 ≤ size
  case neg =>
    have hd1 : decide (1 ≤ size) = false := by simp; omega
    rw [show wNumber n size = none by simp [wNumber]; omega]
    go_enter Try.func79, Try.ntmps79
    go_wp2_with fail
    refine (must_no 1 _).mono ?_
    rintro e w1 ⟨rfl, rfl⟩
    go_wp2
    exact ⟨rfl, rfl, rfl⟩
  have hd1 : decide (1 ≤ size) = true := by simp; omega
  by_cases h2 : size ≤ 8
  case neg =>
    have hd2 : decide (size ≤ 8) = false := by simp; omega
    rw [show wNumber n size = none by simp [wNumber]; omega]
    go_enter Try.func79, Try.ntmps79
    go_wp2_with fail
    refine (must_no 1 _).mono ?_
    rintro e w1 ⟨rfl, rfl⟩
    go_wp2
    exact ⟨rfl, rfl, rfl⟩
  have hd2 : decide (size ≤ 8) = true := by simp; omega
  by_cases h3 : 0 ≤ n
  case neg =>
    have hd3 : decide (0 ≤ n) = false := by simp; omega
    rw [show wNumber n size = none by simp [wNumber]; omega]
    go_enter Try.func79, Try.ntmps79
    go_wp2_with fail
    refine (must_ok 1 _).mono ?_
    rintro e w1 ⟨rfl, rfl⟩
    go_wp2_with fail
    refine (must_no 1 _).mono ?_
    rintro e w1 ⟨rfl, rfl⟩
    go_wp2
    exact ⟨rfl, rfl, rfl⟩
  have hd3 : decide (0 ≤ n) = true := by simp; omega
  obtain ⟨N, rfl⟩ : ∃ N : Nat, n = N := ⟨n.toNat, by omega⟩
  obtain ⟨k, rfl⟩ : ∃ k : Nat, size = k := ⟨size.toNat, by omega⟩
  by_cases h4 : k = 8
  · subst h4
    rw [show wNumber N (8 : Nat) = some (digs N 8) by
      have : N < 256 ^ 8 := by have : (256 : Nat) ^ 8 = 18446744073709551616 := by decide
                               omega
      simp [wNumber]; omega]
    go_enter Try.func79, Try.ntmps79
    go_wp2_with fail
    refine (must_ok 1 _).mono ?_
    rintro e w1 ⟨rfl, rfl⟩
    go_wp2_with fail
    refine (must_ok 1 _).mono ?_
    rintro e w1 ⟨rfl, rfl⟩
    go_wp2_with fail
    refine (wdigits_any (unhide H) N 8 (by omega) hfit).mono ?_
    rintro e w1 ⟨rfl, hP⟩
    have HP := hide hP
    clear hP
    go_wp2
    go_end0
    exact ⟨rfl, unhide HP⟩
  · have hk7 : k ≤ 7 := by omega
    have hd4 : ((k : Int) == 8) = false := by simp; omega
    have e256 : ((256 ^ k : Nat) : Int) = (256 : Int) ^ k := by rw [Int.natCast_pow]; rfl
    have hdiv : (N : Int) / 2 ^ (8 * k) = ((N / 256 ^ k : Nat) : Int) := by
      have e3 : (2 : Int) ^ (8 * k) = ((256 ^ k : Nat) : Int) := by rw [Int.pow_mul]; simp
      rw [e3, ← Int.natCast_ediv]
    obtain ⟨M, HM⟩ : ∃ M, Hid (N / 256 ^ k = M) := ⟨_, rfl⟩
    rw [unhide HM] at hdiv
    by_cases h5 : M = 0
    · have hlt : N < 256 ^ k := by
        have hp : 0 < 256 ^ k := Nat.pow_pos (by omega)
        rw [← unhide HM] at h5
        exact (Nat.div_eq_zero_iff.1 h5).resolve_left (by omega)
      rw [show wNumber N k = some (digs N k) by
        unfold wNumber
        rw [if_pos ⟨h1, h2, h3, by rw [Int.toNat_natCast, ← e256]; exact Int.ofNat_lt.2 hlt⟩]; rfl]
      have hd5 : ((N : Int) / 2 ^ (8 * k) == 0) = true := by rw [hdiv]; simp; omega
      clear h5 hlt HM e256 hdiv
      go_enter Try.func79, Try.ntmps79
      go_wp2_with fail
      refine (must_ok 1 _).mono ?_
      rintro e w1 ⟨rfl, rfl⟩
      go_wp2_with fail
      refine (must_ok 1 _).mono ?_
      rintro e w1 ⟨rfl, rfl⟩
      go_wp2_with fail
      refine (wdigits_any (unhide H) N k (by omega) (by omega)).mono ?_
      rintro e w1 ⟨rfl, hP⟩
      have HP := hide hP
      clear hP
      go_wp2
      go_end0
      exact ⟨rfl, unhide HP⟩
    · have hlt : ¬ N < 256 ^ k := by
        rw [← unhide HM] at h5
        intro hl
        exact h5 (Nat.div_eq_of_lt hl)
      rw [show wNumber N k = none by
        unfold wNumber
        rw [if_neg (fun t => hlt (by have := t.2.2.2; rw [Int.toNat_natCast, ← e256] at this; exact Int.ofNat_lt.1 this))]]
      have hd5 : ((N : Int) / 2 ^ (8 * k) == 0) = false := by rw [hdiv]; simp; omega
      clear h5 hlt HM e256 hdiv
      go_enter Try.func79, Try.ntmps79
      go_wp2_with fail
      refine (must_ok 1 _).mono ?_
      rintro e w1 ⟨rfl, rfl⟩
      go_wp2_with fail
      refine (must_no 1 _).mono ?_
      rintro e w1 ⟨rfl, rfl⟩
      go_wp2
      exact ⟨rfl, rfl, rfl⟩

end
end Go.Proofs.Ytlhgfnpialndaaa

/- Contracts of what the writer's Fixed and Text hand to put. -/
namespace Go.Proofs.Ytlhgfnpialndaaa
open Go.RowKit

section
variable {w : World} {p g : Nat} {bs : List UInt8}

theorem puts_drew {w w1 : World} {p g g2 : Nat} {cs ms : List UInt8} {ao ao' : Option Addr} {cap cap' : Nat} (h : WAt w p g cs) (c0 : w.cell? ⟨p, 0, none⟩ = some (.slice ao cs.length cap)) (hne : 0 < cap → g ≠ p)
    (hr : Row w1 (.slice ao' (cs.length + ms.length) cap') g2 (cs ++ ms) ∧ Fr (fun k => k = g ∧ 0 < cap) w.drew w1 ∧ ((g2 = g ∧ cap' = cap) ∨ w.drew.heap.size ≤ g2)) :
    Puts p g (cs ++ ms) w (w1.setCell ⟨p, 0, none⟩ (.slice ao' (cs.length + ms.length) cap')) := by
  obtain ⟨r1, r2, r3⟩ := hr
  have hst := (h.drew).store (ao := ao') (cap := cap') (ms := ms) (c0 : w.drew.cell? ⟨p, 0, none⟩ = some (.slice ao cs.length cap)) hne r1 r2 r3
  exact Puts.later (Fr.refl _ w).drew hst

theorem fixed_no (size : Int) (s : ByteArray) (sb tb rb : Nat) (hs : w.cell? ⟨sb, 0, none⟩ = some (.int .i64 size)) (ht : w.cell? ⟨tb, 0, none⟩ = some (.string s)) (hc : ¬ (0 ≤ size ∧ size ≤ 65535 ∧ (s.size : Int) = size)) :
    Calls Try.prog 74 #[.pointer (some ⟨sb, 0, none⟩), .pointer (some ⟨tb, 0, none⟩), .pointer (some ⟨rb, 0, none⟩)] w fun e w' => e = gave 1 ∧ w = w' := by
  by_cases h1 : 0 ≤ size
  case neg =>
    have hd1 : decide (0 ≤ size) = false := by simp; omega
    clear hc
    go_enter Try.func74, Try.ntmps74
    go_wp2_with fail
    refine (must_no 1 _).mono ?_
    rintro e w1 ⟨rfl, rfl⟩
    go_wp2
    exact ⟨rfl, rfl, rfl⟩
  have hd1 : decide (0 ≤ size) = true := by simp; omega
  by_cases h2 : size ≤ 65535
  case neg =>
    have hd2 : decide (size ≤ 65535) = false := by simp; omega
    clear hc
    go_enter Try.func74, Try.ntmps74
    go_wp2_with fail
    refine (must_no 1 _).mono ?_
    rintro e w1 ⟨rfl, rfl⟩
    go_wp2
    exact ⟨rfl, rfl, rfl⟩
  have hd2 : decide (size ≤ 65535) = true := by simp; omega
  have hd3 : ((s.size : Int) == size) = false := by simp; omega
  clear hc
  go_enter Try.func74, Try.ntmps74
  go_wp2_with fail
  refine (must_no 1 _).mono ?_
  rintro e w1 ⟨rfl, rfl⟩
  go_wp2
  exact ⟨rfl, rfl, rfl⟩

set_option maxHeartbeats 1000000 in
theorem fixed_yes (h : WAt w p g bs) (s : ByteArray) (hfit : bs.length + s.size ≤ 140737488355328) (sb tb rb : Nat) (hs : w.cell? ⟨sb, 0, none⟩ = some (.int .i64 s.size)) (ht : w.cell? ⟨tb, 0, none⟩ = some (.string s)) (hr : w.cell? ⟨rb, 0, none⟩ = some (.pointer (some ⟨p, 0, none⟩)))
    (hc : s.size ≤ 65535) (hrg : rb ≠ g) :
    Calls Try.prog 74 #[.pointer (some ⟨sb, 0, none⟩), .pointer (some ⟨tb, 0, none⟩), .pointer (some ⟨rb, 0, none⟩)] w fun e w' => e = .returned (.tuple #[]) ∧ Puts p g (bs ++ s.data.toList) w w' := by
  obtain ⟨i0, hi, hz0, hz1, hz2⟩ := info_parts Try.info5
  have H := hide h
  obtain ⟨ao, cap, c0, hne, hrow⟩ := h.c0
  have f0 := h.f0
  have hpl := h.lt
  have HW := hide (And.intro hne hrow)
  have hrl := World.block_lt_of_cell? _ _ hr
  clear h hne hrow
  have hd1 : decide (0 ≤ (s.size : Int)) = true := by simp
  have hd2 : decide ((s.size : Int) ≤ 65535) = true := by simp; omega
  have hd3 : ((s.size : Int) == (s.size : Int)) = true := by simp
  have hfit' : bs.length + s.data.toList.length ≤ 140737488355328 := hfit
  go_enter Try.func74, Try.ntmps74
  go_wp2_with fail
  refine (must_ok 1 _).mono ?_
  rintro e w1 ⟨rfl, rfl⟩
  go_wp2_with fail
  go_region_law (refine step_append_row rfl (.tmp 20) (.tmp 21) 64 9 rfl 5 i0 Try.underlying64 hi hz0 hz1 hz2 (ao := ao) (cap := cap) (g := g) (bs := bs) rfl ((unhide HW).2.stay (fun _ => rfl)) _ s.data.toList rfl (src_string Try.underlying9 s _) hfit' ?_; intro ao' cap' w1 g2 hr1 hf hg; have k0 := (hf.cell (a := ⟨p, 0, none⟩) hpl (fun t => (unhide HW).1 t.2 t.1.symm)); have k1 := (hf.frozen (a := ⟨p, 0, none⟩) hpl (fun t => (unhide HW).1 t.2 t.1.symm)); have k2 := (hf.cell (a := ⟨rb, 0, none⟩) hrl (fun t => hrg t.1)).trans hr; have HR := hide (And.intro hr1 (And.intro hf hg)); clear hr1 hf hg)
  all_goals
    have HP2 := hide (puts_drew (ms := s.data.toList) (unhide H) c0 (unhide HW).1 (unhide HR))
    clear HR HW k0 k1 k2 c0 f0 H
    go_wp2
    go_end0
    exact ⟨rfl, unhide HP2⟩

theorem fixed_put (h : WAt w p g bs) (s : ByteArray) (size : Int) (hfit : s.size ≤ 65535 → bs.length + s.size ≤ 140737488355328) (sb tb rb : Nat) (hs : w.cell? ⟨sb, 0, none⟩ = some (.int .i64 size)) (ht : w.cell? ⟨tb, 0, none⟩ = some (.string s)) (hr : w.cell? ⟨rb, 0, none⟩ = some (.pointer (some ⟨p, 0, none⟩))) (hrg : rb ≠ g) :
    Calls Try.prog 74 #[.pointer (some ⟨sb, 0, none⟩), .pointer (some ⟨tb, 0, none⟩), .pointer (some ⟨rb, 0, none⟩)] w (Put p g bs w (wFixed s size)) := by
  by_cases hc : 0 ≤ size ∧ size ≤ 65535 ∧ (s.size : Int) = size
  · rw [show wFixed s size = some s.data.toList by unfold wFixed; rw [if_pos hc]]
    obtain ⟨h1, h2, h3⟩ := hc
    subst h3
    exact fixed_yes h s (hfit (by omega)) sb tb rb hs ht hr (by omega) hrg
  · rw [show wFixed s size = none by unfold wFixed; rw [if_neg hc]]
    exact fixed_no size s sb tb rb hs ht hc

end
end Go.Proofs.Ytlhgfnpialndaaa

/- Contracts of put and of the writer's exported calls. -/
namespace Go.Proofs.Ytlhgfnpialndaaa
open Go.RowKit

/-- A writer's state: its bytes, or none where something was wrong. -/
def WSt (w : World) (p g : Nat) : Option (List UInt8) → Prop
  | some bs => WAt w p g bs
  | none => w.cell? ⟨p, 1, none⟩ = some (.bool true)

def stepW (s o : Option (List UInt8)) : Option (List UInt8) :=
  match s, o with
  | some bs, some ms => some (bs ++ ms)
  | _, _ => none

def WPuts (p g : Nat) (s : Option (List UInt8)) (w w' : World) : Prop := ∃ g', WSt w' p g' s ∧ Fr (fun k => k = p ∨ k = g) w w' ∧ (g' = g ∨ w.heap.size ≤ g')

theorem Puts.some {p g : Nat} {bs : List UInt8} {w w' : World} (h : Puts p g bs w w') : WPuts p g (some bs) w w' := h

theorem WPuts.later {p g : Nat} {s : Option (List UInt8)} {w w1 w2 : World} (hf : Fr (fun _ => False) w w1) (h : WPuts p g s w1 w2) : WPuts p g s w w2 := by
  obtain ⟨g', h1, h2, h3⟩ := h
  exact ⟨g', h1, (hf.mono (fun _ _ t => t.elim)).trans h2 (fun _ _ t => t), h3.imp id (fun t => Nat.le_trans hf.size t)⟩

theorem catch100 (p rb : Nat) (x : Int) (older : List PanicEntry) (w : World) (hr : w.cell? ⟨rb, 0, none⟩ = some (.pointer (some ⟨p, 0, none⟩)))
    (c0 : ∃ v, w.cell? ⟨p, 0, none⟩ = some v) (c1 : ∃ v, w.cell? ⟨p, 1, none⟩ = some v) (f0 : w.frozen? ⟨p, 0, none⟩ = false) (f1 : w.frozen? ⟨p, 1, none⟩ = false) :
    CallsD Try.prog 90 #[.pointer (some ⟨rb, 0, none⟩)] (.panicking ({ v := .iface 28 (.int .i64 x), recovered := false } :: older)) w fun e u' w' =>
      e = .returned (.tuple #[]) ∧ u' = .panicking ({ v := .iface 28 (.int .i64 x), recovered := true } :: older) ∧ w' = (w.setCell ⟨p, 0, none⟩ (.slice none 0 0)).setCell ⟨p, 1, none⟩ (.bool true) := by
  obtain ⟨v0, c0⟩ := c0
  obtain ⟨v1, c1⟩ := c1
  refine callsD_of_wpS Try.func90 rfl fun c₀ cs hu => ?_
  apply wpS_seq
  apply wpS_region
  simp [wpOpsS, go_sem, recoverD, hu, Try.ntmps90, Exit.thenS]
  refine wpS_cond (t := true) (by simp [Act.eval, Array.replicate]) ?_
  simp only [if_true]
  refine wpS_of_wp ?_
  go_wp2
  exact ⟨rfl, _, rfl, .tuple #[], by simp [results, Try.results90], rfl, rfl, rfl⟩

theorem idle100 (rb : Nat) (w : World) :
    CallsD Try.prog 90 #[.pointer (some ⟨rb, 0, none⟩)] .returning w fun e u' w' => e = .returned (.tuple #[]) ∧ u' = .returning ∧ w = w' := by
  refine callsD_of_wpS Try.func90 rfl fun c₀ cs hu => ?_
  apply wpS_seq
  apply wpS_region
  simp [wpOpsS, go_sem, recoverD, hu, Try.ntmps90, Exit.thenS]
  refine wpS_cond (t := false) (by simp [Act.eval, Array.replicate]) ?_
  simp only [Bool.false_eq_true, if_false]
  refine wpS_of_wp (wp_skip ?_)
  cases c₀
  simp_all [bodyPostS, results, Try.results90]

theorem put_bad {w : World} {p : Nat} (c1 : w.cell? ⟨p, 1, none⟩ = some (.bool true)) (fv : Value) :
    Calls Try.prog 73 #[.pointer (some ⟨p, 0, none⟩), fv] w fun e w' => e = .returned (.tuple #[]) ∧ w'.cell? ⟨p, 1, none⟩ = some (.bool true) ∧ Fr (fun _ => False) w w' := by
  have hlt := World.block_lt_of_cell? _ _ c1
  go_enter_defers Try.func73, Try.ntmps73
  go_wp2
  exact ⟨_, results_none rfl _ _ _, rfl, (World.cell?_alloc_lt _ _ _ hlt).trans c1, (Fr.refl _ _).alloc _⟩

theorem put79_any {w : World} {p g : Nat} {bs : List UInt8} (h : WAt w p g bs) (caps : Array Value) (o : Option (List UInt8))
    (hpiece : ∀ w1, Fr (fun _ => False) w w1 → WAt w1 p g bs → Calls Try.prog 79 caps w1 (Put p g bs w1 o)) :
    Calls Try.prog 73 #[.pointer (some ⟨p, 0, none⟩), .func (Fn.func 79) #[] caps] w fun e w' => e = .returned (.tuple #[]) ∧ WPuts p g (stepW (some bs) o) w w' := by
  have H := hide h
  have HP := hide hpiece
  have hlt := h.lt
  have hgl := h.glt
  have hmf := makes
  have c1 := h.c1
  clear h hpiece
  go_enter_defers Try.func73, Try.ntmps73
  go_wp2_with fail
  have hn0 : w.heap.size ≠ p := by omega
  have hn1 : w.heap.size ≠ g := by omega
  have hF0 : Fr (fun _ => False) w (w.alloc (.cells #[.pointer (some ⟨p, 0, none⟩)] 79)) := (Fr.refl _ _).alloc _
  have hW0 := (unhide H).alloc (.cells #[.pointer (some ⟨p, 0, none⟩)] 79)
  have hb0 : (w.alloc (.cells #[.pointer (some ⟨p, 0, none⟩)] 79)).cell? ⟨w.heap.size, 0, none⟩ = some (.pointer (some ⟨p, 0, none⟩)) := by simp
  refine (unhide HP _ hF0 hW0).mono ?_
  cases o with
  | some ms =>
    rintro e w2 ⟨rfl, hP⟩
    have HP2 := hide (Puts.later hF0 hP)
    clear hP hW0 hF0 hb0 HP H c1
    go_wp2
    refine leaves_cons (f := 90) (args := #[.pointer (some ⟨w.heap.size, 0, none⟩)]) (by simp) (by simp [go_sem]) ?_
    refine (idle100 _ _).mono ?_
    rintro e u' w'' ⟨rfl, rfl, rfl⟩
    exact ⟨_, results_none rfl _ _ _, rfl, (unhide HP2).some⟩
  | none =>
    rintro e w2 ⟨rfl, rfl⟩
    obtain ⟨ao, cap, c0, _⟩ := hW0.c0
    refine leaves_cons (f := 90) (args := #[.pointer (some ⟨w.heap.size, 0, none⟩)]) (by simp) (by simp [go_sem]) ?_
    refine (catch100 p w.heap.size 1 [] _ hb0 ⟨_, c0⟩ ⟨_, hW0.c1⟩ hW0.f0 hW0.f1).mono ?_
    rintro e u' w'' ⟨rfl, rfl, rfl⟩
    refine ⟨_, results_none rfl _ _ _, rfl, g, ?_, (((hF0.mono (T := fun k => k = p ∨ k = g) (fun _ _ t => t.elim)).setCell (p := ⟨p, 0, none⟩) (fun _ => .inl rfl) _).setCell (p := ⟨p, 1, none⟩) (fun _ => .inl rfl) _), .inl rfl⟩
    exact World.cell?_setCell_same _ _ _ ((World.cell?_setCell_other _ _ _ _ (by simp)).trans hW0.c1)

theorem put86_any {w : World} {p g : Nat} {bs : List UInt8} (h : WAt w p g bs) (caps : Array Value) (o : Option (List UInt8))
    (hpiece : ∀ w1, Fr (fun _ => False) w w1 → WAt w1 p g bs → Calls Try.prog 74 caps w1 (Put p g bs w1 o)) :
    Calls Try.prog 73 #[.pointer (some ⟨p, 0, none⟩), .func (Fn.func 74) #[] caps] w fun e w' => e = .returned (.tuple #[]) ∧ WPuts p g (stepW (some bs) o) w w' := by
  have H := hide h
  have HP := hide hpiece
  have hlt := h.lt
  have hgl := h.glt
  have hmf := makes
  have c1 := h.c1
  clear h hpiece
  go_enter_defers Try.func73, Try.ntmps73
  go_wp2_with fail
  have hn0 : w.heap.size ≠ p := by omega
  have hn1 : w.heap.size ≠ g := by omega
  have hF0 : Fr (fun _ => False) w (w.alloc (.cells #[.pointer (some ⟨p, 0, none⟩)] 79)) := (Fr.refl _ _).alloc _
  have hW0 := (unhide H).alloc (.cells #[.pointer (some ⟨p, 0, none⟩)] 79)
  have hb0 : (w.alloc (.cells #[.pointer (some ⟨p, 0, none⟩)] 79)).cell? ⟨w.heap.size, 0, none⟩ = some (.pointer (some ⟨p, 0, none⟩)) := by simp
  refine (unhide HP _ hF0 hW0).mono ?_
  cases o with
  | some ms =>
    rintro e w2 ⟨rfl, hP⟩
    have HP2 := hide (Puts.later hF0 hP)
    clear hP hW0 hF0 hb0 HP H c1
    go_wp2
    refine leaves_cons (f := 90) (args := #[.pointer (some ⟨w.heap.size, 0, none⟩)]) (by simp) (by simp [go_sem]) ?_
    refine (idle100 _ _).mono ?_
    rintro e u' w'' ⟨rfl, rfl, rfl⟩
    exact ⟨_, results_none rfl _ _ _, rfl, (unhide HP2).some⟩
  | none =>
    rintro e w2 ⟨rfl, rfl⟩
    obtain ⟨ao, cap, c0, _⟩ := hW0.c0
    refine leaves_cons (f := 90) (args := #[.pointer (some ⟨w.heap.size, 0, none⟩)]) (by simp) (by simp [go_sem]) ?_
    refine (catch100 p w.heap.size 1 [] _ hb0 ⟨_, c0⟩ ⟨_, hW0.c1⟩ hW0.f0 hW0.f1).mono ?_
    rintro e u' w'' ⟨rfl, rfl, rfl⟩
    refine ⟨_, results_none rfl _ _ _, rfl, g, ?_, (((hF0.mono (T := fun k => k = p ∨ k = g) (fun _ _ t => t.elim)).setCell (p := ⟨p, 0, none⟩) (fun _ => .inl rfl) _).setCell (p := ⟨p, 1, none⟩) (fun _ => .inl rfl) _), .inl rfl⟩
    exact World.cell?_setCell_same _ _ _ ((World.cell?_setCell_other _ _ _ _ (by simp)).trans hW0.c1)

end Go.Proofs.Ytlhgfnpialndaaa

/- Contracts of the writer's exported calls: what becomes of the writer. -/
namespace Go.Proofs.Ytlhgfnpialndaaa
open Go.RowKit

theorem stepW_none (o : Option (List UInt8)) : stepW none o = none := by cases o <;> rfl

theorem wnumber_some {w : World} {p g : Nat} {bs : List UInt8} (h : WAt w p g bs) (hfit : bs.length + 8 ≤ 140737488355328) (n : Int) (size : Int) (hn : n ≤ 9223372036854775807) :
    Calls Try.prog 60 #[.pointer (some ⟨p, 0, none⟩), .int .i64 n, .int .i64 size] w fun e w' => e = .returned (.tuple #[]) ∧ WPuts p g (stepW (some bs) (wNumber n size)) w w' := by
  have H := hide h
  have hlt := h.lt
  have hgl := h.glt
  have hmf := makes
  clear h
  obtain ⟨o, HO⟩ : ∃ o, Hid (wNumber n size = o) := ⟨_, rfl⟩
  rw [unhide HO]
  go_enter Try.func60, Try.ntmps60
  go_wp2_with fail
  skip
  have hF0 : Fr (fun _ => False) w (((w.alloc (.cells #[.pointer (some ⟨p, 0, none⟩)] 79)).alloc (.cells #[.int .i64 n] 3)).alloc (.cells #[.int .i64 size] 3)) := ((((Fr.refl _ _).alloc _).alloc _).alloc _)
  refine (put79_any ((((unhide H).alloc (.cells #[.pointer (some ⟨p, 0, none⟩)] 79)).alloc (.cells #[.int .i64 n] 3)).alloc (.cells #[.int .i64 size] 3)) _ o ?_).mono ?_
  · intro w1 hF hW
    have k0 : w1.cell? ⟨w.heap.size, 0, none⟩ = some (.pointer (some ⟨p, 0, none⟩)) := (hF.cell (a := ⟨w.heap.size, 0, none⟩) (by simp <;> omega) (fun t => t)).trans (by simp [go_sem])
    have k1 : w1.cell? ⟨w.heap.size + 1, 0, none⟩ = some (.int .i64 n) := (hF.cell (a := ⟨w.heap.size + 1, 0, none⟩) (by simp <;> omega) (fun t => t)).trans (by simp [go_sem])
    have k2 : w1.cell? ⟨w.heap.size + 2, 0, none⟩ = some (.int .i64 size) := (hF.cell (a := ⟨w.heap.size + 2, 0, none⟩) (by simp <;> omega) (fun t => t)).trans (by simp [go_sem])
    rw [← unhide HO]
    exact number_put hW hfit n size hn _ _ _ k2 k1 k0
  rintro e w1 ⟨rfl, hP⟩
  have HP := hide (WPuts.later hF0 hP)
  clear hP hF0 H HO
  go_wp2
  go_end0
  exact ⟨rfl, unhide HP⟩

theorem wnumber_none {w : World} {p : Nat} (c1 : w.cell? ⟨p, 1, none⟩ = some (.bool true)) (n : Int) (size : Int) :
    Calls Try.prog 60 #[.pointer (some ⟨p, 0, none⟩), .int .i64 n, .int .i64 size] w fun e w' => e = .returned (.tuple #[]) ∧ w'.cell? ⟨p, 1, none⟩ = some (.bool true) ∧ Fr (fun _ => False) w w' := by
  have hlt := World.block_lt_of_cell? _ _ c1
  have hmf := makes
  go_enter Try.func60, Try.ntmps60
  go_wp2_with fail
  have hF0 : Fr (fun _ => False) w (((w.alloc (.cells #[.pointer (some ⟨p, 0, none⟩)] 79)).alloc (.cells #[.int .i64 n] 3)).alloc (.cells #[.int .i64 size] 3)) := ((((Fr.refl _ _).alloc _).alloc _).alloc _)
  refine (put_bad ((hF0.cell (a := ⟨p, 1, none⟩) hlt (fun t => t)).trans c1) _).mono ?_
  rintro e w1 ⟨rfl, hR, hF⟩
  have HD2 := hide (And.intro hR (hF0.trans hF (fun _ _ t => t)))
  clear hR hF hF0
  go_wp2
  go_end0
  exact ⟨rfl, unhide HD2⟩

/-- Number -/
theorem wnumber_any {w : World} {p g : Nat} {s : Option (List UInt8)} (h : WSt w p g s) (hfit : ∀ bs, s = some bs → bs.length + 8 ≤ 140737488355328) (n : Int) (size : Int) (hn : n ≤ 9223372036854775807) :
    Calls Try.prog 60 #[.pointer (some ⟨p, 0, none⟩), .int .i64 n, .int .i64 size] w fun e w' => e = .returned (.tuple #[]) ∧ WPuts p g (stepW s (wNumber n size)) w w' := by
  cases s with
  | some bs => exact wnumber_some h (hfit bs rfl) n size hn
  | none =>
    rw [stepW_none]
    refine (wnumber_none h n size).mono ?_
    rintro e w' ⟨rfl, hR, hF⟩
    exact ⟨rfl, g, hR, hF.mono (fun _ _ t => t.elim), .inl rfl⟩

theorem wfixed_some {w : World} {p g : Nat} {bs : List UInt8} (h : WAt w p g bs) (t : ByteArray) (size : Int) (hfit : t.size ≤ 65535 → bs.length + t.size ≤ 140737488355328) :
    Calls Try.prog 57 #[.pointer (some ⟨p, 0, none⟩), .string t, .int .i64 size] w fun e w' => e = .returned (.tuple #[]) ∧ WPuts p g (stepW (some bs) (wFixed t size)) w w' := by
  have H := hide h
  have hlt := h.lt
  have hgl := h.glt
  have hmf := makes
  clear h
  obtain ⟨o, HO⟩ : ∃ o, Hid (wFixed t size = o) := ⟨_, rfl⟩
  rw [unhide HO]
  go_enter Try.func57, Try.ntmps57
  go_wp2_with fail
  have ng0 : w.heap.size ≠ g := by omega
  have hF0 : Fr (fun _ => False) w (((w.alloc (.cells #[.pointer (some ⟨p, 0, none⟩)] 79)).alloc (.cells #[.string t] 9)).alloc (.cells #[.int .i64 size] 3)) := ((((Fr.refl _ _).alloc _).alloc _).alloc _)
  refine (put86_any ((((unhide H).alloc (.cells #[.pointer (some ⟨p, 0, none⟩)] 79)).alloc (.cells #[.string t] 9)).alloc (.cells #[.int .i64 size] 3)) _ o ?_).mono ?_
  · intro w1 hF hW
    have k0 : w1.cell? ⟨w.heap.size, 0, none⟩ = some (.pointer (some ⟨p, 0, none⟩)) := (hF.cell (a := ⟨w.heap.size, 0, none⟩) (by simp <;> omega) (fun t => t)).trans (by simp [go_sem])
    have k1 : w1.cell? ⟨w.heap.size + 1, 0, none⟩ = some (.string t) := (hF.cell (a := ⟨w.heap.size + 1, 0, none⟩) (by simp <;> omega) (fun t => t)).trans (by simp [go_sem])
    have k2 : w1.cell? ⟨w.heap.size + 2, 0, none⟩ = some (.int .i64 size) := (hF.cell (a := ⟨w.heap.size + 2, 0, none⟩) (by simp <;> omega) (fun t => t)).trans (by simp [go_sem])
    rw [← unhide HO]
    exact fixed_put hW t size hfit _ _ _ k2 k1 k0 ng0
  rintro e w1 ⟨rfl, hP⟩
  have HP := hide (WPuts.later hF0 hP)
  clear hP hF0 H HO
  go_wp2
  go_end0
  exact ⟨rfl, unhide HP⟩

theorem wfixed_none {w : World} {p : Nat} (c1 : w.cell? ⟨p, 1, none⟩ = some (.bool true)) (t : ByteArray) (size : Int) :
    Calls Try.prog 57 #[.pointer (some ⟨p, 0, none⟩), .string t, .int .i64 size] w fun e w' => e = .returned (.tuple #[]) ∧ w'.cell? ⟨p, 1, none⟩ = some (.bool true) ∧ Fr (fun _ => False) w w' := by
  have hlt := World.block_lt_of_cell? _ _ c1
  have hmf := makes
  go_enter Try.func57, Try.ntmps57
  go_wp2_with fail
  have hF0 : Fr (fun _ => False) w (((w.alloc (.cells #[.pointer (some ⟨p, 0, none⟩)] 79)).alloc (.cells #[.string t] 9)).alloc (.cells #[.int .i64 size] 3)) := ((((Fr.refl _ _).alloc _).alloc _).alloc _)
  refine (put_bad ((hF0.cell (a := ⟨p, 1, none⟩) hlt (fun t => t)).trans c1) _).mono ?_
  rintro e w1 ⟨rfl, hR, hF⟩
  have HD2 := hide (And.intro hR (hF0.trans hF (fun _ _ t => t)))
  clear hR hF hF0
  go_wp2
  go_end0
  exact ⟨rfl, unhide HD2⟩

/-- Fixed -/
theorem wfixed_any {w : World} {p g : Nat} {s : Option (List UInt8)} (h : WSt w p g s) (t : ByteArray) (size : Int) (hfit : ∀ bs, s = some bs → t.size ≤ 65535 → bs.length + t.size ≤ 140737488355328) :
    Calls Try.prog 57 #[.pointer (some ⟨p, 0, none⟩), .string t, .int .i64 size] w fun e w' => e = .returned (.tuple #[]) ∧ WPuts p g (stepW s (wFixed t size)) w w' := by
  cases s with
  | some bs => exact wfixed_some h t size (hfit bs rfl)
  | none =>
    rw [stepW_none]
    refine (wfixed_none h t size).mono ?_
    rintro e w' ⟨rfl, hR, hF⟩
    exact ⟨rfl, g, hR, hF.mono (fun _ _ t => t.elim), .inl rfl⟩

end Go.Proofs.Ytlhgfnpialndaaa

