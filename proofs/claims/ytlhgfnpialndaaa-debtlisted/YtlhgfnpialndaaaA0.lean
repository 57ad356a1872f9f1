import Derived.WalkKit
import Derived.WalkSmall
import Derived.WalkLawsBesides
import Derived.WalkSpells
import Derived.Deep.Draws
/- The words in which the contracts of package wire are said: what a call may turn ('Fr'), what a reader in memory is ('RAt'), what a writer in memory is ('WAt'), a number out of its bytes. No program is named here. -/
namespace Go.Proofs.Ytlhgfnpialndaaa
open Go.RowKit

theorem hide {p : Prop} (h : p) : Hid p := h
theorem unhide {p : Prop} (h : Hid p) : p := h

/-- Of the blocks that were there only those in S may have turned. -/
structure Fr (S : Nat → Prop) (w w' : World) : Prop where
  os : w'.os = w.os
  tape : w'.tape = w.tape
  output : w'.output = w.output
  size : w.heap.size ≤ w'.heap.size
  block : ∀ k, k < w.heap.size → ¬ S k → w'.heap[k]? = w.heap[k]?

theorem Fr.refl (S : Nat → Prop) (w : World) : Fr S w w := ⟨rfl, rfl, rfl, Nat.le_refl _, fun _ _ _ => rfl⟩

theorem Fr.trans {S T : Nat → Prop} {a b c : World} (h : Fr S a b) (k : Fr T b c) (hT : ∀ i, i < a.heap.size → T i → S i) : Fr S a c :=
  ⟨k.os.trans h.os, k.tape.trans h.tape, k.output.trans h.output, Nat.le_trans h.size k.size,
    fun i hi hn => (k.block i (Nat.lt_of_lt_of_le hi h.size) (fun t => hn (hT i hi t))).trans (h.block i hi hn)⟩

theorem Fr.mono {S T : Nat → Prop} {a b : World} (h : Fr S a b) (hT : ∀ i, i < a.heap.size → S i → T i) : Fr T a b :=
  ⟨h.os, h.tape, h.output, h.size, fun i hi hn => h.block i hi (fun s => hn (hT i hi s))⟩

theorem Fr.alloc {S : Nat → Prop} {a w : World} (h : Fr S a w) (o : Obj) : Fr S a (w.alloc o) :=
  h.trans (T := fun _ => False) ⟨rfl, rfl, rfl, by simp, fun k hk _ => Below.heap_alloc _ _ _ hk⟩ (fun _ _ t => t.elim)

theorem Fr.setCell {S : Nat → Prop} {a w : World} (h : Fr S a w) {p : Addr} (hp : p.block < a.heap.size → S p.block) (u : Value) : Fr S a (w.setCell p u) :=
  h.trans (T := fun k => k = p.block) ⟨rfl, rfl, rfl, by simp [World.setCell], fun k _ hn => Below.heap_setCell _ _ _ _ hn⟩ (fun _ hi t => by subst t; exact hp hi)

theorem Fr.drew {S : Nat → Prop} {a w : World} (h : Fr S a w) : Fr S a w.drew := ⟨h.os, h.tape, h.output, h.size, h.block⟩
theorem Fr.drewN {S : Nat → Prop} {a w : World} (h : Fr S a w) (n : Nat) : Fr S a (w.drewN n) := ⟨h.os, h.tape, h.output, h.size, h.block⟩

theorem Fr.below {S : Nat → Prop} {w w' : World} (h : Fr S w w') {B : Nat} (hB : B ≤ w.heap.size) (hS : ∀ k, S k → B ≤ k) : Below B w w' :=
  ⟨h.os, h.tape, h.output, h.size, fun k hk => h.block k (by omega) (fun s => by have := hS k s; omega)⟩

theorem Fr.of_below {B : Nat} {w w' : World} (h : Below B w w') {S : Nat → Prop} (hS : ∀ k, k < w.heap.size → B ≤ k → S k) : Fr S w w' :=
  ⟨h.os, h.tape, h.output, h.size, fun k hk hn => h.block k (by by_cases hkb : k < B; exact hkb; exact absurd (hS k hk (by omega)) hn)⟩

theorem Fr.cell {S : Nat → Prop} {w w' : World} (h : Fr S w w') {a : Addr} (ha : a.block < w.heap.size) (hn : ¬ S a.block) : w'.cell? a = w.cell? a :=
  World.cell?_of_block (h.block a.block ha hn)
theorem Fr.frozen {S : Nat → Prop} {w w' : World} (h : Fr S w w') {a : Addr} (ha : a.block < w.heap.size) (hn : ¬ S a.block) : w'.frozen? a = w.frozen? a :=
  World.frozen?_of_block (h.block a.block ha hn)

/-- A number's bytes, the highest first. -/
def num (l : List UInt8) : Nat := l.foldl (fun n b => n * 256 + b.toNat) 0

theorem num_snoc (l : List UInt8) (b : UInt8) : num (l ++ [b]) = num l * 256 + b.toNat := by simp [num]

theorem num_from (l : List UInt8) (n : Nat) : l.foldl (fun n b => n * 256 + b.toNat) n < (n + 1) * 256 ^ l.length := by
  induction l generalizing n with
  | nil => simp
  | cons b l ih =>
    have hb := b.toNat_lt
    refine Nat.lt_of_lt_of_le (ih (n * 256 + b.toNat)) ?_
    rw [List.length_cons, Nat.pow_succ, Nat.mul_comm (256 ^ l.length) 256, ← Nat.mul_assoc]
    exact Nat.mul_le_mul_right _ (by omega)

theorem num_lt (l : List UInt8) : num l < 256 ^ l.length := by
  have := num_from l 0
  simpa [num] using this

theorem take_more (l : List UInt8) (j : Nat) (h : j < l.length) : l.take (j + 1) = l.take j ++ [l[j]] := List.take_succ_eq_append_getElem h

theorem wrap_u64_small (n : Nat) (h : n < 18446744073709551616) : IntKind.u64.wrap (n : Int) = (n : Int) := by
  rw [IntKind.wrap_u64]; omega

theorem or_digit (N b : Nat) (hN : N < 72057594037927936) (hb : b < 256) : bits .or .u64 ((N : Int) * 256) (IntKind.u64.wrap (b : Int)) = ((N * 256 + b : Nat) : Int) := by
  rw [show ((N : Int) * 256) = ((N * 256 : Nat) : Int) by omega, wrap_u64_small _ (by omega), u64_or_nat _ _ (by omega) (by omega)]
  have := Nat.shiftLeft_add_eq_or_of_lt (a := N) (b := b) (i := 8) (by omega)
  rw [Nat.shiftLeft_eq] at this
  exact congrArg Nat.cast this.symm

theorem pow56 (l : List UInt8) (h : l.length ≤ 7) : num l < 72057594037927936 := by
  refine Nat.lt_of_lt_of_le (num_lt l) ?_
  exact Nat.le_trans (Nat.pow_le_pow_right (by omega) h) (by decide)

theorem pow64 (l : List UInt8) (h : l.length ≤ 8) : num l < 18446744073709551616 := by
  refine Nat.lt_of_lt_of_le (num_lt l) ?_
  exact Nat.le_trans (Nat.pow_le_pow_right (by omega) h) (by decide)

/-- A reader in memory, in block p, its bytes in block g: the bytes, where it is, where the last piece began, the fault. -/
structure RAt (w : World) (p g : Nat) (bs : List UInt8) (a l : Nat) (c f : Int) : Prop where
  c0 : ∃ ao cap, w.cell? ⟨p, 0, none⟩ = some (.slice ao bs.length cap) ∧ bs.length ≤ cap ∧ cap ≤ 9223372036854775807 ∧ (0 < cap → ao = some ⟨g, 0, none⟩)
  c1 : w.cell? ⟨p, 1, none⟩ = some (.int .i64 a)
  c2 : w.cell? ⟨p, 2, none⟩ = some (.int .i64 l)
  c3 : w.cell? ⟨p, 3, none⟩ = some (.int .i64 c)
  c4 : w.cell? ⟨p, 4, none⟩ = some (.int .i64 f)
  fz : ∀ i, i < 5 → w.frozen? ⟨p, i, none⟩ = false
  row : ∀ j (hj : j < bs.length), w.cell? ⟨g, j, none⟩ = some (.int .u8 (bs[j].toNat))
  ne : 0 < bs.length → g ≠ p
  le : a ≤ bs.length
  small : bs.length ≤ 140737488355328

theorem RAt.lt {w : World} {p g : Nat} {bs : List UInt8} {a l : Nat} {c f : Int} (h : RAt w p g bs a l c f) : p < w.heap.size := World.block_lt_of_cell? _ _ h.c1

theorem RAt.stay {w w' : World} {p g : Nat} {bs : List UInt8} {a l : Nat} {c f : Int} (h : RAt w p g bs a l c f) (hb : ∀ k, k = p ∨ k = g → k < w.heap.size → w'.heap[k]? = w.heap[k]?) : RAt w' p g bs a l c f := by
  have hp := hb p (.inl rfl) h.lt
  have e : ∀ i, w'.cell? ⟨p, i, none⟩ = w.cell? ⟨p, i, none⟩ := fun i => World.cell?_of_block (a := ⟨p, i, none⟩) hp
  have e' : ∀ i, w'.frozen? ⟨p, i, none⟩ = w.frozen? ⟨p, i, none⟩ := fun i => World.frozen?_of_block (a := ⟨p, i, none⟩) hp
  refine ⟨?_, (e 1).trans h.c1, (e 2).trans h.c2, (e 3).trans h.c3, (e 4).trans h.c4, fun i hi => (e' i).trans (h.fz i hi), fun j hj => ?_, h.ne, h.le, h.small⟩
  · obtain ⟨ao, cap, h0, r⟩ := h.c0
    exact ⟨ao, cap, (e 0).trans h0, r⟩
  · have hg := World.block_lt_of_cell? _ _ (h.row j hj)
    exact (World.cell?_of_block (a := ⟨g, j, none⟩) (hb g (.inr rfl) hg)).trans (h.row j hj)

theorem RAt.frame {S : Nat → Prop} {w w' : World} {p g : Nat} {bs : List UInt8} {a l : Nat} {c f : Int} (h : RAt w p g bs a l c f) (hf : Fr S w w') (hp : ¬ S p) (hg : ¬ S g) : RAt w' p g bs a l c f :=
  h.stay fun k hk hlt => hf.block k hlt (by rcases hk with rfl | rfl <;> assumption)

theorem RAt.alloc {w : World} {p g : Nat} {bs : List UInt8} {a l : Nat} {c f : Int} (h : RAt w p g bs a l c f) (o : Obj) : RAt (w.alloc o) p g bs a l c f :=
  h.stay fun _ _ hlt => Below.heap_alloc _ _ _ hlt

theorem RAt.drewN {w : World} {p g : Nat} {bs : List UInt8} {a l : Nat} {c f : Int} (h : RAt w p g bs a l c f) (n : Nat) : RAt (w.drewN n) p g bs a l c f :=
  h.stay fun _ _ _ => rfl

theorem RAt.setAt {w : World} {p g : Nat} {bs : List UInt8} {a l : Nat} {c f : Int} (h : RAt w p g bs a l c f) (a' : Nat) (ha : a' ≤ bs.length) : RAt (w.setCell ⟨p, 1, none⟩ (.int .i64 a')) p g bs a' l c f := by
  have e : ∀ b i, ¬ (b = p ∧ i = 1) → (w.setCell ⟨p, 1, none⟩ (.int .i64 a')).cell? ⟨b, i, none⟩ = w.cell? ⟨b, i, none⟩ := fun b i hi => World.cell?_setCell_other _ _ _ _ (by intro h; injection h with h1 h2; exact hi ⟨h1.symm, h2.symm⟩)
  refine ⟨?_, World.cell?_setCell_same _ _ _ h.c1, (e _ _ (by omega)).trans h.c2, (e _ _ (by omega)).trans h.c3, (e _ _ (by omega)).trans h.c4, fun i hi => by rw [World.frozen?_setCell]; exact h.fz i hi, fun j hj => (e _ _ ?_).trans (h.row j hj), h.ne, ha, h.small⟩
  · obtain ⟨ao, cap, h0, r⟩ := h.c0
    exact ⟨ao, cap, (e _ _ (by omega)).trans h0, r⟩
  · have := h.ne (by omega); omega

theorem RAt.setLast {w : World} {p g : Nat} {bs : List UInt8} {a l : Nat} {c f : Int} (h : RAt w p g bs a l c f) (l' : Nat) : RAt (w.setCell ⟨p, 2, none⟩ (.int .i64 l')) p g bs a l' c f := by
  have e : ∀ b i, ¬ (b = p ∧ i = 2) → (w.setCell ⟨p, 2, none⟩ (.int .i64 l')).cell? ⟨b, i, none⟩ = w.cell? ⟨b, i, none⟩ := fun b i hi => World.cell?_setCell_other _ _ _ _ (by intro h; injection h with h1 h2; exact hi ⟨h1.symm, h2.symm⟩)
  refine ⟨?_, (e _ _ (by omega)).trans h.c1, World.cell?_setCell_same _ _ _ h.c2, (e _ _ (by omega)).trans h.c3, (e _ _ (by omega)).trans h.c4, fun i hi => by rw [World.frozen?_setCell]; exact h.fz i hi, fun j hj => (e _ _ ?_).trans (h.row j hj), h.ne, h.le, h.small⟩
  · obtain ⟨ao, cap, h0, r⟩ := h.c0
    exact ⟨ao, cap, (e _ _ (by omega)).trans h0, r⟩
  · have := h.ne (by omega); omega

theorem RAt.setCode {w : World} {p g : Nat} {bs : List UInt8} {a l : Nat} {c f : Int} (h : RAt w p g bs a l c f) (c' : Int) : RAt (w.setCell ⟨p, 3, none⟩ (.int .i64 c')) p g bs a l c' f := by
  have e : ∀ b i, ¬ (b = p ∧ i = 3) → (w.setCell ⟨p, 3, none⟩ (.int .i64 c')).cell? ⟨b, i, none⟩ = w.cell? ⟨b, i, none⟩ := fun b i hi => World.cell?_setCell_other _ _ _ _ (by intro h; injection h with h1 h2; exact hi ⟨h1.symm, h2.symm⟩)
  refine ⟨?_, (e _ _ (by omega)).trans h.c1, (e _ _ (by omega)).trans h.c2, World.cell?_setCell_same _ _ _ h.c3, (e _ _ (by omega)).trans h.c4, fun i hi => by rw [World.frozen?_setCell]; exact h.fz i hi, fun j hj => (e _ _ ?_).trans (h.row j hj), h.ne, h.le, h.small⟩
  · obtain ⟨ao, cap, h0, r⟩ := h.c0
    exact ⟨ao, cap, (e _ _ (by omega)).trans h0, r⟩
  · have := h.ne (by omega); omega

theorem RAt.setPlace {w : World} {p g : Nat} {bs : List UInt8} {a l : Nat} {c f : Int} (h : RAt w p g bs a l c f) (f' : Int) : RAt (w.setCell ⟨p, 4, none⟩ (.int .i64 f')) p g bs a l c f' := by
  have e : ∀ b i, ¬ (b = p ∧ i = 4) → (w.setCell ⟨p, 4, none⟩ (.int .i64 f')).cell? ⟨b, i, none⟩ = w.cell? ⟨b, i, none⟩ := fun b i hi => World.cell?_setCell_other _ _ _ _ (by intro h; injection h with h1 h2; exact hi ⟨h1.symm, h2.symm⟩)
  refine ⟨?_, (e _ _ (by omega)).trans h.c1, (e _ _ (by omega)).trans h.c2, (e _ _ (by omega)).trans h.c3, World.cell?_setCell_same _ _ _ h.c4, fun i hi => by rw [World.frozen?_setCell]; exact h.fz i hi, fun j hj => (e _ _ ?_).trans (h.row j hj), h.ne, h.le, h.small⟩
  · obtain ⟨ao, cap, h0, r⟩ := h.c0
    exact ⟨ao, cap, (e _ _ (by omega)).trans h0, r⟩
  · have := h.ne (by omega); omega

end Go.Proofs.Ytlhgfnpialndaaa

