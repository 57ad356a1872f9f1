import Derived.Test.YtjkghgcdkfkekaaGreatDoorYM1
import Derived.Test.YtjkghgcdkfkekaaGreatDoorQK1
import Derived.Test.YtjkghgcdkfkekaaGreatDoorBX
import Derived.Test.YtjkghgcdkfkekaaGreatDoorSS2
import Derived.Maps.RangeWalk
import Derived.Maps.Ext
import Derived.BigQuiet
import Derived.Deep.RegionHeld3
import Derived.Carry
import Derived.Laws.CopyRow
import Derived.Laws.MakeOwn
/- A disk in memory: the box with its two maps and the row of what waits ('DAt'), roles of blocks, what stays. -/
namespace Go.Proofs.YtjkghgcdkfkekaaGreatDoor
open Go.RowKit

/-- How a sector's value in a map reads: as itself. -/
def asIs (v : Value) : Option (DataW Value × List MemPlace) := some (.held v, [])

theorem intKey (a : Nat) (h : a < 4294967296) : keyOf Tryz.prog 3 (.int .i64 (a : Int)) = some (.int .i64 (a : Int)) := by
  have hw : (Lit.int .i64 (a : Int)).wf = true := by simp [Lit.wf, IntKind.min, IntKind.max, IntKind.signed, IntKind.bits]; omega
  simp [keyOf, Tryz.underlying3, mapKey, hw]

theorem keyed3 : Maps.Keyed Tryz.prog 3 := Maps.int_keyed Tryz.underlying3

/-- What a map has at a sector. -/
def valAt (D : DataW Value) (a : Nat) : Value := match D.atKey (.int .i64 (a : Int)) (.held (.slice none 0 0)) with
  | .held v => v
  | _ => .slice none 0 0

/-- A sector's bytes in memory: nothing (all 0), or a row that nobody writes (role 5). -/
def Sec (w : World) (R : Nat → Nat) (v : Value) (bs : Bs) : Prop := bs.length = 512 ∧
  ((v = .slice none 0 0 ∧ bs = zeros 512) ∨ ∃ g cap, v = .slice (some ⟨g, 0, none⟩) 512 cap ∧ 512 ≤ cap ∧ R g = 5 ∧ g < w.heap.size ∧ ∀ j (hj : j < bs.length), w.cell? ⟨g, j, none⟩ = some (.int .u8 (bs[j].toNat)))

theorem Sec.frame {S : Nat → Prop} {w w' : World} {R R' : Nat → Nat} {v : Value} {bs : Bs} (h : Sec w R v bs) (hF : Fr S w w') (hS : ∀ k, R k = 5 → ¬ S k) (hR : ∀ k, k < w.heap.size → R' k = R k) : Sec w' R' v bs := by
  obtain ⟨h0, h | ⟨g, cap, h1, h2, h3, h4, h5⟩⟩ := h
  · exact ⟨h0, .inl h⟩
  · exact ⟨h0, .inr ⟨g, cap, h1, h2, by rw [hR g h4]; exact h3, Nat.lt_of_lt_of_le h4 hF.size, fun j hj => (hF.cell (a := ⟨g, j, none⟩) h4 (hS g h3)).trans (h5 j hj)⟩⟩

/-- A map of sectors. -/
structure MapAt (w : World) (R : Nat → Nat) (m n : Nat) (f : Nat → Bs) (D : DataW Value) : Prop where
  own : w.ownsMap Tryz.prog 3 asIs m n D
  sec : ∀ a, Sec w R (valAt D a) (f a)

theorem MapAt.frame {S : Nat → Prop} {w w' : World} {R R' : Nat → Nat} {m n : Nat} {f : Nat → Bs} {D : DataW Value} (h : MapAt w R m n f D) (hF : Fr S w w') (hS : ∀ k, R k = 5 → ¬ S k) (hm : ¬ S m) (hR : ∀ k, k < w.heap.size → R' k = R k) : MapAt w' R' m n f D := by
  refine ⟨?_, fun a => (h.sec a).frame hF hS hR⟩
  have hlt := h.own.lt
  obtain ⟨es, clock, hb, F, hs, hD⟩ := h.own
  exact ⟨es, clock, (hF.block m hlt hm).trans hb, F, hs, hD⟩

/-- The cells of what waits. -/
def waitV (xs : List (Nat × Value)) : List Value := xs.flatMap fun x => [.int .i64 (x.1 : Int), x.2]
theorem waitV_length (xs : List (Nat × Value)) : (waitV xs).length = xs.length * 2 := by
  induction xs with
  | nil => rfl
  | cons x r ih => simp [waitV] at *; omega
theorem waitV_get (xs : List (Nat × Value)) (i : Nat) (h : i < xs.length) : (waitV xs)[i * 2]? = some (.int .i64 (xs[i].1 : Int)) ∧ (waitV xs)[i * 2 + 1]? = some xs[i].2 := by
  induction xs generalizing i with
  | nil => simp at h
  | cons x r ih =>
    cases i with
    | zero => simp [waitV]
    | succ i =>
      have := ih i (by simpa using h)
      simp only [waitV, List.flatMap_cons, List.cons_append, List.nil_append, List.getElem_cons_succ] at *
      rw [show (i + 1) * 2 = i * 2 + 1 + 1 by omega, show i * 2 + 1 + 1 + 1 = (i * 2 + 1) + 1 + 1 by omega]
      simpa using this
theorem waitV_append (xs ys : List (Nat × Value)) : waitV (xs ++ ys) = waitV xs ++ waitV ys := by simp [waitV]

/-- What waits, as a row. -/
structure WaitAt (w : World) (R : Nat → Nat) (ao : Option Addr) (cap g : Nat) (xs : List (Nat × Value)) (l : List (Nat × Bs)) : Prop where
  len : xs.length = l.length
  row : KRow w ao cap g 2 (waitV xs)
  role : 0 < cap → R g = 4 ∧ g < w.heap.size
  each : ∀ i (h : i < xs.length) (h' : i < l.length), xs[i].1 = l[i].1 ∧ Sec w R xs[i].2 l[i].2

theorem WaitAt.frame {S : Nat → Prop} {w w' : World} {R R' : Nat → Nat} {ao : Option Addr} {cap g : Nat} {xs : List (Nat × Value)} {l : List (Nat × Bs)} (h : WaitAt w R ao cap g xs l) (hF : Fr S w w') (hS : ∀ k, R k = 5 → ¬ S k) (hm : ∀ k, R k = 4 → ¬ S k)
    (hR : ∀ k, k < w.heap.size → R' k = R k) : WaitAt w' R' ao cap g xs l := by
  refine ⟨h.len, h.row.stay fun hc => hF.block g (h.role hc).2 (hm g (h.role hc).1), fun hc => ⟨by rw [hR g (h.role hc).2]; exact (h.role hc).1, Nat.lt_of_lt_of_le (h.role hc).2 hF.size⟩, fun i h1 h2 => ⟨(h.each i h1 h2).1, (h.each i h1 h2).2.frame hF hS hR⟩⟩

/-- The cells of a disk's box. -/
def boxC (d : Dk) (ms mn : Nat) (ao : Option Addr) (cap : Nat) : Array Value := #[.int .i64 (d.many : Int), .map (some ms), .map (some mn), .slice ao d.wait.length cap, .bool d.armed, .int .i64 (d.acts : Int), .bool d.done, .bool d.down]

/-- The disk's box b. Roles: 1 the box, 2 the map of what is safe, 3 of what is read, 4 the row of what waits, 5 what nobody writes any more, 6 and above: others'. -/
structure DAt (w : World) (R : Nat → Nat) (b : Nat) (d : Dk) : Prop where
  zero : ∀ k, w.heap.size ≤ k → R k = 0
  role : R b = 1
  box : ∃ ms mn Ds Dn ao cap g xs, Bx w b (boxC d ms mn ao cap) 83 ∧ R ms = 2 ∧ R mn = 3 ∧ MapAt w R ms d.cnt d.safe Ds ∧ MapAt w R mn d.cnt d.look Dn ∧ WaitAt w R ao cap g xs d.wait
  many : d.many < 4294967296
  acts : d.acts < 9223372036854775808
  keys : ∀ p ∈ d.wait, p.1 < 4294967296
  wcnt : d.wait.length ≤ d.cnt

/-- What of the disk may turn. -/
def DS (R : Nat → Nat) (k : Nat) : Prop := 1 ≤ R k ∧ R k ≤ 4

/-- The roles of what was there stay. -/
def UpR (w : World) (R R' : Nat → Nat) : Prop := ∀ k, k < w.heap.size → R' k = R k

theorem UpR.refl (w : World) (R : Nat → Nat) : UpR w R R := fun _ _ => rfl
theorem UpR.trans {w w' : World} {R R' R'' : Nat → Nat} (h : UpR w R R') (h' : UpR w' R' R'') (hs : w.heap.size ≤ w'.heap.size) : UpR w R R'' := fun k hk => (h' k (Nat.lt_of_lt_of_le hk hs)).trans (h k hk)

theorem DAt.lt {w : World} {R : Nat → Nat} {b : Nat} {d : Dk} (h : DAt w R b d) : b < w.heap.size := by
  obtain ⟨_, _, _, _, _, _, _, _, hb, _⟩ := h.box
  exact hb.lt

/-- Other roles for what is new, and other blocks turned. -/
theorem DAt.up {S : Nat → Prop} {w w' : World} {R R' : Nat → Nat} {b : Nat} {d : Dk} (h : DAt w R b d) (hF : Fr S w w') (hS : ∀ k, S k → R k = 0 ∨ 6 ≤ R k) (hR : UpR w R R') (hz : ∀ k, w'.heap.size ≤ k → R' k = 0) : DAt w' R' b d := by
  have n1 : ∀ k, R k = 1 → ¬ S k := fun k hk hs => by rcases hS k hs with h | h <;> omega
  have n2 : ∀ k, R k = 2 → ¬ S k := fun k hk hs => by rcases hS k hs with h | h <;> omega
  have n3 : ∀ k, R k = 3 → ¬ S k := fun k hk hs => by rcases hS k hs with h | h <;> omega
  have n4 : ∀ k, R k = 4 → ¬ S k := fun k hk hs => by rcases hS k hs with h | h <;> omega
  have n5 : ∀ k, R k = 5 → ¬ S k := fun k hk hs => by rcases hS k hs with h | h <;> omega
  have hlt := h.lt
  obtain ⟨ms, mn, Ds, Dn, ao, cap, g, xs, hb, m3, m4, m5, m6, m7⟩ := h.box
  exact ⟨hz, (hR b hlt).trans h.role, ⟨ms, mn, Ds, Dn, ao, cap, g, xs, hb.frame hF (n1 b h.role), (hR ms m5.own.lt).trans m3, (hR mn m6.own.lt).trans m4, m5.frame hF n5 (n2 ms m3) hR, m6.frame hF n5 (n3 mn m4) hR, m7.frame hF n5 n4 hR⟩, h.many, h.acts, h.keys, h.wcnt⟩

theorem DAt.frame {S : Nat → Prop} {w w' : World} {R : Nat → Nat} {b : Nat} {d : Dk} (h : DAt w R b d) (hF : Fr S w w') (hS : ∀ k, S k → R k = 0 ∨ 6 ≤ R k) : DAt w' R b d :=
  h.up hF hS (UpR.refl _ _) (fun k hk => h.zero k (Nat.le_trans hF.size hk))

theorem DAt.ok {w : World} {R : Nat → Nat} {b : Nat} {d : Dk} (h : DAt w R b d) : d.ok := by
  obtain ⟨ms, mn, Ds, Dn, ao, cap, g, xs, hb, m3, m4, m5, m6, w2⟩ := h.box
  refine ⟨fun a => (m5.sec a).1, fun p hp => ?_⟩
  obtain ⟨i, hi, rfl⟩ := List.getElem_of_mem hp
  exact (w2.each i (by rw [w2.len]; exact hi) hi).2.1

/-- A Disk (of the whole) in memory. -/
structure Dsk (w : World) (R : Nat → Nat) (p b many : Nat) : Prop where
  box : Bx w p #[.pointer (some ⟨b, 0, none⟩), .int .i64 0, .int .i64 (many : Int)] 102
  role : R p = 5

theorem Dsk.lt {w : World} {R : Nat → Nat} {p b many : Nat} (h : Dsk w R p b many) : p < w.heap.size := h.box.lt
theorem Dsk.frame {S : Nat → Prop} {w w' : World} {R R' : Nat → Nat} {p b many : Nat} (h : Dsk w R p b many) (hF : Fr S w w') (hS : ∀ k, R k = 5 → ¬ S k) (hR : UpR w R R') : Dsk w' R' p b many :=
  ⟨h.box.frame hF (hS p h.role), by rw [hR p h.lt]; exact h.role⟩
theorem Dsk.c0 {w : World} {R : Nat → Nat} {p b many : Nat} (h : Dsk w R p b many) : w.cell? ⟨p, 0, none⟩ = some (.pointer (some ⟨b, 0, none⟩)) := h.box.cell 0
theorem Dsk.c1 {w : World} {R : Nat → Nat} {p b many : Nat} (h : Dsk w R p b many) : w.cell? ⟨p, 1, none⟩ = some (.int .i64 0) := h.box.cell 1
theorem Dsk.c2 {w : World} {R : Nat → Nat} {p b many : Nat} (h : Dsk w R p b many) : w.cell? ⟨p, 2, none⟩ = some (.int .i64 (many : Int)) := h.box.cell 2

theorem DAt.c0 {w : World} {R : Nat → Nat} {b : Nat} {d : Dk} (h : DAt w R b d) : w.cell? ⟨b, 0, none⟩ = some (.int .i64 (d.many : Int)) := by obtain ⟨_, _, _, _, _, _, _, _, hb, _⟩ := h.box; exact hb.cell 0
theorem DAt.c4 {w : World} {R : Nat → Nat} {b : Nat} {d : Dk} (h : DAt w R b d) : w.cell? ⟨b, 4, none⟩ = some (.bool d.armed) := by obtain ⟨_, _, _, _, _, _, _, _, hb, _⟩ := h.box; exact hb.cell 4
theorem DAt.c5 {w : World} {R : Nat → Nat} {b : Nat} {d : Dk} (h : DAt w R b d) : w.cell? ⟨b, 5, none⟩ = some (.int .i64 (d.acts : Int)) := by obtain ⟨_, _, _, _, _, _, _, _, hb, _⟩ := h.box; exact hb.cell 5
theorem DAt.c6 {w : World} {R : Nat → Nat} {b : Nat} {d : Dk} (h : DAt w R b d) : w.cell? ⟨b, 6, none⟩ = some (.bool d.done) := by obtain ⟨_, _, _, _, _, _, _, _, hb, _⟩ := h.box; exact hb.cell 6
theorem DAt.c7 {w : World} {R : Nat → Nat} {b : Nat} {d : Dk} (h : DAt w R b d) : w.cell? ⟨b, 7, none⟩ = some (.bool d.down) := by obtain ⟨_, _, _, _, _, _, _, _, hb, _⟩ := h.box; exact hb.cell 7
theorem DAt.fz {w : World} {R : Nat → Nat} {b : Nat} {d : Dk} (h : DAt w R b d) (i : Nat) : w.frozen? ⟨b, i, none⟩ = false := by obtain ⟨_, _, _, _, _, _, _, _, hb, _⟩ := h.box; exact hb.frozen i

theorem DS5 {R : Nat → Nat} : ∀ k, R k = 5 → ¬ DS R k := fun k h hd => by have := hd.2; omega

end Go.Proofs.YtjkghgcdkfkekaaGreatDoor

/- Contracts of package block: New, Disk, Sectors, Down. -/
namespace Go.Proofs.YtjkghgcdkfkekaaGreatDoor
open Go.RowKit

/-- A Hand in memory. -/
structure Hnd (w : World) (R : Nat → Nat) (p b : Nat) : Prop where
  box : Bx w p #[.pointer (some ⟨b, 0, none⟩)] 85
  role : R p = 5

theorem Hnd.lt {w : World} {R : Nat → Nat} {p b : Nat} (h : Hnd w R p b) : p < w.heap.size := h.box.lt
theorem Hnd.c0 {w : World} {R : Nat → Nat} {p b : Nat} (h : Hnd w R p b) : w.cell? ⟨p, 0, none⟩ = some (.pointer (some ⟨b, 0, none⟩)) := h.box.cell 0
theorem Hnd.frame {S : Nat → Prop} {w w' : World} {R R' : Nat → Nat} {p b : Nat} (h : Hnd w R p b) (hF : Fr S w w') (hS : ∀ k, R k = 5 → ¬ S k) (hR : UpR w R R') : Hnd w' R' p b :=
  ⟨h.box.frame hF (hS p h.role), by rw [hR p h.lt]; exact h.role⟩

/-- Roles with one block more. -/
def upd (R : Nat → Nat) (k r : Nat) : Nat → Nat := fun j => if j = k then r else R j
theorem upd_same (R : Nat → Nat) (k r : Nat) : upd R k r k = r := by simp [upd]
theorem upd_other (R : Nat → Nat) {k j : Nat} (r : Nat) (h : j ≠ k) : upd R k r j = R j := by simp [upd, h]

theorem valAt_empty (a : Nat) : valAt (.map []) a = .slice none 0 0 := rfl
theorem sec_zero (w : World) (R : Nat → Nat) : Sec w R (.slice none 0 0) (zeros 512) := ⟨zeros_length _, .inl ⟨rfl, rfl⟩⟩

theorem MapAt.new {w : World} {R : Nat → Nat} {m n : Nat} (h : w.heap[m]? = some (.map #[] 0)) : MapAt w R m n (fun _ => zeros 512) (.map []) := by
  refine ⟨⟨#[], 0, h, ⟨by simp, MapKept.stamped_empty 0, by simp⟩, Nat.zero_le _, rfl⟩, fun a => ?_⟩
  rw [valAt_empty]; exact sec_zero _ _

theorem max0 (n : Int) (ts : Array TypeId) (t : TypeId) (w : World) : (Builtin.max_ ts t #[.int .i64 n, .int .i64 0]).run Tryz.prog w = .ok (.int .i64 (n.toNat : Int)) w := by
  rw [run_max_int2]
  congr 2
  split <;> omega

theorem new_any (w : World) (R : Nat → Nat) (hR : ∀ k, w.heap.size ≤ k → R k = 0) (n : Int) (hn : n < 4294967296) :
    Calls Tryz.prog 8 #[.int .i64 n] w fun e w' => ∃ R' p b, e = .returned (.pointer (some ⟨p, 0, none⟩)) ∧ DAt w' R' b (Dk.new n.toNat) ∧ Hnd w' R' p b ∧ UpR w R R' ∧ Fr (fun _ => False) w w' := by
  have hm := max0 n
  have hmk := @run_makeMap Tryz.prog
  have hnn : n.toNat < 4294967296 := by omega
  have HN := hide hnn
  clear hnn
  generalize n.toNat = k at *
  go_enter Tryz.func8, Tryz.ntmps8
  go_wp2
  go_ret
  have e1 := heap_new w (.map #[] 0)
  have z1 := heap_alloc w (.map #[] 0)
  have hF1 : Fr (fun _ => False) w (w.alloc (.map #[] 0)) := (Fr.refl _ _).alloc _
  generalize w.alloc (.map #[] 0) = w1 at *
  have e2 := heap_new w1 (.map #[] 0)
  have z2 := heap_alloc w1 (.map #[] 0)
  have hF2 : Fr (fun _ => False) w1 (w1.alloc (.map #[] 0)) := (Fr.refl _ _).alloc _
  generalize w1.alloc (.map #[] 0) = w2 at *
  rw [show w.heap.size + 1 + 1 = w2.heap.size by omega, show w.heap.size + 1 = w1.heap.size by omega]
  have e3 := Bx.new w2 (boxC (Dk.new k) w.heap.size w1.heap.size none 0) 83
  have z3 := heap_alloc w2 (.cells (boxC (Dk.new k) w.heap.size w1.heap.size none 0) 83)
  have hF3 : Fr (fun _ => False) w2 (w2.alloc (.cells (boxC (Dk.new k) w.heap.size w1.heap.size none 0) 83)) := (Fr.refl _ _).alloc _
  change ∃ R' p b, _ ∧ DAt ((w2.alloc (.cells (boxC (Dk.new k) w.heap.size w1.heap.size none 0) 83)).alloc (.cells #[.pointer (some ⟨w2.heap.size, 0, none⟩)] 85)) _ _ _ ∧ Hnd ((w2.alloc (.cells (boxC (Dk.new k) w.heap.size w1.heap.size none 0) 83)).alloc (.cells #[.pointer (some ⟨w2.heap.size, 0, none⟩)] 85)) _ _ _ ∧ _ ∧ Fr _ w ((w2.alloc (.cells (boxC (Dk.new k) w.heap.size w1.heap.size none 0) 83)).alloc (.cells #[.pointer (some ⟨w2.heap.size, 0, none⟩)] 85))
  generalize w2.alloc (.cells (boxC (Dk.new k) w.heap.size w1.heap.size none 0) 83) = w3 at *
  have e4 := Bx.new w3 #[.pointer (some ⟨w2.heap.size, 0, none⟩)] 85
  have z4 := heap_alloc w3 (.cells #[.pointer (some ⟨w2.heap.size, 0, none⟩)] 85)
  have hF4 : Fr (fun _ => False) w3 (w3.alloc (.cells #[.pointer (some ⟨w2.heap.size, 0, none⟩)] 85)) := (Fr.refl _ _).alloc _
  generalize w3.alloc (.cells #[.pointer (some ⟨w2.heap.size, 0, none⟩)] 85) = w4 at *
  have r0 : w2.heap.size = w.heap.size + 2 := by omega
  have r1 : w3.heap.size = w.heap.size + 3 := by omega
  have r2 : w1.heap.size = w.heap.size + 1 := by omega
  have f14 := (hF2.trans hF3 (fun _ _ t => t)).trans hF4 (fun _ _ t => t)
  have f24 := hF3.trans hF4 (fun _ _ t => t)
  refine ⟨upd (upd (upd (upd R w.heap.size 2) w1.heap.size 3) w2.heap.size 1) w3.heap.size 5, w3.heap.size, w2.heap.size, by rw [z3]; rfl, ?_, ⟨e4, upd_same _ _ _⟩, fun j hj => ?_, hF1.trans f14 (fun _ _ t => t)⟩
  · refine ⟨fun j hj => ?_, ?_, ⟨w.heap.size, w1.heap.size, _, _, none, 0, 0, [], e3.keep hF4, ?_, ?_, MapAt.new ((f14.block _ (by omega) (fun t => t)).trans e1), MapAt.new ((f24.block _ (by omega) (fun t => t)).trans e2), ⟨rfl, KRow.nil _ _ _, fun h => absurd h (by omega), fun i h => absurd h (by simp)⟩⟩, unhide HN, by simp [Dk.new], fun p hp => (by cases hp), Nat.zero_le _⟩
    · simp only [upd]
      rw [if_neg (by omega), if_neg (by omega), if_neg (by omega), if_neg (by omega)]
      exact hR j (by omega)
    · simp only [upd]; rw [if_neg (by omega), if_pos trivial]
    · simp only [upd]; rw [if_neg (by omega), if_neg (by omega), if_neg (by omega), if_pos trivial]
    · simp only [upd]; rw [if_neg (by omega), if_neg (by omega), if_pos trivial]
  · simp only [upd]
    rw [if_neg (by omega), if_neg (by omega), if_neg (by omega), if_neg (by omega)]

theorem sectors_any (w : World) (R : Nat → Nat) (p b many : Nat) (h : Dsk w R p b many) : Calls Tryz.prog 39 #[.pointer (some ⟨p, 0, none⟩)] w fun e w' => e = .returned (.int .i64 (many : Int)) ∧ w' = w := by
  have c2 := h.c2
  clear h
  go_enter Tryz.func39, Tryz.ntmps39
  go_wp2
  go_ret
  exact ⟨rfl, rfl⟩

theorem down_any (w : World) (R : Nat → Nat) (p b : Nat) (d : Dk) (h : Hnd w R p b) (hD : DAt w R b d) : Calls Tryz.prog 20 #[.pointer (some ⟨p, 0, none⟩)] w fun e w' => e = .returned (.bool d.down) ∧ w' = w := by
  have c0 := h.c0
  have c7 := hD.c7
  clear h hD
  go_enter Tryz.func20, Tryz.ntmps20
  go_wp2
  go_ret
  exact ⟨rfl, rfl⟩

theorem disk_any (w : World) (R : Nat → Nat) (p b : Nat) (d : Dk) (h : Hnd w R p b) (hD : DAt w R b d) :
    Calls Tryz.prog 11 #[.pointer (some ⟨p, 0, none⟩)] w fun e w' => ∃ R' q, e = .returned (.pointer (some ⟨q, 0, none⟩)) ∧ Dsk w' R' q b d.many ∧ DAt w' R' b d ∧ UpR w R R' ∧ Fr (fun _ => False) w w' ∧ w.heap.size ≤ q := by
  have c0 := h.c0
  have b0 := hD.c0
  have HD := hide hD
  clear h hD
  go_enter Tryz.func11, Tryz.ntmps11
  go_wp2
  go_region_held3 (fun w' => w'.cell? ⟨p, 0, none⟩ = some (.pointer (some ⟨b, 0, none⟩)) ∧ w'.cell? ⟨b, 0, none⟩ = some (.int .i64 (d.many : Int))) (go_keep) (fail)
  go_wp2
  go_ret
  have hD := unhide HD
  have e1 := Bx.new w #[.pointer (some ⟨b, 0, none⟩), .int .i64 0, .int .i64 (d.many : Int)] 102
  have hF : Fr (fun _ => False) w (w.alloc (.cells #[.pointer (some ⟨b, 0, none⟩), .int .i64 0, .int .i64 (d.many : Int)] 102)).drew := ((Fr.refl _ _).alloc _).drew
  have hU : UpR w R (upd R w.heap.size 5) := fun j hj => upd_other _ _ (by omega)
  refine ⟨upd R w.heap.size 5, w.heap.size, rfl, ⟨e1.drew, upd_same _ _ _⟩, hD.up hF (fun _ t => t.elim) hU (fun j hj => ?_), hU, hF, Nat.le_refl _⟩
  simp at hj
  rw [upd_other _ _ (by omega)]
  exact hD.zero j (by omega)

end Go.Proofs.YtjkghgcdkfkekaaGreatDoor

/- A map of sectors looked up and changed; a sector's bytes copied; contract of Read. -/
namespace Go.Proofs.YtjkghgcdkfkekaaGreatDoor
open Go.RowKit

theorem zero37 (w : World) : (zeroValue 28).run Tryz.prog w = .ok (.slice none 0 0) w := by kernel_rfl

theorem lookup_any {w : World} {R : Nat → Nat} {m n : Nat} {f : Nat → Bs} {D : DataW Value} (h : MapAt w R m n f D) (a : Nat) (ha : a < 4294967296) :
    (Instr.lookup 80 (.map (some m)) (.int .i64 (a : Int)) false).run Tryz.prog w = .ok (valAt D a) w := by
  obtain ⟨es, clock, hb, F, _, rfl⟩ := h.own
  rcases Maps.fit_look false keyed3 Tryz.underlying80 (zero37 w) hb F (intKey a ha) with ⟨hrun, _, hat⟩ | ⟨e0, y, _, _, hrun, hRv, hat, _⟩
  · rw [hrun, valAt, hat]; rfl
  · simp only [asIs, Option.some.injEq] at hRv
    rw [hrun, valAt, hat, ← hRv]; rfl

theorem valAt_put {D : DataW Value} (hD : Maps.IsMap D) (a : Nat) (ha : a < 4294967296) (v : Value) (c : Nat) : valAt (D.put (.int .i64 (a : Int)) (.held v)) c = if c = a then v else valAt D c := by
  by_cases h : c = a
  · subst h
    rw [if_pos rfl, valAt, Maps.atKey_put_same hD (keyed3.key (intKey c ha))]
  · rw [if_neg h, valAt, Maps.atKey_put_other (by simp; omega)]; rfl

theorem MapAt.isMap {w : World} {R : Nat → Nat} {m n : Nat} {f : Nat → Bs} {D : DataW Value} (h : MapAt w R m n f D) : Maps.IsMap D := by
  obtain ⟨es, clock, hb, F, _, rfl⟩ := h.own
  exact ⟨_, rfl⟩

/-- A sector of the map is another one. -/
theorem update_any {w : World} {R : Nat → Nat} {m n : Nat} {f : Nat → Bs} {D : DataW Value} (h : MapAt w R m n f D) (hn : n < 1152921504606846976) (hm : R m ≠ 5) (a : Nat) (ha : a < 4294967296) (v : Value) (bs : Bs) (hs : Sec w R v bs) :
    ∃ w', (Instr.mapUpdate 80 (.map (some m)) (.int .i64 (a : Int)) v).run Tryz.prog w = .ok () w' ∧ MapAt w' R m (n + 1) (fun c => if c = a then bs else f c) (D.put (.int .i64 (a : Int)) (.held v)) ∧ Fr (fun k => k = m) w w' ∧ w'.heap.size = w.heap.size := by
  obtain ⟨w', hrun, r1, r2⟩ := h.own.update keyed3 Tryz.underlying80 (by simp only [maxLen]; omega) (intKey a ha) (d := .held v) (ps := []) rfl
  have hF : Fr (fun k => k = m) w w' := ⟨r2.os, r2.tape, r2.output, r2.size, fun k hk hn => r2.block k hk (fun e => hn (by injection e))⟩
  have hsz : w'.heap.size = w.heap.size := by
    obtain ⟨es, clock, hb, F, hs', rfl⟩ := h.own
    obtain ⟨es', clock', hrun', F', hput, _⟩ := Maps.fit_store (R' := asIs) keyed3 Tryz.underlying80 hb F (by simp only [maxLen]; omega) (fun _ _ _ _ hz => hz) (intKey a ha) (val := v) (yv := (.held v, [])) rfl
    have e := (Result.ok.inj (hrun.symm.trans hrun')).2
    rw [e]; simp [ChangeMaps.setBlock]
  refine ⟨w', hrun, ⟨r1, fun c => ?_⟩, hF, hsz⟩
  rw [valAt_put h.isMap a ha]
  have h5 : ∀ k, R k = 5 → ¬ k = m := fun k hk e => hm (by rw [← e]; exact hk)
  split
  · exact hs.frame hF h5 (fun _ _ => rfl)
  · exact (h.sec c).frame hF h5 (fun _ _ => rfl)

/-- Bytes, then 0 up to a sector's end. -/
def fillS (bs : Bs) : Bs := bs ++ zeros (512 - bs.length)
theorem fillS_length (bs : Bs) (h : bs.length ≤ 512) : (fillS bs).length = 512 := by rw [fillS, List.length_append, zeros_length]; omega
theorem fillS_whole (bs : Bs) (h : bs.length = 512) : fillS bs = bs := by rw [fillS, h]; exact List.append_nil _

theorem made_zeros (n : Nat) : madeCells #[Value.int .u8 0] n = (bytesV (zeros n)).toArray := by
  apply Array.ext
  · simp [madeCells, bytesV, zeros]
  · intro i h1 h2
    simp [madeCells, bytesV, zeros, Nat.mod_one]

theorem zeros_drop (n : Nat) (bs : Bs) : bytesV bs ++ (bytesV (zeros n)).drop bs.length = bytesV (bs ++ zeros (n - bs.length)) := by
  simp [bytesV, zeros]

theorem Tryz.size5' : (Tryz.prog.info? 5).map (·.size) = some 1 := by kernel_rfl

/-- Bytes copied into a new sector. -/
theorem copy_any {W : World} {x : Nat} (hx : Bx W x (bytesV (zeros 512)).toArray 5) (ao : Option Addr) (cap : Nat) (bs : Bs) (hB : BAt W ao cap bs) (hl : bs.length ≤ 512) (ty : TypeId) :
    ∃ W', (Builtin.copy_ #[28, 28] ty #[.slice (some ⟨x, 0, none⟩) 512 512, .slice ao bs.length cap]).run Tryz.prog W = .ok (goInt bs.length) W' ∧ Bx W' x (bytesV (fillS bs)).toArray 5 ∧ Fr (fun k => k = x) W W' ∧ W'.heap.size = W.heap.size := by
  by_cases h0 : 0 < bs.length
  · obtain ⟨b, off, rfl, hc⟩ := hB.2.1 h0
    have hmin : Nat.min bs.length 512 = bs.length := Nat.min_eq_left hl
    have hrun := run_copy_row (P := Tryz.prog) W 28 28 ty 5 x 0 512 512 ⟨b, off, none⟩ bs.length cap (bytesV (zeros 512)).toArray 5 (bytesV bs) Tryz.underlying28 Tryz.size5' hx (by rw [bytesV_length, hmin])
      (fun j v hj => by
        have hjl : j < bs.length := by have := (List.getElem?_eq_some_iff.1 hj).1; rwa [bytesV_length] at this
        rw [bytesV_get _ _ hjl] at hj
        rw [Addr.add_lit, ← hj]; exact hc j hjl)
      (by rw [List.size_toArray, bytesV_length, bytesV_length, zeros_length]; omega) (bytesV_one bs)
    rw [bytesV_length] at hrun
    have e : ((bytesV (zeros 512)).toArray.toList.take 0 ++ bytesV bs ++ (bytesV (zeros 512)).toArray.toList.drop (0 + bs.length)).toArray = (bytesV (fillS bs)).toArray := by
      rw [Nat.zero_add, List.take_zero, List.nil_append, zeros_drop]; rfl
    rw [e] at hrun
    exact ⟨_, hrun, setRow_heap _ _ _ _ _ _ hx, (Fr.refl (fun k => k = x) _).setRow (fun _ => rfl) _, by simp⟩
  · have hb : bs = [] := List.eq_nil_of_length_eq_zero (by omega)
    subst hb
    have hrun := run_copy_none (P := Tryz.prog) W 28 28 ty 5 (some ⟨x, 0, none⟩) ao 512 512 0 cap Tryz.underlying28 Tryz.size5' rfl
    exact ⟨W, hrun, hx, Fr.refl _ _, rfl⟩

theorem step_copy {ops : Array Oper} {o : Oper} {a : Act} {w : World} {K : Act → World → Prop} {Q : Exit → Act → World → Prop} {E : Prop} (hgd : o.guard = none) (s x : Operand)
    (ho : o.op = .call { callee := .builtin .copy, args := #[s, x], argTypes := #[28, 28] }) {g : Nat} (hx : Bx w g (bytesV (zeros 512)).toArray 5) (ao : Option Addr) (cap : Nat) (bs : Bs) (hB : BAt w ao cap bs) (hl : bs.length ≤ 512)
    (hv : a.eval s = .slice (some ⟨g, 0, none⟩) 512 512) (hxv : a.eval x = .slice ao bs.length cap)
    (hK : ∀ w', Bx w' g (bytesV (fillS bs)).toArray 5 → Fr (fun k => k = g) w w' → w'.heap.size = w.heap.size → K (a.put o.dst (goInt bs.length)) w') :
    if Region.wanted o (yielded ops a.tmps) = true then Oper.wp Tryz.prog o a w K Q else E := by
  have hw : Region.wanted o (yielded ops a.tmps) = true := by simp [Region.wanted, hgd]
  rw [if_pos hw]
  obtain ⟨w', hrun, r1, r2, r3⟩ := copy_any hx ao cap bs hB hl o.type
  unfold Oper.wp
  simp [execOp, ho, resolve, invoke, builtin, hv, hxv, hrun, Result.andThen]
  exact hK w' r1 r2 r3

theorem Bx.row {w : World} {g : Nat} {bs : Bs} {t : TypeId} (h : Bx w g (bytesV bs).toArray t) (hm : bs.length ≤ maxLen) : Row w (.slice (some ⟨g, 0, none⟩) bs.length bs.length) g bs := by
  have hc : ∀ j (hj : j < bs.length), w.cell? ⟨g, j, none⟩ = some (.int .u8 (bs[j].toNat)) := fun j hj => by
    rw [h.cell, List.getElem?_toArray, bytesV_get _ _ hj]
  exact ⟨⟨_, _, rfl, Nat.le_refl _, hm, fun _ => rfl, fun j hj => ⟨by rw [hc j hj]; rfl, h.frozen j⟩⟩, hc⟩

/-- A sector's value, as bytes that can be read. -/
theorem Sec.bat {w : World} {R : Nat → Nat} {v : Value} {bs : Bs} (h : Sec w R v bs) : ∃ ao cap xs, v = .slice ao xs.length cap ∧ BAt w ao cap xs ∧ xs.length ≤ 512 ∧ fillS xs = bs := by
  obtain ⟨h0, ⟨rfl, rfl⟩ | ⟨g, cap, rfl, h2, h3, h4, h5⟩⟩ := h
  · exact ⟨none, 0, [], rfl, ⟨fun _ => ⟨rfl, rfl⟩, fun h => absurd h (by simp), by simp⟩, Nat.zero_le _, rfl⟩
  · refine ⟨_, _, bs, by rw [h0], ⟨fun e => (by cases e), fun _ => ⟨g, 0, rfl, fun j hj => by rw [Nat.zero_add]; exact h5 j hj⟩, by omega⟩, by omega, fillS_whole _ h0⟩

set_option maxHeartbeats 1000000 in
set_option maxRecDepth 20000 in
theorem read_any (w : World) (R : Nat → Nat) (p b : Nat) (d : Dk) (h : Dsk w R p b d.many) (hD : DAt w R b d) (hup : d.down = false) (a : Nat) (ha : a < d.many) :
    Calls Tryz.prog 65 #[.pointer (some ⟨p, 0, none⟩), .int .i64 (a : Int)] w fun e w' => ∃ g, e = .returned (.tuple #[.slice (some ⟨g, 0, none⟩) 512 512, .nilIface]) ∧ Bx w' g (bytesV (d.look a)).toArray 5 ∧ Fr (fun _ => False) w w' ∧ w.heap.size ≤ g := by
  obtain ⟨ms, mn, Ds, Dn, ao, cap, g0, xs, hb, m3, m4, m5, m6, m7⟩ := hD.box
  have c0 := h.c0
  have c1 := h.c1
  have c2 := h.c2
  have c7 := hD.c7
  rw [hup] at c7
  have cn : w.cell? ⟨b, 2, none⟩ = some (.map (some mn)) := hb.cell 2
  have hmany := hD.many
  have hlk := fun w' (hF : Fr (fun _ => False) w w') => lookup_any (m6.frame hF (fun _ _ t => t) (fun t => t) (fun _ _ => rfl)) a (by omega)
  obtain ⟨xo, xc, ys, hv, hbat⟩ := (m6.sec a).bat
  obtain ⟨hb1, hb2, hb3⟩ := hbat
  have hlt0 : p < w.heap.size := h.lt
  have hlt1 : b < w.heap.size := hD.lt
  have h1 : decide ((a : Int) < 0) = false := by simp
  have h2 : decide ((a : Int) ≥ (d.many : Int)) = false := by simp; omega
  have hwr : IntKind.i64.wrap (a : Int) = (a : Int) := by rw [IntKind.wrap_i64]; omega
  have hmk : ∀ w : World, (Instr.makeSlice 28 (.int .i64 512) (.int .i64 512)).run Tryz.prog w = .ok (.slice (some ⟨w.heap.size, 0, none⟩) 512 512) (w.alloc (.cells (bytesV (zeros 512)).toArray 5)) := fun w => by
    rw [← made_zeros]; exact run_make_row' (P := Tryz.prog) 28 5 (.int .u8 0) 1 Tryz.underlying28 Tryz.info5 rfl .i64 .i64 512 (by omega) (by omega) w
  rw [hv] at hlk
  have hF0 : Fr (fun _ => False) w (w.alloc (.cells (bytesV (zeros 512)).toArray 5)).drew := ((Fr.refl _ _).alloc _).drew
  have hF1 : ∀ w', Fr (fun k => k = w.heap.size) (w.alloc (.cells (bytesV (zeros 512)).toArray 5)).drew w' → Fr (fun _ => False) w w' := fun w' hF => hF0.trans hF (fun i hi t => by omega)
  have hS : ∀ w', Fr (fun k => k = w.heap.size) (w.alloc (.cells (bytesV (zeros 512)).toArray 5)).drew w' → w'.cell? ⟨p, 0, none⟩ = some (.pointer (some ⟨b, 0, none⟩)) ∧ w'.cell? ⟨b, 2, none⟩ = some (.map (some mn)) ∧ w'.cell? ⟨p, 1, none⟩ = some (.int .i64 0) ∧ (Instr.lookup 80 (.map (some mn)) (.int .i64 (a : Int)) false).run Tryz.prog w' = .ok (.slice xo ys.length xc) w' := fun w' hF =>
    ⟨((hF1 w' hF).cell (a := ⟨p, 0, none⟩) hlt0 (fun t => t)).trans c0, ((hF1 w' hF).cell (a := ⟨b, 2, none⟩) hlt1 (fun t => t)).trans cn, ((hF1 w' hF).cell (a := ⟨p, 1, none⟩) hlt0 (fun t => t)).trans c1, hlk w' (hF1 w' hF)⟩
  have HS := hide hS
  have HF := hide hF1
  have HB := hide (And.intro (hb1.later hF0) (And.intro hb2 hb3))
  clear hlk hb1 hb2 hb3 hD h hb m5 m6 m7 m3 m4 hS hF0 hF1 hv
  go_enter Tryz.func65, Tryz.ntmps65
  go_wp2
  go_region_held3 (fun w' => w'.cell? ⟨p, 0, none⟩ = some (.pointer (some ⟨b, 0, none⟩)) ∧ w'.cell? ⟨b, 2, none⟩ = some (.map (some mn)) ∧ w'.cell? ⟨p, 1, none⟩ = some (.int .i64 0) ∧ (Instr.lookup 80 (.map (some mn)) (.int .i64 (a : Int)) false).run Tryz.prog w' = .ok (.slice xo ys.length xc) w') (first | exact unhide HS _ (Fr.refl _ _) | exact unhide HS _ hF2) ((refine step_copy rfl (.tmp 29) (.tmp 43) rfl (Bx.new w (bytesV (zeros 512)).toArray 5).drew xo xc ys (unhide HB).1 (unhide HB).2.1 rfl rfl ?_; intro w2 hB2 hF2 hz2))
  have HQ := hide (And.intro hB2 (unhide HF _ hF2))
  clear hB2 hF2 hz2 HS HF
  go_wp2
  go_ret2
  refine ⟨w.heap.size, rfl, ?_, (unhide HQ).2, Nat.le_refl _⟩
  rw [← (unhide HB).2.2]
  exact (unhide HQ).1

end Go.Proofs.YtjkghgcdkfkekaaGreatDoor

