/- Arrays by value in blocks of their own; the contract of spread. -/
import Derived.Test.YtgklgbomfipagaaDoorH1
import Derived.Deep.WholeRow
import Derived.BigRegion
namespace Go.Proofs.YtgklgbomfipagaaDoor
open Go.RowKit

/-- An array of values. -/
def arr (n : Nat) (f : Nat → Value) : Array Value := Array.ofFn (n := n) fun j => f j
/-- An array of words, of bytes. -/
def wv (f : Nat → Nat) (j : Nat) : Value := Value.int .u32 (f j)
def bv (f : Nat → UInt8) (j : Nat) : Value := Value.int .u8 (f j).toNat

theorem arr_size (n : Nat) (f : Nat → Value) : (arr n f).size = n := by simp [arr]
theorem arr_get (n : Nat) (f : Nat → Value) (j : Nat) (hj : j < n) : (arr n f)[j]? = some (f j) := by simp [arr, hj]
theorem arr_ext {n : Nat} {f g : Nat → Value} (h : ∀ j, j < n → f j = g j) : arr n f = arr n g := by
  apply Array.ext_getElem?
  intro j
  by_cases hj : j < n
  · rw [arr_get _ _ _ hj, arr_get _ _ _ hj, h j hj]
  · rw [Array.getElem?_eq_none (by rw [arr_size]; omega), Array.getElem?_eq_none (by rw [arr_size]; omega)]
theorem arr_set (n : Nat) (f : Nat → Value) (i : Nat) (hi : i < n) (v : Value) : (arr n f).setIfInBounds i v = arr n (fun j => if j = i then v else f j) := by
  apply Array.ext_getElem?
  intro j
  rw [Array.getElem?_setIfInBounds]
  by_cases hj : j < n
  · rw [arr_get _ _ _ hj, arr_get _ _ _ hj]
    by_cases e : i = j
    · subst e; simp [arr_size, hi]
    · rw [if_neg e, if_neg (fun h => e h.symm)]
  · have h1 : (arr n f)[j]? = none := Array.getElem?_eq_none (by rw [arr_size]; omega)
    have h2 : (arr n (fun j => if j = i then v else f j))[j]? = none := Array.getElem?_eq_none (by rw [arr_size]; omega)
    rw [h1, h2, if_neg (by omega)]
theorem arr_one (n : Nat) (f : Nat → Value) (h : ∀ j, (f j).oneCell' = true) : (arr n f).all (·.oneCell') = true := Array.all_eq_true.2 fun i hi => by
  rw [arr_size] at hi
  have h2 := arr_get n f i hi
  rw [Array.getElem?_eq_getElem (by rw [arr_size]; exact hi)] at h2
  rw [Option.some.inj h2]
  exact h i

/-- A block that holds an array. -/
def Blk (w : World) (g t n : Nat) (f : Nat → Value) : Prop := w.heap[g]? = some (.cells (arr n f) t (0, 0))

theorem heap_lt {w : World} {g : Nat} {o : Obj} (h : w.heap[g]? = some o) : g < w.heap.size := (Array.getElem?_eq_some_iff.1 h).1

section
variable {w : World} {g t n : Nat} {f : Nat → Value}
theorem Blk.lt (h : Blk w g t n f) : g < w.heap.size := heap_lt h
theorem Blk.frame {S : Nat → Prop} {w' : World} (h : Blk w g t n f) (hF : Fr S w w') (hn : ¬ S g) : Blk w' g t n f := (hF.block g h.lt hn).trans h
theorem Blk.later {w' : World} (h : Blk w g t n f) (hF : Fr (fun _ => False) w w') : Blk w' g t n f := h.frame hF (fun t => t)
theorem Blk.alloc (h : Blk w g t n f) (o : Obj) : Blk (w.alloc o) g t n f := (Below.heap_alloc _ _ _ h.lt).trans h
theorem Blk.new (w : World) (t n : Nat) (f : Nat → Value) : Blk (w.alloc (.cells (arr n f) t)) w.heap.size t n f := heap_alloc_new w _
theorem Blk.cell (h : Blk w g t n f) (j : Nat) (hj : j < n) : w.cell? ⟨g, j, none⟩ = some (f j) := (cell_of_row w g j _ t _ h).trans (arr_get n f j hj)
theorem Blk.frozen (h : Blk w g t n f) (j : Nat) : w.frozen? ⟨g, j, none⟩ = false := frozen_of_row w g j _ t h
theorem Blk.set (h : Blk w g t n f) (i : Nat) (hi : i < n) (v : Value) : Blk (w.setCell ⟨g, i, none⟩ v) g t n (fun j => if j = i then v else f j) := by
  rw [Blk, heap_setCell_same w g i _ t _ h, arr_set n f i hi]
theorem Blk.other (h : Blk w g t n f) (a : Addr) (v : Value) (hn : g ≠ a.block) : Blk (w.setCell a v) g t n f := (heap_setCell_other w a g v hn).trans h
theorem Blk.same {f' : Nat → Value} (h : Blk w g t n f) (e : ∀ j, j < n → f j = f' j) : Blk w g t n f' := by
  rw [Blk, ← arr_ext e]; exact h
theorem Blk.row (h : Blk w g t n f) (f' : Nat → Value) : Blk (w.setRow g (arr n f')) g t n f' := setRow_heap w g _ _ t _ h
end
theorem Fr.setRow {S : Nat → Prop} {a w : World} (h : Fr S a w) {g : Nat} (hg : g < a.heap.size → S g) (cs : Array Value) : Fr S a (w.setRow g cs) :=
  h.trans (T := fun k => k = g) ⟨rfl, rfl, rfl, by simp, fun k _ hn => setRow_other w g k cs hn⟩ (fun i hi t => by subst t; exact hg hi)

theorem size53 (f : Nat → Value) : (Tryd.prog.info? 53).map (·.size) = some (arr 64 f).size := by rw [arr_size]; kernel_rfl
theorem size62 (f : Nat → Value) : (Tryd.prog.info? 62).map (·.size) = some (arr 64 f).size := by rw [arr_size]; kernel_rfl
theorem size51 (f : Nat → Value) : (Tryd.prog.info? 51).map (·.size) = some (arr 8 f).size := by rw [arr_size]; kernel_rfl
theorem size49 (f : Nat → Value) : (Tryd.prog.info? 49).map (·.size) = some (arr 8 f).size := by rw [arr_size]; kernel_rfl

theorem zero64 : #[Value.int .u32 0, .int .u32 0, .int .u32 0, .int .u32 0, .int .u32 0, .int .u32 0, .int .u32 0, .int .u32 0, .int .u32 0, .int .u32 0, .int .u32 0, .int .u32 0, .int .u32 0, .int .u32 0, .int .u32 0, .int .u32 0, .int .u32 0, .int .u32 0, .int .u32 0, .int .u32 0, .int .u32 0, .int .u32 0, .int .u32 0, .int .u32 0, .int .u32 0, .int .u32 0, .int .u32 0, .int .u32 0, .int .u32 0, .int .u32 0, .int .u32 0, .int .u32 0, .int .u32 0, .int .u32 0, .int .u32 0, .int .u32 0, .int .u32 0, .int .u32 0, .int .u32 0, .int .u32 0, .int .u32 0, .int .u32 0, .int .u32 0, .int .u32 0, .int .u32 0, .int .u32 0, .int .u32 0, .int .u32 0, .int .u32 0, .int .u32 0, .int .u32 0, .int .u32 0, .int .u32 0, .int .u32 0, .int .u32 0, .int .u32 0, .int .u32 0, .int .u32 0, .int .u32 0, .int .u32 0, .int .u32 0, .int .u32 0, .int .u32 0, .int .u32 0] = arr 64 (wv fun _ => 0) := by kernel_rfl
theorem zero8 : #[Value.int .u32 0, .int .u32 0, .int .u32 0, .int .u32 0, .int .u32 0, .int .u32 0, .int .u32 0, .int .u32 0] = arr 8 (wv fun _ => 0) := by kernel_rfl

/-- The words so far, and the cell of the result. -/
def Making (w wr : World) (b r p : Nat) (blk : Nat → UInt8) (f : Nat → Nat) : Prop :=
  Blk wr b 53 64 (bv blk) ∧ Blk wr p 62 64 (wv f) ∧ Blk wr r 62 64 (wv fun _ => 0) ∧ Fr (fun _ => False) w wr ∧ w.heap.size ≤ b ∧ w.heap.size ≤ r ∧ w.heap.size ≤ p ∧ b ≠ p ∧ r ≠ p

theorem Making.next {w wr : World} {b r p : Nat} {blk : Nat → UInt8} {f : Nat → Nat} (h : Making w wr b r p blk f) (i : Nat) (hi : i < 64) (v : Nat) (f' : Nat → Nat) (hf : ∀ j, j < 64 → f' j = if j = i then v else f j) : Making w (wr.setCell ⟨p, i, none⟩ (.int .u32 v)) b r p blk f' := by
  obtain ⟨h0, h1, h2, h3, h4, h5, h6, h7, h8⟩ := h
  refine ⟨h0.other _ _ h7, (h1.set i hi _).same (fun j hj => ?_), h2.other _ _ h8, h3.setCell (p := ⟨p, i, none⟩) (fun t => absurd t (by simp only []; omega)) _, h4, h5, h6, h7, h8⟩
  show _ = Value.int .u32 (f' j)
  rw [hf j hj]
  by_cases e : j = i
  · rw [if_pos e, if_pos e]
  · rw [if_neg e, if_neg e]; rfl

theorem Making.later {w wr w' : World} {b r p : Nat} {blk : Nat → UInt8} {f : Nat → Nat} (h : Making w wr b r p blk f) (hF : Fr (fun _ => False) wr w') : Making w w' b r p blk f := by
  obtain ⟨h0, h1, h2, h3, h4⟩ := h
  exact ⟨h0.later hF, h1.later hF, h2.later hF, h3.trans hF (fun _ _ t => t), h4⟩

theorem sched_lt (f0 : Nat → Nat) (h : ∀ j, f0 j < 4294967296) (k j : Nat) : sched f0 k j < 4294967296 := by
  induction k generalizing j with
  | zero => exact h j
  | succ k ih =>
    show (if j = 16 + k then _ else _) < _
    split
    · exact add32_lt _ _
    · exact ih j
theorem wrd_lt (blk : Nat → UInt8) (n : Nat) : wrd blk n < 4294967296 := by
  have := (blk (4 * n)).toNat_lt
  have := (blk (4 * n + 1)).toNat_lt
  have := (blk (4 * n + 2)).toNat_lt
  have := (blk (4 * n + 3)).toNat_lt
  unfold wrd
  omega
theorem wfirst_lt (blk : Nat → UInt8) (i j : Nat) : wfirst blk i j < 4294967296 := by
  unfold wfirst
  split
  · exact wrd_lt _ _
  · omega
theorem wfirst_next (blk : Nat → UInt8) (i j : Nat) : wfirst blk (i + 1) j = if j = i then wrd blk i else wfirst blk i j := by
  unfold wfirst
  by_cases e : j = i
  · subst e; rw [if_pos (by omega), if_pos rfl]
  · rw [if_neg e]
    by_cases h2 : j < i
    · rw [if_pos h2, if_pos (by omega)]
    · rw [if_neg h2, if_neg (by omega)]
theorem xor_sg0 (x : Nat) (hx : x < 4294967296) : bits .xor .u32 (bits .xor .u32 ((rotr x 7 : Nat) : Int) ((rotr x 18 : Nat) : Int)) ((x : Int) / 8) = ((sg0 x : Nat) : Int) := by
  rw [show (x : Int) / 8 = ((x / 8 : Nat) : Int) by omega, u32_xor_nat _ _ (rotr_lt 7 hx) (rotr_lt 18 hx), u32_xor_nat _ _ (xor32 (rotr_lt 7 hx) (rotr_lt 18 hx)) (by omega)]
  rfl
theorem xor_sg1 (x : Nat) (hx : x < 4294967296) : bits .xor .u32 (bits .xor .u32 ((rotr x 17 : Nat) : Int) ((rotr x 19 : Nat) : Int)) ((x : Int) / 1024) = ((sg1 x : Nat) : Int) := by
  rw [show (x : Int) / 1024 = ((x / 1024 : Nat) : Int) by omega, u32_xor_nat _ _ (rotr_lt 17 hx) (rotr_lt 19 hx), u32_xor_nat _ _ (xor32 (rotr_lt 17 hx) (rotr_lt 19 hx)) (by omega)]
  rfl
theorem div_cast (x k : Nat) : (x : Int) / (k : Int) = ((x / k : Nat) : Int) := (Int.natCast_ediv x k).symm
theorem xor3 (a b c : Nat) (ha : a < 4294967296) (hb : b < 4294967296) (hc : c < 4294967296) : bits .xor .u32 (bits .xor .u32 (a : Int) (b : Int)) (c : Int) = ((a ^^^ b ^^^ c : Nat) : Int) := by
  rw [u32_xor_nat a b ha hb, u32_xor_nat _ c (xor32 ha hb) hc]

set_option maxRecDepth 20000 in
theorem word_or (a b c d : Nat) (ha : a < 256) (hb : b < 256) (hc : c < 256) (hd : d < 256) :
    bits .or .u32 (bits .or .u32 (bits .or .u32 ((a : Int) * 16777216) ((b : Int) * 65536)) ((c : Int) * 256)) (d : Int) = ((a * 16777216 + b * 65536 + c * 256 + d : Nat) : Int) := by
  have p24 : (2 : Nat) ^ 24 = 16777216 := by decide
  have p16 : (2 : Nat) ^ 16 = 65536 := by decide
  have p8 : (2 : Nat) ^ 8 = 256 := by decide
  have e1 : a * 16777216 ||| b * 65536 = a * 16777216 + b * 65536 := by
    have := Nat.shiftLeft_add_eq_or_of_lt (i := 24) (b := b * 65536) (by omega) a
    rw [Nat.shiftLeft_eq, p24] at this
    exact this.symm
  have e2 : (a * 16777216 + b * 65536) ||| c * 256 = a * 16777216 + b * 65536 + c * 256 := by
    have := Nat.shiftLeft_add_eq_or_of_lt (i := 16) (b := c * 256) (by omega) (a * 256 + b)
    rw [Nat.shiftLeft_eq, p16] at this
    rw [show a * 16777216 + b * 65536 = (a * 256 + b) * 65536 by rw [Nat.add_mul, Nat.mul_assoc]]
    exact this.symm
  have e3 : (a * 16777216 + b * 65536 + c * 256) ||| d = a * 16777216 + b * 65536 + c * 256 + d := by
    have := Nat.shiftLeft_add_eq_or_of_lt (i := 8) (b := d) (by omega) (a * 65536 + b * 256 + c)
    rw [Nat.shiftLeft_eq, p8] at this
    rw [show a * 16777216 + b * 65536 + c * 256 = (a * 65536 + b * 256 + c) * 256 by rw [Nat.add_mul, Nat.add_mul, Nat.mul_assoc, Nat.mul_assoc]]
    exact this.symm
  have k1 := u32_or_nat (a * 16777216) (b * 65536) (by omega) (by omega)
  have k2 := u32_or_nat (a * 16777216 + b * 65536) (c * 256) (by omega) (by omega)
  have k3 := u32_or_nat (a * 16777216 + b * 65536 + c * 256) d (by omega) (by omega)
  rw [e1] at k1
  rw [e2] at k2
  rw [e3] at k3
  rw [← k3, ← k2, ← k1, show (a : Int) * 16777216 = ((a * 16777216 : Nat) : Int) by omega, show (b : Int) * 65536 = ((b * 65536 : Nat) : Int) by omega, show (c : Int) * 256 = ((c * 256 : Nat) : Int) by omega]

set_option maxHeartbeats 2000000 in
theorem spread_any (w : World) (blk : Nat → UInt8) : Calls Tryd.prog 43 #[.agg (arr 64 (bv blk))] w fun e w' => e = .returned (.agg (arr 64 (wv (spr blk)))) ∧ Fr (fun _ => False) w w' := by
  go_enter Tryd.func43, Tryd.ntmps43
  go_wp2_with fail
  rw [zero64]
  have hM : Making w (((w.alloc (.cells (arr 64 (bv blk)) 53)).alloc (.cells (arr 64 (wv fun _ => 0)) 62)).alloc (.cells (arr 64 (wv fun _ => 0)) 62)) w.heap.size (w.heap.size + 1) (w.heap.size + 1 + 1) blk (wfirst blk 0) := by
    have e1 : (w.alloc (.cells (arr 64 (bv blk)) 53)).heap.size = w.heap.size + 1 := by simp
    have e2 : ((w.alloc (.cells (arr 64 (bv blk)) 53)).alloc (.cells (arr 64 (wv fun _ => 0)) 62)).heap.size = w.heap.size + 1 + 1 := by simp
    have b0 := ((Blk.new w 53 64 (bv blk)).alloc (.cells (arr 64 (wv fun _ => 0)) 62)).alloc (.cells (arr 64 (wv fun _ => 0)) 62)
    have b1 := (Blk.new (w.alloc (.cells (arr 64 (bv blk)) 53)) 62 64 (wv fun _ => 0)).alloc (.cells (arr 64 (wv fun _ => 0)) 62)
    have b2 := Blk.new ((w.alloc (.cells (arr 64 (bv blk)) 53)).alloc (.cells (arr 64 (wv fun _ => 0)) 62)) 62 64 (wv fun _ => 0)
    rw [e1] at b1
    rw [e2] at b2
    exact ⟨b0, b2.same (fun j _ => by simp [wv, wfirst]), b1, (((Fr.refl _ w).alloc _).alloc _).alloc _, by omega, by omega, by omega, by omega, by omega⟩
  have HM := hide hM
  clear hM
  generalize (((w.alloc (.cells (arr 64 (bv blk)) 53)).alloc (.cells (arr 64 (wv fun _ => 0)) 62)).alloc (.cells (arr 64 (wv fun _ => 0)) 62)) = w0 at *
  generalize w.heap.size + 1 + 1 = p at *
  generalize w.heap.size + 1 = r at *
  obtain ⟨b, hb⟩ : ∃ b, w.heap.size = b := ⟨_, rfl⟩
  rw [hb] at HM ⊢
  go_wp2
  go_loopw [4, 10] (fun _ iv wr => ∃ i : Nat, i ≤ 16 ∧ iv = .int .i64 i ∧ Hid (Making w wr b r p blk (wfirst blk i))) (fun _ iv _ => 16 - (intOf iv).toNat)
  case atStart => exact ⟨0, Nat.zero_le _, rfl, unhide HM⟩
  case round =>
    obtain ⟨i, hi, rfl, HS⟩ := hrel
    by_cases hlt : i < 16
    · have c0 := (unhide HS).1.cell (4 * i) (by omega)
      have c1 := (unhide HS).1.cell (4 * i + 1) (by omega)
      have c2 := (unhide HS).1.cell (4 * i + 2) (by omega)
      have c3 := (unhide HS).1.cell (4 * i + 3) (by omega)
      have ci := (unhide HS).2.1.cell i (by omega)
      have fi := (unhide HS).2.1.frozen i
      have hor := word_or (blk (4 * i)).toNat (blk (4 * i + 1)).toNat (blk (4 * i + 2)).toNat (blk (4 * i + 3)).toNat (blk (4 * i)).toNat_lt (blk (4 * i + 1)).toNat_lt (blk (4 * i + 2)).toNat_lt (blk (4 * i + 3)).toNat_lt
      have HN := hide ((unhide HS).next i (by omega) (wrd blk i) (wfirst blk (i + 1)) (fun j _ => wfirst_next blk i j))
      have hv : wrd blk i = (blk (4 * i)).toNat * 16777216 + (blk (4 * i + 1)).toNat * 65536 + (blk (4 * i + 2)).toNat * 256 + (blk (4 * i + 3)).toNat := rfl
      rw [hv] at HN
      have l0 := (blk (4 * i)).toNat_lt
      have l1 := (blk (4 * i + 1)).toNat_lt
      have l2 := (blk (4 * i + 2)).toNat_lt
      have l3 := (blk (4 * i + 3)).toNat_lt
      clear hv
      unfold bv at c0 c1 c2 c3
      unfold wv at ci
      generalize (blk (4 * i)).toNat = a0 at *
      generalize (blk (4 * i + 1)).toNat = a1 at *
      generalize (blk (4 * i + 2)).toNat = a2 at *
      generalize (blk (4 * i + 3)).toNat = a3 at *
      rw [show ((a0 * 16777216 + a1 * 65536 + a2 * 256 + a3 : Nat) : Int) = (a0 : Int) * 16777216 + (a1 : Int) * 65536 + (a2 : Int) * 256 + (a3 : Int) by omega] at HN
      go_wp2
      go_big_region
      go_wp2
      exact ⟨⟨i + 1, by omega, by go_num, (unhide HN).later (Fr.refl _ _).drew⟩, by simp [intOf]; omega⟩
    · obtain rfl : i = 16 := by omega
      go_wp2
      go_loopw [5, 6, 7, 8, 9] (fun nv _ _ _ _ wr => ∃ n : Nat, 16 ≤ n ∧ n ≤ 64 ∧ nv = .int .i64 n ∧ Hid (Making w wr b r p blk (sched (wfirst blk 16) (n - 16)))) (fun nv _ _ _ _ _ => 64 - (intOf nv).toNat)
      case atStart => exact ⟨16, Nat.le_refl _, by omega, rfl, unhide HS⟩
      case round =>
        obtain ⟨n, hn1, hn2, rfl, HS⟩ := hrel
        by_cases hlt : n < 64
        · obtain ⟨F, hF⟩ : ∃ F, F = sched (wfirst blk 16) (n - 16) := ⟨_, rfl⟩
          rw [← hF] at HS
          have hFl : ∀ j, F j < 4294967296 := fun j => by rw [hF]; exact sched_lt _ (wfirst_lt blk 16) _ _
          have HF := hide hF
          have cx := (unhide HS).2.1.cell (n - 15) (by omega)
          have cy := (unhide HS).2.1.cell (n - 2) (by omega)
          unfold wv at cx cy
          have lx := hFl (n - 15)
          have ly := hFl (n - 2)
          clear hF
          go_wp2
          go_quiet (fail)
          go_wp2_with fail
          refine (rot_any _ (F (n - 15)) 7 lx (by omega) (by omega)).mono ?_
          rintro e w1 ⟨rfl, rfl⟩
          go_wp2_with fail
          refine (rot_any _ (F (n - 15)) 18 lx (by omega) (by omega)).mono ?_
          rintro e w1 ⟨rfl, rfl⟩
          have hx := xor_sg0 (F (n - 15)) lx
          go_wp2_with fail
          clear hx
          refine (rot_any _ (F (n - 2)) 17 ly (by omega) (by omega)).mono ?_
          rintro e w1 ⟨rfl, rfl⟩
          go_wp2_with fail
          refine (rot_any _ (F (n - 2)) 19 ly (by omega) (by omega)).mono ?_
          rintro e w1 ⟨rfl, rfl⟩
          have hy := xor_sg1 (F (n - 2)) ly
          have ca := (unhide HS).2.1.cell (n - 16) (by omega)
          have cb := (unhide HS).2.1.cell (n - 7) (by omega)
          have cn := (unhide HS).2.1.cell n (by omega)
          have fn := (unhide HS).2.1.frozen n
          unfold wv at ca cb cn
          go_wp2
          clear hy lx ly
          have hv : wnext F n = add32 (add32 (add32 (F (n - 16)) (F (n - 7))) (sg0 (F (n - 15)))) (sg1 (F (n - 2))) := rfl
          have HV := hide hv
          clear hv
          have la := hFl (n - 16)
          have lb := hFl (n - 7)
          have lc := sg0_lt (hFl (n - 15))
          have ld := sg1_lt (hFl (n - 2))
          generalize sg0 (F (n - 15)) = vc at *
          generalize sg1 (F (n - 2)) = vd at *
          generalize F (n - 16) = va at *
          generalize F (n - 7) = vb at *
          clear hFl
          go_big_region
          go_wp2
          refine ⟨?_, ?_⟩
          · repeat apply Exists.intro
            refine ⟨?_, rfl⟩
            refine ⟨n + 1, by omega, by omega, by go_num, ?_⟩
            rw [show ((va : Int) + vb + vc + vd) % 4294967296 = ((wnext F n : Nat) : Int) by rw [unhide HV]; simp only [add32]; omega]
            exact ((unhide HS).later ((Fr.refl _ wr).drewN (nq + 1))).next n (by omega) (wnext F n) (sched (wfirst blk 16) (n + 1 - 16)) (fun j _ => by
              rw [show n + 1 - 16 = (n - 16) + 1 by omega, sched, ← unhide HF, show 16 + (n - 16) = n by omega]; rfl)
          · show 64 - (intOf (.int .i64 ((n : Int) + 1))).toNat < 64 - (intOf (.int .i64 (n : Int))).toNat
            simp [intOf]; omega
        · obtain rfl : n = 64 := by omega
          have hM := unhide HS
          obtain ⟨k0, k1, k2, k3, k4, k5, k6, k7, k8⟩ := hM
          have HQ := hide (And.intro k1 (And.intro k2 (k3.setRow (g := r) (fun t => absurd t (by omega)) (arr 64 (wv (spr blk))))))
          clear k0 k1 k2 k3 k4 k5 k6 k7 k8
          go_wp2_with (first | refine wpList_load_row rfl 62 (.tmp 3) rfl p rfl 62 (arr 64 (wv (spr blk))) (0, 0) _ (unhide HQ).1 Tryd.underlying62 rfl (size62 _) ?_ | refine wpList_store_row rfl 62 (.tmp 2) (.tmp 88) rfl r (arr 64 (wv (spr blk))) rfl rfl 62 (arr 64 (wv fun _ => 0)) (unhide HQ).2.1 (size62 _) (by rw [arr_size, arr_size]) (arr_one _ _ (fun _ => rfl)) ?_)
          refine bodyPost_ret (results_cell_row rfl _ _ r 62 (arr 64 (wv (spr blk))) (0, 0) _ rfl ((unhide HQ).2.1.row _) Tryd.underlying62 rfl (size62 _)) rfl ?_
          exact ⟨rfl, (unhide HQ).2.2⟩

end Go.Proofs.YtgklgbomfipagaaDoor
