import Derived.WalkKit
import Derived.Test.YtabhfeocelljdaaGreatDoorSS0
import Derived.Test.YtabhfeocelljdaaGreatDoorRows
import Derived.Test.YtabhfeocelljdaaGreatDoorI1
import Derived.Deep.OwnRows
import Derived.BigQuiet
import Derived.Test.YtabhfeocelljdaaGreatDoorBX
import Derived.Deep.WholeRow
import Derived.BigRegion
/- The mathematics of the digest: words, what a block makes of eight words, what bytes come to, how they are filled up. No program is named here. -/
namespace Go.Proofs.YtabhfeocelljdaaGreatDoor

/-- The words of the rounds, and the first words. -/
def ktab : List Nat := [1116352408, 1899447441, 3049323471, 3921009573, 961987163, 1508970993, 2453635748, 2870763221, 3624381080, 310598401, 607225278, 1426881987, 1925078388, 2162078206, 2614888103, 3248222580, 3835390401, 4022224774, 264347078, 604807628, 770255983, 1249150122, 1555081692, 1996064986, 2554220882, 2821834349, 2952996808, 3210313671, 3336571891, 3584528711, 113926993, 338241895, 666307205, 773529912, 1294757372, 1396182291, 1695183700, 1986661051, 2177026350, 2456956037, 2730485921, 2820302411, 3259730800, 3345764771, 3516065817, 3600352804, 4094571909, 275423344, 430227734, 506948616, 659060556, 883997877, 958139571, 1322822218, 1537002063, 1747873779, 1955562222, 2024104815, 2227730452, 2361852424, 2428436474, 2756734187, 3204031479, 3329325298]
def htab : List Nat := [1779033703, 3144134277, 1013904242, 2773480762, 1359893119, 2600822924, 528734635, 1541459225]
def kw (n : Nat) : Nat := ktab.getD n 0
def hw0 (n : Nat) : Nat := htab.getD n 0

def add32 (a b : Nat) : Nat := (a + b) % 4294967296
def rotr (x n : Nat) : Nat := x / 2 ^ n ||| x * 2 ^ (32 - n) % 4294967296
def sg0 (x : Nat) : Nat := rotr x 7 ^^^ rotr x 18 ^^^ x / 8
def sg1 (y : Nat) : Nat := rotr y 17 ^^^ rotr y 19 ^^^ y / 1024
def bs0 (a : Nat) : Nat := rotr a 2 ^^^ rotr a 13 ^^^ rotr a 22
def bs1 (e : Nat) : Nat := rotr e 6 ^^^ rotr e 11 ^^^ rotr e 25
def chs (e f g : Nat) : Nat := (e &&& f) ^^^ ((4294967295 - e) &&& g)
def maj (a b c : Nat) : Nat := (a &&& b) ^^^ (a &&& c) ^^^ (b &&& c)

/-- A block's own words. -/
def wrd (blk : Nat → UInt8) (n : Nat) : Nat := (blk (4 * n)).toNat * 16777216 + (blk (4 * n + 1)).toNat * 65536 + (blk (4 * n + 2)).toNat * 256 + (blk (4 * n + 3)).toNat

def updZ (f : Nat → Nat) (i v : Nat) : Nat → Nat := fun j => if j = i then v else f j
def wnext (f : Nat → Nat) (n : Nat) : Nat := add32 (add32 (add32 (f (n - 16)) (f (n - 7))) (sg0 (f (n - 15)))) (sg1 (f (n - 2)))
/-- The words under way, so many behind the first sixteen. -/
def sched (f0 : Nat → Nat) : Nat → Nat → Nat
  | 0 => f0
  | k + 1 => updZ (sched f0 k) (16 + k) (wnext (sched f0 k) (16 + k))

def of8 (a b c d e f g i : Nat) : Nat → Nat
  | 0 => a | 1 => b | 2 => c | 3 => d | 4 => e | 5 => f | 6 => g | 7 => i | _ => 0

def t1 (k w : Nat) (s : Nat → Nat) : Nat := add32 (add32 (add32 (add32 (s 7) (bs1 (s 4))) (chs (s 4) (s 5) (s 6))) k) w
def t2 (s : Nat → Nat) : Nat := add32 (bs0 (s 0)) (maj (s 0) (s 1) (s 2))
def rnd (k w : Nat) (s : Nat → Nat) : Nat → Nat := of8 (add32 (t1 k w s) (t2 s)) (s 0) (s 1) (s 2) (add32 (s 3) (t1 k w s)) (s 4) (s 5) (s 6)
/-- The eight words behind so many rounds. -/
def rnds (W h : Nat → Nat) : Nat → Nat → Nat
  | 0 => h
  | n + 1 => rnd (kw n) (W n) (rnds W h n)

/-- The words of a block, all. -/
def wfirst (blk : Nat → UInt8) (i j : Nat) : Nat := if j < i then wrd blk j else 0
def spr (blk : Nat → UInt8) : Nat → Nat := sched (wfirst blk 16) 48
/-- What a block makes of eight words. -/
def comp (h : Nat → Nat) (blk : Nat → UInt8) : Nat → Nat := fun j => add32 (h j) (rnds (spr blk) h 64 j)

/-- What the first so many blocks of bytes make of the first words. -/
def absorb (bs : List UInt8) : Nat → Nat → Nat
  | 0 => hw0
  | k + 1 => comp (absorb bs k) (fun j => bs.getD (64 * k + j) 0)

/-- A number's eight bytes, the highest first. -/
def be8 (n : Nat) : List UInt8 := [UInt8.ofNat (n / 72057594037927936), UInt8.ofNat (n / 281474976710656), UInt8.ofNat (n / 1099511627776), UInt8.ofNat (n / 4294967296), UInt8.ofNat (n / 16777216), UInt8.ofNat (n / 65536), UInt8.ofNat (n / 256), UInt8.ofNat n]
def be4 (n : Nat) : List UInt8 := [UInt8.ofNat (n / 16777216), UInt8.ofNat (n / 65536), UInt8.ofNat (n / 256), UInt8.ofNat n]
/-- What fills so many bytes up. -/
def fill (n : Nat) : List UInt8 := 128 :: (List.replicate (63 - (n + 8) % 64) 0 ++ be8 (8 * n))
/-- Words as bytes. -/
def wbytesZ (f : Nat → Nat) : Nat → List UInt8
  | 0 => []
  | i + 1 => wbytesZ f i ++ be4 (f i)
def digest (bs : List UInt8) : List UInt8 := wbytesZ (absorb (bs ++ fill bs.length) ((bs ++ fill bs.length).length / 64)) 8

theorem aw_abc : digest [97, 98, 99] = [0xba, 0x78, 0x16, 0xbf, 0x8f, 0x01, 0xcf, 0xea, 0x41, 0x41, 0x40, 0xde, 0x5d, 0xae, 0x22, 0x23, 0xb0, 0x03, 0x61, 0xa3, 0x96, 0x17, 0x7a, 0x9c, 0xb4, 0x10, 0xff, 0x61, 0xf2, 0x00, 0x15, 0xad] := by decide +kernel

end Go.Proofs.YtabhfeocelljdaaGreatDoor

/- Contracts: the turns of words: RotateLeft32, rot; the document's rot, sh. Bounds. -/
namespace Go.Proofs.YtabhfeocelljdaaGreatDoor
open Go.RowKit

theorem add32_lt (a b : Nat) : add32 a b < 4294967296 := Nat.mod_lt _ (by omega)
theorem and32 {a b : Nat} (ha : a < 4294967296) : a &&& b < 4294967296 := Nat.lt_of_le_of_lt Nat.and_le_left ha
theorem rotr_lt {x : Nat} (n : Nat) (hx : x < 4294967296) : rotr x n < 4294967296 :=
  Nat.or_lt_two_pow (n := 32) (Nat.lt_of_le_of_lt (Nat.div_le_self _ _) hx) (Nat.mod_lt _ (by omega))
theorem sg0_lt {x : Nat} (hx : x < 4294967296) : sg0 x < 4294967296 := xor32 (xor32 (rotr_lt _ hx) (rotr_lt _ hx)) (by omega)
theorem sg1_lt {x : Nat} (hx : x < 4294967296) : sg1 x < 4294967296 := xor32 (xor32 (rotr_lt _ hx) (rotr_lt _ hx)) (by omega)
theorem bs0_lt {x : Nat} (hx : x < 4294967296) : bs0 x < 4294967296 := xor32 (xor32 (rotr_lt _ hx) (rotr_lt _ hx)) (rotr_lt _ hx)
theorem bs1_lt {x : Nat} (hx : x < 4294967296) : bs1 x < 4294967296 := xor32 (xor32 (rotr_lt _ hx) (rotr_lt _ hx)) (rotr_lt _ hx)

theorem shl_cast (x k : Nat) : (x : Int) * 2 ^ k % 4294967296 = ((x * 2 ^ k % 4294967296 : Nat) : Int) := by
  rw [Int.natCast_emod, Int.natCast_mul, Int.natCast_pow]; rfl
theorem shr_cast (x k : Nat) : (x : Int) / 2 ^ k = ((x / 2 ^ k : Nat) : Int) := by
  rw [Int.natCast_ediv, Int.natCast_pow]; rfl
theorem or_rot (x n : Nat) (hx : x < 4294967296) : bits .or .u32 ((x : Int) / 2 ^ n) ((x : Int) * 2 ^ (32 - n) % 4294967296) = ((rotr x n : Nat) : Int) := by
  rw [shl_cast, shr_cast, u32_or_nat _ _ (Nat.lt_of_le_of_lt (Nat.div_le_self _ _) hx) (Nat.mod_lt _ (by omega))]
  rfl
theorem or_rot' (x n : Nat) (hx : x < 4294967296) (hn : n < 32) : bits .or .u32 ((x : Int) * 2 ^ (32 - n) % 4294967296) ((x : Int) / 2 ^ (32 - (32 - n))) = ((rotr x n : Nat) : Int) := by
  rw [show 32 - (32 - n) = n by omega, shl_cast, shr_cast, u32_or_nat _ _ (Nat.mod_lt _ (by omega)) (Nat.lt_of_le_of_lt (Nat.div_le_self _ _) hx), Nat.or_comm]
  rfl

set_option maxRecDepth 20000 in
theorem rot_left_any (w : World) (x n : Nat) (hx : x < 4294967296) (h0 : 0 < n) (hn : n < 32) : Calls Tryz.prog 115 #[.int .u32 x, .int .i64 (-(n : Int))] w fun e w' => e = .returned (.int .u32 (rotr x n)) ∧ w' = w := by
  have hw : IntKind.u64.wrap (-(n : Int)) = ((18446744073709551616 - n : Nat) : Int) := by rw [IntKind.wrap_u64]; omega
  have ha : bits .and .u64 ((18446744073709551616 - n : Nat) : Int) 31 = ((32 - n : Nat) : Int) := by
    have := u64_and_nat (18446744073709551616 - n) 31 (by omega) (by omega)
    rw [show ((31 : Nat) : Int) = 31 from rfl] at this
    rw [this, show (31 : Nat) = 2 ^ 5 - 1 from rfl, Nat.and_two_pow_sub_one_eq_mod]
    omega
  have hor := or_rot' x n hx hn
  go_enter Tryz.func115, Tryz.ntmps115
  go_wp2
  go_ret
  exact ⟨rfl, rfl⟩

set_option maxRecDepth 20000 in
theorem rot_any (w : World) (x n : Nat) (hx : x < 4294967296) (h0 : 0 < n) (hn : n < 32) : Calls Tryz.prog 113 #[.int .u32 x, .int .i64 n] w fun e w' => e = .returned (.int .u32 (rotr x n)) ∧ w' = w := by
  go_enter Tryz.func113, Tryz.ntmps113
  go_wp2_with fail
  refine (rot_left_any _ x n hx h0 hn).mono ?_
  rintro e w1 ⟨rfl, rfl⟩
  go_wp2
  go_ret
  exact ⟨rfl, rfl⟩

set_option maxRecDepth 20000 in
theorem rrot_any (w : World) (x n : Nat) (hx : x < 4294967296) (h0 : 0 < n) (hn : n < 32) : Calls Tryz.prog 111 #[.int .u32 x, .int .u64 n] w fun e w' => e = .returned (.int .u32 (rotr x n)) ∧ w' = w := by
  have hor := or_rot x n hx
  go_enter Tryz.func111, Tryz.ntmps111
  go_wp2
  go_ret
  exact ⟨rfl, rfl⟩

set_option maxRecDepth 20000 in
theorem rsh_any (w : World) (x n : Nat) (hn : n < 32) : Calls Tryz.prog 114 #[.int .u32 x, .int .u64 n] w fun e w' => e = .returned (.int .u32 (x / 2 ^ n : Nat)) ∧ w' = w := by
  rw [← shr_cast]
  go_enter Tryz.func114, Tryz.ntmps114
  go_wp2
  go_ret
  exact ⟨rfl, rfl⟩

end Go.Proofs.YtabhfeocelljdaaGreatDoor

/- Arrays by value in blocks of their own; the contract of spread. -/
namespace Go.Proofs.YtabhfeocelljdaaGreatDoor
open Go.RowKit

/-- An array of values. -/
def arr (n : Nat) (f : Nat → Value) : Array Value := Array.ofFn (n := n) fun j => f j
/-- An array of words, of bytes. -/
def wv (f : Nat → Nat) (j : Nat) : Value := Value.int .u32 (f j)
def bv (f : Nat → UInt8) (j : Nat) : Value := Value.int .u8 (f j).toNat

theorem arr_size (n : Nat) (f : Nat → Value) : (arr n f).size = n := by simp [arr]
theorem arr_get (n : Nat) (f : Nat → Value) (j : Nat) (hj : j < n) : (arr n f)[j]? = some (f j) := by simp [arr, hj]
theorem arr_ext {n : Nat} {f g : Nat → Value} (h : ∀ j, j < n → f j = g j) : arr n f = arr n g := by
  apply Array.ext_getElem?
  intro j
  by_cases hj : j < n
  · rw [arr_get _ _ _ hj, arr_get _ _ _ hj, h j hj]
  · rw [Array.getElem?_eq_none (by rw [arr_size]; omega), Array.getElem?_eq_none (by rw [arr_size]; omega)]
theorem arr_set (n : Nat) (f : Nat → Value) (i : Nat) (hi : i < n) (v : Value) : (arr n f).setIfInBounds i v = arr n (fun j => if j = i then v else f j) := by
  apply Array.ext_getElem?
  intro j
  rw [Array.getElem?_setIfInBounds]
  by_cases hj : j < n
  · rw [arr_get _ _ _ hj, arr_get _ _ _ hj]
    by_cases e : i = j
    · subst e; simp [arr_size, hi]
    · rw [if_neg e, if_neg (fun h => e h.symm)]
  · have h1 : (arr n f)[j]? = none := Array.getElem?_eq_none (by rw [arr_size]; omega)
    have h2 : (arr n (fun j => if j = i then v else f j))[j]? = none := Array.getElem?_eq_none (by rw [arr_size]; omega)
    rw [h1, h2, if_neg (by omega)]
theorem arr_one (n : Nat) (f : Nat → Value) (h : ∀ j, (f j).oneCell' = true) : (arr n f).all (·.oneCell') = true := Array.all_eq_true.2 fun i hi => by
  rw [arr_size] at hi
  have h2 := arr_get n f i hi
  rw [Array.getElem?_eq_getElem (by rw [arr_size]; exact hi)] at h2
  rw [Option.some.inj h2]
  exact h i

/-- A block that holds an array. -/
def Blk (w : World) (g t n : Nat) (f : Nat → Value) : Prop := w.heap[g]? = some (.cells (arr n f) t (0, 0))

theorem heap_lt {w : World} {g : Nat} {o : Obj} (h : w.heap[g]? = some o) : g < w.heap.size := (Array.getElem?_eq_some_iff.1 h).1

section
variable {w : World} {g t n : Nat} {f : Nat → Value}
theorem Blk.lt (h : Blk w g t n f) : g < w.heap.size := heap_lt h
theorem Blk.frame {S : Nat → Prop} {w' : World} (h : Blk w g t n f) (hF : Fr S w w') (hn : ¬ S g) : Blk w' g t n f := (hF.block g h.lt hn).trans h
theorem Blk.later {w' : World} (h : Blk w g t n f) (hF : Fr (fun _ => False) w w') : Blk w' g t n f := h.frame hF (fun t => t)
theorem Blk.alloc (h : Blk w g t n f) (o : Obj) : Blk (w.alloc o) g t n f := (Below.heap_alloc _ _ _ h.lt).trans h
theorem Blk.new (w : World) (t n : Nat) (f : Nat → Value) : Blk (w.alloc (.cells (arr n f) t)) w.heap.size t n f := heap_alloc_new w _
theorem Blk.cell (h : Blk w g t n f) (j : Nat) (hj : j < n) : w.cell? ⟨g, j, none⟩ = some (f j) := (cell_of_row w g j _ t _ h).trans (arr_get n f j hj)
theorem Blk.frozen (h : Blk w g t n f) (j : Nat) : w.frozen? ⟨g, j, none⟩ = false := frozen_of_row w g j _ t h
theorem Blk.set (h : Blk w g t n f) (i : Nat) (hi : i < n) (v : Value) : Blk (w.setCell ⟨g, i, none⟩ v) g t n (fun j => if j = i then v else f j) := by
  rw [Blk, heap_setCell_same w g i _ t _ h, arr_set n f i hi]
theorem Blk.other (h : Blk w g t n f) (a : Addr) (v : Value) (hn : g ≠ a.block) : Blk (w.setCell a v) g t n f := (heap_setCell_other w a g v hn).trans h
theorem Blk.same {f' : Nat → Value} (h : Blk w g t n f) (e : ∀ j, j < n → f j = f' j) : Blk w g t n f' := by
  rw [Blk, ← arr_ext e]; exact h
theorem Blk.row (h : Blk w g t n f) (f' : Nat → Value) : Blk (w.setRow g (arr n f')) g t n f' := setRow_heap w g _ _ t _ h
end
theorem size53 (f : Nat → Value) : (Tryz.prog.info? 135).map (·.size) = some (arr 64 f).size := by rw [arr_size]; kernel_rfl
theorem size62 (f : Nat → Value) : (Tryz.prog.info? 142).map (·.size) = some (arr 64 f).size := by rw [arr_size]; kernel_rfl
theorem size51 (f : Nat → Value) : (Tryz.prog.info? 133).map (·.size) = some (arr 8 f).size := by rw [arr_size]; kernel_rfl
theorem size49 (f : Nat → Value) : (Tryz.prog.info? 129).map (·.size) = some (arr 8 f).size := by rw [arr_size]; kernel_rfl

theorem zero64 : #[Value.int .u32 0, .int .u32 0, .int .u32 0, .int .u32 0, .int .u32 0, .int .u32 0, .int .u32 0, .int .u32 0, .int .u32 0, .int .u32 0, .int .u32 0, .int .u32 0, .int .u32 0, .int .u32 0, .int .u32 0, .int .u32 0, .int .u32 0, .int .u32 0, .int .u32 0, .int .u32 0, .int .u32 0, .int .u32 0, .int .u32 0, .int .u32 0, .int .u32 0, .int .u32 0, .int .u32 0, .int .u32 0, .int .u32 0, .int .u32 0, .int .u32 0, .int .u32 0, .int .u32 0, .int .u32 0, .int .u32 0, .int .u32 0, .int .u32 0, .int .u32 0, .int .u32 0, .int .u32 0, .int .u32 0, .int .u32 0, .int .u32 0, .int .u32 0, .int .u32 0, .int .u32 0, .int .u32 0, .int .u32 0, .int .u32 0, .int .u32 0, .int .u32 0, .int .u32 0, .int .u32 0, .int .u32 0, .int .u32 0, .int .u32 0, .int .u32 0, .int .u32 0, .int .u32 0, .int .u32 0, .int .u32 0, .int .u32 0, .int .u32 0, .int .u32 0] = arr 64 (wv fun _ => 0) := by kernel_rfl
theorem zero8 : #[Value.int .u32 0, .int .u32 0, .int .u32 0, .int .u32 0, .int .u32 0, .int .u32 0, .int .u32 0, .int .u32 0] = arr 8 (wv fun _ => 0) := by kernel_rfl

/-- The words so far, and the cell of the result. -/
def Making (w wr : World) (b r p : Nat) (blk : Nat → UInt8) (f : Nat → Nat) : Prop :=
  Blk wr b 135 64 (bv blk) ∧ Blk wr p 142 64 (wv f) ∧ Blk wr r 142 64 (wv fun _ => 0) ∧ Fr (fun _ => False) w wr ∧ w.heap.size ≤ b ∧ w.heap.size ≤ r ∧ w.heap.size ≤ p ∧ b ≠ p ∧ r ≠ p

theorem Making.next {w wr : World} {b r p : Nat} {blk : Nat → UInt8} {f : Nat → Nat} (h : Making w wr b r p blk f) (i : Nat) (hi : i < 64) (v : Nat) (f' : Nat → Nat) (hf : ∀ j, j < 64 → f' j = if j = i then v else f j) : Making w (wr.setCell ⟨p, i, none⟩ (.int .u32 v)) b r p blk f' := by
  obtain ⟨h0, h1, h2, h3, h4, h5, h6, h7, h8⟩ := h
  refine ⟨h0.other _ _ h7, (h1.set i hi _).same (fun j hj => ?_), h2.other _ _ h8, h3.setCell (p := ⟨p, i, none⟩) (fun t => absurd t (by simp only []; omega)) _, h4, h5, h6, h7, h8⟩
  show _ = Value.int .u32 (f' j)
  rw [hf j hj]
  by_cases e : j = i
  · rw [if_pos e, if_pos e]
  · rw [if_neg e, if_neg e]; rfl

theorem Making.later {w wr w' : World} {b r p : Nat} {blk : Nat → UInt8} {f : Nat → Nat} (h : Making w wr b r p blk f) (hF : Fr (fun _ => False) wr w') : Making w w' b r p blk f := by
  obtain ⟨h0, h1, h2, h3, h4⟩ := h
  exact ⟨h0.later hF, h1.later hF, h2.later hF, h3.trans hF (fun _ _ t => t), h4⟩

theorem sched_lt (f0 : Nat → Nat) (h : ∀ j, f0 j < 4294967296) (k j : Nat) : sched f0 k j < 4294967296 := by
  induction k generalizing j with
  | zero => exact h j
  | succ k ih =>
    show (if j = 16 + k then _ else _) < _
    split
    · exact add32_lt _ _
    · exact ih j
theorem wrd_lt (blk : Nat → UInt8) (n : Nat) : wrd blk n < 4294967296 := by
  have := (blk (4 * n)).toNat_lt
  have := (blk (4 * n + 1)).toNat_lt
  have := (blk (4 * n + 2)).toNat_lt
  have := (blk (4 * n + 3)).toNat_lt
  unfold wrd
  omega
theorem wfirst_lt (blk : Nat → UInt8) (i j : Nat) : wfirst blk i j < 4294967296 := by
  unfold wfirst
  split
  · exact wrd_lt _ _
  · omega
theorem wfirst_next (blk : Nat → UInt8) (i j : Nat) : wfirst blk (i + 1) j = if j = i then wrd blk i else wfirst blk i j := by
  unfold wfirst
  by_cases e : j = i
  · subst e; rw [if_pos (by omega), if_pos rfl]
  · rw [if_neg e]
    by_cases h2 : j < i
    · rw [if_pos h2, if_pos (by omega)]
    · rw [if_neg h2, if_neg (by omega)]
theorem xor_sg0 (x : Nat) (hx : x < 4294967296) : bits .xor .u32 (bits .xor .u32 ((rotr x 7 : Nat) : Int) ((rotr x 18 : Nat) : Int)) ((x : Int) / 8) = ((sg0 x : Nat) : Int) := by
  rw [show (x : Int) / 8 = ((x / 8 : Nat) : Int) by omega, u32_xor_nat _ _ (rotr_lt 7 hx) (rotr_lt 18 hx), u32_xor_nat _ _ (xor32 (rotr_lt 7 hx) (rotr_lt 18 hx)) (by omega)]
  rfl
theorem xor_sg1 (x : Nat) (hx : x < 4294967296) : bits .xor .u32 (bits .xor .u32 ((rotr x 17 : Nat) : Int) ((rotr x 19 : Nat) : Int)) ((x : Int) / 1024) = ((sg1 x : Nat) : Int) := by
  rw [show (x : Int) / 1024 = ((x / 1024 : Nat) : Int) by omega, u32_xor_nat _ _ (rotr_lt 17 hx) (rotr_lt 19 hx), u32_xor_nat _ _ (xor32 (rotr_lt 17 hx) (rotr_lt 19 hx)) (by omega)]
  rfl
theorem div_cast (x k : Nat) : (x : Int) / (k : Int) = ((x / k : Nat) : Int) := (Int.natCast_ediv x k).symm
theorem xor3 (a b c : Nat) (ha : a < 4294967296) (hb : b < 4294967296) (hc : c < 4294967296) : bits .xor .u32 (bits .xor .u32 (a : Int) (b : Int)) (c : Int) = ((a ^^^ b ^^^ c : Nat) : Int) := by
  rw [u32_xor_nat a b ha hb, u32_xor_nat _ c (xor32 ha hb) hc]

set_option maxRecDepth 20000 in
theorem word_or (a b c d : Nat) (ha : a < 256) (hb : b < 256) (hc : c < 256) (hd : d < 256) :
    bits .or .u32 (bits .or .u32 (bits .or .u32 ((a : Int) * 16777216) ((b : Int) * 65536)) ((c : Int) * 256)) (d : Int) = ((a * 16777216 + b * 65536 + c * 256 + d : Nat) : Int) := by
  have p24 : (2 : Nat) ^ 24 = 16777216 := by decide
  have p16 : (2 : Nat) ^ 16 = 65536 := by decide
  have p8 : (2 : Nat) ^ 8 = 256 := by decide
  have e1 : a * 16777216 ||| b * 65536 = a * 16777216 + b * 65536 := by
    have := Nat.shiftLeft_add_eq_or_of_lt (i := 24) (b := b * 65536) (by omega) a
    rw [Nat.shiftLeft_eq, p24] at this
    exact this.symm
  have e2 : (a * 16777216 + b * 65536) ||| c * 256 = a * 16777216 + b * 65536 + c * 256 := by
    have := Nat.shiftLeft_add_eq_or_of_lt (i := 16) (b := c * 256) (by omega) (a * 256 + b)
    rw [Nat.shiftLeft_eq, p16] at this
    rw [show a * 16777216 + b * 65536 = (a * 256 + b) * 65536 by rw [Nat.add_mul, Nat.mul_assoc]]
    exact this.symm
  have e3 : (a * 16777216 + b * 65536 + c * 256) ||| d = a * 16777216 + b * 65536 + c * 256 + d := by
    have := Nat.shiftLeft_add_eq_or_of_lt (i := 8) (b := d) (by omega) (a * 65536 + b * 256 + c)
    rw [Nat.shiftLeft_eq, p8] at this
    rw [show a * 16777216 + b * 65536 + c * 256 = (a * 65536 + b * 256 + c) * 256 by rw [Nat.add_mul, Nat.add_mul, Nat.mul_assoc, Nat.mul_assoc]]
    exact this.symm
  have k1 := u32_or_nat (a * 16777216) (b * 65536) (by omega) (by omega)
  have k2 := u32_or_nat (a * 16777216 + b * 65536) (c * 256) (by omega) (by omega)
  have k3 := u32_or_nat (a * 16777216 + b * 65536 + c * 256) d (by omega) (by omega)
  rw [e1] at k1
  rw [e2] at k2
  rw [e3] at k3
  rw [← k3, ← k2, ← k1, show (a : Int) * 16777216 = ((a * 16777216 : Nat) : Int) by omega, show (b : Int) * 65536 = ((b * 65536 : Nat) : Int) by omega, show (c : Int) * 256 = ((c * 256 : Nat) : Int) by omega]

set_option maxRecDepth 20000 in
set_option maxHeartbeats 2000000 in
theorem spread_any (w : World) (blk : Nat → UInt8) : Calls Tryz.prog 112 #[.agg (arr 64 (bv blk))] w fun e w' => e = .returned (.agg (arr 64 (wv (spr blk)))) ∧ Fr (fun _ => False) w w' := by
  go_enter Tryz.func112, Tryz.ntmps112
  go_wp2_with fail
  rw [zero64]
  have hM : Making w (((w.alloc (.cells (arr 64 (bv blk)) 135)).alloc (.cells (arr 64 (wv fun _ => 0)) 142)).alloc (.cells (arr 64 (wv fun _ => 0)) 142)) w.heap.size (w.heap.size + 1) (w.heap.size + 1 + 1) blk (wfirst blk 0) := by
    have e1 : (w.alloc (.cells (arr 64 (bv blk)) 135)).heap.size = w.heap.size + 1 := by simp
    have e2 : ((w.alloc (.cells (arr 64 (bv blk)) 135)).alloc (.cells (arr 64 (wv fun _ => 0)) 142)).heap.size = w.heap.size + 1 + 1 := by simp
    have b0 := ((Blk.new w 135 64 (bv blk)).alloc (.cells (arr 64 (wv fun _ => 0)) 142)).alloc (.cells (arr 64 (wv fun _ => 0)) 142)
    have b1 := (Blk.new (w.alloc (.cells (arr 64 (bv blk)) 135)) 142 64 (wv fun _ => 0)).alloc (.cells (arr 64 (wv fun _ => 0)) 142)
    have b2 := Blk.new ((w.alloc (.cells (arr 64 (bv blk)) 135)).alloc (.cells (arr 64 (wv fun _ => 0)) 142)) 142 64 (wv fun _ => 0)
    rw [e1] at b1
    rw [e2] at b2
    exact ⟨b0, b2.same (fun j _ => by simp [wv, wfirst]), b1, (((Fr.refl _ w).alloc _).alloc _).alloc _, by omega, by omega, by omega, by omega, by omega⟩
  have HM := hide hM
  clear hM
  generalize (((w.alloc (.cells (arr 64 (bv blk)) 135)).alloc (.cells (arr 64 (wv fun _ => 0)) 142)).alloc (.cells (arr 64 (wv fun _ => 0)) 142)) = w0 at *
  generalize w.heap.size + 1 + 1 = p at *
  generalize w.heap.size + 1 = r at *
  obtain ⟨b, hb⟩ : ∃ b, w.heap.size = b := ⟨_, rfl⟩
  rw [hb] at HM ⊢
  go_wp2
  go_loopw [4, 10] (fun _ iv wr => ∃ i : Nat, i ≤ 16 ∧ iv = .int .i64 i ∧ Hid (Making w wr b r p blk (wfirst blk i))) (fun _ iv _ => 16 - (intOf iv).toNat)
  case atStart => exact ⟨0, Nat.zero_le _, rfl, unhide HM⟩
  case round =>
    obtain ⟨i, hi, rfl, HS⟩ := hrel
    by_cases hlt : i < 16
    · have c0 := (unhide HS).1.cell (4 * i) (by omega)
      have c1 := (unhide HS).1.cell (4 * i + 1) (by omega)
      have c2 := (unhide HS).1.cell (4 * i + 2) (by omega)
      have c3 := (unhide HS).1.cell (4 * i + 3) (by omega)
      have ci := (unhide HS).2.1.cell i (by omega)
      have fi := (unhide HS).2.1.frozen i
      have hor := word_or (blk (4 * i)).toNat (blk (4 * i + 1)).toNat (blk (4 * i + 2)).toNat (blk (4 * i + 3)).toNat (blk (4 * i)).toNat_lt (blk (4 * i + 1)).toNat_lt (blk (4 * i + 2)).toNat_lt (blk (4 * i + 3)).toNat_lt
      have HN := hide ((unhide HS).next i (by omega) (wrd blk i) (wfirst blk (i + 1)) (fun j _ => wfirst_next blk i j))
      have hv : wrd blk i = (blk (4 * i)).toNat * 16777216 + (blk (4 * i + 1)).toNat * 65536 + (blk (4 * i + 2)).toNat * 256 + (blk (4 * i + 3)).toNat := rfl
      rw [hv] at HN
      have l0 := (blk (4 * i)).toNat_lt
      have l1 := (blk (4 * i + 1)).toNat_lt
      have l2 := (blk (4 * i + 2)).toNat_lt
      have l3 := (blk (4 * i + 3)).toNat_lt
      clear hv
      unfold bv at c0 c1 c2 c3
      unfold wv at ci
      generalize (blk (4 * i)).toNat = a0 at *
      generalize (blk (4 * i + 1)).toNat = a1 at *
      generalize (blk (4 * i + 2)).toNat = a2 at *
      generalize (blk (4 * i + 3)).toNat = a3 at *
      rw [show ((a0 * 16777216 + a1 * 65536 + a2 * 256 + a3 : Nat) : Int) = (a0 : Int) * 16777216 + (a1 : Int) * 65536 + (a2 : Int) * 256 + (a3 : Int) by omega] at HN
      go_wp2
      go_big_region
      go_wp2
      exact ⟨⟨i + 1, by omega, by go_num, (unhide HN).later (Fr.refl _ _).drew⟩, by simp [intOf]; omega⟩
    · obtain rfl : i = 16 := by omega
      go_wp2
      go_loopw [5, 6, 7, 8, 9] (fun nv _ _ _ _ wr => ∃ n : Nat, 16 ≤ n ∧ n ≤ 64 ∧ nv = .int .i64 n ∧ Hid (Making w wr b r p blk (sched (wfirst blk 16) (n - 16)))) (fun nv _ _ _ _ _ => 64 - (intOf nv).toNat)
      case atStart => exact ⟨16, Nat.le_refl _, by omega, rfl, unhide HS⟩
      case round =>
        obtain ⟨n, hn1, hn2, rfl, HS⟩ := hrel
        by_cases hlt : n < 64
        · obtain ⟨F, hF⟩ : ∃ F, F = sched (wfirst blk 16) (n - 16) := ⟨_, rfl⟩
          rw [← hF] at HS
          have hFl : ∀ j, F j < 4294967296 := fun j => by rw [hF]; exact sched_lt _ (wfirst_lt blk 16) _ _
          have HF := hide hF
          have cx := (unhide HS).2.1.cell (n - 15) (by omega)
          have cy := (unhide HS).2.1.cell (n - 2) (by omega)
          unfold wv at cx cy
          have lx := hFl (n - 15)
          have ly := hFl (n - 2)
          clear hF
          go_wp2
          go_quiet (fail)
          go_wp2_with fail
          refine (rot_any _ (F (n - 15)) 7 lx (by omega) (by omega)).mono ?_
          rintro e w1 ⟨rfl, rfl⟩
          go_wp2_with fail
          refine (rot_any _ (F (n - 15)) 18 lx (by omega) (by omega)).mono ?_
          rintro e w1 ⟨rfl, rfl⟩
          have hx := xor_sg0 (F (n - 15)) lx
          go_wp2_with fail
          clear hx
          refine (rot_any _ (F (n - 2)) 17 ly (by omega) (by omega)).mono ?_
          rintro e w1 ⟨rfl, rfl⟩
          go_wp2_with fail
          refine (rot_any _ (F (n - 2)) 19 ly (by omega) (by omega)).mono ?_
          rintro e w1 ⟨rfl, rfl⟩
          have hy := xor_sg1 (F (n - 2)) ly
          have ca := (unhide HS).2.1.cell (n - 16) (by omega)
          have cb := (unhide HS).2.1.cell (n - 7) (by omega)
          have cn := (unhide HS).2.1.cell n (by omega)
          have fn := (unhide HS).2.1.frozen n
          unfold wv at ca cb cn
          go_wp2
          clear hy lx ly
          have hv : wnext F n = add32 (add32 (add32 (F (n - 16)) (F (n - 7))) (sg0 (F (n - 15)))) (sg1 (F (n - 2))) := rfl
          have HV := hide hv
          clear hv
          have la := hFl (n - 16)
          have lb := hFl (n - 7)
          have lc := sg0_lt (hFl (n - 15))
          have ld := sg1_lt (hFl (n - 2))
          generalize sg0 (F (n - 15)) = vc at *
          generalize sg1 (F (n - 2)) = vd at *
          generalize F (n - 16) = va at *
          generalize F (n - 7) = vb at *
          clear hFl
          go_big_region
          go_wp2
          refine ⟨?_, ?_⟩
          · repeat apply Exists.intro
            refine ⟨?_, rfl⟩
            refine ⟨n + 1, by omega, by omega, by go_num, ?_⟩
            rw [show ((va : Int) + vb + vc + vd) % 4294967296 = ((wnext F n : Nat) : Int) by rw [unhide HV]; simp only [add32]; omega]
            exact ((unhide HS).later ((Fr.refl _ wr).drewN (nq + 1))).next n (by omega) (wnext F n) (sched (wfirst blk 16) (n + 1 - 16)) (fun j _ => by
              rw [show n + 1 - 16 = (n - 16) + 1 by omega, sched, ← unhide HF, show 16 + (n - 16) = n by omega]; rfl)
          · show 64 - (intOf (.int .i64 ((n : Int) + 1))).toNat < 64 - (intOf (.int .i64 (n : Int))).toNat
            simp [intOf]; omega
        · obtain rfl : n = 64 := by omega
          have hM := unhide HS
          obtain ⟨k0, k1, k2, k3, k4, k5, k6, k7, k8⟩ := hM
          have HQ := hide (And.intro k1 (And.intro k2 (k3.setRow (g := r) (fun t => absurd t (by omega)) (arr 64 (wv (spr blk))))))
          clear k0 k1 k2 k3 k4 k5 k6 k7 k8
          go_wp2_with (first | refine wpList_load_row rfl 142 (.tmp 3) rfl p rfl 142 (arr 64 (wv (spr blk))) (0, 0) _ (unhide HQ).1 Tryz.underlying142 rfl (size62 _) ?_ | refine wpList_store_row rfl 142 (.tmp 2) (.tmp 88) rfl r (arr 64 (wv (spr blk))) rfl rfl 142 (arr 64 (wv fun _ => 0)) (unhide HQ).2.1 (size62 _) (by rw [arr_size, arr_size]) (arr_one _ _ (fun _ => rfl)) ?_)
          refine bodyPost_ret (results_cell_row rfl _ _ r 142 (arr 64 (wv (spr blk))) (0, 0) _ rfl ((unhide HQ).2.1.row _) Tryz.underlying142 rfl (size62 _)) rfl ?_
          exact ⟨rfl, (unhide HQ).2.2⟩

end Go.Proofs.YtabhfeocelljdaaGreatDoor

/- The contract of changed. -/
namespace Go.Proofs.YtabhfeocelljdaaGreatDoor
open Go.RowKit

/-- The program's tables lie where its text lays them. -/
def TabP (w : World) : Prop := (∀ j, j < 8 → w.cell? ⟨1, j, none⟩ = some (.int .u32 (hw0 j))) ∧ ∀ j, j < 64 → w.cell? ⟨3, j, none⟩ = some (.int .u32 (kw j))

theorem TabP.frame {S : Nat → Prop} {w w' : World} (h : TabP w) (hF : Fr S w w') (h1 : ¬ S 1) (h3 : ¬ S 3) : TabP w' :=
  ⟨fun j hj => (hF.cell (a := ⟨1, j, none⟩) (World.block_lt_of_cell? _ _ (h.1 j hj)) h1).trans (h.1 j hj), fun j hj => (hF.cell (a := ⟨3, j, none⟩) (World.block_lt_of_cell? _ _ (h.2 j hj)) h3).trans (h.2 j hj)⟩
theorem TabP.later {w w' : World} (h : TabP w) (hF : Fr (fun _ => False) w w') : TabP w' := h.frame hF (fun t => t) (fun t => t)

theorem kw_lt (n : Nat) : kw n < 4294967296 := by
  by_cases h : n < 64
  · have hall : (List.range 64).all (fun n => decide (kw n < 4294967296)) = true := by decide +kernel
    simpa using List.all_eq_true.1 hall n (List.mem_range.2 h)
  · have : kw n = 0 := by
      show ktab.getD n 0 = 0
      rw [List.getD_eq_getElem?_getD, List.getElem?_eq_none (by show 64 ≤ n; omega)]; rfl
    omega
theorem hw0_lt (n : Nat) : hw0 n < 4294967296 := by
  by_cases h : n < 8
  · have hall : (List.range 8).all (fun n => decide (hw0 n < 4294967296)) = true := by decide +kernel
    simpa using List.all_eq_true.1 hall n (List.mem_range.2 h)
  · have : hw0 n = 0 := by
      show htab.getD n 0 = 0
      rw [List.getD_eq_getElem?_getD, List.getElem?_eq_none (by show 8 ≤ n; omega)]; rfl
    omega
theorem spr_lt (blk : Nat → UInt8) (j : Nat) : spr blk j < 4294967296 := sched_lt _ (wfirst_lt blk 16) _ _
theorem rnds_lt (W h : Nat → Nat) (hh : ∀ j, h j < 4294967296) (n j : Nat) : rnds W h n j < 4294967296 := by
  induction n generalizing j with
  | zero => exact hh j
  | succ n ih =>
    show rnd (kw n) (W n) (rnds W h n) j < _
    unfold rnd of8
    split
    · exact add32_lt _ _
    · exact ih _
    · exact ih _
    · exact ih _
    · exact add32_lt _ _
    · exact ih _
    · exact ih _
    · exact ih _
    · omega
theorem rnds_next (W h : Nat → Nat) (n : Nat) :
    rnds W h (n + 1) 0 = add32 (add32 (add32 (add32 (add32 (rnds W h n 7) (bs1 (rnds W h n 4))) (chs (rnds W h n 4) (rnds W h n 5) (rnds W h n 6))) (kw n)) (W n)) (add32 (bs0 (rnds W h n 0)) (maj (rnds W h n 0) (rnds W h n 1) (rnds W h n 2))) ∧
    rnds W h (n + 1) 1 = rnds W h n 0 ∧ rnds W h (n + 1) 2 = rnds W h n 1 ∧ rnds W h (n + 1) 3 = rnds W h n 2 ∧
    rnds W h (n + 1) 4 = add32 (rnds W h n 3) (add32 (add32 (add32 (add32 (rnds W h n 7) (bs1 (rnds W h n 4))) (chs (rnds W h n 4) (rnds W h n 5) (rnds W h n 6))) (kw n)) (W n)) ∧
    rnds W h (n + 1) 5 = rnds W h n 4 ∧ rnds W h (n + 1) 6 = rnds W h n 5 ∧ rnds W h (n + 1) 7 = rnds W h n 6 := ⟨rfl, rfl, rfl, rfl, rfl, rfl, rfl, rfl⟩
theorem comp_lt (h : Nat → Nat) (blk : Nat → UInt8) (j : Nat) : comp h blk j < 4294967296 := add32_lt _ _

theorem xor_bs1 (x : Nat) (hx : x < 4294967296) : bits .xor .u32 (bits .xor .u32 ((rotr x 6 : Nat) : Int) ((rotr x 11 : Nat) : Int)) ((rotr x 25 : Nat) : Int) = ((bs1 x : Nat) : Int) :=
  xor3 _ _ _ (rotr_lt _ hx) (rotr_lt _ hx) (rotr_lt _ hx)
theorem xor_bs0 (x : Nat) (hx : x < 4294967296) : bits .xor .u32 (bits .xor .u32 ((rotr x 2 : Nat) : Int) ((rotr x 13 : Nat) : Int)) ((rotr x 22 : Nat) : Int) = ((bs0 x : Nat) : Int) :=
  xor3 _ _ _ (rotr_lt _ hx) (rotr_lt _ hx) (rotr_lt _ hx)

theorem not_nat (e : Nat) (he : e < 4294967296) : bits .xor .u32 (if IntKind.u32.signed = true then -1 else IntKind.u32.max) (e : Int) = ((4294967295 - e : Nat) : Int) := by
  have h0 : (if IntKind.u32.signed = true then (-1 : Int) else IntKind.u32.max) = ((4294967295 : Nat) : Int) := by decide
  rw [h0, u32_xor_nat _ _ (by omega) he]
  congr 1
  rw [Nat.xor_comm]
  have hadd : e ^^^ 4294967295 = 2 ^ 32 - 1 - e := by
    have h := BitVec.toNat_not (x := BitVec.ofNat 32 e)
    have hx : (~~~ BitVec.ofNat 32 e) = BitVec.ofNat 32 e ^^^ BitVec.allOnes 32 := by rw [BitVec.xor_allOnes]
    rw [hx, BitVec.toNat_xor, BitVec.toNat_allOnes, BitVec.toNat_ofNat, Nat.mod_eq_of_lt (by omega)] at h
    exact h
  rw [hadd]
theorem ch_nat (e f g : Nat) (he : e < 4294967296) (hf : f < 4294967296) (hg : g < 4294967296) : bits .xor .u32 (bits .and .u32 (e : Int) (f : Int)) (bits .and .u32 (bits .xor .u32 (if IntKind.u32.signed = true then -1 else IntKind.u32.max) (e : Int)) (g : Int)) = ((chs e f g : Nat) : Int) := by
  rw [not_nat e he, u32_and_nat e f he hf, u32_and_nat _ g (by omega) hg, u32_xor_nat _ _ (and32 he) (and32 (by omega))]
  rfl
theorem maj_nat (a b c : Nat) (ha : a < 4294967296) (hb : b < 4294967296) (hc : c < 4294967296) : bits .xor .u32 (bits .xor .u32 (bits .and .u32 (a : Int) (b : Int)) (bits .and .u32 (a : Int) (c : Int))) (bits .and .u32 (b : Int) (c : Int)) = ((maj a b c : Nat) : Int) := by
  rw [u32_and_nat a b ha hb, u32_and_nat a c ha hc, u32_and_nat b c hb hc, xor3 _ _ _ (and32 ha) (and32 ha) (and32 hb)]
  rfl
theorem chs_lt {e : Nat} (f g : Nat) (he : e < 4294967296) : chs e f g < 4294967296 := xor32 (and32 he) (and32 (by omega))
theorem maj_lt {a b : Nat} (c : Nat) (ha : a < 4294967296) (hb : b < 4294967296) : maj a b c < 4294967296 := xor32 (xor32 (and32 ha) (and32 ha)) (and32 hb)

theorem lit8 (V : Nat → Nat) : #[Value.int .u32 (V 0), .int .u32 (V 1), .int .u32 (V 2), .int .u32 (V 3), .int .u32 (V 4), .int .u32 (V 5), .int .u32 (V 6), .int .u32 (V 7)] = arr 8 (wv V) := rfl
theorem run_index_8 (w : World) (V : Nat → Nat) (i : Nat) (hi : i < 8) : (Instr.index 133 (.agg (arr 8 (wv V))) (.int .i64 i)).run Tryz.prog w = .ok (.int .u32 (V i)) w := by
  have h3 : (sizeOf 128).run Tryz.prog w = .ok 1 w := by kernel_rfl
  have hv := arr_get 8 (wv V) i hi
  unfold wv at hv ⊢
  simp [Instr.index, run_underlying Tryz.underlying133, asIntOf, part, h3, hi, hv]

/-- The words, of which the first i have been added up. -/
def mixf (h V : Nat → Nat) (i j : Nat) : Nat := if j < i then add32 (h j) (V j) else h j
theorem mixf_at (h V : Nat → Nat) (i : Nat) : mixf h V i i = h i := if_neg (Nat.lt_irrefl i)
theorem mixf_full (h V : Nat → Nat) (j : Nat) (hj : j < 8) : mixf h V 8 j = add32 (h j) (V j) := if_pos hj
theorem mixf_next (h V : Nat → Nat) (i j : Nat) : (if j = i then Value.int .u32 (add32 (h i) (V i)) else wv (mixf h V i) j) = wv (mixf h V (i + 1)) j := by
  unfold wv mixf
  by_cases e : j = i
  · subst e; rw [if_pos rfl, if_pos (by omega)]
  · rw [if_neg e]
    by_cases h2 : j < i
    · rw [if_pos h2, if_pos (by omega)]
    · rw [if_neg h2, if_neg (by omega)]

theorem rotZ_any (w : World) (x : Nat) (k : Int) (hx : x < 4294967296) (h0 : 0 < k) (hn : k < 32) : Calls Tryz.prog 113 #[.int .u32 x, .int .i64 k] w fun e w' => e = .returned (.int .u32 (rotr x k.toNat)) ∧ w' = w := by
  obtain ⟨n, rfl⟩ : ∃ n : Nat, k = n := ⟨k.toNat, by omega⟩
  exact rot_any w x n hx (by omega) (by omega)

set_option maxHeartbeats 4000000 in
set_option maxRecDepth 100000 in
theorem changed_any (w : World) (hT : TabP w) (h : Nat → Nat) (hh : ∀ j, h j < 4294967296) (blk : Nat → UInt8) :
    Calls Tryz.prog 106 #[.agg (arr 8 (wv h)), .agg (arr 64 (bv blk))] w fun e w' => e = .returned (.agg (arr 8 (wv (comp h blk)))) ∧ Fr (fun _ => False) w w' := by
  have HT := hide hT
  clear hT
  go_enter Tryz.func106, Tryz.ntmps106
  go_wp2
  rw [zero8]
  have e1 : (w.alloc (.cells (arr 8 (wv h)) 133)).heap.size = w.heap.size + 1 := by simp
  have e2 : ((w.alloc (.cells (arr 8 (wv h)) 133)).alloc (.cells (arr 64 (bv blk)) 135)).heap.size = w.heap.size + 1 + 1 := by simp
  have b0 := ((Blk.new w 133 8 (wv h)).alloc (.cells (arr 64 (bv blk)) 135)).alloc (.cells (arr 8 (wv fun _ => 0)) 133)
  have b1 := (Blk.new (w.alloc (.cells (arr 8 (wv h)) 133)) 135 64 (bv blk)).alloc (.cells (arr 8 (wv fun _ => 0)) 133)
  have b2 := Blk.new ((w.alloc (.cells (arr 8 (wv h)) 133)).alloc (.cells (arr 64 (bv blk)) 135)) 133 8 (wv fun _ => 0)
  rw [e1] at b1
  rw [e2] at b2
  have hF := (((Fr.refl (fun _ => False) w).alloc (.cells (arr 8 (wv h)) 133)).alloc (.cells (arr 64 (bv blk)) 135)).alloc (.cells (arr 8 (wv fun _ => 0)) 133)
  have HM := hide (And.intro b0 (And.intro b1 (And.intro b2 hF)))
  clear e1 e2 b0 b1 b2 hF
  generalize (((w.alloc (.cells (arr 8 (wv h)) 133)).alloc (.cells (arr 64 (bv blk)) 135)).alloc (.cells (arr 8 (wv fun _ => 0)) 133)) = w0 at *
  have hp : w.heap.size + 1 + 1 ≠ w.heap.size ∧ w.heap.size ≤ w.heap.size + 1 + 1 := by omega
  have HP := hide hp
  clear hp
  generalize w.heap.size + 1 + 1 = r at *
  generalize w.heap.size + 1 = q at *
  obtain ⟨b, hb⟩ : ∃ b, w.heap.size = b := ⟨_, rfl⟩
  rw [hb] at HM HP ⊢
  have c0 := (unhide HM).1.cell 0 (by omega)
  have c1 := (unhide HM).1.cell 1 (by omega)
  have c2 := (unhide HM).1.cell 2 (by omega)
  have c3 := (unhide HM).1.cell 3 (by omega)
  have c4 := (unhide HM).1.cell 4 (by omega)
  have c5 := (unhide HM).1.cell 5 (by omega)
  have c6 := (unhide HM).1.cell 6 (by omega)
  have c7 := (unhide HM).1.cell 7 (by omega)
  unfold wv at c0 c1 c2 c3 c4 c5 c6 c7
  go_quiet (fail)
  clear c0 c1 c2 c3 c4 c5 c6 c7
  have HM1 := hide (And.intro ((unhide HM).1.later ((Fr.refl _ w0).drewN nq)) (And.intro ((unhide HM).2.1.later ((Fr.refl _ w0).drewN nq)) (And.intro ((unhide HM).2.2.1.later ((Fr.refl _ w0).drewN nq)) ((unhide HM).2.2.2.drewN nq))))
  clear HM
  generalize w0.drewN nq = w1 at *
  go_wp2_with (refine wpList_load_row rfl 135 (.tmp 3) rfl q rfl 135 (arr 64 (bv blk)) (0, 0) _ (unhide HM1).2.1 Tryz.underlying135 rfl (size53 _) ?_)
  go_wp2_with fail
  refine (spread_any w1 blk).mono ?_
  rintro e w2 ⟨rfl, hF2⟩
  have HM2 := hide (And.intro ((unhide HM1).1.later hF2) (And.intro ((unhide HM1).2.2.1.later hF2) ((unhide HM1).2.2.2.trans hF2 (fun _ _ t => t))))
  clear HM1 hF2
  go_wp2
  go_loopw [5, 6, 7, 8, 9, 10, 11, 12, 13, 14, 15, 16, 37] (fun va vb vc vd ve vf vg vi _ _ _ _ iv wr => ∃ n : Nat, n ≤ 64 ∧ iv = .int .i64 n ∧ va = .int .u32 (rnds (spr blk) h n 0) ∧ vb = .int .u32 (rnds (spr blk) h n 1) ∧ vc = .int .u32 (rnds (spr blk) h n 2) ∧ vd = .int .u32 (rnds (spr blk) h n 3) ∧ ve = .int .u32 (rnds (spr blk) h n 4) ∧ vf = .int .u32 (rnds (spr blk) h n 5) ∧ vg = .int .u32 (rnds (spr blk) h n 6) ∧ vi = .int .u32 (rnds (spr blk) h n 7) ∧ Hid (Blk wr b 133 8 (wv h) ∧ Blk wr r 133 8 (wv fun _ => 0) ∧ Fr (fun _ => False) w wr)) (fun _ _ _ _ _ _ _ _ _ _ _ _ iv _ => 64 - (intOf iv).toNat)
  case atStart => exact ⟨0, Nat.zero_le _, rfl, rfl, rfl, rfl, rfl, rfl, rfl, rfl, rfl, unhide HM2⟩
  case round =>
    obtain ⟨n, hn, rfl, rfl, rfl, rfl, rfl, rfl, rfl, rfl, rfl, HS⟩ := hrel
    by_cases hlt : n < 64
    · have HN := hide (rnds_next (spr blk) h n)
      have HL := hide (fun j => rnds_lt (spr blk) h hh n j)
      have ck := ((unhide HT).later (unhide HS).2.2).2 n hlt
      have hix : ∀ w, (Instr.index 142 (.agg (arr 64 (wv (spr blk)))) (.int .i64 n)).run Tryz.prog w = .ok (.int .u32 (spr blk n)) w := by
        intro w
        have h3 : (sizeOf 128).run Tryz.prog w = .ok 1 w := by kernel_rfl
        have hv := arr_get 64 (wv (spr blk)) n hlt
        unfold wv at hv ⊢
        simp [Instr.index, run_underlying Tryz.underlying142, asIntOf, part, h3, hlt, hv]
      have L := And.intro (unhide HL 0) (And.intro (unhide HL 1) (And.intro (unhide HL 2) (And.intro (unhide HL 4) (And.intro (unhide HL 5) (unhide HL 6)))))
      clear HL
      generalize rnds (spr blk) h n 0 = x0 at *
      generalize rnds (spr blk) h n 1 = x1 at *
      generalize rnds (spr blk) h n 2 = x2 at *
      generalize rnds (spr blk) h n 3 = x3 at *
      generalize rnds (spr blk) h n 4 = x4 at *
      generalize rnds (spr blk) h n 5 = x5 at *
      generalize rnds (spr blk) h n 6 = x6 at *
      generalize rnds (spr blk) h n 7 = x7 at *
      generalize spr blk n = W at *
      generalize kw n = K at *
      obtain ⟨l0, l1, l2, l4, l5, l6⟩ := L
      have hx1 := xor_bs1 x4 l4
      have hx0 := xor_bs0 x0 l0
      have hch := ch_nat x4 x5 x6 l4 l5 l6
      have hmj := maj_nat x0 x1 x2 l0 l1 l2
      have HC := hide hch
      have HM := hide hmj
      have HX0 := hide hx0
      have HL0 := hide l0
      have HL4 := hide l4
      clear hch hmj hx0 l0 l1 l2 l4 l5 l6 hh
      obtain ⟨T, hT⟩ : ∃ T, T = add32 (add32 (add32 (add32 x7 (bs1 x4)) (chs x4 x5 x6)) K) W := ⟨_, rfl⟩
      have htv : (((x7 : Int) + (bs1 x4 : Int) + (chs x4 x5 x6 : Int) + (K : Int)) % 4294967296 + (W : Int)) % 4294967296 = (T : Int) := by
        rw [hT]; simp only [add32]; omega
      rw [← hT] at HN
      have HTV := hide htv
      clear htv hT
      obtain ⟨U, hU⟩ : ∃ U, U = add32 (bs0 x0) (maj x0 x1 x2) := ⟨_, rfl⟩
      rw [← hU] at HN
      have HU := hide hU
      clear hU
      go_wp2
      go_quiet (((go_at_call 113; refine Calls.quiet_of_same (rotZ_any _ x4 _ (unhide HL4) ?_ ?_)) <;> decide))
      rw [unhide HC, unhide HTV]
      clear hx1 hix ck
      go_wp2_with fail
      refine (rot_any _ x0 2 (unhide HL0) (by omega) (by omega)).mono ?_
      rintro e w3 ⟨rfl, rfl⟩
      go_wp2_with fail
      refine (rot_any _ x0 13 (unhide HL0) (by omega) (by omega)).mono ?_
      rintro e w3 ⟨rfl, rfl⟩
      go_wp2_with fail
      refine (rot_any _ x0 22 (unhide HL0) (by omega) (by omega)).mono ?_
      rintro e w3 ⟨rfl, rfl⟩
      have hx0 := unhide HX0
      have hmj := unhide HM
      go_wp2
      clear hx0 hmj
      obtain ⟨N0, N1, N2, N3, N4, N5, N6, N7⟩ := unhide HN
      refine ⟨⟨n + 1, by omega, by go_num, ?_, by rw [N1], by rw [N2], by rw [N3], ?_, by rw [N5], by rw [N6], by rw [N7], (unhide HS).1.later ((Fr.refl _ wr).drewN nq), (unhide HS).2.1.later ((Fr.refl _ wr).drewN nq), (unhide HS).2.2.drewN nq⟩, by simp [intOf]; omega⟩
      · rw [N0]
        refine congrArg (Value.int .u32) ?_
        rw [unhide HU]; simp only [add32]; omega
      · rw [N4]
        refine congrArg (Value.int .u32) ?_
        simp only [add32]; omega
    · obtain rfl : n = 64 := by omega
      have HL := hide (fun j => rnds_lt (spr blk) h hh 64 j)
      have HH := hide hh
      obtain ⟨V, hV⟩ : ∃ V, V = rnds (spr blk) h 64 := ⟨_, rfl⟩
      rw [← hV] at HL ⊢
      have HV := hide hV
      clear hV hh
      go_wp2
      rw [lit8 V]
      go_loopw [17, 18, 108] (fun _ _ iv wr => ∃ i : Nat, i ≤ 8 ∧ iv = .int .i64 i ∧ Hid (Blk wr b 133 8 (wv (mixf h V i)) ∧ Blk wr r 133 8 (wv fun _ => 0) ∧ Fr (fun _ => False) w wr)) (fun _ _ iv _ => 8 - (intOf iv).toNat)
      case atStart => exact ⟨0, Nat.zero_le _, rfl, (unhide HS).1.same (fun j _ => by simp [wv, mixf]), (unhide HS).2⟩
      case round =>
        obtain ⟨i, hi, rfl, HS⟩ := hrel
        by_cases hlt : i < 8
        · have hix := fun w => run_index_8 w V i hlt
          have ci := (unhide HS).1.cell i hlt
          have fi := (unhide HS).1.frozen i
          unfold wv at ci
          rw [mixf_at] at ci
          have hl := unhide HH i
          have hl2 := unhide HL i
          obtain ⟨k1, k2, k3⟩ := unhide HS
          have HN := hide (And.intro ((k1.set i hlt (.int .u32 (add32 (h i) (V i)))).same (f' := wv (mixf h V (i + 1))) (fun j _ => mixf_next h V i j)) (And.intro (k2.other ⟨b, i, none⟩ (.int .u32 (add32 (h i) (V i))) (unhide HP).1) (k3.setCell (p := ⟨b, i, none⟩) (fun t => absurd t (by simp only []; omega)) (.int .u32 (add32 (h i) (V i))))))
          clear k1 k2 k3
          have hv : ((h i : Int) + (V i : Int)) % 4294967296 = ((add32 (h i) (V i) : Nat) : Int) := by simp only [add32]; omega
          rw [← hv] at HN
          clear hv
          generalize h i = x at *
          generalize V i = y at *
          go_wp2
          exact ⟨⟨i + 1, by omega, by go_num, unhide HN⟩, by simp [intOf]; omega⟩
        · obtain rfl : i = 8 := by omega
          obtain ⟨k1, k2, k3⟩ := unhide HS
          have k4 : Blk wr b 133 8 (wv (comp h blk)) := k1.same (fun j hj => by
            unfold wv
            rw [mixf_full h V j hj, unhide HV]; rfl)
          have HQ := hide (And.intro k4 (And.intro k2 (k3.setRow (g := r) (fun t => absurd t (by have := (unhide HP).2; omega)) (arr 8 (wv (comp h blk))))))
          clear k1 k2 k3 k4
          go_wp2_with (first | refine wpList_load_row rfl 133 (.tmp 2) rfl b rfl 133 (arr 8 (wv (comp h blk))) (0, 0) _ (unhide HQ).1 Tryz.underlying133 rfl (size51 _) ?_ | refine wpList_store_row rfl 133 (.tmp 4) (.tmp 119) rfl r (arr 8 (wv (comp h blk))) rfl rfl 133 (arr 8 (wv fun _ => 0)) (unhide HQ).2.1 (size51 _) (by rw [arr_size, arr_size]) (arr_one _ _ (fun _ => rfl)) ?_)
          refine bodyPost_ret (results_cell_row rfl _ _ r 133 (arr 8 (wv (comp h blk))) (0, 0) _ rfl ((unhide HQ).2.1.row _) Tryz.underlying133 rfl (size51 _)) rfl ?_
          exact ⟨rfl, (unhide HQ).2.2⟩

end Go.Proofs.YtabhfeocelljdaaGreatDoor

