/- The mathematics of the digest: words, what a block makes of eight words, what bytes come to, how they are filled up. No program is named here. -/
import Derived.WalkKit
namespace Go.Proofs.YtgklgbomfipagaaDoor

/-- The words of the rounds, and the first words. -/
def ktab : List Nat := [1116352408, 1899447441, 3049323471, 3921009573, 961987163, 1508970993, 2453635748, 2870763221, 3624381080, 310598401, 607225278, 1426881987, 1925078388, 2162078206, 2614888103, 3248222580, 3835390401, 4022224774, 264347078, 604807628, 770255983, 1249150122, 1555081692, 1996064986, 2554220882, 2821834349, 2952996808, 3210313671, 3336571891, 3584528711, 113926993, 338241895, 666307205, 773529912, 1294757372, 1396182291, 1695183700, 1986661051, 2177026350, 2456956037, 2730485921, 2820302411, 3259730800, 3345764771, 3516065817, 3600352804, 4094571909, 275423344, 430227734, 506948616, 659060556, 883997877, 958139571, 1322822218, 1537002063, 1747873779, 1955562222, 2024104815, 2227730452, 2361852424, 2428436474, 2756734187, 3204031479, 3329325298]
def htab : List Nat := [1779033703, 3144134277, 1013904242, 2773480762, 1359893119, 2600822924, 528734635, 1541459225]
def kw (n : Nat) : Nat := ktab.getD n 0
def hw0 (n : Nat) : Nat := htab.getD n 0

def add32 (a b : Nat) : Nat := (a + b) % 4294967296
def rotr (x n : Nat) : Nat := x / 2 ^ n ||| x * 2 ^ (32 - n) % 4294967296
def sg0 (x : Nat) : Nat := rotr x 7 ^^^ rotr x 18 ^^^ x / 8
def sg1 (y : Nat) : Nat := rotr y 17 ^^^ rotr y 19 ^^^ y / 1024
def bs0 (a : Nat) : Nat := rotr a 2 ^^^ rotr a 13 ^^^ rotr a 22
def bs1 (e : Nat) : Nat := rotr e 6 ^^^ rotr e 11 ^^^ rotr e 25
def chs (e f g : Nat) : Nat := (e &&& f) ^^^ ((4294967295 - e) &&& g)
def maj (a b c : Nat) : Nat := (a &&& b) ^^^ (a &&& c) ^^^ (b &&& c)

/-- A block's own words. -/
def wrd (blk : Nat → UInt8) (n : Nat) : Nat := (blk (4 * n)).toNat * 16777216 + (blk (4 * n + 1)).toNat * 65536 + (blk (4 * n + 2)).toNat * 256 + (blk (4 * n + 3)).toNat

def upd (f : Nat → Nat) (i v : Nat) : Nat → Nat := fun j => if j = i then v else f j
def wnext (f : Nat → Nat) (n : Nat) : Nat := add32 (add32 (add32 (f (n - 16)) (f (n - 7))) (sg0 (f (n - 15)))) (sg1 (f (n - 2)))
/-- The words under way, so many behind the first sixteen. -/
def sched (f0 : Nat → Nat) : Nat → Nat → Nat
  | 0 => f0
  | k + 1 => upd (sched f0 k) (16 + k) (wnext (sched f0 k) (16 + k))

def of8 (a b c d e f g i : Nat) : Nat → Nat
  | 0 => a | 1 => b | 2 => c | 3 => d | 4 => e | 5 => f | 6 => g | 7 => i | _ => 0

def t1 (k w : Nat) (s : Nat → Nat) : Nat := add32 (add32 (add32 (add32 (s 7) (bs1 (s 4))) (chs (s 4) (s 5) (s 6))) k) w
def t2 (s : Nat → Nat) : Nat := add32 (bs0 (s 0)) (maj (s 0) (s 1) (s 2))
def rnd (k w : Nat) (s : Nat → Nat) : Nat → Nat := of8 (add32 (t1 k w s) (t2 s)) (s 0) (s 1) (s 2) (add32 (s 3) (t1 k w s)) (s 4) (s 5) (s 6)
/-- The eight words behind so many rounds. -/
def rnds (W h : Nat → Nat) : Nat → Nat → Nat
  | 0 => h
  | n + 1 => rnd (kw n) (W n) (rnds W h n)

/-- The words of a block, all. -/
def wfirst (blk : Nat → UInt8) (i j : Nat) : Nat := if j < i then wrd blk j else 0
def spr (blk : Nat → UInt8) : Nat → Nat := sched (wfirst blk 16) 48
/-- What a block makes of eight words. -/
def comp (h : Nat → Nat) (blk : Nat → UInt8) : Nat → Nat := fun j => add32 (h j) (rnds (spr blk) h 64 j)

/-- What the first so many blocks of bytes make of the first words. -/
def absorb (bs : List UInt8) : Nat → Nat → Nat
  | 0 => hw0
  | k + 1 => comp (absorb bs k) (fun j => bs.getD (64 * k + j) 0)

/-- A number's eight bytes, the highest first. -/
def be8 (n : Nat) : List UInt8 := [UInt8.ofNat (n / 72057594037927936), UInt8.ofNat (n / 281474976710656), UInt8.ofNat (n / 1099511627776), UInt8.ofNat (n / 4294967296), UInt8.ofNat (n / 16777216), UInt8.ofNat (n / 65536), UInt8.ofNat (n / 256), UInt8.ofNat n]
def be4 (n : Nat) : List UInt8 := [UInt8.ofNat (n / 16777216), UInt8.ofNat (n / 65536), UInt8.ofNat (n / 256), UInt8.ofNat n]
/-- What fills so many bytes up. -/
def fill (n : Nat) : List UInt8 := 128 :: (List.replicate (63 - (n + 8) % 64) 0 ++ be8 (8 * n))
/-- Words as bytes. -/
def wbytes (f : Nat → Nat) : Nat → List UInt8
  | 0 => []
  | i + 1 => wbytes f i ++ be4 (f i)
def digest (bs : List UInt8) : List UInt8 := wbytes (absorb (bs ++ fill bs.length) ((bs ++ fill bs.length).length / 64)) 8

theorem aw_abc : digest [97, 98, 99] = [0xba, 0x78, 0x16, 0xbf, 0x8f, 0x01, 0xcf, 0xea, 0x41, 0x41, 0x40, 0xde, 0x5d, 0xae, 0x22, 0x23, 0xb0, 0x03, 0x61, 0xa3, 0x96, 0x17, 0x7a, 0x9c, 0xb4, 0x10, 0xff, 0x61, 0xf2, 0x00, 0x15, 0xad] := by decide +kernel

end Go.Proofs.YtgklgbomfipagaaDoor
