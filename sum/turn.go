package sum

// fourTurns is what the numbers below sixteen come to, each turned four times.
var fourTurns = [16]uint32{
	0x00000000, 0x105ec76f, 0x20bd8ede, 0x30e349b1,
	0x417b1dbc, 0x5125dad3, 0x61c69362, 0x7198540d,
	0x82f63b78, 0x92a8fc17, 0xa24bb5a6, 0xb21572c9,
	0xc38d26c4, 0xd3d3e1ab, 0xe330a81a, 0xf36e6f75,
}

// turned4 asks the table for the lowest four bits alone: four turns only move the others.
func turned4(n uint32) uint32 { return n>>4 ^ fourTurns[n&15] }

func turned8(n uint32) uint32 { return turned4(turned4(n)) }

// turns is what some number of turns does to each bit, the lowest first. A number that is turned is the xor of its bits, each turned alone, so no more is needed to turn any number.
type turns [32]uint32

// eightTurns go with each byte.
func eightTurns() turns {
	var t turns
	for bit := range t {
		t[bit] = turned8(1 << bit)
	}
	return t
}

func (t turns) of(n uint32) uint32 {
	turned := uint32(0)
	for bit, one := range t {
		if n>>bit&1 == 1 {
			turned ^= one
		}
	}
	return turned
}

func (t turns) twice() turns {
	var double turns
	for bit, one := range t {
		double[bit] = t.of(one)
	}
	return double
}

// turnedBehind is a number turned as n bytes behind it do. The turns are doubled from step to step, so that even the greatest n ends soon.
func turnedBehind(x uint32, n int) uint32 {
	for t := eightTurns(); n > 0; n >>= 1 {
		if n&1 == 1 {
			x = t.of(x)
		}
		t = t.twice()
	}
	return x
}
