package seal

import (
	"farebox/api"
	"farebox/hash"
)

const (
	padSize     = 64
	innerNumber = 54
	outerNumber = 92
)

func isLong(secret string) bool { return len(secret) > api.MaxSecret }

// mac is the digest of bytes under a secret that is not too long.
func mac(secret string, b []byte) []byte {
	pad := padOf(secret)
	under := func(number byte, b []byte) []byte {
		first := make([]byte, padSize)
		for i, c := range pad {
			first[i] = c ^ number
		}
		h := hash.New()
		h.Write(first)
		h.Write(b)
		return h.Sum()
	}
	return under(outerNumber, under(innerNumber, b))
}

// padOf is a secret, brought to one length.
func padOf(secret string) []byte {
	start := []byte(secret)
	if len(start) > padSize {
		start = hash.Sum(start)
	}
	pad := make([]byte, padSize)
	copy(pad, start)
	return pad
}

func sealOf(secret string, b []byte) []byte {
	return mac(secret, b)[:api.SealSize]
}
