// Package sha is layer 1, ids: see shared/doc/01-sha.md.
package sha

import (
	"bytes"
	"math/bits"

	"codicil/api"
)

const (
	blockSize = 64
	digits    = "0123456789abcdef"
)

// roundWords is K: the first 32 bits behind the point of the cube roots of the first 64 primes.
var roundWords = [64]uint32{
	0x428a2f98, 0x71374491, 0xb5c0fbcf, 0xe9b5dba5, 0x3956c25b, 0x59f111f1, 0x923f82a4, 0xab1c5ed5,
	0xd807aa98, 0x12835b01, 0x243185be, 0x550c7dc3, 0x72be5d74, 0x80deb1fe, 0x9bdc06a7, 0xc19bf174,
	0xe49b69c1, 0xefbe4786, 0x0fc19dc6, 0x240ca1cc, 0x2de92c6f, 0x4a7484aa, 0x5cb0a9dc, 0x76f988da,
	0x983e5152, 0xa831c66d, 0xb00327c8, 0xbf597fc7, 0xc6e00bf3, 0xd5a79147, 0x06ca6351, 0x14292967,
	0x27b70a85, 0x2e1b2138, 0x4d2c6dfc, 0x53380d13, 0x650a7354, 0x766a0abb, 0x81c2c92e, 0x92722c85,
	0xa2bfe8a1, 0xa81a664b, 0xc24b8b70, 0xc76c51a3, 0xd192e819, 0xd6990624, 0xf40e3585, 0x106aa070,
	0x19a4c116, 0x1e376c08, 0x2748774c, 0x34b0bcb5, 0x391c0cb3, 0x4ed8aa4a, 0x5b9cca4f, 0x682e6ff3,
	0x748f82ee, 0x78a5636f, 0x84c87814, 0x8cc70208, 0x90befffa, 0xa4506ceb, 0xbef9a3f7, 0xc67178f2,
}

// firstWords is H: the first 32 bits behind the point of the square roots of the first 8 primes.
func firstWords() [8]uint32 {
	return [8]uint32{
		0x6a09e667, 0xbb67ae85, 0x3c6ef372, 0xa54ff53a, 0x510e527f, 0x9b05688c, 0x1f83d9ab, 0x5be0cd19,
	}
}

// turnRight is R of the chapter.
func turnRight(x uint32, n int) uint32 {
	return bits.RotateLeft32(x, -n)
}

// spreadWords answers W: the words of a block, and those that follow from them.
func spreadWords(b [blockSize]byte) [64]uint32 {
	var w [64]uint32
	for t := range 16 {
		w[t] = uint32(b[4*t])<<24 | uint32(b[4*t+1])<<16 | uint32(b[4*t+2])<<8 | uint32(b[4*t+3])
	}
	for i := range 48 {
		t := i + 16
		x, y := w[t-15], w[t-2]
		s0 := turnRight(x, 7) ^ turnRight(x, 18) ^ x>>3
		s1 := turnRight(y, 17) ^ turnRight(y, 19) ^ y>>10
		w[t] = w[t-16] + s0 + w[t-7] + s1
	}
	return w
}

// Block takes eight words through a block.
func Block(h [8]uint32, b [64]byte) [8]uint32 {
	s := rounds(h, spreadWords(b))
	for i := range s {
		s[i] += h[i]
	}
	return s
}

// rounds takes eight words through the 64 rounds of a block; they are named as in the chapter.
func rounds(s [8]uint32, w [64]uint32) [8]uint32 {
	a, b, c, d, e, f, g, h := s[0], s[1], s[2], s[3], s[4], s[5], s[6], s[7]
	for t := range 64 {
		u := h + (turnRight(e, 6) ^ turnRight(e, 11) ^ turnRight(e, 25)) + (e&f ^ ^e&g) + roundWords[t] + w[t]
		v := (turnRight(a, 2) ^ turnRight(a, 13) ^ turnRight(a, 22)) + (a&b ^ a&c ^ b&c)
		h, g, f, e, d, c, b, a = g, f, e, d+u, c, b, a, u+v
	}
	return [8]uint32{a, b, c, d, e, f, g, h}
}

// Pad answers what stands behind n bytes, so that they fill whole blocks.
func Pad(n int) []byte {
	n = max(n, 0)
	// The remainder comes first: near the greatest int n + 9 would be no int any more.
	over := (n%blockSize + 9) % blockSize
	zeros := (blockSize - over) % blockSize
	pad := make([]byte, 1+zeros+8)
	pad[0] = 0x80
	length := uint64(n) * 8
	for i := range 8 {
		pad[1+zeros+i] = byte(length >> (56 - 8*i))
	}
	return pad
}

// Sum answers the SHA-256 of bytes.
func Sum(p []byte) api.Id {
	whole := len(p) / blockSize
	h := throughBlocks(firstWords(), p, whole)
	// Only what is behind the last whole block is copied: p may be great.
	last := append(bytes.Clone(p[whole*blockSize:]), Pad(len(p))...)
	h = throughBlocks(h, last, len(last)/blockSize)
	var id api.Id
	for i := range id {
		id[i] = byte(h[i/4] >> (24 - 8*(i%4)))
	}
	return id
}

// throughBlocks takes eight words through the first blocks of p.
func throughBlocks(h [8]uint32, p []byte, blocks int) [8]uint32 {
	var b [blockSize]byte
	for i := range blocks {
		copy(b[:], p[i*blockSize:])
		h = Block(h, b)
	}
	return h
}

// Hex answers an id in digits.
func Hex(id api.Id) string {
	text := make([]byte, 0, 2*len(id))
	for _, b := range id {
		text = append(text, digits[b>>4], digits[b&15])
	}
	return string(text)
}

// Parse answers the id of digits as Hex writes them, and of no others: an id has one spelling.
func Parse(s string) (api.Id, api.Errno) {
	var id api.Id
	if len(s) != 2*len(id) {
		return api.Id{}, api.ErrForm
	}
	for i := range id {
		high, okHigh := digit(s[2*i])
		low, okLow := digit(s[2*i+1])
		if !okHigh || !okLow {
			return api.Id{}, api.ErrForm
		}
		id[i] = high<<4 | low
	}
	return id, api.OK
}

// digit answers what a digit counts, and whether c is one.
func digit(c byte) (byte, bool) {
	switch {
	case c >= '0' && c <= '9':
		return c - '0', true
	case c >= 'a' && c <= 'f':
		return c - 'a' + 10, true
	}
	return 0, false
}

// Compare orders ids by their bytes, from the first on.
func Compare(a, b api.Id) int {
	return bytes.Compare(a[:], b[:])
}
