package deflate

import "math/bits"

const (
	endOfBlock  = 256
	firstLength = 257 // the first symbol that is a length
	lastLength  = 285
)

// writer puts bits behind one another.
type writer struct {
	out  []byte
	bits uint32 // those that fill no byte yet
	held int    // how many these are, below 8 between two numbers
}

// number writes v in n bits, the lowest first.
func (w *writer) number(v, n int) {
	w.bits |= uint32(v) << w.held
	w.held += n
	for w.held >= 8 {
		w.out = append(w.out, byte(w.bits))
		w.bits >>= 8
		w.held -= 8
	}
}

// code writes the n bits of a code, the highest first.
func (w *writer) code(v, n int) {
	w.number(int(bits.Reverse16(uint16(v))>>(16-n)), n)
}

// end fills up the last byte, and answers all of them.
func (w *writer) end() []byte {
	if w.held > 0 {
		w.out = append(w.out, byte(w.bits))
	}
	return w.out
}

// symbol writes a symbol by its fixed code.
func (w *writer) symbol(s int) {
	switch {
	case s < 144:
		w.code(0x30+s, 8)
	case s < 256:
		w.code(0x190+s-144, 9)
	case s < 280:
		w.code(s-256, 7)
	default:
		w.code(0xc0+s-280, 8)
	}
}

// length writes a match's length.
func (w *writer) length(n int) {
	v := n - minMatch
	switch {
	case n == maxMatch:
		w.symbol(lastLength)
		return
	case v < 8:
		w.symbol(firstLength + v)
		return
	}
	// The highest three bits of v (the first of them 1) choose the symbol, the others follow it.
	more := bits.Len(uint(v)) - 3
	w.symbol(firstLength + 4*more + v>>more)
	w.number(v&(1<<more-1), more)
}

// distance writes a match's distance.
func (w *writer) distance(n int) {
	v := n - 1
	if v < 4 {
		w.code(v, 5)
		return
	}
	// As with lengths, but by the highest two bits.
	more := bits.Len(uint(v)) - 2
	w.code(2*more+v>>more, 5)
	w.number(v&(1<<more-1), more)
}
