// Package num is layer 2, numbers as bytes: see shared/doc/02-num.md.
package num

import (
	"bytes"
	"math"

	"codicil/api"
)

const (
	more     = 128 // the bit of a byte behind which a further one stands
	lowSeven = 127
	lowFour  = 15
	maxBig   = 8
	maxKind  = 7
)

// PutBig answers p and behind it v in n bytes, the highest first.
func PutBig(p []byte, v uint64, n int) ([]byte, api.Errno) {
	if n < 1 || n > maxBig {
		return nil, api.ErrArg
	}
	if v>>(8*n) != 0 {
		return nil, api.ErrLimit
	}
	q := bytes.Clone(p)
	for i := range n {
		q = append(q, byte(v>>(8*(n-1-i))))
	}
	return q, api.OK
}

// Big answers the number that n bytes from at on are, the highest first.
func Big(p []byte, at, n int) (uint64, api.Errno) {
	if n < 1 || n > maxBig || at < 0 {
		return 0, api.ErrArg
	}
	// at stands alone on its side: near the greatest int at + n would be no int any more.
	if at > len(p)-n {
		return 0, api.ErrShort
	}
	var v uint64
	for i := range n {
		v = v<<8 | uint64(p[at+i])
	}
	return v, api.OK
}

// PutSize answers p and behind it v as a size.
func PutSize(p []byte, v uint64) []byte {
	return appendSize(bytes.Clone(p), v)
}

// appendSize puts a size behind q itself, which must be the caller's own memory.
func appendSize(q []byte, v uint64) []byte {
	for v >= more {
		q = append(q, byte(v)|more)
		v >>= 7
	}
	return append(q, byte(v))
}

// Size answers the size that stands at at, and the place behind it.
func Size(p []byte, at int) (uint64, int, api.Errno) {
	end, bad := endOf(p, at)
	if bad != api.OK {
		return 0, 0, bad
	}
	v, fits := sizeValue(p[at:end])
	if !fits {
		return 0, 0, api.ErrLimit
	}
	return v, end, api.OK
}

// endOf answers the place behind the first byte from at on that is below 128.
func endOf(p []byte, at int) (int, api.Errno) {
	if at < 0 {
		return 0, api.ErrArg
	}
	for i := at; i < len(p); i++ {
		if p[i] < more {
			return i + 1, api.OK
		}
	}
	return 0, api.ErrShort
}

// sizeValue answers the value of a size's bytes, and whether it is below 2^64. Bytes of the value 0 may stand at any
// place, so how many bytes there are tells nothing.
func sizeValue(q []byte) (uint64, bool) {
	var v uint64
	for i, b := range q {
		part := uint64(b & lowSeven)
		if part == 0 {
			continue
		}
		// 128^9 is 2^63: of the tenth byte one bit has room, of those behind it none.
		if i > 9 || i == 9 && part > 1 {
			return 0, false
		}
		v |= part << (7 * i)
	}
	return v, true
}

// PutSpan answers p and behind it v as a span.
func PutSpan(p []byte, v uint64) []byte {
	// A span is made from its last byte on. Ten bytes are enough: the least span of eleven has the value
	// 128 + 128^2 + .. + 128^10, which is beyond 2^64.
	var back [10]byte
	first := len(back) - 1
	back[first] = byte(v & lowSeven)
	for v >= more {
		v = v>>7 - 1
		first--
		back[first] = byte(v&lowSeven) | more
	}
	return append(bytes.Clone(p), back[first:]...)
}

// Span answers the span that stands at at, and the place behind it.
func Span(p []byte, at int) (uint64, int, api.Errno) {
	end, bad := endOf(p, at)
	if bad != api.OK {
		return 0, 0, bad
	}
	v := uint64(p[at] & lowSeven)
	for _, b := range p[at+1 : end] {
		// From here on (v + 1) times 128 is 2^64 or more.
		if v >= math.MaxUint64>>7 {
			return 0, 0, api.ErrLimit
		}
		v = (v+1)<<7 | uint64(b&lowSeven)
	}
	return v, end, api.OK
}

// PutHead answers p and behind it a kind and a size as a head.
func PutHead(p []byte, kind int, size uint64) ([]byte, api.Errno) {
	if kind < 0 || kind > maxKind {
		return nil, api.ErrArg
	}
	first := byte(kind<<4) | byte(size&lowFour)
	rest := size >> 4
	if rest == 0 {
		return append(bytes.Clone(p), first), api.OK
	}
	return appendSize(append(bytes.Clone(p), first|more), rest), api.OK
}

// Head answers the kind and the size of the head that stands at at, and the place behind it.
func Head(p []byte, at int) (int, uint64, int, api.Errno) {
	end, bad := endOf(p, at)
	if bad != api.OK {
		return 0, 0, 0, bad
	}
	rest, fits := sizeValue(p[at+1 : end])
	if !fits || rest > math.MaxUint64>>4 {
		return 0, 0, 0, api.ErrLimit
	}
	kind := int(p[at] >> 4 & maxKind)
	return kind, rest<<4 | uint64(p[at]&lowFour), end, api.OK
}
