package delta_test

import (
	"bytes"
	"encoding/hex"
	"math/big"
	"math/rand"
	"strings"
	"testing"

	"codicil/api"
	"codicil/delta"
)

// bytesOf reads bytes in digits.
func bytesOf(digits string) []byte {
	p, err := hex.DecodeString(strings.ReplaceAll(digits, " ", ""))
	if err != nil {
		panic(err)
	}
	return p
}

// join puts bytes behind one another.
func join(parts ...[]byte) []byte { return bytes.Join(parts, nil) }

// noise answers n bytes by chance, of so many kinds.
func noise(seed int64, n, kinds int) []byte {
	r := rand.New(rand.NewSource(seed))
	p := make([]byte, n)
	for i := range p {
		p[i] = byte(r.Intn(kinds))
	}
	return p
}

// size answers v as a size.
func size(v uint64) []byte {
	if v < 128 {
		return []byte{byte(v)}
	}
	return append([]byte{byte(v%128) + 128}, size(v/128)...)
}

// sized answers a delta: both sizes, and instructions.
func sized(first, second int, rest ...byte) []byte {
	return join(size(uint64(first)), size(uint64(second)), rest)
}

// plainSize answers by the chapter's words the size at the beginning of d, and what stands behind it.
func plainSize(d []byte) (*big.Int, []byte, api.Errno) {
	v := new(big.Int)
	for i, b := range d {
		part := big.NewInt(int64(b % 128))
		v.Add(v, part.Lsh(part, uint(7*i)))
		if b < 128 {
			if v.BitLen() > 64 {
				return nil, nil, api.ErrLimit
			}
			return v, d[i+1:], api.OK
		}
	}
	return nil, nil, api.ErrShort
}

// plainCopy answers by the chapter's words the place and the count of a copy whose first byte is c, and what stands behind it.
func plainCopy(c byte, rest []byte) (place, count int, behind []byte, short bool) {
	values := [7]int{}
	for i := range values {
		if c>>i%2 == 1 {
			if len(rest) == 0 {
				return 0, 0, nil, true
			}
			values[i] = int(rest[0])
			rest = rest[1:]
		}
	}
	place = values[0] + 256*(values[1]+256*(values[2]+256*values[3]))
	count = values[4] + 256*(values[5]+256*values[6])
	if count == 0 {
		count = 65536
	}
	return place, count, rest, false
}

// plainApply answers by the chapter's words what a delta makes of base.
func plainApply(base, d []byte, most int) ([]byte, api.Errno) {
	if most < 0 || most > 1048576 {
		return nil, api.ErrArg
	}
	first, d, e := plainSize(d)
	if e != api.OK {
		return nil, e
	}
	if first.Cmp(big.NewInt(int64(len(base)))) != 0 {
		return nil, api.ErrForm
	}
	second, d, e := plainSize(d)
	if e != api.OK {
		return nil, e
	}
	if second.Cmp(big.NewInt(int64(most))) > 0 {
		return nil, api.ErrLimit
	}
	wanted := int(second.Int64())
	var out []byte
	for len(d) > 0 {
		c := d[0]
		d = d[1:]
		if c >= 128 {
			place, count, behind, short := plainCopy(c, d)
			if short {
				return nil, api.ErrShort
			}
			if place+count > len(base) || len(out)+count > wanted {
				return nil, api.ErrForm
			}
			out, d = append(out, base[place:place+count]...), behind
			continue
		}
		if int(c) > len(d) {
			return nil, api.ErrShort
		}
		if c == 0 || len(out)+int(c) > wanted {
			return nil, api.ErrForm
		}
		out, d = append(out, d[:c]...), d[c:]
	}
	if len(out) < wanted {
		return nil, api.ErrForm
	}
	return out, api.OK
}

// wantApplied fails unless Apply answers those bytes.
func wantApplied(t *testing.T, what string, base, d []byte, most int, wanted []byte) {
	t.Helper()
	if p, e := delta.Apply(base, d, most); e != api.OK || !bytes.Equal(p, wanted) {
		t.Errorf("%s: Apply of %.100x with most %d: %.100x, error %d, wanted %.100x", what, d, most, p, e, wanted)
	}
}

// wantError fails unless Apply answers that error, and nothing beside it.
func wantError(t *testing.T, what string, base, d []byte, most int, wanted api.Errno) {
	t.Helper()
	if p, e := delta.Apply(base, d, most); e != wanted || len(p) != 0 {
		t.Errorf("%s: Apply of %.100x with most %d: %.100x, error %d, wanted error %d alone", what, d, most, p, e, wanted)
	}
}

// wantPlain fails unless Apply answers what the plain model does; it answers the error.
func wantPlain(t *testing.T, base, d []byte, most int) api.Errno {
	t.Helper()
	wanted, e := plainApply(base, d, most)
	if e == api.OK {
		wantApplied(t, "as the plain model", base, d, most, wanted)
	} else {
		wantError(t, "as the plain model", base, d, most, e)
	}
	return e
}

// roomy answers the bytes with spare room that isn't 0.
func roomy(p []byte) []byte {
	q := append(bytes.Clone(p), bytes.Repeat([]byte{0xa5}, 300)...)
	return q[:len(p):len(q)]
}

// wantRoomy fails if bytes made by roomy were changed, or their spare room.
func wantRoomy(t *testing.T, what string, p, was []byte) {
	t.Helper()
	if !bytes.Equal(p, was) || len(bytes.Trim(p[len(p):cap(p)], "\xa5")) != 0 {
		t.Errorf("%s changes its argument", what)
	}
}

// scratch writes over bytes and their spare room.
func scratch(p []byte) {
	p = p[:cap(p)]
	for i := range p {
		p[i] = 0x5a
	}
}
