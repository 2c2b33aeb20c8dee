package num_test

import (
	"bytes"
	"math"
	"math/big"
	"math/rand"
	"testing"

	"codicil/api"
	"codicil/num"
)

const top = math.MaxUint64

// edgeValues are 0, the top, and each power of two with its neighbours, and where spans and heads grow by a byte.
func edgeValues() []uint64 {
	values := []uint64{0, 300, 515, top, top - 1}
	for i := range 64 {
		p := uint64(1) << i
		values = append(values, p-1, p, p+1)
	}
	least, step := uint64(0), uint64(1)
	for range 9 {
		step *= 128
		least += step
		values = append(values, least-1, least, least+1)
	}
	return values
}

// manyValues are the edges and values of each length.
func manyValues() []uint64 {
	values := edgeValues()
	r := rand.New(rand.NewSource(1))
	for range 500 {
		values = append(values, r.Uint64()>>r.Intn(64))
	}
	for v := range uint64(40000) {
		values = append(values, v)
	}
	return values
}

// fronts are what numbers are put behind.
func fronts() [][]byte {
	return [][]byte{nil, {}, {0xff}, {1, 2, 3}, {0x80, 0, 0x80}}
}

// joined is a new list of both.
func joined(a, b []byte) []byte {
	return append(append([]byte{}, a...), b...)
}

// repeated is n times b, then the others.
func repeated(b byte, n int, others ...byte) []byte {
	return append(bytes.Repeat([]byte{b}, n), others...)
}

// bigSize is the value of a size's bytes as a true number.
func bigSize(q []byte) *big.Int {
	v := new(big.Int)
	for i := len(q) - 1; i >= 0; i-- {
		v.Lsh(v, 7)
		v.Add(v, big.NewInt(int64(q[i]%128)))
	}
	return v
}

// bigSpan is the value of a span's bytes as a true number.
func bigSpan(q []byte) *big.Int {
	v := big.NewInt(int64(q[0] % 128))
	for _, b := range q[1:] {
		v.Add(v, big.NewInt(1))
		v.Mul(v, big.NewInt(128))
		v.Add(v, big.NewInt(int64(b%128)))
	}
	return v
}

// bigHead is the size of a head's bytes as a true number.
func bigHead(q []byte) *big.Int {
	v := bigSize(q[1:])
	v.Mul(v, big.NewInt(16))
	return v.Add(v, big.NewInt(int64(q[0]%16)))
}

// reading is what a call that reads answers.
type reading struct {
	kind  int
	value uint64
	end   int
	e     api.Errno
}

// shape is one of the three ways in which a number's bytes tell their end.
type shape struct {
	name  string
	read  func(p []byte, at int) reading
	value func(q []byte) *big.Int
	kind  func(first byte) int
}

func noKind(byte) int { return 0 }

func shapes() []shape {
	return []shape{
		{"Size", func(p []byte, at int) reading {
			v, end, e := num.Size(p, at)
			return reading{0, v, end, e}
		}, bigSize, noKind},
		{"Span", func(p []byte, at int) reading {
			v, end, e := num.Span(p, at)
			return reading{0, v, end, e}
		}, bigSpan, noKind},
		{"Head", func(p []byte, at int) reading {
			k, v, end, e := num.Head(p, at)
			return reading{k, v, end, e}
		}, bigHead, func(first byte) int { return int(first) / 16 % 8 }},
	}
}

// wanted is what the chapter's words ask of a reading.
func (f shape) wanted(p []byte, at int) reading {
	if at < 0 {
		return reading{e: api.ErrArg}
	}
	for end := at + 1; at < len(p) && end <= len(p); end++ {
		if p[end-1] >= 128 {
			continue
		}
		v := f.value(p[at:end])
		if !v.IsUint64() {
			return reading{e: api.ErrLimit}
		}
		return reading{f.kind(p[at]), v.Uint64(), end, api.OK}
	}
	return reading{e: api.ErrShort}
}

// P2.1
func TestExamples(t *testing.T) {
	head, _ := num.PutHead(nil, 3, 300)
	for _, x := range []struct {
		what        string
		got, wanted []byte
	}{
		{"PutSize(300)", num.PutSize(nil, 300), []byte{0xac, 0x02}},
		{"PutSpan(300)", num.PutSpan(nil, 300), []byte{0x81, 0x2c}},
		{"PutSpan(127)", num.PutSpan(nil, 127), []byte{0x7f}},
		{"PutSpan(128)", num.PutSpan(nil, 128), []byte{0x80, 0x00}},
		{"PutHead(3, 300)", head, []byte{0xbc, 0x12}},
		{"PutSize(0)", num.PutSize(nil, 0), []byte{0}},
		{"PutSpan(0)", num.PutSpan(nil, 0), []byte{0}},
		{"PutSize(top)", num.PutSize(nil, top), repeated(0xff, 9, 1)},
		{"PutSize(2^63)", num.PutSize(nil, 1<<63), repeated(0x80, 9, 1)},
		{"PutSpan(top)", num.PutSpan(nil, top), []byte{0x80, 0xfe, 0xfe, 0xfe, 0xfe, 0xfe, 0xfe, 0xfe, 0xfe, 0x7f}},
	} {
		if !bytes.Equal(x.got, x.wanted) {
			t.Errorf("%s: %x, wanted %x", x.what, x.got, x.wanted)
		}
	}
}

// P2.1
func TestReadingExamples(t *testing.T) {
	size, span, head := shapes()[0], shapes()[1], shapes()[2]
	for _, x := range []struct {
		f      shape
		p      []byte
		at     int
		wanted reading
	}{
		{size, []byte{0x80, 0}, 0, reading{0, 0, 2, api.OK}},
		{size, []byte{0xff}, 0, reading{e: api.ErrShort}},
		{size, repeated(0x80, 20, 0), 0, reading{0, 0, 21, api.OK}},
		{size, repeated(0x80, 9, 2), 0, reading{e: api.ErrLimit}},
		{size, repeated(0x80, 9, 1), 0, reading{0, 1 << 63, 10, api.OK}},
		{size, repeated(0xff, 9, 1), 0, reading{0, top, 10, api.OK}},
		{size, repeated(0xff, 9, 0x81, 0x80, 0x80, 0), 0, reading{0, top, 13, api.OK}},
		{size, repeated(0xff, 9, 0x81, 0x80, 0x80, 1), 0, reading{e: api.ErrLimit}},
		{size, repeated(0x80, 10, 1), 0, reading{e: api.ErrLimit}},
		{size, repeated(0x80, 64, 1), 0, reading{e: api.ErrLimit}},
		{size, repeated(0x80, 300, 1), 0, reading{e: api.ErrLimit}},
		{size, repeated(0xff, 30), 0, reading{e: api.ErrShort}},
		{size, []byte{5, 0xac, 0x02, 7}, 1, reading{0, 300, 3, api.OK}},
		{span, []byte{0x81, 0x2c}, 0, reading{0, 300, 2, api.OK}},
		{span, []byte{0x80, 0xfe, 0xfe, 0xfe, 0xfe, 0xfe, 0xfe, 0xfe, 0xfe, 0x7f}, 0, reading{0, top, 10, api.OK}},
		{span, []byte{0x80, 0xfe, 0xfe, 0xfe, 0xfe, 0xfe, 0xfe, 0xfe, 0xff, 0}, 0, reading{e: api.ErrLimit}},
		{span, repeated(0x80, 10, 0), 0, reading{e: api.ErrLimit}},
		{span, repeated(0x80, 20), 0, reading{e: api.ErrShort}},
		{span, repeated(0x80, 200, 0), 0, reading{e: api.ErrLimit}},
		{head, []byte{0xbc, 0x12}, 0, reading{3, 300, 2, api.OK}},
		{head, []byte{0x7f}, 0, reading{7, 15, 1, api.OK}},
		{head, []byte{0x80, 0}, 0, reading{0, 0, 2, api.OK}},
		{head, repeated(0xff, 9, 0x0f), 0, reading{7, top, 10, api.OK}},
		{head, repeated(0xff, 9, 0x10), 0, reading{e: api.ErrLimit}},
		{head, repeated(0xf0, 1, repeated(0x80, 8, 0x10)...), 0, reading{e: api.ErrLimit}},
		{head, repeated(0xf1, 1, repeated(0x80, 40, 0)...), 0, reading{7, 1, 42, api.OK}},
		{head, repeated(0xf1, 1, repeated(0x80, 40, 1)...), 0, reading{e: api.ErrLimit}},
		{head, []byte{0x9f}, 0, reading{e: api.ErrShort}},
	} {
		if got := x.f.read(x.p, x.at); got != x.wanted {
			t.Errorf("%s(%x, %d): %v, wanted %v", x.f.name, x.p, x.at, got, x.wanted)
		}
	}
}

// P2.1, P1: places below 0, at the end and behind it.
func TestReadingAtOddPlaces(t *testing.T) {
	for _, f := range shapes() {
		for _, p := range [][]byte{nil, {}, {0}, {0x80}, {1, 2, 3}, {0x81, 0x82, 3}, repeated(0xff, 20)} {
			for _, at := range []int{math.MinInt, -2, -1, 0, 1, len(p) - 1, len(p), len(p) + 1, math.MaxInt - 1, math.MaxInt} {
				if got, wanted := f.read(p, at), f.wanted(p, at); got != wanted {
					t.Errorf("%s(%x, %d): %v, wanted %v", f.name, p, at, got, wanted)
				}
			}
		}
	}
}

// P2.1: bytes of any kind are read as the chapter's true numbers.
func TestReadingAnyBytes(t *testing.T) {
	r := rand.New(rand.NewSource(4))
	for range 20000 {
		p := make([]byte, r.Intn(16))
		for i := range p {
			switch r.Intn(4) {
			case 0:
				p[i] = 0x80
			case 1:
				p[i] = 0xff
			default:
				p[i] = byte(r.Intn(256)) | byte(r.Intn(8))<<5
			}
		}
		at := r.Intn(3)
		for _, f := range shapes() {
			if got, wanted := f.read(p, at), f.wanted(p, at); got != wanted {
				t.Fatalf("%s(%x, %d): %v, wanted %v", f.name, p, at, got, wanted)
			}
		}
	}
}

// P2.1: what is around 2^64, at each length that reaches it.
func TestReadingRoundTheLimit(t *testing.T) {
	for n := range 14 {
		for _, fill := range []byte{0x80, 0x81, 0xfe, 0xff} {
			for low := range 128 {
				for _, first := range []byte{0x80, 0x81, 0xff} {
					p := joined([]byte{first}, repeated(fill, n, byte(low)))
					for _, f := range shapes() {
						if got, wanted := f.read(p, 0), f.wanted(p, 0); got != wanted {
							t.Fatalf("%s(%x, 0): %v, wanted %v", f.name, p, got, wanted)
						}
					}
				}
			}
		}
	}
}

// P2.1
func TestPutBigAndBig(t *testing.T) {
	for _, front := range fronts() {
		for _, v := range edgeValues() {
			for n := 1; n <= 8; n++ {
				got, e := num.PutBig(front, v, n)
				if n < 8 && v >= 1<<(8*n) {
					if e != api.ErrLimit || len(got) != 0 {
						t.Fatalf("PutBig(%x, %d, %d): %x, %d, wanted nothing and ErrLimit", front, v, n, got, e)
					}
					continue
				}
				wanted := joined(front, new(big.Int).SetUint64(v).FillBytes(make([]byte, n)))
				if e != api.OK || !bytes.Equal(got, wanted) {
					t.Fatalf("PutBig(%x, %d, %d): %x, %d, wanted %x", front, v, n, got, e, wanted)
				}
				back, e := num.Big(append(got, 0xee), len(front), n)
				if e != api.OK || back != v {
					t.Fatalf("Big(%x, %d, %d): %d, %d, wanted %d", got, len(front), n, back, e, v)
				}
			}
		}
	}
}

// P2.1
func TestPutBigOfWrongLengths(t *testing.T) {
	for _, n := range []int{math.MinInt, -8, -1, 0, 9, 10, 64, math.MaxInt} {
		for _, v := range []uint64{0, 1, 256, top} {
			if got, e := num.PutBig([]byte{1}, v, n); e != api.ErrArg || len(got) != 0 {
				t.Errorf("PutBig(.., %d, %d): %x, %d, wanted nothing and ErrArg", v, n, got, e)
			}
		}
	}
}

// P2.1
func TestBigOfEachPlaceAndLength(t *testing.T) {
	p := []byte{1, 2, 3, 0xff, 0xfe, 0x80, 0, 7, 8, 9}
	far := []int{math.MinInt, -9, -1, 0, 1, 2, 3, 7, 8, 9, 10, 11, 12, math.MaxInt - 7, math.MaxInt}
	for have := range len(p) + 1 {
		for _, at := range far {
			for _, n := range far {
				v, e := num.Big(p[:have], at, n)
				var wanted uint64
				wantedErr := api.OK
				switch {
				case n < 1 || n > 8 || at < 0:
					wantedErr = api.ErrArg
				case at > have || have-at < n:
					wantedErr = api.ErrShort
				default:
					wanted = new(big.Int).SetBytes(p[at : at+n]).Uint64()
				}
				if v != wanted || e != wantedErr {
					t.Errorf("Big(%x, %d, %d): %d, %d, wanted %d, %d", p[:have], at, n, v, e, wanted, wantedErr)
				}
			}
		}
	}
	if v, e := num.Big([]byte{1, 2, 3}, 1, 2); v != 515 || e != api.OK {
		t.Errorf("Big(010203, 1, 2): %d, %d", v, e)
	}
	if v, e := num.Big(nil, 0, 1); v != 0 || e != api.ErrShort {
		t.Errorf("Big(nil, 0, 1): %d, %d", v, e)
	}
}

// sevens is how many bytes a size needs.
func sevens(v uint64) int {
	n := 1
	for ; v >= 128; v /= 128 {
		n++
	}
	return n
}

// P2.1, P2.2
func TestSizesComeBack(t *testing.T) {
	for _, v := range manyValues() {
		for _, front := range fronts() {
			got := num.PutSize(front, v)
			if !bytes.HasPrefix(got, front) || len(got) != len(front)+sevens(v) {
				t.Fatalf("PutSize(%x, %d): %x", front, v, got)
			}
			back, end, e := num.Size(append(got, 0x55), len(front))
			if back != v || end != len(got) || e != api.OK {
				t.Fatalf("Size(%x, %d): %d, %d, %d, wanted %d, %d", got, len(front), back, end, e, v, len(got))
			}
		}
	}
}

// P2.1, P2.2
func TestSpansComeBack(t *testing.T) {
	for _, v := range manyValues() {
		for _, front := range fronts() {
			got := num.PutSpan(front, v)
			if !bytes.HasPrefix(got, front) {
				t.Fatalf("PutSpan(%x, %d): %x", front, v, got)
			}
			back, end, e := num.Span(append(got, 0x55), len(front))
			if back != v || end != len(got) || e != api.OK {
				t.Fatalf("Span(%x, %d): %d, %d, %d, wanted %d, %d", got, len(front), back, end, e, v, len(got))
			}
		}
	}
}

// P2.1, P2.2
func TestHeadsComeBack(t *testing.T) {
	for _, v := range manyValues() {
		length := 1
		if v >= 16 {
			length += sevens(v / 16)
		}
		for kind := range 8 {
			front := fronts()[kind%5]
			got, e := num.PutHead(front, kind, v)
			if e != api.OK || !bytes.HasPrefix(got, front) || len(got) != len(front)+length {
				t.Fatalf("PutHead(%x, %d, %d): %x, %d", front, kind, v, got, e)
			}
			k, back, end, e := num.Head(append(got, 0x55), len(front))
			if k != kind || back != v || end != len(got) || e != api.OK {
				t.Fatalf("Head(%x, %d): %d, %d, %d, %d, wanted %d, %d, %d", got, len(front), k, back, end, e, kind, v, len(got))
			}
		}
	}
}

// P2.1
func TestPutHeadOfWrongKinds(t *testing.T) {
	for _, kind := range []int{math.MinInt, -8, -1, 8, 9, 16, 256, 1 << 32, math.MaxInt} {
		for _, size := range []uint64{0, 300, top} {
			if got, e := num.PutHead([]byte{1}, kind, size); e != api.ErrArg || len(got) != 0 {
				t.Errorf("PutHead(.., %d, %d): %x, %d, wanted nothing and ErrArg", kind, size, got, e)
			}
		}
	}
}

// P2.2: what is read as a span is put as the same bytes, so no value has two spellings.
func TestSpansHaveOneSpelling(t *testing.T) {
	same := func(p []byte) {
		v, end, e := num.Span(p, 0)
		if e != api.OK {
			return
		}
		if got := num.PutSpan(nil, v); end != len(p) || !bytes.Equal(got, p) {
			t.Fatalf("Span(%x) = %d, but PutSpan(%d) = %x", p, v, v, got)
		}
	}
	for a := range 128 {
		same([]byte{byte(a)})
		for b := range 128 {
			same([]byte{byte(a) | 128, byte(b)})
			for c := range 16 {
				same([]byte{byte(a) | 128, byte(b) | 128, byte(8*c + a%8)})
			}
		}
	}
	r := rand.New(rand.NewSource(5))
	for range 5000 {
		p := make([]byte, 1+r.Intn(10))
		for i := range p {
			p[i] = byte(r.Intn(256)) | 128
		}
		p[len(p)-1] &= 127
		same(p)
	}
}

// P2.2: a size or a head may be longer than need be.
func TestLongerSpellings(t *testing.T) {
	for _, v := range edgeValues() {
		for longer := 1; longer < 30; longer++ {
			size := num.PutSize(nil, v)
			size[len(size)-1] |= 128
			size = append(size, repeated(128, longer-1, 0)...)
			if got, end, e := num.Size(size, 0); got != v || end != len(size) || e != api.OK {
				t.Fatalf("Size(%x, 0): %d, %d, %d, wanted %d", size, got, end, e, v)
			}
			head, _ := num.PutHead(nil, 5, v)
			head[len(head)-1] |= 128
			head = append(head, repeated(128, longer-1, 0)...)
			if k, got, end, e := num.Head(head, 0); k != 5 || got != v || end != len(head) || e != api.OK {
				t.Fatalf("Head(%x, 0): %d, %d, %d, %d, wanted 5, %d", head, k, got, end, e, v)
			}
		}
	}
}

// puts are the calls that put v behind p.
func puts() map[string]func(p []byte, v uint64) []byte {
	return map[string]func(p []byte, v uint64) []byte{
		"PutBig": func(p []byte, v uint64) []byte {
			q, _ := num.PutBig(p, v, 8)
			return q
		},
		"PutSize": num.PutSize,
		"PutSpan": num.PutSpan,
		"PutHead": func(p []byte, v uint64) []byte {
			q, _ := num.PutHead(p, 6, v)
			return q
		},
	}
}

// The rule 'Memory': neither p nor its spare room is changed, and the answer, its spare room too, shares none with p.
func TestPutsShareNothingWithP(t *testing.T) {
	for name, put := range puts() {
		for _, v := range []uint64{0, 5, 300, 1 << 40, top} {
			for n := range 40 {
				room := repeated(0xa5, 64)
				got := put(room[:n], v)
				if !bytes.Equal(room, repeated(0xa5, 64)) {
					t.Fatalf("%s behind %d bytes changed what it was given", name, n)
				}
				if !bytes.Equal(got, put(room[:n:n], v)) {
					t.Fatalf("%s behind %d bytes hangs on the spare room", name, n)
				}
				got = got[:cap(got)]
				for i := range got {
					got[i] = 0x11
				}
				if !bytes.Equal(room, repeated(0xa5, 64)) {
					t.Fatalf("%s behind %d bytes answers memory of what it was given", name, n)
				}
			}
		}
	}
}

// The rule 'Memory': two answers share nothing, and none is kept.
func TestPutsShareNothingWithEachOther(t *testing.T) {
	for name, put := range puts() {
		for _, p := range fronts() {
			for _, v := range []uint64{0, 300, top} {
				first := put(p, v)
				before := bytes.Clone(first)
				second := put(p, v)
				second = second[:cap(second)]
				for i := range second {
					second[i] ^= 0xff
				}
				if !bytes.Equal(first, before) || !bytes.Equal(put(p, v), before) {
					t.Fatalf("%s(%x, %d): two answers share memory", name, p, v)
				}
			}
		}
	}
}

// The rule 'Memory'
func TestReadingLeavesWhatItIsGiven(t *testing.T) {
	room := repeated(0x81, 30, 0x01, 0x05, 0x91, 0x22)
	before := bytes.Clone(room)
	for _, f := range shapes() {
		for n := range len(room) {
			for at := -1; at <= len(room)+1; at++ {
				if f.read(room[:n], at) != f.read(room[:n:n], at) {
					t.Fatalf("%s(.., %d) hangs on the spare room", f.name, at)
				}
				num.Big(room[:n], at, 4)
			}
		}
		if !bytes.Equal(room, before) {
			t.Fatalf("%s changed what it was given", f.name)
		}
	}
}
