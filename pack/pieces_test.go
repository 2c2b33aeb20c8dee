package pack_test

import (
	"bytes"
	"hash/crc32"
	"math"
	"math/rand"
	"testing"

	"codicil/api"
	"codicil/pack"
)

// P9.1: fewer than 44 bytes, ahead of all others.
func TestPiecesShort(t *testing.T) {
	wantNoPieces(t, "nothing", nil, api.ErrShort)
	wantNoPieces(t, "nothing, not nil", []byte{}, api.ErrShort)
	whole := mustWrite(t, nil, 0)
	for n := range whole {
		wantNoPieces(t, "none, cut short", whole[:n], api.ErrShort)
		wantNoPieces(t, "bytes 0", make([]byte, n), api.ErrShort)
	}
	wantNoPieces(t, "44 bytes 0", make([]byte, 44), api.ErrForm)
	wantRead(t, "none", whole)
}

// P9.1: other first bytes, ahead of the count and the items.
func TestPiecesMark(t *testing.T) {
	for _, good := range [][]byte{mustWrite(t, nil, 0), mustWrite(t, eachKind(), 0), sealed(begun(5000)), sealed(begun(1))} {
		for at := range 8 {
			for _, turn := range []byte{1, 2, 4, 8, 16, 32, 64, 128, 255} {
				p := bytes.Clone(good)
				p[at] ^= turn
				wantNoPieces(t, "another first byte", p, api.ErrForm)
				wantNoPieces(t, "another first byte, summed", sealed(p[:len(p)-32]), api.ErrForm)
			}
		}
	}
}

// P9.1: the count: above MaxObjects, too great and too small.
func TestPiecesCount(t *testing.T) {
	for _, count := range []int{4097, 4098, 1 << 16, 1 << 24, 1<<31 - 1, 1 << 31, 1<<32 - 1} {
		wantNoPieces(t, "a count above MaxObjects", sealed(begun(count)), api.ErrLimit)
		wantNoPieces(t, "a count above MaxObjects, and an item of no kind", sealed(begun(count), []byte{0}), api.ErrLimit)
		wantNoPieces(t, "a count above MaxObjects, not summed", append(begun(count), make([]byte, 32)...), api.ErrLimit)
	}
	for _, count := range []int{1, 2, 4095, 4096} {
		wantNoPieces(t, "no item where there should be", sealed(begun(count)), api.ErrShort)
	}
	items := join(blob("a"), blob("b"), blob("c"))
	for count := range 3 {
		wantNoPieces(t, "a count too small", sealed(begun(count), items), api.ErrForm)
		wantNoPieces(t, "a count too small, not summed", append(join(begun(count), items), make([]byte, 32)...), api.ErrForm)
	}
	wantRead(t, "the right count", sealed(begun(3), items), "a", "b", "c")
	for _, count := range []int{4, 5, 4096} {
		wantNoPieces(t, "a count too great", sealed(begun(count), items), api.ErrShort)
	}
	wantNoPieces(t, "256 times the count", sealed(begun(3*256), items), api.ErrShort)
	many := bytes.Repeat(blob(""), 4097)
	if l, e := pack.Pieces(sealed(begun(4096), many[:4096*len(blob(""))])); e != api.OK || len(l) != 4096 {
		t.Errorf("MaxObjects items: %d, error %d", len(l), e)
	}
	wantNoPieces(t, "one item more", sealed(begun(4097), many), api.ErrLimit)
}

// P9.1: bytes that are left behind the last item, ahead of the sum.
func TestPiecesLeft(t *testing.T) {
	for _, left := range [][]byte{{0}, {0xff}, blob("x"), make([]byte, 32), make([]byte, 100)} {
		wantNoPieces(t, "bytes left", sealed(begun(1), blob("a"), left), api.ErrForm)
		wantNoPieces(t, "bytes left, not summed", append(join(begun(1), blob("a"), left), make([]byte, 32)...), api.ErrForm)
		wantNoPieces(t, "bytes left behind none", sealed(begun(0), left), api.ErrForm)
		wantNoPieces(t, "bytes behind the sum", append(packed(blob("a")), left...), api.ErrForm)
	}
}

// P9.1: each byte of the sum turned.
func TestPiecesSum(t *testing.T) {
	for _, items := range [][]pack.Item{nil, eachKind()} {
		p := mustWrite(t, items, 2)
		for at := len(p) - 32; at < len(p); at++ {
			for _, turn := range []byte{1, 128, 255} {
				p[at] ^= turn
				wantNoPieces(t, "a byte of the sum turned", p, api.ErrSum)
				p[at] ^= turn
			}
		}
		wantNoPieces(t, "a sum of zeros", append(bytes.Clone(p[:len(p)-32]), make([]byte, 32)...), api.ErrSum)
	}
	// A delta that can't be applied is told of behind the sum.
	bad := mustWrite(t, []pack.Item{onId(api.Id{}, nil)}, 0)
	bad[len(bad)-1]++
	wantNoPieces(t, "a byte of the sum turned, and a base that there isn't", bad, api.ErrSum)
}

// lastItem is an item's bytes behind a blob, and the error that they have.
type lastItem struct {
	what   string
	item   []byte
	wanted api.Errno
}

// bytes80 answers n bytes 80.
func bytes80(n int) []byte { return bytes.Repeat([]byte{0x80}, n) }

// errorsOfItems answers items with the errors of the chapter, in its order, and with further ones behind.
func errorsOfItems() []lastItem {
	id := make([]byte, 32)
	abc, far := wrap([]byte("abc"), 0), span(math.MaxUint64)
	turned := bytes.Clone(abc)
	turned[len(turned)-1]++
	tooFar := append(bytes.Repeat([]byte{0xff}, 10), 0)
	least := uint64(api.MaxData + 1)
	return []lastItem{
		{"no byte of a head", nil, api.ErrShort},
		{"a head that doesn't end", []byte{0xb3}, api.ErrShort},
		{"a head of no kind that doesn't end", []byte{0xd3, 0x80}, api.ErrShort},
		{"a head that doesn't end, too great", bytes.Repeat([]byte{0xff}, 30), api.ErrShort},
		{"a size of 2^64", join([]byte{0xb0}, bytes80(8), []byte{16}, abc), api.ErrLimit},
		{"a size of 2^64 of no kind", join([]byte{0xd0}, bytes80(8), []byte{16}, abc), api.ErrLimit},
		{"a size of 2^64 of the kind 0", join([]byte{0x80}, bytes80(20), []byte{1}, abc), api.ErrLimit},
		{"the kind 0", join(head(0, 3), abc), api.ErrType},
		{"the kind 5", join(head(5, 3), abc), api.ErrType},
		{"the kind 0 alone", head(0, 0), api.ErrType},
		{"the kind 5, too long", head(5, least), api.ErrType},
		{"the kind 0, too long", join(head(0, math.MaxUint64), abc), api.ErrType},
		{"one byte beyond MaxData", join(head(3, least), abc), api.ErrLimit},
		{"far beyond MaxData", join(head(3, 1<<32+3), abc), api.ErrLimit},
		{"2^63", join(head(3, 1<<63+3), abc), api.ErrLimit},
		{"2^64 - 1", join(head(3, math.MaxUint64), abc), api.ErrLimit},
		{"too long, and no bytes behind", head(3, least), api.ErrLimit},
		{"too long, and no span", head(6, least), api.ErrLimit},
		{"too long, and no id", head(7, least), api.ErrLimit},
		{"too long, and the distance 0", join(head(6, least), span(0), abc), api.ErrLimit},
		{"too long, and another frame", join(head(3, least), []byte("xyz")), api.ErrLimit},
		{"no span", head(6, 3), api.ErrShort},
		{"a span that doesn't end", join(head(6, 3), bytes80(20)), api.ErrShort},
		{"a span of 2^64 and more", join(head(6, 3), tooFar, abc), api.ErrLimit},
		{"a span of 2^64 and more, and no stream", join(head(6, 3), tooFar), api.ErrLimit},
		{"the distance 0", join(head(6, 3), span(0), abc), api.ErrForm},
		{"the distance 0, and no stream", join(head(6, 3), span(0)), api.ErrForm},
		{"the distance 2^64 - 1, and no stream", join(head(6, 3), far), api.ErrForm},
		{"no id", head(7, 3), api.ErrShort},
		{"an id of 31 bytes", join(head(7, 3), id[:31]), api.ErrShort},
		{"an id, and no stream", join(head(7, 3), id), api.ErrShort},
		{"an id, and another frame", join(head(7, 3), id, []byte("xyz")), api.ErrForm},
		{"no stream", head(3, 3), api.ErrShort},
		{"a frame's first byte alone", join(head(3, 3), abc[:1]), api.ErrShort},
		{"another frame", join(head(3, 3), []byte{0x79}, abc[1:]), api.ErrForm},
		{"a stream that doesn't end", join(head(3, 3), abc[:5]), api.ErrShort},
		{"a stream's sum that doesn't end", join(head(3, 3), abc[:len(abc)-1]), api.ErrShort},
		{"a stream's sum turned", join(head(3, 3), turned), api.ErrSum},
		{"a stream's sum turned, and less comes out", join(head(3, 4), turned), api.ErrSum},
		{"more comes out", join(head(3, 2), abc), api.ErrLimit},
		{"more comes out, and the stream's sum turned", join(head(3, 2), turned), api.ErrLimit},
		{"more than nothing comes out", join(head(3, 0), abc), api.ErrLimit},
		{"less comes out", join(head(3, 4), abc), api.ErrForm},
		{"less than MaxData comes out", join(head(3, api.MaxData), abc), api.ErrForm},
		{"nothing comes out", join(head(3, 1), wrap(nil, 0)), api.ErrForm},
		{"less comes out behind an id", join(head(7, 4), id, abc), api.ErrForm},
	}
}

// P9.1: each of the errors of an item, in its order: ahead of bytes that are left and of the sum.
func TestPiecesItems(t *testing.T) {
	for _, x := range errorsOfItems() {
		wantNoPieces(t, x.what, packed(blob("abc"), x.item), x.wanted)
		wantNoPieces(t, x.what+", not summed", append(join(begun(2), blob("abc"), x.item), make([]byte, 32)...), x.wanted)
		wantPlain(t, x.what, packed(blob("abc"), x.item))
		// As the first item of several, where it doesn't hang on the end of the bytes, or on another base.
		if x.wanted != api.ErrShort {
			wantNoPieces(t, x.what+", ahead of others", packed(x.item, blob("abc"), []byte{0}), x.wanted)
		}
	}
	// The bytes of the sum are no item's, even if they would be one's end.
	good := join(head(3, 3), wrap([]byte("abc"), 0))
	for n := range good {
		p := join(begun(1), good[:n], good[n:], make([]byte, 32))[:12+n+32]
		wantNoPieces(t, "an item that ends in the sum", p, api.ErrShort)
	}
}

// P9.1: spans to each place: only those to where an earlier item begins are in form.
func TestPiecesSpans(t *testing.T) {
	ahead := join(blob("a"), blob("bc"), blob(""))
	at := 12 + len(ahead)
	begins := map[int]int{12: 1, 12 + len(blob("a")): 2, 12 + len(blob("a")) + len(blob("bc")): 0}
	item := func(distance uint64) []byte {
		return join(head(6, 5), span(distance), wrap([]byte("\x01\x01\x90\x01x")[:5], 0))
	}
	for distance := range 3 * at {
		p := sealed(begun(5), ahead, item(uint64(distance)), blob("behind"))
		if _, may := begins[at-distance]; !may {
			wantNoPieces(t, "a span to where no item begins", p, api.ErrForm)
			continue
		}
		l, e := pack.Pieces(p)
		if e != api.OK || len(l) != 5 || l[3].BaseAt != at-distance || l[3].At != at || l[3].Base != (api.Id{}) {
			t.Fatalf("a span of %d: error %d", distance, e)
		}
	}
	for _, distance := range []uint64{1 << 31, 1<<32 - 12, 1 << 32, 1<<32 + uint64(at-12), 1 << 62, 1<<63 - 1, 1 << 63, 1<<63 + uint64(at-12), math.MaxUint64 - 11, math.MaxUint64} {
		wantNoPieces(t, "a span far ahead", sealed(begun(4), ahead, item(distance)), api.ErrForm)
	}
	wantNoPieces(t, "a span of the first item", packed(item(12)), api.ErrForm)
	wantNoPieces(t, "a span of the first item to the first byte", packed(item(0), blob("a")), api.ErrForm)
}

// P9.1: longer spellings of heads are read, and the places and Crcs of pieces are those of their bytes.
func TestPiecesSpelledLonger(t *testing.T) {
	first := join([]byte{0xb3}, bytes80(15), []byte{0}, squeezed([]byte("abc")))
	second := join([]byte{0xe3, 0x80, 0}, span(uint64(len(first))), wrap([]byte("xyz"), 2))
	third := join([]byte{0xf2, 0x80, 0x80, 0}, bytes.Repeat([]byte{7}, 32), squeezed([]byte("uv")))
	p := packed(first, second, third)
	l, e := pack.Pieces(p)
	if e != api.OK {
		t.Fatalf("error %d", e)
	}
	var base api.Id
	copy(base[:], bytes.Repeat([]byte{7}, 32))
	one, two, three := 12+len(first), 12+len(first)+len(second), len(p)-32
	wanted := []pack.Piece{
		{Kind: 3, Data: []byte("abc"), At: 12, End: one, Crc: crc32.ChecksumIEEE(first)},
		{Kind: 6, Data: []byte("xyz"), At: one, End: two, BaseAt: 12, Crc: crc32.ChecksumIEEE(second)},
		{Kind: 7, Data: []byte("uv"), At: two, End: three, Base: base, Crc: crc32.ChecksumIEEE(third)},
	}
	if !samePieces(l, wanted) {
		t.Errorf("%+v, wanted %+v", l, wanted)
	}
}

// somePacks answers packs of several kinds.
func somePacks(t *testing.T) [][]byte {
	readable := []pack.Item{
		object(3, "abc"), onSpan(0, insert(3, "abcxy")), onId(blobId("later"), insert(5, "u")), object(3, "later"), object(2, ""), onSpan(1, []byte{5, 5, 0x90, 5}), object(1, "c"), object(4, "d"),
	}
	return [][]byte{
		mustWrite(t, nil, 0), mustWrite(t, eachKind(), 0), mustWrite(t, eachKind(), 1), mustWrite(t, readable, 0), mustWrite(t, readable, 2),
		packed(join(head(3, 600), squeezed(noise(1, 600, 5))), blob("x")),
	}
}

// P9.1, P9.2: bytes cut short at each place, with their own sum and without.
func TestCutShort(t *testing.T) {
	for _, p := range somePacks(t) {
		wantPlain(t, "the whole", p)
		for n := range p {
			wantPlain(t, "bytes cut short", p[:n:n])
			wantPlain(t, "bytes cut short, with spare room", p[:n])
			if n >= 12 && n < len(p)-32 {
				wantNoPieces(t, "items cut short, summed", sealed(p[:n]), api.ErrShort)
			}
		}
	}
}

// P9.1, P9.2: each byte turned, one more and one less, with a new sum and without, is as in the plain model.
func TestTurned(t *testing.T) {
	r := rand.New(rand.NewSource(4))
	met := map[api.Errno]int{}
	for _, p := range somePacks(t) {
		body := p[:len(p)-32]
		for at := range p {
			for range 3 {
				q := bytes.Clone(p)
				q[at] ^= byte(1 + r.Intn(255))
				if e := wantPlain(t, "a byte turned", q); e == api.OK {
					t.Errorf("the byte %d turned isn't seen", at)
				}
				if at < len(body) {
					met[wantPlain(t, "a byte turned, summed", sealed(q[:len(body)]))]++
				}
			}
			if at < len(body) {
				met[wantPlain(t, "a byte more", sealed(body[:at], []byte{byte(r.Intn(256))}, body[at:]))]++
				met[wantPlain(t, "a byte less", sealed(body[:at], body[at+1:]))]++
			}
		}
	}
	for _, e := range []api.Errno{api.OK, api.ErrForm, api.ErrShort, api.ErrSum, api.ErrNone, api.ErrType, api.ErrLimit} {
		if met[e] == 0 {
			t.Errorf("error %d was never met", e)
		}
	}
}

// P1: bytes by chance, and heads by chance ahead of good streams, are as in the plain model.
func TestByChance(t *testing.T) {
	r := rand.New(rand.NewSource(5))
	for range 3000 {
		wantPlain(t, "bytes by chance", noise(r.Int63(), r.Intn(100), 256))
		wantPlain(t, "items by chance", sealed(begun(r.Intn(4)), noise(r.Int63(), r.Intn(40), 256)))
		first := blob("abc")
		wantPlain(t, "a head by chance", packed(first, join(noise(r.Int63(), 1, 256), noise(r.Int63(), r.Intn(3), 256), wrap(noise(1, r.Intn(9), 256), r.Intn(3)))))
		wantPlain(t, "a span by chance", packed(first, join(head(6, 3), span(uint64(r.Intn(2*len(first)))), wrap([]byte("\x03\x00\x00"), 0))))
	}
}

// The rule 'Memory': Pieces neither changes nor keeps what is handed in, nor reads its spare room; no two data share memory.
func TestPiecesMemory(t *testing.T) {
	for _, good := range somePacks(t) {
		p := roomy(good)
		first, e := pack.Pieces(p)
		wantRoomy(t, "Pieces", p, good)
		second, _ := pack.Pieces(p)
		scratch(p)
		wanted, f := plainPieces(good)
		if e != f || !samePieces(first, wanted) {
			t.Fatalf("Pieces's answer shares memory with its argument, or hangs on spare room")
		}
		for i := range second {
			scratch(second[i].Data)
			for j := range second {
				if j > i && !bytes.Equal(second[j].Data, wanted[j].Data) {
					t.Errorf("the data of the items %d and %d share memory", i, j)
				}
			}
		}
		for i := range second[:cap(second)] {
			second[:cap(second)][i] = pack.Piece{}
		}
		if !samePieces(first, wanted) {
			t.Errorf("two answers of Pieces share memory")
		}
	}
}
