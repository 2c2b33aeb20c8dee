package zlib_test

import (
	"bytes"
	stdzlib "compress/zlib"
	"encoding/binary"
	"encoding/hex"
	"hash/adler32"
	"hash/crc32"
	"io"
	"math"
	"math/rand"
	"slices"
	"strings"
	"testing"

	"codicil/api"
	"codicil/deflate"
	"codicil/inflate"
	"codicil/zlib"
)

// must answers the stream of p with its frame, and fails if there is an error.
func must(t *testing.T, p []byte, way int) []byte {
	t.Helper()
	s, e := zlib.Wrap(p, way)
	if e != api.OK {
		t.Fatalf("Wrap of %d bytes, way %d: error %d", len(p), way, e)
	}
	return s
}

// wantError fails unless Unwrap answers that error, and nothing beside it.
func wantError(t *testing.T, what string, p []byte, most int, wanted api.Errno) {
	t.Helper()
	q, n, e := zlib.Unwrap(p, most)
	if e != wanted || len(q) != 0 || n != 0 {
		t.Errorf("%s: %x, %d, error %d, wanted error %d alone", what, q, n, e, wanted)
	}
}

// noise answers n bytes by chance, of so many kinds.
func noise(seed int64, n, kinds int) []byte {
	r := rand.New(rand.NewSource(seed))
	p := make([]byte, n)
	for i := range p {
		p[i] = byte(r.Intn(kinds))
	}
	return p
}

// join puts bytes behind one another.
func join(parts ...[]byte) []byte { return bytes.Join(parts, nil) }

// bytesOf reads bytes in digits.
func bytesOf(t *testing.T, digits string) []byte {
	t.Helper()
	p, err := hex.DecodeString(strings.ReplaceAll(digits, " ", ""))
	if err != nil {
		t.Fatal(err)
	}
	return p
}

// samples are bytes of several kinds.
func samples() [][]byte {
	return [][]byte{
		nil, {}, {0}, {255}, []byte("a"), []byte("abc"), []byte("123456789"), noise(1, 300, 256), noise(2, 5000, 3), noise(3, 70000, 256),
		make([]byte, 1000), bytes.Repeat([]byte{255}, 65536), []byte(strings.Repeat("to be or not to be\n", 300)),
	}
}

// The chapter's first section: both sums of the examples, and of each byte alone.
func TestSumsOfFew(t *testing.T) {
	for _, x := range []struct {
		text       string
		adler, crc uint32
	}{
		{"", 1, 0}, {"a", 0x00620062, 0xe8b7be43}, {"abc", 0x024d0127, 0x352441c2}, {"123456789", 0x091e01de, 0xcbf43926}, {"\x00", 0x00010001, 0xd202ef8d},
	} {
		if a, c := zlib.Adler([]byte(x.text)), zlib.Crc([]byte(x.text)); a != x.adler || c != x.crc {
			t.Errorf("%q: %08x, %08x, wanted %08x, %08x", x.text, a, c, x.adler, x.crc)
		}
	}
	if a, c := zlib.Adler(nil), zlib.Crc(nil); a != 1 || c != 0 {
		t.Errorf("nil: %08x, %08x", a, c)
	}
	for b := range 256 {
		p := []byte{byte(b)}
		if a, c := zlib.Adler(p), zlib.Crc(p); a != adler32.Checksum(p) || c != crc32.ChecksumIEEE(p) {
			t.Errorf("%x: %08x, %08x", p, a, c)
		}
	}
}

// The chapter's first section: both sums of many bytes, which go round the modulus, against the library's.
func TestSumsOfMany(t *testing.T) {
	ps := append(samples(), bytes.Repeat([]byte{255}, api.MaxData), bytes.Repeat([]byte{255}, 3*api.MaxData), noise(4, api.MaxData+1, 256))
	for n := range 600 {
		ps = append(ps, noise(int64(n), n, 256), bytes.Repeat([]byte{255}, n))
	}
	// 256 times 255 and 240 more: a is 65520, and with one more it is 0.
	edge := bytes.Repeat([]byte{255}, 256)
	for last := 238; last <= 242; last++ {
		ps = append(ps, append(bytes.Clone(edge), byte(last)))
	}
	for _, p := range ps {
		if a, w := zlib.Adler(p), adler32.Checksum(p); a != w {
			t.Errorf("Adler of %d bytes: %08x, wanted %08x", len(p), a, w)
		}
		if c, w := zlib.Crc(p), crc32.ChecksumIEEE(p); c != w {
			t.Errorf("Crc of %d bytes: %08x, wanted %08x", len(p), c, w)
		}
	}
}

// P5.1: the chapter's examples.
func TestExamples(t *testing.T) {
	if got := hex.EncodeToString(must(t, nil, 2)); got != "7801030000000001" {
		t.Errorf("Wrap of nothing: %s", got)
	}
	if got := hex.EncodeToString(must(t, []byte("a"), 1)); got != "78014b040000620062" {
		t.Errorf("Wrap of a: %s", got)
	}
	if got := hex.EncodeToString(must(t, []byte("abc"), 0)); got != "7801010300fcff616263024d0127" {
		t.Errorf("Wrap of abc: %s", got)
	}
	wantError(t, "78", []byte{0x78}, 9, api.ErrShort)
	wantError(t, "78 02", []byte{0x78, 2}, 9, api.ErrForm)
	wantError(t, "78 02 ..", bytesOf(t, "78 02 03 00 00 00 00 01"), 9, api.ErrForm)
	wantError(t, "the last byte turned", bytesOf(t, "78 01 03 00 00 00 00 02"), 9, api.ErrSum)
	q, n, e := zlib.Unwrap(bytesOf(t, "78 01 01 03 00 fc ff 61 62 63 02 4d 01 27"), 3)
	if string(q) != "abc" || n != 14 || e != api.OK {
		t.Errorf("abc: %q, %d, error %d", q, n, e)
	}
}

// P5.1: Wrap is the head, the stream of that way, and the sum; the library reads it.
func TestWrap(t *testing.T) {
	for _, p := range append(samples(), noise(5, api.MaxData, 256), make([]byte, api.MaxData)) {
		for way := range 3 {
			stream, e := deflate.Deflate(p, way)
			if e != api.OK {
				t.Fatal(e)
			}
			wanted := binary.BigEndian.AppendUint32(join([]byte{0x78, 0x01}, stream), adler32.Checksum(p))
			got := must(t, p, way)
			if !bytes.Equal(got, wanted) {
				t.Errorf("Wrap of %d bytes, way %d: %d bytes, wanted others, %d", len(p), way, len(got), len(wanted))
			}
			r, err := stdzlib.NewReader(bytes.NewReader(got))
			if err != nil {
				t.Fatal(err)
			}
			if q, err := io.ReadAll(r); err != nil || !bytes.Equal(q, p) {
				t.Errorf("way %d: the library reads %d bytes of %d, %v", way, len(q), len(p), err)
			}
		}
	}
}

// P5.1: Wrap's errors are Deflate's.
func TestWrapErrors(t *testing.T) {
	long := make([]byte, api.MaxData+1)
	for _, p := range [][]byte{nil, []byte("abc"), long} {
		for _, way := range []int{math.MinInt, -1, 3, 256, math.MaxInt} {
			if s, e := zlib.Wrap(p, way); len(s) != 0 || e != api.ErrArg {
				t.Errorf("Wrap of %d bytes, way %d: %x, error %d, wanted ErrArg", len(p), way, s, e)
			}
		}
	}
	for way := range 3 {
		if s, e := zlib.Wrap(long, way); len(s) != 0 || e != api.ErrLong {
			t.Errorf("too many bytes, way %d: %d bytes, error %d, wanted ErrLong", way, len(s), e)
		}
	}
}

// P5.2: what is wrapped is unwrapped again, whatever bytes stand behind; most may be just what comes out.
func TestUnwrapOfWrap(t *testing.T) {
	for _, p := range append(samples(), noise(6, api.MaxData, 256), make([]byte, api.MaxData)) {
		for way := range 3 {
			s := must(t, p, way)
			for _, behind := range [][]byte{nil, {0}, {1}, {255}, {0, 0, 0, 1}, s[:min(len(s), 60)], make([]byte, 50)} {
				for _, most := range []int{len(p), api.MaxData} {
					q, n, e := zlib.Unwrap(join(s, behind), most)
					if e != api.OK || n != len(s) || !bytes.Equal(q, p) {
						t.Errorf("%d bytes, way %d, %x behind, most %d: %d bytes, %d of %d, error %d", len(p), way, behind, most, len(q), n, len(s), e)
					}
				}
			}
			if len(p) > 0 {
				wantError(t, "most one below", s, len(p)-1, api.ErrLimit)
			}
		}
	}
}

// P5.1: streams that the library wrote, of blocks of way 2 among others, are unwrapped.
func TestUnwrapOfLibrary(t *testing.T) {
	for _, p := range samples() {
		for level := -2; level <= 9; level++ {
			var s bytes.Buffer
			w, err := stdzlib.NewWriterLevel(&s, level)
			if err != nil {
				t.Fatal(err)
			}
			w.Write(p)
			w.Close()
			size := s.Len()
			s.WriteString("behind")
			q, n, e := zlib.Unwrap(s.Bytes(), len(p))
			if e != api.OK || n != size || !bytes.Equal(q, p) {
				t.Errorf("%d bytes, level %d: %d bytes, %d of %d, error %d", len(p), level, len(q), n, size, e)
			}
		}
	}
}

// P5.1: most outside its range is told ahead of all else.
func TestMostIsAskedFirst(t *testing.T) {
	good := must(t, []byte("abc"), 1)
	for _, most := range []int{math.MinInt, -1, api.MaxData + 1, math.MaxInt} {
		for _, p := range [][]byte{nil, {0x78}, {0, 0}, {0x78, 2}, {0x78, 1}, {0x78, 1, 7}, good, good[:len(good)-1], bytesOf(t, "78 01 03 00 00 00 00 02")} {
			wantError(t, "most outside its range", p, most, api.ErrArg)
		}
	}
	for _, most := range []int{3, 4, api.MaxData - 1, api.MaxData} {
		if q, _, e := zlib.Unwrap(good, most); string(q) != "abc" || e != api.OK {
			t.Errorf("most %d: %q, error %d", most, q, e)
		}
	}
	if q, n, e := zlib.Unwrap(must(t, nil, 1), 0); len(q) != 0 || n != 8 || e != api.OK {
		t.Errorf("nothing, most 0: %x, %d, error %d", q, n, e)
	}
}

// P5.1: a frame that is cut at each of its bytes is short.
func TestCutShort(t *testing.T) {
	for _, p := range [][]byte{nil, []byte("a"), []byte("abc"), noise(7, 100, 256), noise(8, 100, 2)} {
		for way := range 3 {
			s := must(t, p, way)
			for n := range s {
				wantError(t, "cut short", s[:n], len(p), api.ErrShort)
			}
		}
	}
	wantError(t, "nil", nil, 0, api.ErrShort)
	for b := range 256 {
		wantError(t, "one byte", []byte{byte(b)}, 9, api.ErrShort)
	}
}

// P5.1: each of the 65536 heads; every rule of the frame is broken by itself among them.
func TestEachHead(t *testing.T) {
	body := must(t, []byte("abc"), 1)[2:]
	var alone [4]int
	whole := 0
	for first := range 256 {
		for second := range 256 {
			s := join([]byte{byte(first), byte(second)}, body)
			var broken []int
			for rule, holds := range []bool{first%16 == 8, first < 128, (256*first+second)%31 == 0, second/32%2 == 0} {
				if !holds {
					broken = append(broken, rule)
				}
			}
			if len(broken) > 0 {
				wantError(t, "a head that is not in form", s, 9, api.ErrForm)
				wantError(t, "such a head alone", s[:2], 9, api.ErrForm)
				if len(broken) == 1 {
					alone[broken[0]]++
				}
				continue
			}
			whole++
			if q, n, e := zlib.Unwrap(s, 3); string(q) != "abc" || n != len(s) || e != api.OK {
				t.Errorf("the head %x: %q, %d, error %d", s[:2], q, n, e)
			}
			wantError(t, "the head alone", s[:2], 9, api.ErrShort)
		}
	}
	if whole != 32 || slices.Contains(alone[:], 0) {
		t.Errorf("%d heads are in form; those that break one rule alone: %v", whole, alone)
	}
	for _, head := range []string{"78 01", "78 5e", "78 9c", "78 da", "08 1d", "18 19", "68 05"} {
		if _, _, e := zlib.Unwrap(join(bytesOf(t, head), body), 9); e != api.OK {
			t.Errorf("the head %s: error %d", head, e)
		}
	}
}

// P5.1: what Inflate finds wrong behind the head is told ahead of what is wrong with the sum.
func TestStreamErrors(t *testing.T) {
	for what, x := range map[string]struct {
		stream string
		most   int
		wanted api.Errno
	}{
		"way 3, no sum":                   {"07", 9, api.ErrForm},
		"way 3, a sum":                    {"07 00 00 00 01", 9, api.ErrForm},
		"no bits":                         {"", 9, api.ErrShort},
		"a block cut":                     {"01 03 00 fc ff 61 62", 9, api.ErrShort},
		"the lengths differ":              {"01 01 00 ff ff 61 00 00 00 00", 9, api.ErrForm},
		"too much, a wrong sum":           {"01 03 00 fc ff 61 62 63 00 00 00 00", 2, api.ErrLimit},
		"too much, no sum":                {"01 03 00 fc ff 61 62 63", 2, api.ErrLimit},
		"too much, the right sum":         {"01 03 00 fc ff 61 62 63 02 4d 01 27", 2, api.ErrLimit},
		"no sum":                          {"01 03 00 fc ff 61 62 63", 3, api.ErrShort},
		"three bytes of a wrong sum":      {"01 03 00 fc ff 61 62 63 ff ff ff", 3, api.ErrShort},
		"a wrong sum":                     {"01 03 00 fc ff 61 62 63 ff ff ff ff", 3, api.ErrSum},
		"the sum, its lowest byte first":  {"01 03 00 fc ff 61 62 63 27 01 4d 02", 3, api.ErrSum},
		"its halves the other way round":  {"01 03 00 fc ff 61 62 63 01 27 02 4d", 3, api.ErrSum},
		"the sum one byte further behind": {"01 03 00 fc ff 61 62 63 00 02 4d 01 27", 3, api.ErrSum},
		"the sum of nothing, 0":           {"03 00 00 00 00 00", 3, api.ErrSum},
		"the CRC in the sum's place":      {"01 03 00 fc ff 61 62 63 35 24 41 c2", 3, api.ErrSum},
	} {
		wantError(t, what, join([]byte{0x78, 1}, bytesOf(t, x.stream)), x.most, x.wanted)
	}
}

// P5.1: each bit of the sum turned.
func TestSumTurned(t *testing.T) {
	for _, p := range [][]byte{nil, []byte("abc"), noise(9, 500, 256)} {
		s := must(t, p, 2)
		for bit := range 32 {
			turned := bytes.Clone(s)
			turned[len(s)-4+bit/8] ^= 1 << (bit % 8)
			wantError(t, "a bit of the sum turned", turned, api.MaxData, api.ErrSum)
			wantError(t, "a bit of the sum turned, more behind", append(turned, s[len(s)-4:]...), api.MaxData, api.ErrSum)
		}
		for at := len(s) - 4; at < len(s); at++ {
			for d := 1; d < 256; d++ {
				turned := bytes.Clone(s)
				turned[at] += byte(d)
				wantError(t, "a byte of the sum turned", turned, api.MaxData, api.ErrSum)
			}
		}
	}
}

// plain answers what Unwrap must, by the chapter's words.
func plain(p []byte, most int) ([]byte, int, api.Errno) {
	if most < 0 || most > api.MaxData {
		return nil, 0, api.ErrArg
	}
	if len(p) < 2 {
		return nil, 0, api.ErrShort
	}
	if p[0]&15 != 8 || p[0]&128 != 0 || binary.BigEndian.Uint16(p)%31 != 0 || p[1]>>5&1 == 1 {
		return nil, 0, api.ErrForm
	}
	q, n, e := inflate.Inflate(p[2:], most)
	if e != api.OK {
		return nil, 0, e
	}
	if len(p) < 2+n+4 {
		return nil, 0, api.ErrShort
	}
	if binary.BigEndian.Uint32(p[2+n:]) != adler32.Checksum(q) {
		return nil, 0, api.ErrSum
	}
	return q, n + 6, api.OK
}

// P5.1, P1: bytes by chance, and frames of which some bits are turned or cut.
func TestUnwrapAgainstPlain(t *testing.T) {
	r := rand.New(rand.NewSource(10))
	seen := [19]int{}
	for i := range 60000 {
		p := noise(int64(i), r.Intn(30), 1+r.Intn(256))
		most := r.Intn(40) - 1
		if i%3 > 0 {
			p = must(t, p, r.Intn(3))
			for range r.Intn(3) {
				p[r.Intn(len(p))] ^= 1 << r.Intn(8)
			}
			if r.Intn(8) == 0 {
				p = p[:r.Intn(len(p))]
			}
		}
		q, n, e := zlib.Unwrap(p, most)
		q1, n1, e1 := plain(p, most)
		if !bytes.Equal(q, q1) || n != n1 || e != e1 {
			t.Fatalf("Unwrap(%x, %d): %x, %d, error %d, wanted %x, %d, %d", p, most, q, n, e, q1, n1, e1)
		}
		seen[e]++
	}
	for _, e := range []api.Errno{api.OK, api.ErrArg, api.ErrForm, api.ErrShort, api.ErrSum, api.ErrLimit} {
		if seen[e] < 50 {
			t.Errorf("the error %d came only %d times", e, seen[e])
		}
	}
}

// The rule 'Memory': nothing that is handed in is changed, or counts beyond its length.
func TestLeavesWhatItIsGiven(t *testing.T) {
	for _, p := range samples() {
		room := join(p, p, []byte("spare room"))
		before := bytes.Clone(room)
		given := room[:len(p)]
		if zlib.Adler(given) != adler32.Checksum(p) || zlib.Crc(given) != crc32.ChecksumIEEE(p) {
			t.Fatalf("the sums of %d bytes hang on the spare room", len(p))
		}
		for way := range 3 {
			if !bytes.Equal(must(t, given, way), must(t, bytes.Clone(p), way)) {
				t.Fatalf("Wrap of %d bytes, way %d, hangs on the spare room", len(p), way)
			}
			s := must(t, p, way)
			frame := join(s, s)
			for n := range min(len(s), 40) {
				wantError(t, "the rest stands in the spare room", frame[:len(s)-1-n], len(p), api.ErrShort)
			}
			if _, n, e := zlib.Unwrap(frame[:len(s)], len(p)); n != len(s) || e != api.OK {
				t.Fatalf("Unwrap: %d, error %d", n, e)
			}
			if !bytes.Equal(frame, join(s, s)) {
				t.Fatalf("Unwrap of %d bytes changed what it was given", len(p))
			}
		}
		if !bytes.Equal(room, before) {
			t.Fatalf("%d bytes that were handed in were changed", len(p))
		}
	}
}

// scribble writes over all of p and its spare room.
func scribble(p []byte) {
	p = p[:cap(p)]
	for i := range p {
		p[i] ^= 0x5a
	}
}

// The rule 'Memory': an answer shares nothing with the argument or with another answer.
func TestAnswersShareNothing(t *testing.T) {
	for _, p := range samples() {
		given := bytes.Clone(p)
		for way := range 3 {
			first, second := must(t, given, way), must(t, given, way)
			wanted := bytes.Clone(second)
			scribble(first)
			if !bytes.Equal(second, wanted) || !bytes.Equal(given, p) {
				t.Fatalf("Wrap of %d bytes, way %d, shares memory", len(p), way)
			}
			q1, _, _ := zlib.Unwrap(second, len(p))
			q2, _, _ := zlib.Unwrap(second, len(p))
			scribble(q1)
			if !bytes.Equal(q2, p) || !bytes.Equal(second, wanted) {
				t.Fatalf("Unwrap of %d bytes, way %d, shares memory", len(p), way)
			}
			scribble(second)
			if !bytes.Equal(q2, p) {
				t.Fatalf("Unwrap's answer of %d bytes, way %d, hangs on what was handed in", len(p), way)
			}
		}
	}
}

// P2: the same arguments have the same answer, whatever came between.
func TestSameAgain(t *testing.T) {
	p := noise(11, 2000, 5)
	first := must(t, p, 2)
	zlib.Unwrap([]byte{0x78, 1, 7}, 9)
	must(t, noise(12, 100, 256), 1)
	if !bytes.Equal(must(t, p, 2), first) {
		t.Error("Wrap answers something else the second time")
	}
	q, n, e := zlib.Unwrap(first, len(p))
	zlib.Unwrap(first[:5], 9)
	q1, n1, e1 := zlib.Unwrap(first, len(p))
	if !bytes.Equal(q, q1) || n != n1 || e != e1 {
		t.Error("Unwrap answers something else the second time")
	}
}
