package deflate_test

import (
	"bytes"
	"compress/flate"
	"encoding/hex"
	"io"
	"math"
	"math/rand"
	"strings"
	"testing"

	"codicil/api"
	"codicil/deflate"
	"codicil/inflate"
)

// must answers the stream of p, and fails if there is an error.
func must(t *testing.T, p []byte, way int) []byte {
	t.Helper()
	s, e := deflate.Deflate(p, way)
	if e != api.OK {
		t.Fatalf("Deflate of %d bytes, way %d: error %d", len(p), way, e)
	}
	return s
}

// plain answers p in way 1 by the chapter's words: bits are a text, each earlier place is tried.
func plain(p []byte) []byte {
	var text strings.Builder
	text.WriteString("110")
	for at := 0; at < len(p); {
		length, distance := plainMatch(p, at)
		if length == 0 {
			text.WriteString(fixedCode(int(p[at])))
			at++
			continue
		}
		text.WriteString(lengthBits(length) + distanceBits(distance))
		at += length
	}
	text.WriteString(fixedCode(256))
	out := make([]byte, (text.Len()+7)/8)
	for i, c := range text.String() {
		out[i/8] |= byte(c-'0') << (i % 8)
	}
	return out
}

func plainMatch(p []byte, at int) (length, distance int) {
	for d := 1; d <= 32768 && d <= at && length < 258; d++ {
		n := 0
		for n < 258 && at+n < len(p) && p[at+n] == p[at+n-d] {
			n++
		}
		if n >= 3 && n > length {
			length, distance = n, d
		}
	}
	return length, distance
}

// fixedCode answers the bits of a symbol of way 1.
func fixedCode(s int) string {
	switch {
	case s < 144:
		return digits(0x30+s, 8)
	case s < 256:
		return digits(0x190+s-144, 9)
	case s < 280:
		return digits(s-256, 7)
	}
	return digits(0xc0+s-280, 8)
}

// digits answers v in n digits, the highest first; lowFirst, the lowest first.
func digits(v, n int) string {
	text := ""
	for i := range n {
		text = string(rune('0'+v>>i&1)) + text
	}
	return text
}

func lowFirst(v, n int) string {
	text := ""
	for i := range n {
		text += string(rune('0' + v>>i&1))
	}
	return text
}

// lengthBits and distanceBits look a value up in RFC 1951's tables.
func lengthBits(n int) string {
	begin := []int{3, 4, 5, 6, 7, 8, 9, 10, 11, 13, 15, 17, 19, 23, 27, 31, 35, 43, 51, 59, 67, 83, 99, 115, 131, 163, 195, 227, 258}
	more := []int{0, 0, 0, 0, 0, 0, 0, 0, 1, 1, 1, 1, 2, 2, 2, 2, 3, 3, 3, 3, 4, 4, 4, 4, 5, 5, 5, 5, 0}
	row := rowOf(begin, n)
	return fixedCode(257+row) + lowFirst(n-begin[row], more[row])
}

func distanceBits(n int) string {
	begin := []int{1, 2, 3, 4, 5, 7, 9, 13, 17, 25, 33, 49, 65, 97, 129, 193, 257, 385, 513, 769, 1025, 1537, 2049, 3073, 4097, 6145, 8193, 12289, 16385, 24577}
	row := rowOf(begin, n)
	return digits(row, 5) + lowFirst(n-begin[row], max(0, row/2-1))
}

func rowOf(begin []int, n int) int {
	row := 0
	for row+1 < len(begin) && begin[row+1] <= n {
		row++
	}
	return row
}

// noise answers n bytes by chance, of so many kinds.
func noise(seed int64, n, kinds int) []byte {
	r := rand.New(rand.NewSource(seed))
	p := make([]byte, n)
	for i := range p {
		p[i] = byte(r.Intn(kinds))
	}
	return p
}

// unlike answers n bytes none of whose threes comes twice (while n is at most some 16000).
func unlike(n int) []byte {
	var p []byte
	for i := range n/2 + 1 {
		p = append(p, byte(i>>7)|0x80, byte(i&0x7f))
	}
	return p[:n]
}

// join puts bytes behind one another.
func join(parts ...[]byte) []byte { return bytes.Join(parts, nil) }

// samples are bytes of several kinds.
func samples() [][]byte {
	return [][]byte{
		nil, {}, []byte("a"), []byte("ab"), []byte("abc"), []byte("aaa"), []byte("aaaa"), []byte("abcabc"), []byte("abcabcx"),
		noise(1, 300, 256), noise(2, 5000, 2), noise(3, 5000, 3), noise(4, 3000, 10), noise(5, 70000, 256),
		make([]byte, 1000), make([]byte, 65535), make([]byte, 65536), noise(6, 65535, 256), noise(7, 65536, 256),
		[]byte(strings.Repeat("the quick brown fox jumps over the lazy dog\n", 200)), unlike(2000),
	}
}

// P4.1: the chapter's examples.
func TestExamples(t *testing.T) {
	for _, x := range []struct {
		text   string
		way    int
		wanted string
	}{
		{"a", 1, "4b0400"}, {"abc", 0, "010300fcff616263"}, {"", 2, "0300"}, {"aaaaaaaa", 1, "4b840200"},
		{"", 0, "010000ffff"}, {"", 1, "0300"},
	} {
		if got := hex.EncodeToString(must(t, []byte(x.text), x.way)); got != x.wanted {
			t.Errorf("Deflate(%q, %d): %s, wanted %s", x.text, x.way, got, x.wanted)
		}
	}
}

// P4.1: the errors.
func TestErrors(t *testing.T) {
	long := make([]byte, api.MaxData+1)
	for _, way := range []int{math.MinInt, -1, 3, 256, math.MaxInt} {
		for _, p := range [][]byte{nil, []byte("abc"), long} {
			if s, e := deflate.Deflate(p, way); len(s) != 0 || e != api.ErrArg {
				t.Errorf("Deflate of %d bytes, way %d: %x, error %d, wanted ErrArg", len(p), way, s, e)
			}
		}
	}
	for way := range 3 {
		if s, e := deflate.Deflate(long, way); len(s) != 0 || e != api.ErrLong {
			t.Errorf("too many bytes, way %d: %d bytes, error %d, wanted ErrLong", way, len(s), e)
		}
	}
}

// P4.1: way 0, at and around whole blocks.
func TestStored(t *testing.T) {
	for _, n := range []int{0, 1, 255, 256, 65534, 65535, 65536, 131069, 131070, 131071, 196605, api.MaxData - 1, api.MaxData} {
		p := noise(int64(n), n, 256)
		var wanted []byte
		for rest := p; ; {
			size := min(len(rest), 65535)
			last := byte(0)
			if size == len(rest) {
				last = 1
			}
			wanted = append(wanted, last, byte(size), byte(size/256), byte(255-size%256), byte(255-size/256))
			wanted = append(wanted, rest[:size]...)
			if rest = rest[size:]; last == 1 {
				break
			}
		}
		if got := must(t, p, 0); !bytes.Equal(got, wanted) {
			t.Errorf("way 0 of %d bytes: %d bytes, wanted others, %d", n, len(got), len(wanted))
		}
	}
}

// P4.1: way 1 of each text of two letters, and of longer ones of few letters.
func TestFixedAgainstPlain(t *testing.T) {
	for n := range 13 {
		for v := range 1 << n {
			p := []byte(strings.NewReplacer("0", "a", "1", "\xf0").Replace(digits(v, n)))
			if got, wanted := must(t, p, 1), plain(p); !bytes.Equal(got, wanted) {
				t.Fatalf("way 1 of %q: %x, wanted %x", p, got, wanted)
			}
		}
	}
	r := rand.New(rand.NewSource(8))
	for i := range 600 {
		p := noise(int64(i), r.Intn(400), 1+r.Intn(6))
		if got, wanted := must(t, p, 1), plain(p); !bytes.Equal(got, wanted) {
			t.Fatalf("way 1 of %x: %x, wanted %x", p, got, wanted)
		}
	}
	for _, p := range samples() {
		if len(p) > 20000 {
			continue
		}
		if got, wanted := must(t, p, 1), plain(p); !bytes.Equal(got, wanted) {
			t.Errorf("way 1 of %d bytes: %d bytes, wanted others, %d", len(p), len(got), len(wanted))
		}
	}
}

// P4.1: each byte has its fixed code.
func TestEachByte(t *testing.T) {
	for b := range 256 {
		p := []byte{byte(b), byte(b)}
		if got, wanted := must(t, p, 1), plain(p); !bytes.Equal(got, wanted) {
			t.Errorf("way 1 of %x: %x, wanted %x", p, got, wanted)
		}
	}
}

// tokens answers a stream of way 1 with these items: a byte (a number alone), or a length and a distance.
func tokens(items ...[]int) []byte {
	text := "110"
	for _, x := range items {
		if len(x) == 1 {
			text += fixedCode(x[0])
		} else {
			text += lengthBits(x[0]) + distanceBits(x[1])
		}
	}
	text += fixedCode(256)
	out := make([]byte, (len(text)+7)/8)
	for i, c := range text {
		out[i/8] |= byte(c-'0') << (i % 8)
	}
	return out
}

// P4.1: lengths of 2, 3, 258 and more; matches that overlap; the longest ahead of the nearest, the nearest of equal ones.
func TestMatches(t *testing.T) {
	a, b, c, x, y := []int{'a'}, []int{'b'}, []int{'c'}, []int{'x'}, []int{'y'}
	for text, wanted := range map[string][]byte{
		"aa":                                 tokens(a, a),
		"aaa":                                tokens(a, a, a),
		"aaaa":                               tokens(a, []int{3, 1}),
		"abab":                               tokens(a, b, a, b),
		"ababa":                              tokens(a, b, []int{3, 2}),
		"abxab":                              tokens(a, b, x, a, b),
		"abcabc":                             tokens(a, b, c, []int{3, 3}),
		"abcabcabcx":                         tokens(a, b, c, []int{6, 3}, x),
		"abcxyabcxabcxy":                     tokens(a, b, c, x, y, []int{4, 5}, []int{5, 9}),
		"abcxabcyabc":                        tokens(a, b, c, x, []int{3, 4}, y, []int{3, 4}),
		"abcxabcyabcx":                       tokens(a, b, c, x, []int{3, 4}, y, []int{4, 8}),
		strings.Repeat("a", 258):             tokens(a, []int{257, 1}),
		strings.Repeat("a", 259):             tokens(a, []int{258, 1}),
		strings.Repeat("a", 260):             tokens(a, []int{258, 1}, a),
		strings.Repeat("a", 261):             tokens(a, []int{258, 1}, a, a),
		strings.Repeat("a", 262):             tokens(a, []int{258, 1}, []int{3, 1}),
		strings.Repeat("a", 1+258*2) + "x":   tokens(a, []int{258, 1}, []int{258, 1}, x),
		strings.Repeat("ab", 131) + "xxxxxb": tokens(a, b, []int{258, 2}, a, b, x, []int{4, 1}, b),
	} {
		if got := must(t, []byte(text), 1); !bytes.Equal(got, wanted) {
			t.Errorf("way 1 of %q: %x, wanted %x", text, got, wanted)
		}
	}
}

// P4.1: every length from 3 to 258.
func TestEachLength(t *testing.T) {
	p := unlike(258)
	for n := 3; n <= 258; n++ {
		q := join(p, []byte{1, 2}, p[:n])
		var items [][]int
		for _, b := range q[:260] {
			items = append(items, []int{int(b)})
		}
		if got, wanted := must(t, q, 1), tokens(append(items, []int{n, 260})...); !bytes.Equal(got, wanted) {
			t.Fatalf("a match of %d bytes: %x, wanted %x", n, got, wanted)
		}
	}
}

// P4.1: a place 32768 ahead counts, one further ahead doesn't; and the distances where another code begins.
func TestFarMatches(t *testing.T) {
	begin := []int{5, 7, 9, 13, 17, 25, 33, 49, 65, 97, 129, 193, 257, 385, 513, 769, 1025, 1537, 2049, 3073, 4097, 6145, 8193, 12289, 16385, 24577, 32768}
	for _, first := range begin {
		for distance := first - 1; distance <= first+1; distance++ {
			// Between the two lists there are only bytes of another kind, all of them the same.
			p := join([]byte("abcd"), bytes.Repeat([]byte{0xee}, distance-4), []byte("abcd"))
			if len(p) != distance+4 {
				t.Fatal("the distance is another one")
			}
			if got, wanted := must(t, p, 1), plain(p); !bytes.Equal(got, wanted) {
				t.Errorf("a match at the distance %d: %d bytes, wanted others, %d", distance, len(got), len(wanted))
			}
		}
	}
	far := func(distance int) int {
		return len(must(t, join([]byte("abcd"), bytes.Repeat([]byte{0xee}, distance-4), []byte("abcd")), 1))
	}
	// 7, 5 and 13 bits against 4 times 8: a byte less.
	if near, beyond := far(32768), far(32769); near >= beyond {
		t.Errorf("at the distance 32768: %d bytes, at 32769: %d", near, beyond)
	}
}

// P4.2: what is written is read again, by Inflate and by the library, whatever stands behind it.
func TestReadAgain(t *testing.T) {
	for _, p := range append(samples(), make([]byte, api.MaxData), noise(9, api.MaxData, 256), noise(10, 300000, 4)) {
		for way := range 3 {
			s := must(t, p, way)
			for _, behind := range [][]byte{nil, {0}, {0xff}, s[:min(len(s), 50)], make([]byte, 40)} {
				q, n, e := inflate.Inflate(join(s, behind), len(p))
				if e != api.OK || n != len(s) || !bytes.Equal(q, p) {
					t.Errorf("%d bytes, way %d: read again %d bytes, %d of %d, error %d", len(p), way, len(q), n, len(s), e)
				}
			}
			q, err := io.ReadAll(flate.NewReader(bytes.NewReader(s)))
			if err != nil || !bytes.Equal(q, p) {
				t.Errorf("%d bytes, way %d: the library reads %d bytes, %v", len(p), way, len(q), err)
			}
		}
	}
}

// P4.2: how many bytes the ways have; P4.1: which one way 2 is.
func TestSizes(t *testing.T) {
	ps := samples()
	// Bytes of 9 bits each: from 23 to 30 of them the two ways have as many bytes.
	for n := range 60 {
		var p []byte
		for i := range n {
			p = append(p, byte(0x90+i))
		}
		ps = append(ps, p)
	}
	equal := 0
	for _, p := range ps {
		stored, fixed, least := must(t, p, 0), must(t, p, 1), must(t, p, 2)
		blocks := 1
		if len(p) > 0 {
			blocks = (len(p) + 65534) / 65535
		}
		if len(stored) != len(p)+5*blocks {
			t.Errorf("way 0 of %d bytes: %d bytes", len(p), len(stored))
		}
		wanted := stored
		if len(fixed) < len(stored) {
			wanted = fixed
		}
		if !bytes.Equal(least, wanted) {
			t.Errorf("way 2 of %d bytes: %x, of %x and %x", len(p), least, stored, fixed)
		}
		if len(fixed) == len(stored) {
			equal++
		}
	}
	if equal < 8 {
		t.Errorf("only %d inputs have as many bytes in both ways", equal)
	}
}

// The rule 'Memory': nothing that is handed in is changed, or counts beyond its length.
func TestLeavesWhatItIsGiven(t *testing.T) {
	for _, p := range samples() {
		for way := range 3 {
			room := join(p, p, []byte("spare room"))
			before := bytes.Clone(room)
			got := must(t, room[:len(p)], way)
			if !bytes.Equal(room, before) {
				t.Fatalf("Deflate of %d bytes, way %d, changed what it was given", len(p), way)
			}
			if !bytes.Equal(got, must(t, room[:len(p):len(p)], way)) {
				t.Fatalf("Deflate of %d bytes, way %d, hangs on the spare room", len(p), way)
			}
		}
	}
}

// The rule 'Memory': an answer shares nothing with the argument or with another answer.
func TestAnswersShareNothing(t *testing.T) {
	for _, sample := range samples() {
		for way := range 3 {
			p := bytes.Clone(sample)
			first := must(t, p, way)
			before := bytes.Clone(first)
			second := must(t, p, way)
			second = second[:cap(second)]
			for i := range second {
				second[i] ^= 0xff
			}
			if !bytes.Equal(p, sample) || !bytes.Equal(first, before) || !bytes.Equal(must(t, p, way), before) {
				t.Fatalf("Deflate of %d bytes, way %d: an answer shares memory", len(p), way)
			}
			for i := range p {
				p[i] ^= 0xff
			}
			if !bytes.Equal(first, before) {
				t.Fatalf("Deflate of %d bytes, way %d: an answer shares memory with the argument", len(p), way)
			}
		}
	}
}
