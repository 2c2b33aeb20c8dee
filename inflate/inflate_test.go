package inflate_test

import (
	"bytes"
	"compress/flate"
	"io"
	"math"
	"math/rand"
	"strings"
	"testing"

	"codicil/api"
	"codicil/inflate"
)

// stream is bits that a test puts behind one another, as a text of 0 and 1.
type stream struct{ text strings.Builder }

// number puts v in n bits, the lowest first.
func (s *stream) number(v, n int) *stream {
	for i := range n {
		s.text.WriteByte('0' + byte(v>>i&1))
	}
	return s
}

// code puts bits as they are written.
func (s *stream) code(bits string) *stream {
	s.text.WriteString(bits)
	return s
}

// bytes answers the bits as bytes, the last one filled up with 0.
func (s *stream) bytes() []byte {
	text := s.text.String()
	p := make([]byte, (len(text)+7)/8)
	for i, c := range text {
		p[i/8] |= byte(c-'0') << (i % 8)
	}
	return p
}

// symbol puts symbols by the fixed codes.
func (s *stream) symbol(symbols ...int) *stream {
	for _, v := range symbols {
		switch {
		case v < 144:
			s.code(binary(0x30+v, 8))
		case v < 256:
			s.code(binary(0x190+v-144, 9))
		case v < 280:
			s.code(binary(v-256, 7))
		default:
			s.code(binary(0xc0+v-280, 8))
		}
	}
	return s
}

// binary answers v in n digits, the highest first.
func binary(v, n int) string {
	text := ""
	for i := range n {
		text = string(rune('0'+v>>i&1)) + text
	}
	return text
}

// fixed begins a last block of way 1, told one of way 2.
func fixed() *stream { return new(stream).number(1, 1).number(1, 2) }
func told() *stream  { return new(stream).number(1, 1).number(2, 2) }

// small puts A, B, C and the lengths of the codes by which lengths are told; 0 for those that aren't named.
func (s *stream) small(a, b int, lengths map[int]int) *stream {
	s.number(a, 5).number(b, 5).number(15, 4)
	for _, v := range []int{16, 17, 18, 0, 8, 7, 9, 6, 10, 5, 11, 4, 12, 3, 13, 2, 14, 1, 15} {
		s.number(lengths[v], 3)
	}
	return s
}

// tell puts lengths, by codes of 4 bits for 0 to 13, 16 and 18; that of a symbol is binary(it, 4), 16's 1110, 18's 1111.
func (s *stream) tell(symbols, distances []int) *stream {
	four := map[int]int{16: 4, 18: 4}
	for i := range 14 {
		four[i] = 4
	}
	s.small(len(symbols)-257, len(distances)-1, four)
	for _, l := range symbols {
		s.code(binary(l, 4))
	}
	for _, l := range distances {
		s.code(binary(l, 4))
	}
	return s
}

// lengthsWith answers count lengths: 0 but for those that are named.
func lengthsWith(count int, named map[int]int) []int {
	lengths := make([]int, count)
	for symbol, l := range named {
		lengths[symbol] = l
	}
	return lengths
}

// check holds an answer against what is wanted.
func check(t *testing.T, what string, p []byte, most int, out string, n int, e api.Errno) {
	t.Helper()
	gotOut, gotN, gotE := inflate.Inflate(p, most)
	if string(gotOut) != out || gotN != n || gotE != e {
		if len(gotOut) > 40 || len(out) > 40 || len(p) > 40 {
			t.Errorf("%s: %d bytes, %d, error %d, wanted %d bytes, %d, error %d", what, len(gotOut), gotN, gotE, len(out), n, e)
			return
		}
		t.Errorf("%s: Inflate(%x, %d): %q, %d, error %d, wanted %q, %d, error %d", what, p, most, gotOut, gotN, gotE, out, n, e)
	}
}

// whole holds a stream that is in form against what it must put out: alone, with bytes behind, cut short at each byte (at
// some, if there are many), and at most what comes out and one below.
func whole(t *testing.T, what string, p []byte, out string) {
	t.Helper()
	check(t, what, p, len(out), out, len(p), api.OK)
	check(t, what+", the greatest most", p, api.MaxData, out, len(p), api.OK)
	check(t, what+", bytes behind", append(bytes.Clone(p), 0xff, 7, 0), len(out), out, len(p), api.OK)
	for n := 0; n < len(p); n += 1 + len(p)/500 {
		check(t, what+", cut short", p[:n:n], len(out), "", 0, api.ErrShort)
	}
	check(t, what+", cut short by one", p[:len(p)-1], len(out), "", 0, api.ErrShort)
	if len(out) > 0 {
		check(t, what+", most one below", p, len(out)-1, "", 0, api.ErrLimit)
		check(t, what+", most 0", p, 0, "", 0, api.ErrLimit)
	}
}

// wrong holds a stream against an error, whatever stands behind it and whatever most is.
func wrong(t *testing.T, what string, p []byte, e api.Errno) {
	t.Helper()
	check(t, what, p, api.MaxData, "", 0, e)
	if e == api.ErrForm {
		check(t, what+", bytes behind", append(bytes.Clone(p), make([]byte, 300)...), api.MaxData, "", 0, e)
	}
}

// P3.1: the chapter's examples.
func TestExamples(t *testing.T) {
	abc := []byte{1, 3, 0, 0xfc, 0xff, 'a', 'b', 'c'}
	whole(t, "stored nothing", []byte{1, 0, 0, 0xff, 0xff}, "")
	whole(t, "stored abc", abc, "abc")
	whole(t, "fixed nothing", []byte{3, 0}, "")
	whole(t, "fixed a", []byte{0x4b, 4, 0}, "a")
	wrong(t, "way 3", []byte{7}, api.ErrForm)
	wrong(t, "way 3, not the last", []byte{6}, api.ErrForm)
	wrong(t, "stored cut", []byte{1, 0, 0, 0xff}, api.ErrShort)
	wrong(t, "not turned over", []byte{1, 1, 0, 0xff, 0xff, 0x61}, api.ErrForm)
	check(t, "abc with most 2", abc, 2, "", 0, api.ErrLimit)
	wrong(t, "way 1 without its end", []byte{2}, api.ErrShort)
	wrong(t, "nothing", nil, api.ErrShort)
	wrong(t, "nothing", []byte{}, api.ErrShort)
}

// P3.1: ErrArg is first of all.
func TestMostOutsideItsRange(t *testing.T) {
	for _, most := range []int{math.MinInt, -1, api.MaxData + 1, math.MaxInt} {
		for _, p := range [][]byte{nil, {7}, {3, 0}, {1, 3, 0, 0xfc, 0xff, 'a', 'b', 'c'}} {
			check(t, "most outside", p, most, "", 0, api.ErrArg)
		}
	}
	check(t, "most 0", []byte{3, 0}, 0, "", 2, api.OK)
}

// P3.1: way 0.
func TestStored(t *testing.T) {
	whole(t, "bits left out", []byte{0xf9, 1, 0, 0xfe, 0xff, 'z'}, "z")
	whole(t, "two blocks", []byte{0, 1, 0, 0xfe, 0xff, 'y', 1, 1, 0, 0xfe, 0xff, 'z'}, "yz")
	great := strings.Repeat("0123456789abcde", 4369)
	whole(t, "65535 bytes", append([]byte{1, 0xff, 0xff, 0, 0}, great...), great)
	for bit := range 16 {
		p := []byte{1, 2, 1, 0xfd, 0xfe}
		p[3+bit/8] ^= 1 << (bit % 8)
		wrong(t, "not turned over", p, api.ErrForm)
		wrong(t, "cut behind the length", p[:4], api.ErrShort)
	}
	// A byte that isn't there is met ahead of one too many.
	check(t, "short and too much", []byte{1, 3, 0, 0xfc, 0xff, 'a', 'b'}, 2, "", 0, api.ErrShort)
	check(t, "too much, then short", []byte{1, 4, 0, 0xfb, 0xff, 'a', 'b', 'c'}, 2, "", 0, api.ErrLimit)
	check(t, "too much, then way 3", []byte{0, 1, 0, 0xfe, 0xff, 'a', 7}, 0, "", 0, api.ErrLimit)
	check(t, "way 3 behind what fits", []byte{0, 1, 0, 0xfe, 0xff, 'a', 7}, 1, "", 0, api.ErrForm)
}

// P3.1: a stored block begins at a whole byte, and the block behind it at the next bit.
func TestBlocksOfAllWays(t *testing.T) {
	s := new(stream).number(0, 1).number(1, 2).symbol('a', 'b', 256).number(0, 1).number(0, 2)
	for s.text.Len()%8 != 0 {
		s.code("1")
	}
	s.number(2, 16).number(65533, 16).number('c', 8).number('d', 8)
	s.number(0, 1).number(2, 2).tell(lengthsWith(258, map[int]int{'e': 2, 256: 2, 257: 1}), []int{0, 0, 0, 1})
	s.code("10").code("0").code("0").code("11")                                         // e, three bytes 4 back
	s.number(0, 1).number(1, 2).symbol(258).code("00100").number(1, 1).symbol('f', 256) // four bytes 6 back, f
	s.number(1, 1).number(1, 2).symbol(256)
	whole(t, "blocks of all ways", s.bytes(), "abcdebcdcdebf")
}

// P3.1: way 1, every byte and every length and distance with the least and the most of its bits.
func TestFixedSymbols(t *testing.T) {
	all := fixed()
	var out []byte
	for b := range 256 {
		all.symbol(b)
		out = append(out, byte(b))
	}
	whole(t, "each byte", all.symbol(256).bytes(), string(out))
	begin, more := lengthRows()
	for row, first := range begin {
		for _, rest := range []int{0, 1<<more[row] - 1} {
			s := fixed().symbol('q', 257+row).number(rest, more[row]).code("00000").symbol(256)
			whole(t, "a length", s.bytes(), strings.Repeat("q", 1+first+rest))
		}
	}
}

// P3.1: each distance, as far back as can be and one beyond.
func TestFixedDistances(t *testing.T) {
	p := make([]byte, 32768)
	rand.New(rand.NewSource(1)).Read(p)
	begin, more := spanRows()
	for row, first := range begin {
		for _, rest := range []int{0, 1<<more[row] - 1} {
			span := first + rest
			for _, short := range []int{0, 1} {
				n := span - short
				s := new(stream).number(0, 8).number(n, 16).number(65535-n, 16)
				for _, b := range p[:n] {
					s.number(int(b), 8)
				}
				s.number(1, 1).number(1, 2).symbol(257).code(binary(row, 5)).number(rest, more[row]).symbol(256)
				if short == 1 {
					wrong(t, "a distance beyond", s.bytes(), api.ErrForm)
					continue
				}
				out := bytes.Clone(p[:n])
				for range 3 {
					out = append(out, out[len(out)-span])
				}
				check(t, "a distance", s.bytes(), len(out), string(out), len(s.bytes()), api.OK)
				check(t, "a distance, too much", s.bytes(), len(out)-1, "", 0, api.ErrLimit)
			}
		}
	}
}

// P3.1: what means nothing in way 1 is no form as soon as it is met.
func TestFixedWithoutMeaning(t *testing.T) {
	for _, symbol := range []int{286, 287} {
		// 3, 5 times 8 and 8 bits: not a bit of a distance is there.
		s := fixed().symbol('a', 'b', 'c', 200, 200, 200, 200, 200, symbol)
		if s.text.Len()%8 != 0 {
			t.Fatal("the symbol doesn't end a byte")
		}
		wrong(t, "symbol 286 or 287", s.bytes(), api.ErrForm)
	}
	for _, d := range []int{30, 31} {
		// 3, 8, 8, 7 and 5 bits, and one of padding.
		s := fixed().symbol('a', 'b', 257).code(binary(d, 5))
		wrong(t, "distance 30 or 31", s.bytes(), api.ErrForm)
	}
	wrong(t, "a distance of nothing", fixed().symbol(257).code("00000").bytes(), api.ErrForm)
	check(t, "a distance beyond, and too much", fixed().symbol(257).code("00000").bytes(), 0, "", 0, api.ErrForm)
	check(t, "286, and nothing may come", fixed().symbol(286).bytes(), 0, "", 0, api.ErrForm)
}

// P3.1: way 2's three numbers.
func TestToldCounts(t *testing.T) {
	for _, x := range []struct {
		a, b int
		e    api.Errno
	}{
		{30, 0, api.ErrForm}, {31, 0, api.ErrForm}, {0, 30, api.ErrForm}, {0, 31, api.ErrForm}, {31, 31, api.ErrForm},
		{29, 0, api.ErrShort}, {0, 29, api.ErrShort}, {29, 29, api.ErrShort},
	} {
		p := told().number(x.a, 5).number(x.b, 5).number(0, 4).bytes()
		wrong(t, "A or B", p, x.e)
		wrong(t, "A and B without all of C", p[:2], api.ErrShort)
	}
	for _, counts := range [][2]int{{257, 1}, {286, 30}} {
		s := told().tell(lengthsWith(counts[0], map[int]int{'x': 1, 256: 1}), make([]int, counts[1])).code("001")
		whole(t, "few and many codes", s.bytes(), "xx")
	}
}

// P3.1: the codes by which lengths are told.
func TestSmallLengths(t *testing.T) {
	for what, lengths := range map[string]map[int]int{
		"none":             {},
		"one of 2":         {0: 2},
		"one of 7":         {18: 7},
		"too few":          {0: 2, 1: 2, 2: 2},
		"too many":         {0: 1, 1: 1, 2: 1},
		"too many by 2^-7": {0: 1, 1: 2, 2: 2, 3: 7},
	} {
		// Nothing but padding is behind: they are asked when they are read.
		wrong(t, "small lengths: "+what, told().small(0, 0, lengths).bytes(), api.ErrForm)
	}
	one := told().small(0, 0, map[int]int{7: 1})
	wrong(t, "a single code, and bits end", one.bytes(), api.ErrShort)
	wrong(t, "a single code, the bit 1", one.code("1").bytes(), api.ErrForm)
	// C + 4 of them: the others are 0.
	few := told().number(0, 5).number(0, 5).number(0, 4).number(0, 3).number(0, 3).number(1, 3).number(1, 3)
	wrong(t, "four of them", few.bytes(), api.ErrShort)
	wrong(t, "four of them, and all lengths 0", few.code("1").number(127, 7).code("1").number(109, 7).bytes(), api.ErrForm)
	wrong(t, "cut", told().small(0, 0, map[int]int{15: 7}).bytes()[:9], api.ErrShort)
}

// P3.1: 16, 17 and 18.
func TestRepeatedLengths(t *testing.T) {
	by := map[int]int{0: 2, 1: 3, 2: 3, 16: 3, 17: 3, 18: 2}
	const c0, c1, c2, c16, c17, c18 = "00", "100", "101", "110", "111", "01"
	zeros := func(s *stream, n int) *stream {
		return s.code(c18).number(127, 7).code(c18).number(n-138-11, 7)
	}

	// 17 and 18 with their least and their most, 16 of a 0 that they told; then the length 1 for 255 and 256.
	s := told().small(0, 0, by).code(c18).number(127, 7).code(c18).number(0, 7).code(c17).number(7, 3).code(c17).number(0, 3)
	left := 255 - 138 - 11 - 10 - 3
	for ; left >= 6; left -= 6 {
		s.code(c16).number(3, 2)
	}
	s.code(c16).number(left-3, 2)
	whole(t, "17 and 18", s.code(c1).code(c1).code(c0).code("001").bytes(), "\xff\xff")

	// 16 goes on from the lengths of the symbols 255, 256 and 257 to those of the first three of four distances.
	s = zeros(told().small(1, 3, by), 254).code(c2).code(c16).number(3, 2).code(c2)
	s.code("01").code("00").code("11").code("01").code("10")
	whole(t, "16 from symbols to distances", s.bytes(), "\xff\xfe\xff\xfe\xff")

	// 255 lengths of 0, two of 1; then distances told by 16, 17 or 18: as many as there must be, and one more.
	begin := func(distances int) *stream {
		return zeros(told().small(0, distances-1, by), 255).code(c1).code(c1)
	}
	for extra := range 2 {
		for what, s := range map[string]*stream{
			"16": begin(5).code(c0).code(c16).number(4-3+extra, 2),
			"17": begin(7).code(c17).number(7-3+extra, 3),
			"18": begin(20).code(c18).number(20-11+extra, 7),
		} {
			if extra == 0 {
				whole(t, what+", as many as there must be", s.code("001").bytes(), "\xff\xff")
			} else {
				wrong(t, what+", one more", s.bytes(), api.ErrForm)
			}
		}
	}
}

// P3.1: symbol 256 has the length 0, told by 0 itself, 16, 17 or 18.
func TestNoEndOfBlock(t *testing.T) {
	by := map[int]int{0: 2, 1: 3, 2: 3, 16: 3, 17: 3, 18: 2}
	const c0, c1, c16, c17, c18 = "00", "100", "110", "111", "01"
	// The symbols 0 and 1 have the length 1, which would be right without 256.
	begin := func() *stream { return told().small(0, 0, by).code(c1).code(c1).code(c18).number(127, 7) }
	for what, s := range map[string]*stream{
		"0":  begin().code(c18).number(116-11, 7).code(c0),
		"16": begin().code(c18).number(114-11, 7).code(c16).number(0, 2),
		"17": begin().code(c18).number(114-11, 7).code(c17).number(0, 3),
		"18": begin().code(c18).number(117-11, 7),
	} {
		wrong(t, "256 without a code, told by "+what, s.code(c0).code("01").bytes(), api.ErrForm)
	}
}

// P3.1: 16 with none ahead, of whose further bits none is there.
func TestRepeatedNothing(t *testing.T) {
	s := told().small(0, 0, map[int]int{0: 1, 1: 2, 2: 3, 3: 4, 4: 5, 16: 6, 17: 6}).code("111110")
	if s.text.Len()%8 != 0 {
		t.Fatal("the symbol doesn't end a byte")
	}
	wrong(t, "16 at first", s.bytes(), api.ErrForm)
}

// P3.1: the lengths of symbols and of distances.
func TestToldLengths(t *testing.T) {
	for what, x := range map[string]struct {
		symbols   map[int]int
		distances []int
	}{
		"256 has none":             {map[int]int{'a': 1, 'b': 1}, []int{0}},
		"no symbol":                {map[int]int{}, []int{1}},
		"one symbol, of 2":         {map[int]int{256: 2}, []int{0}},
		"one symbol, not 256":      {map[int]int{'a': 1}, []int{0}},
		"too few symbols":          {map[int]int{'a': 2, 'b': 2, 256: 2}, []int{0}},
		"too many symbols":         {map[int]int{'a': 1, 'b': 1, 256: 1}, []int{0}},
		"too many by a little":     {map[int]int{'a': 1, 'b': 1, 256: 13}, []int{0}},
		"too few by a little":      {map[int]int{'a': 1, 'b': 2, 256: 3}, []int{0}},
		"one distance, of 2":       {map[int]int{'a': 1, 256: 1}, []int{2}},
		"one distance, of 13":      {map[int]int{'a': 1, 256: 1}, []int{0, 13}},
		"too few distances":        {map[int]int{'a': 1, 256: 1}, []int{1, 2}},
		"too many distances":       {map[int]int{'a': 1, 256: 1}, []int{1, 1, 1}},
		"too many distances, of 2": {map[int]int{'a': 1, 256: 1}, []int{2, 2, 2, 2, 2}},
	} {
		s := told().tell(lengthsWith(257, x.symbols), x.distances)
		wrong(t, what, s.bytes(), api.ErrForm)
		p := s.bytes()
		wrong(t, what+", cut ahead of the last length", p[:(s.text.Len()-1)/8], api.ErrShort)
	}
}

// P3.1: a single code of length 1, and none.
func TestSingleCodes(t *testing.T) {
	only256 := lengthsWith(257, map[int]int{256: 1})
	whole(t, "256 alone", told().tell(only256, []int{0}).code("0").bytes(), "")
	wrong(t, "256 alone, the bit 1", told().tell(only256, []int{0}).code("1").bytes(), api.ErrForm)

	symbols := lengthsWith(258, map[int]int{'a': 1, 256: 2, 257: 2})
	const a, end, three = "0", "10", "11"
	// So many a's that the symbol of the length 3 ends a byte: no bit of a distance is there.
	ending := func(distances []int) (*stream, string) {
		s := told().tell(symbols, distances).code(a)
		out := "a"
		for s.text.Len()%8 != 6 {
			s.code(a)
			out += "a"
		}
		return s.code(three), out
	}
	none, _ := ending([]int{0})
	wrong(t, "no distance's code", none.bytes(), api.ErrForm)
	none, _ = ending([]int{0, 0, 0})
	wrong(t, "no distance's code of three", none.bytes(), api.ErrForm)
	whole(t, "no distance is needed", told().tell(symbols, []int{0, 0}).code(a).code(end).bytes(), "a")
	one, before := ending([]int{1, 0})
	wrong(t, "a single distance, and bits end", one.bytes(), api.ErrShort)
	whole(t, "a single distance", one.code("0").code(end).bytes(), before+"aaa")
	one, _ = ending([]int{1})
	wrong(t, "a single distance, the bit 1", one.code("1").bytes(), api.ErrForm)
}

// P3.1: codes of all lengths up to 15.
func TestLongCodes(t *testing.T) {
	by := map[int]int{}
	for i := range 16 {
		by[i] = 4
	}
	lengths := make([]int, 257)
	for i := range 15 {
		lengths[10+i] = i + 1
	}
	lengths[256] = 15
	s := told().small(0, 0, by)
	for _, l := range append(lengths, 0) {
		s.code(binary(l, 4))
	}
	var out []byte
	for i := range 15 {
		s.code(strings.Repeat("1", i) + "0")
		out = append(out, byte(10+i))
	}
	whole(t, "codes of 1 to 15 bits", s.code(strings.Repeat("1", 15)).bytes(), string(out))
}

// samples are bytes of several kinds.
func samples() [][]byte {
	r := rand.New(rand.NewSource(2))
	noise := make([]byte, 70000)
	r.Read(noise)
	few := make([]byte, 50000)
	for i := range few {
		few[i] = "abc"[r.Intn(3)]
	}
	return [][]byte{
		nil, {0}, []byte("a"), []byte("abcabcabcabcabd"), noise[:300], noise, few, few[:2000],
		bytes.Repeat([]byte{0}, 100000), []byte(strings.Repeat("the quick brown fox jumps over the lazy dog\n", 500)),
		bytes.Repeat(noise[:32768], 2), bytes.Repeat(noise[:32767], 3),
	}
}

// pressed answers the streams that the library writes of p.
func pressed(t *testing.T, p []byte) [][]byte {
	t.Helper()
	var all [][]byte
	for _, level := range []int{flate.HuffmanOnly, flate.NoCompression, 1, 6, 9} {
		var b bytes.Buffer
		w, err := flate.NewWriter(&b, level)
		if err != nil {
			t.Fatal(err)
		}
		w.Write(p[:len(p)/3])
		if len(p)%2 == 1 {
			w.Flush()
		}
		w.Write(p[len(p)/3:])
		if err := w.Close(); err != nil {
			t.Fatal(err)
		}
		all = append(all, b.Bytes())
	}
	return all
}

// P3.1: what the library writes is read.
func TestLibraryStreams(t *testing.T) {
	for _, p := range samples() {
		for _, s := range pressed(t, p) {
			whole(t, "the library's stream", s, string(p))
		}
	}
}

// P3.1: a stream that puts out as much as can be asked for, and one byte more.
func TestGreatest(t *testing.T) {
	for _, s := range pressed(t, make([]byte, api.MaxData)) {
		check(t, "MaxData bytes", s, api.MaxData, string(make([]byte, api.MaxData)), len(s), api.OK)
	}
	for _, s := range pressed(t, make([]byte, api.MaxData+1)) {
		check(t, "one more", s, api.MaxData, "", 0, api.ErrLimit)
	}
}

// P3.1, P1: whatever bytes there are, the answer is the model's; and where the library reads them, its own.
func TestAgainstModel(t *testing.T) {
	r := rand.New(rand.NewSource(3))
	var seeds [][]byte
	for _, p := range samples() {
		if len(p) < 3000 {
			seeds = append(seeds, pressed(t, p)...)
		}
	}
	counts := map[api.Errno]int{}
	for range 30000 {
		p := strange(r, seeds)
		most := []int{0, 1, 10, 100, 3000, api.MaxData}[r.Intn(6)]
		out, n, e := modelInflate(p, most)
		counts[e]++
		check(t, "strange bytes", p, most, string(out), n, e)
		if e == api.OK {
			theirs, err := io.ReadAll(flate.NewReader(bytes.NewReader(p)))
			if err != nil || !bytes.Equal(theirs, out) {
				t.Errorf("the library reads %x as %q, %v", p, theirs, err)
			}
		}
		if t.Failed() {
			return
		}
	}
	for _, e := range []api.Errno{api.OK, api.ErrForm, api.ErrShort, api.ErrLimit} {
		if counts[e] < 100 {
			t.Errorf("error %d: only %d of the inputs have it", e, counts[e])
		}
	}
}

// strange answers bytes by chance, or a stream of seeds with some of it changed or cut.
func strange(r *rand.Rand, seeds [][]byte) []byte {
	if r.Intn(3) == 0 {
		p := make([]byte, r.Intn(60))
		r.Read(p)
		if len(p) > 0 && r.Intn(2) == 0 {
			p[0] = p[0]&^7 | 5 // way 2
		}
		return p
	}
	p := bytes.Clone(seeds[r.Intn(len(seeds))])
	for range r.Intn(4) {
		p[r.Intn(min(len(p), 1+r.Intn(200)))] ^= 1 << r.Intn(8)
	}
	if r.Intn(3) == 0 {
		p = p[:r.Intn(len(p)+1)]
	}
	return p
}

// P1: blocks without number, each with nothing in it.
func TestManyEmptyBlocks(t *testing.T) {
	// Ten bits a block of way 1: four of them are five bytes.
	s := new(stream)
	for range 4 {
		s.number(0, 1).number(1, 2).symbol(256)
	}
	p := bytes.Repeat(s.bytes(), 50000)
	check(t, "no last block", p, api.MaxData, "", 0, api.ErrShort)
	check(t, "a last block", append(p, 3, 0), 0, "", len(p)+2, api.OK)
}

// The rule 'Memory': nothing that is handed in is changed, or counts beyond its length.
func TestLeavesWhatItIsGiven(t *testing.T) {
	for _, p := range samples()[:8] {
		for _, s := range pressed(t, p) {
			room := append(bytes.Clone(s), "spare room"...)
			before := bytes.Clone(room)
			check(t, "spare room behind", room[:len(s)], len(p), string(p), len(s), api.OK)
			check(t, "the end in spare room", room[:len(s)-1], len(p), "", 0, api.ErrShort)
			if !bytes.Equal(room, before) {
				t.Fatal("Inflate changed what it was given")
			}
		}
	}
}

// The rule 'Memory': an answer shares nothing with the argument or with another answer.
func TestAnswersShareNothing(t *testing.T) {
	for _, p := range samples() {
		for _, s := range pressed(t, p) {
			before := bytes.Clone(s)
			first, _, _ := inflate.Inflate(s, len(p))
			second, _, _ := inflate.Inflate(s, len(p))
			second = second[:cap(second)]
			for i := range second {
				second[i] ^= 0xff
			}
			third, _, _ := inflate.Inflate(s, len(p))
			if !bytes.Equal(first, p) || !bytes.Equal(third, p) || !bytes.Equal(s, before) {
				t.Fatal("an answer shares memory")
			}
			for i := range s {
				s[i] ^= 0xff
			}
			if !bytes.Equal(first, p) {
				t.Fatal("an answer shares memory with the argument")
			}
		}
	}
}

// The rule 'Beside an error'
func TestNothingBesideAnError(t *testing.T) {
	for _, s := range pressed(t, []byte("some bytes, some bytes, some bytes")) {
		for n := range len(s) {
			if out, count, e := inflate.Inflate(s[:n], 100); len(out) != 0 || count != 0 || e != api.ErrShort {
				t.Errorf("beside an error: %q, %d, %d", out, count, e)
			}
		}
	}
}
