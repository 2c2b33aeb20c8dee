package inflate_test

import (
	"strings"

	"codicil/api"
)

// model reads a stream by the chapter's words, as plainly as can be: bits are a text of 0 and 1, codes are looked up in a
// map of such texts. It is what Inflate is held against.
type model struct {
	bits string
	at   int
	out  []byte
	most int
}

// modelInflate answers as Inflate should.
func modelInflate(p []byte, most int) (out []byte, n int, e api.Errno) {
	if most < 0 || most > api.MaxData {
		return nil, 0, api.ErrArg
	}
	m := &model{bits: bitsOf(p), most: most}
	defer func() {
		if r := recover(); r != nil {
			out, n, e = nil, 0, r.(api.Errno)
		}
	}()
	for m.block() {
	}
	return m.out, (m.at + 7) / 8, api.OK
}

// bitsOf answers bytes as a text of bits, the lowest of each byte first.
func bitsOf(p []byte) string {
	var s strings.Builder
	for _, b := range p {
		for i := range 8 {
			s.WriteByte('0' + b>>i&1)
		}
	}
	return s.String()
}

func (m *model) bit() int {
	if m.at == len(m.bits) {
		panic(api.ErrShort)
	}
	m.at++
	return int(m.bits[m.at-1] - '0')
}

func (m *model) number(n int) int {
	v := 0
	for i := range n {
		v += m.bit() << i
	}
	return v
}

func (m *model) must(form bool) {
	if !form {
		panic(api.ErrForm)
	}
}

func (m *model) put(b byte) {
	if len(m.out) == m.most {
		panic(api.ErrLimit)
	}
	m.out = append(m.out, b)
}

// block reads a block, and answers whether a further one follows.
func (m *model) block() bool {
	last := m.bit()
	switch m.number(2) {
	case 0:
		for m.at%8 != 0 {
			m.at++
		}
		length := m.number(16)
		m.must(length+m.number(16) == 65535)
		for range length {
			m.put(byte(m.number(8)))
		}
	case 1:
		lengths := repeated(8, 144, 9, 112, 7, 24, 8, 8)
		m.symbols(codesOf(lengths), codesOf(repeated(5, 32)))
	case 2:
		m.told()
	default:
		panic(api.ErrForm)
	}
	return last == 0
}

// repeated answers lengths: of each pair the first so many times as the second says.
func repeated(pairs ...int) []int {
	var out []int
	for i := 0; i < len(pairs); i += 2 {
		for range pairs[i+1] {
			out = append(out, pairs[i])
		}
	}
	return out
}

// codesOf answers which symbol each code has.
func codesOf(lengths []int) map[string]int {
	codes := map[string]int{}
	next := 0
	for length := 1; length < 16; length++ {
		next *= 2
		for symbol, l := range lengths {
			if l != length {
				continue
			}
			text := ""
			for i := range length {
				text = string(rune('0'+next>>i&1)) + text
			}
			codes[text] = symbol
			next++
		}
	}
	return codes
}

// rightLengths says whether lengths are right.
func rightLengths(lengths []int) bool {
	sum, count, one := 0.0, 0, false
	for _, l := range lengths {
		if l > 0 {
			sum += 1 / float64(int(1)<<l)
			count++
			one = l == 1
		}
	}
	return sum == 1 || count == 1 && one
}

func (m *model) code(codes map[string]int) int {
	longest := 0
	for text := range codes {
		longest = max(longest, len(text))
	}
	text := ""
	for len(text) < longest {
		text += string(rune('0' + m.bit()))
		if symbol, ok := codes[text]; ok {
			return symbol
		}
	}
	panic(api.ErrForm)
}

func (m *model) told() {
	a, b, c := m.number(5), m.number(5), m.number(4)
	m.must(a <= 29 && b <= 29)
	small := make([]int, 19)
	for _, s := range []int{16, 17, 18, 0, 8, 7, 9, 6, 10, 5, 11, 4, 12, 3, 13, 2, 14, 1, 15}[:c+4] {
		small[s] = m.number(3)
	}
	m.must(rightLengths(small))
	by := codesOf(small)
	all := a + 257 + b + 1
	var lengths []int
	for len(lengths) < all {
		switch s := m.code(by); s {
		case 16:
			m.must(len(lengths) > 0)
			lengths = append(lengths, repeated(lengths[len(lengths)-1], 3+m.number(2))...)
		case 17:
			lengths = append(lengths, repeated(0, 3+m.number(3))...)
		case 18:
			lengths = append(lengths, repeated(0, 11+m.number(7))...)
		default:
			lengths = append(lengths, s)
		}
		m.must(len(lengths) <= all)
	}
	symbols, distances := lengths[:a+257], lengths[a+257:]
	m.must(symbols[256] > 0 && rightLengths(symbols))
	spans := codesOf(distances)
	m.must(len(spans) == 0 || rightLengths(distances))
	m.symbols(codesOf(symbols), spans)
}

// lengthRows and spanRows are RFC 1951's tables: where a symbol's values begin, and how many bits more follow.
func lengthRows() (begin, more []int) {
	return []int{3, 4, 5, 6, 7, 8, 9, 10, 11, 13, 15, 17, 19, 23, 27, 31, 35, 43, 51, 59, 67, 83, 99, 115, 131, 163, 195, 227, 258},
		[]int{0, 0, 0, 0, 0, 0, 0, 0, 1, 1, 1, 1, 2, 2, 2, 2, 3, 3, 3, 3, 4, 4, 4, 4, 5, 5, 5, 5, 0}
}

func spanRows() (begin, more []int) {
	return []int{1, 2, 3, 4, 5, 7, 9, 13, 17, 25, 33, 49, 65, 97, 129, 193, 257, 385, 513, 769, 1025, 1537, 2049, 3073, 4097, 6145, 8193, 12289, 16385, 24577},
		[]int{0, 0, 0, 0, 1, 1, 2, 2, 3, 3, 4, 4, 5, 5, 6, 6, 7, 7, 8, 8, 9, 9, 10, 10, 11, 11, 12, 12, 13, 13}
}

func (m *model) symbols(codes, spans map[string]int) {
	lengthBegin, lengthMore := lengthRows()
	spanBegin, spanMore := spanRows()
	for {
		s := m.code(codes)
		if s == 256 {
			return
		}
		if s < 256 {
			m.put(byte(s))
			continue
		}
		m.must(s <= 285)
		length := lengthBegin[s-257] + m.number(lengthMore[s-257])
		d := m.code(spans)
		m.must(d <= 29)
		span := spanBegin[d] + m.number(spanMore[d])
		m.must(span <= len(m.out))
		for range length {
			m.put(m.out[len(m.out)-span])
		}
	}
}
