package inflate

import "codicil/api"

const (
	longestCode = 15 // bits of the longest code
	lengthKinds = 19 // symbols by which lengths are told
)

// toldOrder is the order in which way 2 tells the lengths of the codes by which it tells lengths.
var toldOrder = [lengthKinds]int{16, 17, 18, 0, 8, 7, 9, 6, 10, 5, 11, 4, 12, 3, 13, 2, 14, 1, 15}

// code is the codes of symbols.
type code struct {
	counts  []int // for each length, 0 to the longest, how many codes have it
	symbols []int // in the order of their codes
}

// codes are those that a block's symbols are read by.
type codes struct {
	symbols, distances code
}

// makeCode makes codes of lengths.
func makeCode(lengths []int) code {
	var c code
	for length := range longestCode + 1 {
		count := 0
		for symbol, l := range lengths {
			if l == length && length > 0 {
				c.symbols = append(c.symbols, symbol)
				count++
			}
		}
		c.counts = append(c.counts, count)
	}
	// What is beyond the longest length goes: behind a code that no symbol has no bit is taken.
	for len(c.counts) > 1 && c.counts[len(c.counts)-1] == 0 {
		c.counts = c.counts[:len(c.counts)-1]
	}
	return c
}

// right says whether these codes' lengths are right.
func (c code) right() bool {
	if len(c.symbols) == 1 {
		return len(c.counts) == 2
	}
	sum := 0
	for length, count := range c.counts {
		sum += count << (longestCode - length)
	}
	return sum == 1<<longestCode
}

// none says whether there is no code at all.
func (c code) none() bool {
	return len(c.symbols) == 0
}

// fixedCodes are those of way 1.
func fixedCodes() codes {
	var symbols, distances []int
	for symbol := range 288 {
		switch {
		case symbol < 144:
			symbols = append(symbols, 8)
		case symbol < 256:
			symbols = append(symbols, 9)
		case symbol < 280:
			symbols = append(symbols, 7)
		default:
			symbols = append(symbols, 8)
		}
	}
	for range 32 {
		distances = append(distances, 5)
	}
	return codes{makeCode(symbols), makeCode(distances)}
}

// symbol takes a code's bits one by one, till they are a symbol's.
func (r *reader) symbol(c code) (int, api.Errno) {
	// past counts, among codes as long as the bits so far, how many the bits are beyond the first one; at is where that
	// length's symbols begin.
	past, at := 0, 0
	for _, count := range c.counts[1:] {
		bit, bad := r.number(1)
		if bad != api.OK {
			return 0, bad
		}
		past = past<<1 | bit
		if past < count {
			return c.symbols[at+past], api.OK
		}
		past -= count
		at += count
	}
	return 0, api.ErrForm
}

// toldCodes reads the codes that stand at the beginning of a block of way 2.
func (r *reader) toldCodes() (codes, api.Errno) {
	a, b, c, bad := r.toldCounts()
	if bad != api.OK {
		return codes{}, bad
	}
	by, bad := r.lengthsCode(c + 4)
	if bad != api.OK {
		return codes{}, bad
	}
	symbols := a + 257
	lengths, bad := r.lengths(by, symbols+b+1)
	if bad != api.OK {
		return codes{}, bad
	}
	told := codes{makeCode(lengths[:symbols]), makeCode(lengths[symbols:])}
	if lengths[endOfBlock] == 0 || !told.symbols.right() {
		return codes{}, api.ErrForm
	}
	if !told.distances.right() && !told.distances.none() {
		return codes{}, api.ErrForm
	}
	return told, api.OK
}

// toldCounts takes A, B and C of way 2.
func (r *reader) toldCounts() (a, b, c int, bad api.Errno) {
	if a, bad = r.number(5); bad != api.OK {
		return 0, 0, 0, bad
	}
	if b, bad = r.number(5); bad != api.OK {
		return 0, 0, 0, bad
	}
	if c, bad = r.number(4); bad != api.OK {
		return 0, 0, 0, bad
	}
	if a > 29 || b > 29 {
		return 0, 0, 0, api.ErrForm
	}
	return a, b, c, api.OK
}

// lengthsCode reads the codes by which lengths are told.
func (r *reader) lengthsCode(count int) (code, api.Errno) {
	lengths := make([]int, lengthKinds)
	for i := range count {
		length, bad := r.number(3)
		if bad != api.OK {
			return code{}, bad
		}
		lengths[toldOrder[i]] = length
	}
	c := makeCode(lengths)
	if !c.right() {
		return code{}, api.ErrForm
	}
	return c, api.OK
}

// lengths reads count lengths.
func (r *reader) lengths(by code, count int) ([]int, api.Errno) {
	var lengths []int
	for len(lengths) < count {
		symbol, bad := r.symbol(by)
		if bad != api.OK {
			return nil, bad
		}
		if symbol <= longestCode {
			lengths = append(lengths, symbol)
			continue
		}
		// Asked ahead of the bits that say how often: the one ahead is lacking whatever they are.
		if symbol == 16 && len(lengths) == 0 {
			return nil, api.ErrForm
		}
		times, bad := r.times(symbol)
		if bad != api.OK {
			return nil, bad
		}
		if len(lengths)+times > count {
			return nil, api.ErrForm
		}
		again := 0
		if symbol == 16 {
			again = lengths[len(lengths)-1]
		}
		for range times {
			lengths = append(lengths, again)
		}
	}
	return lengths, api.OK
}

// times takes how often 16, 17 or 18 tells a length.
func (r *reader) times(symbol int) (int, api.Errno) {
	least, more := 3, 2
	switch symbol {
	case 17:
		more = 3
	case 18:
		least, more = 11, 7
	}
	rest, bad := r.number(more)
	if bad != api.OK {
		return 0, bad
	}
	return least + rest, api.OK
}
