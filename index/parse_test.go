package index_test

import (
	"bytes"
	"math/rand"
	"slices"
	"testing"

	"codicil/api"
)

// P17.1, P17.2: one byte changed at each place, with the sum as it was and with the right one.
func TestOneByteChanged(t *testing.T) {
	ends := map[api.Errno]int{}
	for _, l := range [][]api.Slot{nil, some(), slots("abcdef"), slots("a", long(200))} {
		p := plain(l)
		for i := range p {
			for _, turn := range []byte{1, 2, 4, 8, 16, 32, 64, 128, 255, p[i]} {
				q := bytes.Clone(p)
				q[i] ^= turn
				ends[wantStrict(t, "one byte changed", q)]++
			}
		}
	}
	if ends[api.OK] < 1000 || ends[api.ErrForm] < 1000 {
		t.Errorf("too little was tried: %v", ends)
	}
}

// P17.1: each value of each byte of a short index.
func TestEachByte(t *testing.T) {
	p := plain([]api.Slot{slot("a", 1), slot("ab", 0)})
	for i := range len(p) - 32 {
		for b := range 256 {
			q := bytes.Clone(p)
			q[i] = byte(b)
			wantStrict(t, "a byte of another value", q)
		}
	}
}

// P17.1: bytes that are less or more, at each place.
func TestLessAndMore(t *testing.T) {
	for _, l := range [][]api.Slot{nil, some(), slots("abcdef")} {
		p := plain(l)
		for i := range p {
			if i >= 32 {
				wantUnparsed(t, "cut short", p[:i], api.ErrForm)
				wantStrict(t, "cut short", p[:i])
			}
			wantStrict(t, "one byte less", append(bytes.Clone(p[:i]), p[i+1:]...))
			wantStrict(t, "one byte more", slices.Insert(bytes.Clone(p), i, byte(i)))
			wantStrict(t, "a byte 0 more", slices.Insert(bytes.Clone(p), i, 0))
			wantStrict(t, "eight bytes 0 more", slices.Insert(bytes.Clone(p), i, make([]byte, 8)...))
		}
		wantUnparsed(t, "one byte 0 behind all", append(bytes.Clone(p), 0), api.ErrForm)
		wantUnparsed(t, "all twice", slices.Concat(p, p), api.ErrForm)
		wantUnparsed(t, "without the sum", p[:len(p)-32], api.ErrForm)
	}
}

// P17.1: other bytes in the place of those that are 0, and a count that isn't that of the slots.
func TestFields(t *testing.T) {
	p := plain(slots("a", "b"))
	for _, i := range []int{0, 7, 12, 23, 28, 35, 75, 76, 77, 78, 79} {
		for _, at := range []int{12 + i, 92 + i} {
			for _, b := range []byte{1, 0x61, 0xff} {
				q := bytes.Clone(p)
				q[at] = b
				wantUnparsed(t, "another byte than 0", q, api.ErrForm)
				wantUnparsed(t, "another byte than 0, with the right sum", resealed(q), api.ErrForm)
			}
		}
	}
	for _, count := range []int{0, 1, 3, 4, 255, 256, 4096, 4097, 1 << 16, 1 << 24, 1<<31 + 2, 1<<32 - 1} {
		wantUnparsed(t, "another count", sealed(slices.Concat(p[:8], big(count, 4), p[12:len(p)-32])), api.ErrForm)
	}
	for _, front := range []string{"DIRC\x00\x00\x00\x03", "DIRC\x00\x00\x00\x04", "DIRC\x02\x00\x00\x00", "dirc\x00\x00\x00\x02", "\x00\x00\x00\x00\x00\x00\x00\x00"} {
		wantUnparsed(t, "another front", sealed(slices.Concat([]byte(front), p[8:len(p)-32])), api.ErrForm)
	}
	for _, flags := range []int{0, 2, 3, 5, 6, 7, 200, 201, 4095, 4096 * 4, 4096*4 + 1, 4096*8 + 1, 4096*15 + 1, 0xffff} {
		q := bytes.Clone(p)
		copy(q[12+72:], big(flags, 2))
		wantUnparsed(t, "another count of a path's bytes", resealed(q), api.ErrForm)
	}
	// Fewer bytes 0 than 1, and more than 8, stand behind no path.
	wantUnparsed(t, "no byte 0 behind a path", sealed(slices.Concat(p[:8], big(1, 4), p[12:12+72], big(6, 2), []byte("abcdef"))), api.ErrForm)
	wantUnparsed(t, "nine bytes 0 and more", sealed(slices.Concat(p[:8], big(1, 4), p[12:12+72], big(1, 2), []byte("a"), make([]byte, 13))), api.ErrForm)
}

// P17.1: bytes that are put of no slots, though each field by itself could be: Put's errors are ErrForm here.
func TestPlainOfFaults(t *testing.T) {
	for what, l := range map[string][]api.Slot{
		"paths that fall": slots("b", "a"), "one path twice": slots("a", "a"), "a stage 0 and another": staged("a", 0, 1), "stages that fall": staged("a", 2, 1),
		"a path with an empty part": slots("a//b"), "no path": slots(""), ".git": slots(".git"), "a byte 0 in a path": slots("a\x00b"), "a path that is too long": slots(long(201)),
		"a very long path": slots(letters(4094)), "a path of 4095 bytes": slots(letters(4095)), "a path of more": slots(letters(4100)), "one slot too many": many(4097), "the mode of trees": {{Path: "a", Mode: api.ModeTree}}, "no mode": {{Path: "a"}}, "a greater mode": {{Path: "a", Mode: 1<<32 - 1}},
	} {
		wantUnparsed(t, what, plain(l), api.ErrForm)
	}
}

// P17.1: the sum alone wrong is ErrSum, something else beside it ErrForm.
func TestSum(t *testing.T) {
	for _, l := range [][]api.Slot{nil, some(), many(4096)} {
		p := plain(l)
		for _, i := range []int{1, 2, 16, 31, 32} {
			q := bytes.Clone(p)
			q[len(q)-i] ^= 0x40
			wantUnparsed(t, "the sum alone wrong", q, api.ErrSum)
			q[3]++
			wantUnparsed(t, "the sum and the front wrong", q, api.ErrForm)
			q[3]--
			q[11]++
			wantUnparsed(t, "the sum and the count wrong", q, api.ErrForm)
		}
		wantUnparsed(t, "a sum of bytes 0", append(bytes.Clone(p[:len(p)-32]), make([]byte, 32)...), api.ErrSum)
	}
	wantUnparsed(t, "a sum of other bytes than those ahead of it", plain(slots("a"))[:12+80+31], api.ErrForm)
	falling := plain(slots("b", "a"))
	falling[len(falling)-1]++
	wantUnparsed(t, "paths that fall, and the sum", falling, api.ErrForm)
}

// P17.1: too few bytes and too many.
func TestCounts(t *testing.T) {
	for n := range 44 {
		wantUnparsed(t, "fewer than 44 bytes", make([]byte, n), api.ErrForm)
		wantUnparsed(t, "fewer than 44 bytes of an index", plain(nil)[:n], api.ErrForm)
		wantUnparsed(t, "the last bytes of an index", plain(nil)[44-n:], api.ErrForm)
		if n >= 32 {
			wantUnparsed(t, "a part of the front, and its sum", sealed(plain(nil)[:n-32]), api.ErrForm)
		}
	}
	wantUnparsed(t, "nil", nil, api.ErrForm)
	wantUnparsed(t, "44 bytes 0", make([]byte, 44), api.ErrForm)
	good := plain(many(4096))
	for _, p := range [][]byte{nil, good, plain(nil)} {
		most := append(bytes.Clone(p), make([]byte, 2*api.MaxData-len(p))...)
		wantUnparsed(t, "2 MaxData bytes", most, api.ErrForm)
		wantUnparsed(t, "2 MaxData bytes and the right sum", resealed(most), api.ErrForm)
		wantUnparsed(t, "2 MaxData bytes and one more", append(most, 0), api.ErrLong)
		wantUnparsed(t, "2 MaxData bytes and one more, and the right sum", resealed(append(most, 0)), api.ErrLong)
		wantUnparsed(t, "4 MaxData bytes", append(most, most...), api.ErrLong)
	}
	wantParsed(t, "MaxEntries slots", good, many(4096))
	longest := many(4096)
	for i := range longest {
		longest[i].Path += "/" + long(189)
	}
	// The longest index there is: it is far from too long to be parsed again.
	wantPut(t, "MaxEntries slots with paths of MaxPath bytes", longest)
}

// P17.1, P17.2: bytes by chance, against the strict reader.
func TestParseByChance(t *testing.T) {
	r := rand.New(rand.NewSource(18))
	ends := map[api.Errno]int{}
	for range 20000 {
		l := anySlots(r)
		if plainCheck(l) != api.OK {
			continue
		}
		p := plain(l)
		for range 1 + r.Intn(3) {
			i := r.Intn(len(p))
			switch r.Intn(5) {
			case 0:
				p = append(bytes.Clone(p[:i]), p[min(len(p), i+r.Intn(90)):]...)
			case 1:
				p = slices.Insert(p, i, byte(r.Intn(256)))
			case 2:
				p = slices.Insert(p, i, p[i:min(len(p), i+80)]...)
			case 3:
				p[i] = byte(r.Intn(256))
			}
			if len(p) < 32 {
				p = append(p, make([]byte, 32)...)
			}
		}
		ends[wantStrict(t, "by chance", p)]++
	}
	if ends[api.OK] < 500 || ends[api.ErrForm] < 500 {
		t.Errorf("too little was tried: %v", ends)
	}
}
