package delta_test

import (
	"bytes"
	"encoding/hex"
	"math"
	"math/rand"
	"testing"

	"codicil/api"
	"codicil/delta"
)

// P8.1: the chapter's examples.
func TestApplyExamples(t *testing.T) {
	d := bytesOf("06 05 90 03 02 78 79")
	wantApplied(t, "abcxy", []byte("abcdef"), d, 9, []byte("abcxy"))
	wantApplied(t, "abcxy, most at its edge", []byte("abcdef"), d, 5, []byte("abcxy"))
	wantError(t, "most 4", []byte("abcdef"), d, 4, api.ErrLimit)
	wantApplied(t, "nothing", []byte("abc"), bytesOf("03 00"), 0, nil)
	wantError(t, "another base", []byte("ab"), bytesOf("03 00"), 0, api.ErrForm)
	wantError(t, "the instruction 0", []byte("abc"), bytesOf("03 01 00"), 9, api.ErrForm)
	wantError(t, "a copy that lacks a byte", []byte("abc"), bytesOf("03 02 91 02"), 9, api.ErrShort)
}

// P8.1: most is asked first of all, at its edges.
func TestMost(t *testing.T) {
	good := bytesOf("03 03 90 03")
	for _, most := range []int{-1, -2, math.MinInt, api.MaxData + 1, 2 * api.MaxData, 1 << 32, math.MaxInt} {
		wantError(t, "a good delta", []byte("abc"), good, most, api.ErrArg)
		wantError(t, "another base", []byte("ab"), good, most, api.ErrArg)
		wantError(t, "no delta", nil, nil, most, api.ErrArg)
		wantError(t, "a size beyond 2^64", nil, bytesOf("80 80 80 80 80 80 80 80 80 02"), most, api.ErrArg)
	}
	for _, most := range []int{3, 4, api.MaxData - 1, api.MaxData} {
		wantApplied(t, "enough", []byte("abc"), good, most, []byte("abc"))
	}
	for most := range 3 {
		wantError(t, "not enough", []byte("abc"), good, most, api.ErrLimit)
	}
	wantApplied(t, "nothing with most 0", nil, bytesOf("00 00"), 0, nil)
	wantApplied(t, "nothing with MaxData", nil, bytesOf("00 00"), api.MaxData, nil)
}

// P8.1: MaxData bytes come out, and one more do not.
func TestGreatestResult(t *testing.T) {
	base := noise(1, api.MaxData, 256)
	whole := sized(api.MaxData, api.MaxData, 0xc0, 0x10)
	wantApplied(t, "MaxData", base, whole, api.MaxData, base)
	wantError(t, "MaxData, and most one less", base, whole, api.MaxData-1, api.ErrLimit)
	wantError(t, "one more", base, sized(api.MaxData, api.MaxData+1, 0xc0, 0x10, 1, 'a'), api.MaxData, api.ErrLimit)
	wantError(t, "an instruction more", base, append(whole, 1, 'a'), api.MaxData, api.ErrForm)
}

// P8.1: the first size: cut short, too great, other than the count of base's bytes, spelled longer.
func TestFirstSize(t *testing.T) {
	wantError(t, "nothing", nil, nil, 9, api.ErrShort)
	wantError(t, "nothing, not nil", nil, []byte{}, 9, api.ErrShort)
	wantError(t, "cut short", nil, bytesOf("80"), 9, api.ErrShort)
	wantError(t, "cut short", nil, bytes.Repeat([]byte{0xff}, 30), 9, api.ErrShort)
	wantError(t, "2^64", nil, bytesOf("80 80 80 80 80 80 80 80 80 02 00"), 9, api.ErrLimit)
	wantError(t, "2^70", nil, bytesOf("80 80 80 80 80 80 80 80 80 80 01 00"), 9, api.ErrLimit)
	base := []byte("abc")
	for _, v := range []uint64{0, 1, 2, 4, 5, 127, 128, 256 + 3, 1<<16 + 3, 1<<32 + 3, 1<<63 + 3, 1<<63 - 1, math.MaxUint64} {
		wantError(t, "other than the base's", base, join(size(v), bytesOf("03 90 03")), 9, api.ErrForm)
	}
	wantApplied(t, "spelled longer", base, bytesOf("83 80 80 80 80 80 80 80 80 80 80 00 03 90 03"), 9, base)
	for _, n := range []int{0, 1, 127, 128, 129, 16383, 16384, 16385, 2 * api.MaxData} {
		wantApplied(t, "a base of that count", make([]byte, n), sized(n, 1, 1, 'x'), 1, []byte("x"))
		wantError(t, "one less", make([]byte, n), sized(n+1, 1, 1, 'x'), 1, api.ErrForm)
		wantError(t, "one more", make([]byte, n+1), sized(n, 1, 1, 'x'), 1, api.ErrForm)
	}
}

// P8.1: the second size: cut short, too great, above most, spelled longer; it is asked behind the first.
func TestSecondSize(t *testing.T) {
	base := []byte("abc")
	for _, d := range []string{"03", "03 80", "03 ff ff ff ff ff ff ff ff ff ff ff ff"} {
		wantError(t, "cut short", base, bytesOf(d), 9, api.ErrShort)
		wantError(t, "cut short, and another base", base[:2], bytesOf(d), 9, api.ErrForm)
	}
	for _, d := range []string{"03 80 80 80 80 80 80 80 80 80 02", "03 80 80 80 80 80 80 80 80 80 80 80 01"} {
		wantError(t, "2^64 and more", base, bytesOf(d), 9, api.ErrLimit)
		wantError(t, "2^64 and more, and another base", base[:2], bytesOf(d), 9, api.ErrForm)
	}
	for _, v := range []uint64{10, 11, 1<<32 + 3, 1<<63 - 1, 1 << 63, 1<<63 + 3, math.MaxUint64} {
		wantError(t, "above most", base, join(size(3), size(v), bytesOf("90 03")), 9, api.ErrLimit)
		wantError(t, "above most, and the instruction 0", base, join(size(3), size(v), []byte{0}), 9, api.ErrLimit)
		wantError(t, "above most, and an instruction cut short", base, join(size(3), size(v), []byte{5}), 9, api.ErrLimit)
		wantError(t, "above most, and another base", base[:2], join(size(3), size(v), bytesOf("90 03")), 9, api.ErrForm)
	}
	wantError(t, "beyond MaxData", base, join(size(3), size(api.MaxData+1), bytesOf("90 03")), api.MaxData, api.ErrLimit)
	wantApplied(t, "spelled longer", base, bytesOf("03 83 80 80 80 80 80 80 80 80 80 80 80 00 90 03"), 3, base)
}

// P8.1: each instruction, whole and cut short at each byte, alone and behind another one.
func TestEachInstructionCut(t *testing.T) {
	base := noise(2, 0x01010101+0x010101, 256)
	for c := 1; c < 256; c++ {
		instruction := []byte{byte(c)}
		if c < 128 {
			instruction = append(instruction, noise(int64(c), c, 256)...)
		} else {
			for bits := c - 128; bits > 0; bits /= 2 {
				instruction = append(instruction, bytes.Repeat([]byte{1}, bits%2)...)
			}
		}
		var out []byte
		if c < 128 {
			out = instruction[1:]
		} else {
			place, count, _, _ := plainCopy(byte(c), instruction[1:])
			out = base[place : place+count]
		}
		whole := sized(len(base), len(out), instruction...)
		wantApplied(t, "an instruction", base, whole, api.MaxData, out)
		second := join(sized(len(base), 2*len(out)+1, 1, 'x'), instruction, instruction)
		wantApplied(t, "two of them", base, second, api.MaxData, join([]byte("x"), out, out))
		wantError(t, "none of them", base, sized(len(base), len(out)), api.MaxData, api.ErrForm)
		for cut := 1; cut < len(instruction); cut++ {
			wantError(t, "cut short", base, whole[:len(whole)-cut], api.MaxData, api.ErrShort)
			wantError(t, "the second one cut short", base, second[:len(second)-cut], api.MaxData, api.ErrShort)
		}
	}
}

// P8.1: the instruction 0 is no form, wherever it stands.
func TestInstructionZero(t *testing.T) {
	base := []byte("abcdef")
	for _, d := range []string{"06 00 00", "06 05 00", "06 05 00 90 05", "06 05 90 03 00 02 78 79", "06 05 90 05 00", "06 05 05 61 62 63 64 65 00", "06 05 00 85"} {
		wantError(t, "the instruction 0", base, bytesOf(d), 9, api.ErrForm)
	}
}

// P8.1: a byte 0 may stand among the bytes of a copy; without one, or with zeros alone, the count is 65536.
func TestCopyCounts(t *testing.T) {
	base := noise(3, 70000, 256)
	for _, x := range []struct {
		instruction  string
		place, count int
	}{
		{"80", 0, 65536}, {"90 00", 0, 65536}, {"a0 00", 0, 65536}, {"c0 00", 0, 65536}, {"f0 00 00 00", 0, 65536}, {"ff 00 00 00 00 00 00 00", 0, 65536},
		{"c0 01", 0, 65536}, {"f0 00 00 01", 0, 65536}, {"d0 01 01", 0, 65537}, {"b0 ff ff", 0, 65535}, {"90 ff", 0, 255}, {"a0 01", 0, 256}, {"a0 ff", 0, 65280},
		{"81 07", 7, 65536}, {"82 07", 7 * 256, 65536}, {"83 70 11", 0x1170, 65536}, {"9f 05 00 00 00 03", 5, 3}, {"94 01 03", 65536, 3}, {"97 02 01 01 03", 65536 + 258, 3},
		{"ff 01 02 00 00 03 02 00", 513, 515}, {"81 00", 0, 65536}, {"88 00", 0, 65536}, {"a2 02 01", 512, 256},
	} {
		d := sized(len(base), x.count, bytesOf(x.instruction)...)
		wantApplied(t, x.instruction, base, d, api.MaxData, base[x.place:x.place+x.count])
	}
}

// P8.1: copies go up to the base's end, and not one byte beyond.
func TestCopyToTheEnd(t *testing.T) {
	for _, n := range []int{1, 2, 255, 256, 257, 65535, 65536, 65537, 70000} {
		base := noise(int64(n), n, 256)
		for _, count := range []int{1, 2, 255, 256, 65535, 65536, 65537} {
			copyFrom := func(place int) []byte {
				p, e := delta.PutCopy(nil, place, count)
				if e != api.OK {
					t.Fatalf("PutCopy(%d, %d): error %d", place, count, e)
				}
				return sized(n, count, p...)
			}
			if place := n - count; place >= 0 {
				wantApplied(t, "to the end", base, copyFrom(place), api.MaxData, base[place:])
			}
			if place := n - count + 1; place >= 0 {
				wantError(t, "one beyond", base, copyFrom(place), api.MaxData, api.ErrForm)
			}
			for _, place := range []int{n, n + 1, 1<<31 - 1, 1 << 31, 1<<32 - count, 1<<32 - 1} {
				wantError(t, "far beyond", base, copyFrom(place), api.MaxData, api.ErrForm)
			}
		}
	}
	wantError(t, "of an empty base", nil, bytesOf("00 01 90 01"), 9, api.ErrForm)
	wantError(t, "65536 of an empty base", nil, join(size(0), size(65536), []byte{0x80}), api.MaxData, api.ErrForm)
	wantError(t, "beyond the end, ahead of an instruction cut short", []byte("abc"), bytesOf("03 09 90 04 05"), 9, api.ErrForm)
	wantError(t, "cut short, though it would copy beyond the end", []byte("abc"), bytesOf("03 09 98 ff"), 9, api.ErrShort)
}

// P8.1: more or less is put out than the second size says.
func TestOtherThanSecondSize(t *testing.T) {
	base := []byte("abcdef")
	for _, d := range []string{"06 05 90 06", "06 05 90 03 03 78 79 7a", "06 05 90 05 01 78", "06 05 90 05 90 01", "06 00 01 78", "06 00 90 01", "06 01 02 78 79"} {
		wantError(t, "more", base, bytesOf(d), 9, api.ErrForm)
	}
	for _, d := range []string{"06 05", "06 01", "06 05 90 04", "06 05 90 03 01 78", "06 05 04 61 62 63 64"} {
		wantError(t, "less", base, bytesOf(d), 9, api.ErrForm)
	}
	wantError(t, "more, ahead of an instruction cut short", base, bytesOf("06 05 90 06 05"), 9, api.ErrForm)
	wantError(t, "an instruction cut short, though less was put out", base, bytesOf("06 05 90 04 01"), 9, api.ErrShort)
	wantError(t, "an insert cut short, though more would be put out", base, bytesOf("06 02 05 61 62 63 64"), 9, api.ErrShort)
	wantError(t, "a copy cut short, though all was put out", base, bytesOf("06 05 90 05 91 01"), 9, api.ErrShort)
	wantApplied(t, "just as many", base, bytesOf("06 05 90 03 02 78 79"), 9, []byte("abcxy"))
}

// chanceDelta answers a delta from base that may be, by chance, in pieces, and what it makes.
func chanceDelta(r *rand.Rand, base []byte) ([]byte, []byte) {
	var out, instructions []byte
	for range r.Intn(6) {
		if len(base) == 0 || r.Intn(2) == 0 {
			p := noise(r.Int63(), 1+r.Intn(min(127, 1+r.Intn(127))), 256)
			instructions = append(append(instructions, byte(len(p))), p...)
			out = append(out, p...)
			continue
		}
		place := r.Intn(len(base))
		count := 1 + r.Intn(len(base)-place)
		instructions, _ = delta.PutCopy(instructions, place, count)
		out = append(out, base[place:place+count]...)
	}
	return sized(len(base), len(out), instructions...), out
}

// P8.1: deltas by chance, and what comes of them when they are cut short or a byte is turned, are as in the plain model.
func TestApplyByChance(t *testing.T) {
	r := rand.New(rand.NewSource(4))
	met := map[api.Errno]int{}
	for range 400 {
		base := noise(r.Int63(), r.Intn(1+r.Intn(400)), 256)
		d, out := chanceDelta(r, base)
		wantApplied(t, "by chance", base, d, len(out)+r.Intn(9), out)
		for n := range d {
			met[wantPlain(t, base, d[:n], api.MaxData)]++
			for range 3 {
				q := bytes.Clone(d)
				q[n] = byte(r.Intn(256))
				met[wantPlain(t, base, q, api.MaxData)]++
				met[wantPlain(t, base, q, r.Intn(600)-2)]++
			}
			if n < 12 {
				q := bytes.Clone(d)
				q[n] ^= 1 << r.Intn(8)
				met[wantPlain(t, base, q, api.MaxData)]++
			}
		}
		for range 50 {
			met[wantPlain(t, base, join(size(uint64(len(base))), size(uint64(r.Intn(90))), noise(r.Int63(), r.Intn(12), 256)), r.Intn(100))]++
		}
	}
	for _, e := range []api.Errno{api.OK, api.ErrArg, api.ErrForm, api.ErrShort, api.ErrLimit} {
		if met[e] < 20 {
			t.Errorf("error %d was met only %d times", e, met[e])
		}
	}
}

// P8.1: all short lists of some bytes as deltas of a short base.
func TestApplyAllShort(t *testing.T) {
	bytesAt := []byte{0, 1, 2, 3, 0x80, 0x81, 0x90, 0x91, 0xff}
	base := []byte("ab")
	var all func(d []byte)
	all = func(d []byte) {
		wantPlain(t, base, d, 3)
		if len(d) == 6 {
			return
		}
		for _, b := range bytesAt {
			all(append(d[:len(d):len(d)], b))
		}
	}
	all([]byte{2})
	all([]byte{2, 2})
}

// P8.1: PutCopy's examples, and the bytes at its edges.
func TestPutCopy(t *testing.T) {
	for _, x := range []struct {
		at, n  int
		wanted string
	}{
		{0, 65536, "80"}, {258, 3, "93020103"}, {0, 1, "9001"}, {0, 255, "90ff"}, {0, 256, "a001"}, {0, 257, "b00101"}, {0, 65535, "b0ffff"}, {0, 65537, "d00101"},
		{0, 65536 + 256, "e00101"}, {0, 2 * 65536, "c002"}, {0, 1<<24 - 1, "f0ffffff"}, {1, 65536, "8101"}, {256, 65536, "8201"}, {65536, 65536, "8401"},
		{1 << 24, 65536, "8801"}, {1<<32 - 1, 65536, "8fffffffff"}, {1<<32 - 1, 1<<24 - 1, "ffffffffffffffff"}, {1<<32 - 1, 1, "9fffffffff01"},
		{1 << 31, 1, "988001"}, {0x01000001, 0x010001, "d901010101"}, {0x00010100, 0x000100, "a6010101"}, {0xff00ff00, 0xff00ff, "daffffffff"},
	} {
		p, e := delta.PutCopy(nil, x.at, x.n)
		if got := hex.EncodeToString(p); got != x.wanted || e != api.OK {
			t.Errorf("PutCopy(nothing, %d, %d): %s, error %d, wanted %s", x.at, x.n, got, e, x.wanted)
		}
	}
}

// P8.1: what PutCopy refuses.
func TestPutCopyErrors(t *testing.T) {
	for _, at := range []int{-1, -2, -1 << 32, math.MinInt, 1 << 32, 1<<32 + 1, math.MaxInt} {
		for _, n := range []int{1, 65536, 1<<24 - 1, 0, 1 << 24} {
			if p, e := delta.PutCopy([]byte("ab"), at, n); len(p) != 0 || e != api.ErrArg {
				t.Errorf("PutCopy(.., %d, %d): %x, error %d, wanted ErrArg alone", at, n, p, e)
			}
		}
	}
	for _, n := range []int{0, -1, -65536, -1 << 24, math.MinInt, 1 << 24, 1<<24 + 1, 1<<32 + 1, math.MaxInt} {
		for _, at := range []int{0, 1, 1<<32 - 1} {
			if p, e := delta.PutCopy([]byte("ab"), at, n); len(p) != 0 || e != api.ErrArg {
				t.Errorf("PutCopy(.., %d, %d): %x, error %d, wanted ErrArg alone", at, n, p, e)
			}
		}
	}
}

// P8.1: what PutCopy puts behind p is one instruction, with that place and count, without a byte 0.
func TestPutCopyIsRead(t *testing.T) {
	r := rand.New(rand.NewSource(5))
	sparse := func(n int) int {
		v := 0
		for i := range n {
			if r.Intn(2) == 0 {
				v |= (1 + r.Intn(255)) << (8 * i)
			}
		}
		return v
	}
	for range 20000 {
		at, n := sparse(4), sparse(3)
		if n == 0 {
			n = 65536
		}
		ahead := noise(r.Int63(), r.Intn(20), 256)
		p, e := delta.PutCopy(ahead, at, n)
		if e != api.OK || !bytes.HasPrefix(p, ahead) || len(p) == len(ahead) {
			t.Fatalf("PutCopy(%x, %d, %d): %x, error %d", ahead, at, n, p, e)
		}
		instruction := p[len(ahead):]
		place, count, behind, short := plainCopy(instruction[0], instruction[1:])
		if instruction[0] < 128 || short || len(behind) != 0 || place != at || count != n || bytes.IndexByte(instruction, 0) >= 0 || n == 65536 && instruction[0] >= 144 {
			t.Fatalf("PutCopy(.., %d, %d): %x", at, n, instruction)
		}
	}
}

// The rule 'Memory': Apply and PutCopy neither change nor keep what is handed in, nor read its spare room.
func TestMemory(t *testing.T) {
	base, d := []byte("abcdef"), bytesOf("06 05 90 03 02 78 79")
	b, q := roomy(base), roomy(d)
	first, e := delta.Apply(b, q, 9)
	wantRoomy(t, "Apply", b, base)
	wantRoomy(t, "Apply", q, d)
	second, _ := delta.Apply(b, q, 9)
	scratch(b)
	scratch(q)
	scratch(second)
	if string(first) != "abcxy" || e != api.OK {
		t.Errorf("Apply's answer shares memory: %q, error %d", first, e)
	}
	// All of base copied, and all of the result inserted, come as new memory too.
	for _, x := range []string{"06 06 90 06", "06 06 06 61 62 63 64 65 66"} {
		b, q := roomy(base), roomy(bytesOf(x))
		p, _ := delta.Apply(b, q, 9)
		scratch(p)
		wantRoomy(t, "who writes into Apply's answer", b, base)
		wantRoomy(t, "who writes into Apply's answer", q, bytesOf(x))
	}
	// A list that is cut short is short, whatever stands in its spare room.
	for n := range d {
		wantError(t, "cut short, with spare room", base, d[:n:len(d)], 9, wantPlain(t, base, bytes.Clone(d[:n]), 9))
	}
	wantError(t, "a base cut short, with spare room", base[:2], bytesOf("02 03 90 03"), 9, api.ErrForm)
	p := roomy([]byte("ab"))
	one, _ := delta.PutCopy(p, 1, 2)
	two, _ := delta.PutCopy(p, 3, 4)
	wantRoomy(t, "PutCopy", p, []byte("ab"))
	scratch(p)
	scratch(two)
	if string(one) != "ab\x91\x01\x02" {
		t.Errorf("PutCopy's answer shares memory: %x", one)
	}
	delta.PutCopy(p, -1, 2)
}

// P2: the same call answers the same once more, whatever was called between.
func TestSameAgain(t *testing.T) {
	base, d := noise(6, 3000, 256), sized(3000, 3000, 0xb0, 0xb8, 0x0b)
	for range 3 {
		wantApplied(t, "again", base, d, 3000, base)
		delta.Apply(base, d[:3], 3000)
		delta.Make(base, d)
	}
}
